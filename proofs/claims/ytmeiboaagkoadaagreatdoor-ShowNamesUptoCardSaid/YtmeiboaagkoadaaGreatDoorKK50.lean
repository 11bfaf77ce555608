/- ShowNames: the arguments opened. -/
import Derived.Test.YtmeiboaagkoadaaGreatDoorKK48
import Derived.Test.YtmeiboaagkoadaaGreatDoorKK47
import Derived.Test.YtmeiboaagkoadaaGreatDoorKK44
namespace Go.Proofs.YtmeiboaagkoadaaGreatDoor.ShowNames
open Go.RowKit Go.Proofs.YtmeiboaagkoadaaGreatDoor.Base Go.Proofs.YtmeiboaagkoadaaGreatDoor.P08
open Go.Proofs.YtmeiboaagkoadaaGreatDoor.Bytes (Tab)

set_option maxRecDepth 100000 in
theorem walk {H : Type} {enc : TypeId × Value → H} (v0 v1 v2 : Value) {d0 d1 d2 : DataW H} {p0 p1 p2 : List MemPlace} (W : World) (hT : Tab W)
    (k0 : Value.okWide Tryz.prog W .any 0 27 v0) (k1 : Value.okWide Tryz.prog W .any 0 9 v1) (k2 : Value.okWide Tryz.prog W .any 0 9 v2)
    (h0 : DataW.Trod enc Tryz.prog W 0 (fun _ => true) true 27 v0 d0 p0) (h1 : DataW.Trod enc Tryz.prog W 0 (fun _ => true) true 9 v1 d1 p1) (h2 : DataW.Trod enc Tryz.prog W 0 (fun _ => true) true 9 v2 d2 p2)
    (hk : Rows.uptoSmall H [d0, d1, d2] = true) :
    Calls Tryz.prog 4 #[v0, v1, v2] W fun e w' => e = .returned (.bool true) ∧ Below W.heap.size W w' := by
  have hb := of_decide_eq_true hk
  obtain ⟨t, a, c, rfl, hc, hL, hn, hs⟩ := node_arg k0 h0
  obtain ⟨l, rfl, rfl, -⟩ := str_arg k1 h1
  obtain ⟨m, rfl, rfl, -⟩ := str_arg k2 h2
  simp only [Rows.uptoBulkAll, Rows.uptoBulk] at hb
  exact (show_names t a c l m (by omega) (by omega) W hT hL hc (by omega) hs).mono fun e w' ⟨he, q⟩ => ⟨he, q.below (Nat.le_refl _) (fun _ _ h => h)⟩
end Go.Proofs.YtmeiboaagkoadaaGreatDoor.ShowNames
