/- ShowTexts and ShowNames: the arguments opened. -/
import Derived.Test.YtmeiboaagkoadaaGreatDoorKK48
import Derived.Test.YtmeiboaagkoadaaGreatDoorKK46
import Derived.Test.YtmeiboaagkoadaaGreatDoorKK44
namespace Go.Proofs.YtmeiboaagkoadaaGreatDoor.ShowTexts
open Go.RowKit Go.Proofs.YtmeiboaagkoadaaGreatDoor.Base Go.Proofs.YtmeiboaagkoadaaGreatDoor.P08
open Go.Proofs.YtmeiboaagkoadaaGreatDoor.Bytes (Tab)

set_option maxRecDepth 100000 in
theorem walk {H : Type} {enc : TypeId × Value → H} (v0 : Value) {d0 : DataW H} {p0 : List MemPlace} (W : World) (hT : Tab W)
    (k0 : Value.okWide Tryz.prog W .any 0 27 v0)
    (h0 : DataW.Trod enc Tryz.prog W 0 (fun _ => true) true 27 v0 d0 p0)
    (hk : Rows.uptoSmall H [d0] = true) :
    Calls Tryz.prog 3 #[v0] W fun e w' => e = .returned (.bool true) ∧ Below W.heap.size W w' := by
  have hb := of_decide_eq_true hk
  simp only [Rows.uptoBulkAll] at hb
  obtain ⟨t, a, c, rfl, hc, hL, hn, hs⟩ := node_arg k0 h0
  exact (show_texts t a c W hT hL hc (by omega) hs).mono fun e w' ⟨he, q⟩ => ⟨he, q.below (Nat.le_refl _) (fun _ _ h => h)⟩
end Go.Proofs.YtmeiboaagkoadaaGreatDoor.ShowTexts
