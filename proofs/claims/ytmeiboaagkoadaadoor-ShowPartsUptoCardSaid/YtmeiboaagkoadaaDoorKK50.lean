/- ShowOne: the arguments opened. -/
import Derived.Test.YtmeiboaagkoadaaDoorKK48
import Derived.Test.YtmeiboaagkoadaaDoorKK46
namespace Go.Proofs.YtmeiboaagkoadaaDoor.ShowOne
open Go.RowKit Go.Proofs.YtmeiboaagkoadaaDoor.Base Go.Proofs.YtmeiboaagkoadaaDoor.P08
open Go.Proofs.YtmeiboaagkoadaaDoor.Bytes (Tab)

set_option maxRecDepth 100000 in
theorem walk {H : Type} {enc : TypeId × Value → H} (v0 v1 : Value) {d0 d1 : DataW H} {p0 p1 : List MemPlace} (W : World) (hT : Tab W)
    (k0 : Value.okWide Tryd.prog W .any 0 28 v0) (k1 : Value.okWide Tryd.prog W .any 0 28 v1)
    (h0 : DataW.Trod enc Tryd.prog W 0 (fun _ => true) true 28 v0 d0 p0) (h1 : DataW.Trod enc Tryd.prog W 0 (fun _ => true) true 28 v1 d1 p1)
    (hk : Rows.uptoSmall H [d0, d1] = true) :
    Calls Tryd.prog 4 #[v0, v1] W fun e w' => e = .returned (.bool true) ∧ Below W.heap.size W w' := by
  have hb := of_decide_eq_true hk
  simp only [Rows.uptoBulkAll] at hb
  obtain ⟨t, a, c, rfl, hc, hL, hn, hs⟩ := node_arg k0 h0
  obtain ⟨u, b, d, rfl, hd, hM, hm, hs'⟩ := node_arg k1 h1
  exact (show_one t u a b c d W hT hL hM hc hd (by omega) (by omega) hs hs').mono fun e w' ⟨he, q⟩ => ⟨he, q.below (Nat.le_refl _) (fun _ _ h => h)⟩
end Go.Proofs.YtmeiboaagkoadaaDoor.ShowOne
/- ShowParts: the argument opened. -/
namespace Go.Proofs.YtmeiboaagkoadaaDoor.ShowParts
open Go.RowKit Go.Proofs.YtmeiboaagkoadaaDoor.Base Go.Proofs.YtmeiboaagkoadaaDoor.P08
open Go.Proofs.YtmeiboaagkoadaaDoor.Bytes (Tab)

set_option maxRecDepth 100000 in
theorem walk {H : Type} {enc : TypeId × Value → H} (v0 : Value) {d0 : DataW H} {p0 : List MemPlace} (W : World) (hT : Tab W)
    (k0 : Value.okWide Tryd.prog W .any 0 28 v0)
    (h0 : DataW.Trod enc Tryd.prog W 0 (fun _ => true) true 28 v0 d0 p0)
    (hk : Rows.uptoSmall H [d0] = true) :
    Calls Tryd.prog 5 #[v0] W fun e w' => e = .returned (.bool true) ∧ Below W.heap.size W w' := by
  have hb := of_decide_eq_true hk
  simp only [Rows.uptoBulkAll] at hb
  obtain ⟨t, a, c, rfl, hc, hL, hn, hs⟩ := node_arg k0 h0
  exact (show_parts t a c W hT hL hc (by omega) hs).mono fun e w' ⟨he, q⟩ => ⟨he, q.below (Nat.le_refl _) (fun _ _ h => h)⟩
end Go.Proofs.YtmeiboaagkoadaaDoor.ShowParts
