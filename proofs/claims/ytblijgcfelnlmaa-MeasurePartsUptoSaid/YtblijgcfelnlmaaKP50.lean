/- MeasureParts: the arguments opened. -/
import Derived.Test.YtblijgcfelnlmaaKP48
import Derived.Test.YtblijgcfelnlmaaKP49
namespace Go.Proofs.Ytblijgcfelnlmaa.MeasureParts
open Go.RowKit Go.Proofs.Ytblijgcfelnlmaa.Base Go.Proofs.Ytblijgcfelnlmaa.P08 Go.Proofs.Ytblijgcfelnlmaa.P09

set_option maxRecDepth 100000 in
theorem walk {H : Type} {enc : TypeId × Value → H} (v0 v1 : Value) {d0 d1 : DataW H} {p0 p1 : List MemPlace} (W : World)
    (k0 : Value.okWide Try.prog W .any 0 27 v0) (k1 : Value.okWide Try.prog W .any 0 27 v1)
    (h0 : DataW.Trod enc Try.prog W 0 (fun _ => true) true 27 v0 d0 p0) (h1 : DataW.Trod enc Try.prog W 0 (fun _ => true) true 27 v1 d1 p1)
    (hk : Rows.uptoSmall H [d0, d1] = true) :
    Calls Try.prog 6 #[v0, v1] W fun e w' => e = .returned (.bool true) ∧ Below W.heap.size W w' := by
  have hb := of_decide_eq_true hk
  simp only [Rows.uptoBulkAll] at hb
  obtain ⟨t0, a0, c0, rfl, hc0, hL0, hn0, hs0⟩ := node_arg k0 h0
  obtain ⟨t1, a1, c1, rfl, hc1, hL1, hn1, hs1⟩ := node_arg k1 h1
  exact (law_parts t0 t1  a0 c0 a1 c1 W hL0 hc0 (by omega) hs0 hL1 hc1 (by omega) hs1 ).mono fun e w' ⟨he, q⟩ => ⟨he, q.below (Nat.le_refl _) (fun _ _ h => h)⟩
end Go.Proofs.Ytblijgcfelnlmaa.MeasureParts
