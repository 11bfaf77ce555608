/- MeasureKnows: the arguments opened. -/
import Derived.Test.YtblijgcfelnlmaaKK45
import Derived.Test.YtblijgcfelnlmaaKK49
import Derived.Test.YtblijgcfelnlmaaKK46
import Derived.Test.YtblijgcfelnlmaaKK47
import Derived.Test.YtblijgcfelnlmaaKK48
namespace Go.Proofs.Ytblijgcfelnlmaa.MeasureKnows
open Go.RowKit Go.Proofs.Ytblijgcfelnlmaa.Base Go.Proofs.Ytblijgcfelnlmaa.P08 Go.Proofs.Ytblijgcfelnlmaa.P09

set_option maxRecDepth 100000 in
theorem walk {H : Type} {enc : TypeId × Value → H} (v0 : Value) {d0 : DataW H} {p0 : List MemPlace} (W : World)
    (k0 : Value.okWide Try.prog W .any 0 27 v0)
    (h0 : DataW.Trod enc Try.prog W 0 (fun _ => true) true 27 v0 d0 p0)
    (hk : Rows.uptoSmall H [d0] = true) :
    Calls Try.prog 4 #[v0] W fun e w' => e = .returned (.bool true) ∧ Below W.heap.size W w' := by
  have hb := of_decide_eq_true hk
  simp only [Rows.uptoBulkAll] at hb
  obtain ⟨t0, a0, c0, rfl, hc0, hL0, hn0, hs0⟩ := node_arg k0 h0
  exact (law_knows t0  a0 c0 W hL0 hc0 (by omega) hs0 ).mono fun e w' ⟨he, q⟩ => ⟨he, q.below (Nat.le_refl _) (fun _ _ h => h)⟩
end Go.Proofs.Ytblijgcfelnlmaa.MeasureKnows
/- MeasureTells: the arguments opened. -/
namespace Go.Proofs.Ytblijgcfelnlmaa.MeasureTells
open Go.RowKit Go.Proofs.Ytblijgcfelnlmaa.Base Go.Proofs.Ytblijgcfelnlmaa.P08 Go.Proofs.Ytblijgcfelnlmaa.P09

set_option maxRecDepth 100000 in
theorem walk {H : Type} {enc : TypeId × Value → H} (v0 : Value) {d0 : DataW H} {p0 : List MemPlace} (W : World)
    (k0 : Value.okWide Try.prog W .any 0 27 v0)
    (h0 : DataW.Trod enc Try.prog W 0 (fun _ => true) true 27 v0 d0 p0)
    (hk : Rows.uptoSmall H [d0] = true) :
    Calls Try.prog 3 #[v0] W fun e w' => e = .returned (.bool true) ∧ Below W.heap.size W w' := by
  have hb := of_decide_eq_true hk
  simp only [Rows.uptoBulkAll] at hb
  obtain ⟨t0, a0, c0, rfl, hc0, hL0, hn0, hs0⟩ := node_arg k0 h0
  exact (law_tells t0  a0 c0 W hL0 hc0 (by omega) hs0 ).mono fun e w' ⟨he, q⟩ => ⟨he, q.below (Nat.le_refl _) (fun _ _ h => h)⟩
end Go.Proofs.Ytblijgcfelnlmaa.MeasureTells
/- MeasureLengths: the arguments opened. -/
namespace Go.Proofs.Ytblijgcfelnlmaa.MeasureLengths
open Go.RowKit Go.Proofs.Ytblijgcfelnlmaa.Base Go.Proofs.Ytblijgcfelnlmaa.P08 Go.Proofs.Ytblijgcfelnlmaa.P09

set_option maxRecDepth 100000 in
theorem walk {H : Type} {enc : TypeId × Value → H} (v0 v1 : Value) {d0 d1 : DataW H} {p0 p1 : List MemPlace} (W : World)
    (k0 : Value.okWide Try.prog W .any 0 27 v0) (k1 : Value.okWide Try.prog W .any 0 3 v1)
    (h0 : DataW.Trod enc Try.prog W 0 (fun _ => true) true 27 v0 d0 p0) (h1 : DataW.Trod enc Try.prog W 0 (fun _ => true) true 3 v1 d1 p1)
    (hk : Rows.uptoSmall H [d0, d1] = true) :
    Calls Try.prog 5 #[v0, v1] W fun e w' => e = .returned (.bool true) ∧ Below W.heap.size W w' := by
  have hb := of_decide_eq_true hk
  simp only [Rows.uptoBulkAll] at hb
  obtain ⟨t0, a0, c0, rfl, hc0, hL0, hn0, hs0⟩ := node_arg k0 h0
  obtain ⟨x1, rfl, lo1, hi1⟩ := int_arg Try.underlying3 k1 h1
  exact (law_lengths t0 x1 a0 c0 W hL0 hc0 (by omega) hs0 lo1 hi1).mono fun e w' ⟨he, q⟩ => ⟨he, q.below (Nat.le_refl _) (fun _ _ h => h)⟩
end Go.Proofs.Ytblijgcfelnlmaa.MeasureLengths
/- MeasureRep: the arguments opened. -/
namespace Go.Proofs.Ytblijgcfelnlmaa.MeasureRep
open Go.RowKit Go.Proofs.Ytblijgcfelnlmaa.Base Go.Proofs.Ytblijgcfelnlmaa.P08 Go.Proofs.Ytblijgcfelnlmaa.P09

set_option maxRecDepth 100000 in
theorem walk {H : Type} {enc : TypeId × Value → H} (v0 v1 v2 : Value) {d0 d1 d2 : DataW H} {p0 p1 p2 : List MemPlace} (W : World)
    (k0 : Value.okWide Try.prog W .any 0 27 v0) (k1 : Value.okWide Try.prog W .any 0 3 v1) (k2 : Value.okWide Try.prog W .any 0 3 v2)
    (h0 : DataW.Trod enc Try.prog W 0 (fun _ => true) true 27 v0 d0 p0) (h1 : DataW.Trod enc Try.prog W 0 (fun _ => true) true 3 v1 d1 p1) (h2 : DataW.Trod enc Try.prog W 0 (fun _ => true) true 3 v2 d2 p2)
    (hk : Rows.uptoSmall H [d0, d1, d2] = true) :
    Calls Try.prog 7 #[v0, v1, v2] W fun e w' => e = .returned (.bool true) ∧ Below W.heap.size W w' := by
  have hb := of_decide_eq_true hk
  simp only [Rows.uptoBulkAll] at hb
  obtain ⟨t0, a0, c0, rfl, hc0, hL0, hn0, hs0⟩ := node_arg k0 h0
  obtain ⟨x1, rfl, lo1, hi1⟩ := int_arg Try.underlying3 k1 h1
  obtain ⟨x2, rfl, lo2, hi2⟩ := int_arg Try.underlying3 k2 h2
  exact (law_rep t0 x1 x2 a0 c0 W hL0 hc0 (by omega) hs0 lo1 hi1 lo2 hi2).mono fun e w' ⟨he, q⟩ => ⟨he, q.below (Nat.le_refl _) (fun _ _ h => h)⟩
end Go.Proofs.Ytblijgcfelnlmaa.MeasureRep
