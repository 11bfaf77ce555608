/- RegexFirst: the argument opened. -/
import Derived.Test.YtgjmomiobffmdaaLaw07First
import Derived.SizedLaws
namespace Go.Proofs.Ytgjmomiobffmdaa.P07
open Go.ChangeShapes Go.WideShapes Go.ChangeAt Go.RowKit Go.Proofs.Ytgjmomiobffmdaa.Base
open Go.ChangeMaps (open_string)

theorem str_arg {H : Type} {enc : TypeId × Value → H} {W : World} {r : Reach} {sp : Nat → Bool} {v : Value} {d : DataW H} {p : List MemPlace}
    (k : Value.okWide Try.prog W r 0 9 v) (h : DataW.Trod enc Try.prog W 0 sp true 9 v d p) :
    ∃ l : List UInt8, v = str l ∧ d = .lit (.string l) ∧ l.length ≤ 9223372036854775807 := by
  obtain ⟨s, rfl, rfl, -, hmax⟩ := open_string Try.underlying9 k h
  refine ⟨s.data.toList, ?_, rfl, ?_⟩
  · show Value.string s = Value.string ⟨s.data.toList.toArray⟩
    rw [Array.toArray_toList]
  · rw [Array.length_toList]
    unfold maxLen at hmax
    exact hmax
end Go.Proofs.Ytgjmomiobffmdaa.P07
namespace Go.Proofs.Ytgjmomiobffmdaa.RegexFirst
open Go.RowKit Go.Proofs.Ytgjmomiobffmdaa.Base Go.Proofs.Ytgjmomiobffmdaa.P07

theorem walk {H : Type} {enc : TypeId × Value → H} (v0 : Value) {d0 : DataW H} {p0 : List MemPlace} (W : World)
    (k0 : Value.okWide Try.prog W .any 0 9 v0) (h0 : DataW.Trod enc Try.prog W 0 (fun _ => true) true 9 v0 d0 p0) :
    Calls Try.prog 3 #[v0] W fun e w' => e = .returned (.bool true) ∧ Below W.heap.size W w' := by
  obtain ⟨l, rfl, -, hl⟩ := str_arg k0 h0
  exact (first_law l hl W).mono fun e w' ⟨he, q⟩ => ⟨he, q.below (Nat.le_refl _) (fun _ _ h => h)⟩
end Go.Proofs.Ytgjmomiobffmdaa.RegexFirst
