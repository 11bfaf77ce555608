/- A string as argument. -/
import Derived.Test.YthcjfgfbeollpaaKE05
import Derived.SizedLaws
namespace Go.Proofs.Ythcjfgfbeollpaa.P11
open Go.ChangeShapes Go.WideShapes Go.ChangeAt Go.RowKit Go.Proofs.Ythcjfgfbeollpaa.Base
open Go.ChangeMaps (open_string)

set_option maxRecDepth 100000 in
theorem str_arg11 {H : Type} {enc : TypeId × Value → H} {W : World} {r : Reach} {sp : Nat → Bool} {v : Value} {d : DataW H} {p : List MemPlace}
    (k : Value.okWide Try.prog W r 0 9 v) (h : DataW.Trod enc Try.prog W 0 sp true 9 v d p) :
    ∃ l : List UInt8, v = .string ⟨l.toArray⟩ ∧ d = .lit (.string l) ∧ l.length ≤ 9223372036854775807 := by
  obtain ⟨s, rfl, rfl, -, hmax⟩ := open_string Try.underlying9 k h
  refine ⟨s.data.toList, ?_, rfl, ?_⟩
  · show Value.string s = Value.string ⟨s.data.toList.toArray⟩
    rw [Array.toArray_toList]
  · rw [Array.length_toList]
    unfold maxLen at hmax
    exact hmax
end Go.Proofs.Ythcjfgfbeollpaa.P11
