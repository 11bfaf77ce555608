/- RegexDeep: the arguments opened. -/
import Derived.Test.YtgjmomiobffmdaaW07
import Derived.Test.YtgjmomiobffmdaaLaw07Deep
namespace Go.Proofs.Ytgjmomiobffmdaa.RegexDeep
open Go.RowKit Go.Proofs.Ytgjmomiobffmdaa.Base Go.Proofs.Ytgjmomiobffmdaa.P07

theorem walk {H : Type} {enc : TypeId × Value → H} (v0 v1 : Value) {d0 d1 : DataW H} {p0 p1 : List MemPlace} (W : World)
    (k0 : Value.okWide Try.prog W .any 0 3 v0) (k1 : Value.okWide Try.prog W .any 0 9 v1)
    (h0 : DataW.Trod enc Try.prog W 0 (fun _ => true) true 3 v0 d0 p0) (h1 : DataW.Trod enc Try.prog W 0 (fun _ => true) true 9 v1 d1 p1) :
    Calls Try.prog 5 #[v0, v1] W fun e w' => e = .returned (.bool true) ∧ Below W.heap.size W w' := by
  obtain ⟨n, rfl, -, -⟩ := int_arg Try.underlying3 k0 h0
  obtain ⟨l, rfl, -, hl⟩ := str_arg k1 h1
  exact (regex_deep n l hl W).mono fun e w' ⟨he, q⟩ => ⟨he, q.below (Nat.le_refl _) (fun _ _ h => h)⟩
end Go.Proofs.Ytgjmomiobffmdaa.RegexDeep
