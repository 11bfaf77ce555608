/- RegexRound: the arguments opened. -/
import Derived.Test.YtgjmomiobffmdaaW07
import Derived.Test.YtgjmomiobffmdaaLaw07Round
import Derived.SizedLaws
namespace Go.Proofs.Ytgjmomiobffmdaa.RegexRound
open Go.RowKit Go.Proofs.Ytgjmomiobffmdaa.Base Go.Proofs.Ytgjmomiobffmdaa.P07

theorem walk {H : Type} {enc : TypeId × Value → H} (v0 v1 : Value) {d0 d1 : DataW H} {p0 p1 : List MemPlace} (W : World)
    (k0 : Value.okWide Try.prog W .any 0 9 v0) (k1 : Value.okWide Try.prog W .any 0 9 v1)
    (h0 : DataW.Trod enc Try.prog W 0 (fun _ => true) true 9 v0 d0 p0) (h1 : DataW.Trod enc Try.prog W 0 (fun _ => true) true 9 v1 d1 p1)
    (z : (DataW.weightsEach Try.prog [9, 9] [d0, d1]).all (· ≤ reachBytes) = true) :
    Calls Try.prog 6 #[v0, v1] W fun e w' => e = .returned (.bool true) ∧ Below W.heap.size W w' := by
  obtain ⟨l, rfl, rfl, -⟩ := str_arg k0 h0
  obtain ⟨m, rfl, rfl, -⟩ := str_arg k1 h1
  have z0 := sized_string z (j := 0) rfl rfl
  have z1 := sized_string z (j := 1) rfl rfl
  have hr := reachBytes_lt
  exact (regex_round l m (by omega) (by omega) W).mono fun e w' ⟨he, q⟩ => ⟨he, q.below (Nat.le_refl _) (fun _ _ h => h)⟩
end Go.Proofs.Ytgjmomiobffmdaa.RegexRound
