/- RulesJoin: the argument opened. -/
import Derived.Test.YtcdemlfkoknekaaLaw06Join
namespace Go.Proofs.Ytcdemlfkoknekaa.RulesJoin
open Go.RowKit Go.Proofs.Ytcdemlfkoknekaa.Base Go.Proofs.Ytcdemlfkoknekaa.Ref06

theorem walk {H : Type} {enc : TypeId × Value → H} (v0 : Value) {d0 : DataW H} {p0 : List MemPlace} (W : World)
    (k0 : Value.okWide Try.prog W .any 0 23 v0) (h0 : DataW.Trod enc Try.prog W 0 (fun _ => true) true 23 v0 d0 p0)
    (z : (DataW.weightsEach Try.prog [23] [d0]).all (· ≤ reachBytes) = true) :
    Calls Try.prog 4 #[v0] W fun e w' => e = .returned (.bool true) ∧ Below W.heap.size W w' := by
  obtain ⟨a, cap, L, rfl, ha, hL, hlen, hb⟩ := lines_arg k0 h0 z
  exact (join_law L a cap ha hlen hb W hL).mono fun e w' ⟨he, q⟩ => ⟨he, q.below (Nat.le_refl _) (fun _ _ h => h)⟩
end Go.Proofs.Ytcdemlfkoknekaa.RulesJoin
