/- RulesRemarks: the arguments opened. -/
import Derived.Test.YtcdemlfkoknekaaW06
import Derived.Test.YtcdemlfkoknekaaLaw06Remarks
import Derived.SizedLaws
namespace Go.Proofs.Ytcdemlfkoknekaa.RulesRemarks
open Go.RowKit Go.Proofs.Ytcdemlfkoknekaa.Base Go.Proofs.Ytcdemlfkoknekaa.Ref06

theorem walk {H : Type} {enc : TypeId × Value → H} (v0 v1 : Value) {d0 d1 : DataW H} {p0 p1 : List MemPlace} (W : World)
    (k0 : Value.okWide Try.prog W .any 0 9 v0) (k1 : Value.okWide Try.prog W .any 0 9 v1)
    (h0 : DataW.Trod enc Try.prog W 0 (fun _ => true) true 9 v0 d0 p0) (h1 : DataW.Trod enc Try.prog W 0 (fun _ => true) true 9 v1 d1 p1)
    (z : (DataW.weightsEach Try.prog [9, 9] [d0, d1]).all (· ≤ reachBytes) = true) :
    Calls Try.prog 7 #[v0, v1] W fun e w' => e = .returned (.bool true) ∧ Below W.heap.size W w' := by
  obtain ⟨l, rfl, rfl, -⟩ := str_arg k0 h0
  obtain ⟨m, rfl, rfl, -⟩ := str_arg k1 h1
  have z0 := sized_string z (j := 0) rfl rfl
  have z1 := sized_string z (j := 1) rfl rfl
  have hr := reachBytes_lt
  exact (remarks_law l m (by omega) (by omega) W).mono fun e w' ⟨he, q⟩ => ⟨he, q.below (Nat.le_refl _) (fun _ _ h => h)⟩
end Go.Proofs.Ytcdemlfkoknekaa.RulesRemarks
