/- PartsAgain over the code that landed: the arguments opened. -/
import Derived.Test.YtidfjeliofgpmaaDoorHolds
import Derived.Test.YtidfjeliofgpmaaDoorLaw05Again
import Derived.Test.YtidfjeliofgpmaaDoorSetsArg
namespace Go.Proofs.YtidfjeliofgpmaaDoor.PartsAgain
open Go.RowKit Go.Proofs.YtidfjeliofgpmaaDoor.Base Go.Proofs.YtidfjeliofgpmaaDoor.Sets Go.Proofs.YtidfjeliofgpmaaDoor.Bytes Go.Proofs.YtidfjeliofgpmaaDoor.SetL Go.Proofs.YtidfjeliofgpmaaDoor.Parts Go.Proofs.YtidfjeliofgpmaaDoor.Tied

theorem walk {H : Type} {enc : TypeId × Value → H} (v0 : Value) {d0 : DataW H} {p0 : List MemPlace} (W : World) (hT : Tab W)
    (k0 : Value.okWide Tryd.prog W .any 0 22 v0) (h0 : DataW.Trod enc Tryd.prog W 0 (fun _ => true) true 22 v0 d0 p0) :
    Calls Tryd.prog 7 #[v0] W fun e w' => e = .returned (.bool true) ∧ Below W.heap.size W w' := by
  obtain ⟨a, cap, L, rfl, hl, hL, hok⟩ := sets_arg k0 h0
  exact (again_any Cut.holds W hT a cap L hl hok hL).mono fun e w' ⟨he, q⟩ => ⟨he, q.below (Nat.le_refl _) (fun _ _ h => h)⟩
end Go.Proofs.YtidfjeliofgpmaaDoor.PartsAgain
