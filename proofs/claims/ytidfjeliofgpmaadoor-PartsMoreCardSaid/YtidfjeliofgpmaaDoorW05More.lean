/- PartsMore over the code that landed: the arguments opened. -/
import Derived.Test.YtidfjeliofgpmaaDoorHolds
import Derived.Test.YtidfjeliofgpmaaDoorLaw05More
import Derived.Test.YtidfjeliofgpmaaDoorSetsArg
namespace Go.Proofs.YtidfjeliofgpmaaDoor.PartsMore
open Go.RowKit Go.Proofs.YtidfjeliofgpmaaDoor.Base Go.Proofs.YtidfjeliofgpmaaDoor.Sets Go.Proofs.YtidfjeliofgpmaaDoor.Bytes Go.Proofs.YtidfjeliofgpmaaDoor.SetL Go.Proofs.YtidfjeliofgpmaaDoor.Parts Go.Proofs.YtidfjeliofgpmaaDoor.Tied

theorem walk {H : Type} {enc : TypeId × Value → H} (v0 v1 : Value) {d0 d1 : DataW H} {p0 p1 : List MemPlace} (W : World) (hT : Tab W)
    (k0 : Value.okWide Tryd.prog W .any 0 22 v0) (k1 : Value.okWide Tryd.prog W .any 0 35 v1)
    (h0 : DataW.Trod enc Tryd.prog W 0 (fun _ => true) true 22 v0 d0 p0) (h1 : DataW.Trod enc Tryd.prog W 0 (fun _ => true) true 35 v1 d1 p1) :
    Calls Tryd.prog 5 #[v0, v1] W fun e w' => e = .returned (.bool true) ∧ Below W.heap.size W w' := by
  obtain ⟨a, cap, L, rfl, hl, hL, hok⟩ := sets_arg k0 h0
  obtain ⟨s, rfl, hs⟩ := set_arg k1 h1
  exact (more_law Cut.holds W hT a cap L hl hok hL s hs).mono fun e w' ⟨he, q⟩ => ⟨he, q.below (Nat.le_refl _) (fun _ _ h => h)⟩
end Go.Proofs.YtidfjeliofgpmaaDoor.PartsMore
