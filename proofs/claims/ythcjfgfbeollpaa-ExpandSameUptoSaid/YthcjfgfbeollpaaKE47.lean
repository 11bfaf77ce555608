/- Layer 11, plain: what the laws say of ends. -/
import Derived.Test.YthcjfgfbeollpaaKE39
import Derived.Test.YthcjfgfbeollpaaKE33
import Derived.Test.YthcjfgfbeollpaaKE44
import Derived.Test.YthcjfgfbeollpaaKE27
import Derived.Test.YthcjfgfbeollpaaKE26
import Derived.Test.YthcjfgfbeollpaaKE31
namespace Go.Proofs.Ythcjfgfbeollpaa.P11
open Go.RowKit Go.Proofs.Ythcjfgfbeollpaa.Base Go.Proofs.Ythcjfgfbeollpaa.Bytes Go.Proofs.Ythcjfgfbeollpaa.P07 Go.Proofs.Ythcjfgfbeollpaa.P08 Go.Proofs.Ythcjfgfbeollpaa.P09 Go.Proofs.Ythcjfgfbeollpaa.P10 Go.Proofs.Ythcjfgfbeollpaa.IL
open Go.Proofs.Ythcjfgfbeollpaa.Sets (ST)

theorem plc_congr {X Y : List Bool} : ∀ k, (∀ j, j < k → (On X j ↔ On Y j)) → plc X k = plc Y k
  | 0, _ => rfl
  | k + 1, h => by
    have e : X.getD k false = Y.getD k false := by
      rw [Bool.eq_iff_iff]
      exact h k (Nat.lt_succ_self k)
    rw [plc_succ, plc_succ, plc_congr k (fun j hj => h j (by omega)), e]
/-- Two expressions with the same ends. -/
theorem ends_same {s : List UInt8} {t u : T} {d e f : Nat} (hR : RT d t) (hU : RT e u) (hf : f ≤ s.length) (h : ∀ w, P10.Mat t w ↔ P10.Mat u w) : endsI s t f = endsI s u f := by
  unfold endsI
  refine plc_congr _ (fun j _ => ?_)
  rw [(rowT_ok hR hf).2 j, (rowT_ok hU hf).2 j]
  unfold EndAt
  rw [h]
/-- As often as may be. -/
def starT (t : T) : T := .nd 5 ST.none 0 (-1) [t]
/-- Two choices, two behind one another. -/
def altP (a b : T) : T := .nd 4 ST.none 0 0 [a, b]
def catP (a b : T) : T := .nd 3 ST.none 0 0 [a, b]
end Go.Proofs.Ythcjfgfbeollpaa.P11
