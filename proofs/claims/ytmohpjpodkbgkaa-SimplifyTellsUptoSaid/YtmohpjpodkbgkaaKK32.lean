/- The code's withSets and Sets (layer 9). -/
import Derived.Test.YtmohpjpodkbgkaaKK18
import Derived.Test.YtmohpjpodkbgkaaKK28
import Derived.Lib.AppendZeros
import Derived.Maps.AppendAt
namespace Go.Proofs.Ytmohpjpodkbgkaa.P09
open Go.RowKit Go.Proofs.Ytmohpjpodkbgkaa.Base Go.Proofs.Ytmohpjpodkbgkaa.Bytes Go.Proofs.Ytmohpjpodkbgkaa.P07 Go.Proofs.Ytmohpjpodkbgkaa.P08 Go.Proofs.Ytmohpjpodkbgkaa.OL
open Go.Proofs.Ytmohpjpodkbgkaa.Sets (ST)

mutual
/-- Its classes, from the left to the right. -/
def setsT : T → List ST
  | .nd k s _ _ l => if k = 2 then [s] else setsL l
def setsL : List T → List ST
  | [] => []
  | t :: l => setsT t ++ setsL l
end
theorem setsT_eq (t : T) : setsT t = if t.kind = 2 then [t.set] else setsL t.subs := by
  cases t
  rw [setsT]
  rfl
theorem setsL_append : ∀ (L : List T) (t : T), setsL (L ++ [t]) = setsL L ++ setsT t
  | [], t => by rw [List.nil_append, setsL, setsL, setsL]; simp
  | s :: L, t => by rw [List.cons_append, setsL, setsL, setsL_append L, List.append_assoc]
theorem setsL_take {L : List T} {i : Nat} {s : T} (h : L[i]? = some s) : setsL (L.take (i + 1)) = setsL (L.take i) ++ setsT s := by
  rw [List.take_add_one, h]
  exact setsL_append _ s
mutual
theorem setsT_len : ∀ t : T, (setsT t).length ≤ cnt t
  | .nd k s mn mx l => by
    rw [setsT, cnt]
    have := setsL_len l
    split
    · simp
    · omega
theorem setsL_len : ∀ l : List T, (setsL l).length ≤ cntL l
  | [] => by rw [setsL, cntL]; exact Nat.le_refl _
  | t :: l => by
    rw [setsL, cntL, List.length_append]
    have := setsT_len t
    have := setsL_len l
    omega
end

/-- A list of the program's own, that was not there in the world b. -/
structure Fr (b w : World) (v : Value) (L : List ST) : Prop where
  ol : OL w v L
  q : Keep (fun _ => False) b w
  far : ∀ g, v.ownBlock = some g → b.heap.size ≤ g
theorem Fr.keep {b w w' : World} {v : Value} {L : List ST} (h : Fr b w v L) (k : Keep (fun _ => False) w w') : Fr b w' v L := ⟨h.ol.keep k (fun _ _ h => h), h.q.trans k, h.far⟩
theorem Fr.nil (b : World) : Fr b b (.slice none 0 0) [] := ⟨OL.nil b, Keep.refl _ _, fun g hg => by cases hg⟩
end Go.Proofs.Ytmohpjpodkbgkaa.P09
