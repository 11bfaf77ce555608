/- The code's withSets and Sets (layer 9). -/
import Derived.Test.YthcjfgfbeollpaaDoorKB19
import Derived.Test.YthcjfgfbeollpaaDoorKB32
import Derived.Test.YthcjfgfbeollpaaDoorKB29
import Derived.Test.YthcjfgfbeollpaaDoorKB30
import Derived.Lib.AppendZeros
import Derived.Maps.AppendAt
namespace Go.Proofs.YthcjfgfbeollpaaDoor
namespace P09
open Go.RowKit Base Bytes P07 P08 OL
open Sets (ST)
mutual
def setsT:T→List ST
 | .nd k s _ _ l=>if k=2 then [s] else setsL l
def setsL:List T→List ST
 | []=>[]
 | t::l=>setsT t++setsL l
end
mutual
theorem setsT_len:∀ t:T,(setsT t).length≤cnt t
 | .nd k s mn mx l=>by
  rw [setsT,cnt];have:=setsL_len l
  split
  ·simp
  ·omega
theorem setsL_len:∀ l:List T,(setsL l).length≤cntL l
 | []=>by rw [setsL,cntL];exact Nat.le_refl _
 | t::l=>by
  rw [setsL,cntL,List.length_append];have:=setsT_len t;have:=setsL_len l;omega
end
structure Fr (b w:World) (v:Value) (L:List ST):Prop where
 ol:OL w v L
 q:Keep (fun _=>False) b w
 far:∀ g,v.ownBlock=some g→b.heap.size≤g
theorem Fr.keep {b w w':World} {v:Value} {L:List ST} (h:Fr b w v L) (k:Keep (fun _=>False) w w'):Fr b w' v L:=⟨h.ol.keep k (fun _ _ h=>h),h.q.trans k,h.far⟩
theorem Fr.nil (b:World):Fr b b (.slice none 0 0) []:=⟨OL.nil b,Keep.refl _ _,fun g hg=>by cases hg⟩
end P09
end Go.Proofs.YthcjfgfbeollpaaDoor
