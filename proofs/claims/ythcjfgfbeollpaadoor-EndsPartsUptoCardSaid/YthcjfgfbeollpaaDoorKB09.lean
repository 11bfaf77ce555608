/- A string as argument. -/
import Derived.Test.YthcjfgfbeollpaaDoorKB05
import Derived.SizedLaws
set_option maxRecDepth 100000
set_option maxHeartbeats 32000000
namespace Go.Proofs.YthcjfgfbeollpaaDoor
namespace P11
open Go.ChangeShapes Go.WideShapes Go.ChangeAt Go.RowKit Base
open Go.ChangeMaps (open_string)
theorem str_arg11 {H:Type} {enc:TypeId × Value→H} {W:World} {r:Reach} {sp:Nat→Bool} {v:Value} {d:DataW H} {p:List MemPlace}
  (k:Value.okWide Tryd.prog W r 0 9 v) (h:DataW.Trod enc Tryd.prog W 0 sp true 9 v d p) :
  ∃ l:List UInt8,v=.string ⟨l.toArray⟩∧d=.lit (.string l)∧l.length≤9223372036854775807:=by
 obtain ⟨s,rfl,rfl,-,hmax⟩:=open_string Tryd.underlying9 k h;refine ⟨s.data.toList,?_,rfl,?_⟩
 ·show Value.string s=Value.string ⟨s.data.toList.toArray⟩
  rw [Array.toArray_toList]
 ·rw [Array.length_toList]
  unfold maxLen at hmax;exact hmax
end P11
end Go.Proofs.YthcjfgfbeollpaaDoor
