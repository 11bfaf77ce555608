/- Layer 11: rows of places in memory; the document's in and or. -/
import Derived.Test.YthcjfgfbeollpaaDoorKB31
import Derived.Test.YthcjfgfbeollpaaDoorKB30
import Derived.Test.YthcjfgfbeollpaaDoorKB05
import Derived.Test.YthcjfgfbeollpaaDoorKB08
import Derived.Laws.CopyOwn
import Derived.Maps.AppendAt
namespace Go.Proofs.YthcjfgfbeollpaaDoor
namespace P11
open Go.RowKit Base Bytes P07 P08 P09
open Sets (ST)
def RB (w:World) (g:Nat) (X:List Bool):Prop:=g<w.heap.size∧∀ j b,X[j]?=some b→w.cell? ⟨g,j,none⟩=some (.bool b)
theorem RB.keep {S:Nat→Prop} {w w':World} {g:Nat} {X:List Bool} (h:RB w g X) (q:Keep S w w') (hg:¬ S g):RB w' g X :=
 ⟨Nat.lt_of_lt_of_le h.1 q.size,fun j b hj=>(q.cell (a:=⟨g,j,none⟩) h.1 hg).trans (h.2 j b hj)⟩
theorem RB.of {w:World} {g:Nat} {X:List Bool} (h:At w g 4 (bcells X)):RB w g X:=⟨h.lt,fun _ _ hj=>h.cell (bcells_get hj)⟩
theorem byteAt_getD (s:List UInt8) (i:Nat):byteAt s i=(s.getD i 0).toNat:=rfl
end P11
end Go.Proofs.YthcjfgfbeollpaaDoor
