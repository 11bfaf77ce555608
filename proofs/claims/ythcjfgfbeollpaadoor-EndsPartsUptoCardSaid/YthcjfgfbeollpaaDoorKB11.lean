/- A map from ints to bools that the call has made: which ints are in it; and an argument that is a slice of ints, opened. -/
import Derived.Test.YthcjfgfbeollpaaDoorKB03
import Derived.Test.YthcjfgfbeollpaaDoorChecked
import Derived.Maps.OwnSet
import Derived.Maps.OwnOps
import Derived.ChangeSlices
import Derived.Deep.Slices
namespace Go.Proofs.YthcjfgfbeollpaaDoor
namespace Seen
open Go.RowKit Go.Maps Go.ChangeMaps Go.MapKept Go.ChangeShapes Go.WideShapes Base
theorem law:Keyed Tryd.prog 3:=int_keyed Tryd.underlying3
theorem keyOf_id {id:Int} (h1:-9223372036854775808≤id) (h2:id≤9223372036854775807):keyOf Tryd.prog 3 (.int .i64 id)=some (.int .i64 id):=keyOf_int_mk Tryd.underlying3 (WalkArith.wf_i64 ⟨h1,h2⟩)
def boolR:Value→Option (DataW Unit × List MemPlace)
 | .bool b=>some (.lit (.bool b),[])
 | _=>none
def Has (w:World) (m:Nat) (M:List Int):Prop :=
 ∃ n D,n=M.length∧w.ownsMap Tryd.prog 3 boolR m n D∧(∀ x:Int,D.atKey (.int .i64 x) (.lit (.bool false))=.lit (.bool (decide (x ∈ M))))∧(∀ x:Int,Maps.has D (.int .i64 x)=decide (x ∈ M))∧Maps.size D=M.length
theorem Has.keep {S:Nat→Prop} {w w':World} {m:Nat} {M:List Int} (h:Has w m M) (q:Keep S w w') (hn:¬ S m):Has w' m M:=by
 obtain ⟨n,D,h1,h2,r⟩:=h;refine ⟨n,D,h1,?_,r⟩;have hlt:=World.ownsMap.lt h2;obtain ⟨es,clock,hb,r⟩:=h2;exact ⟨es,clock,(q.block m hlt hn).trans hb,r⟩
theorem Has.lt {w:World} {m:Nat} {M:List Int} (h:Has w m M):m<w.heap.size:=by
 obtain ⟨n,D,h1,h2,r⟩:=h;exact World.ownsMap.lt h2
theorem Has.ne {w:World} {m c:Nat} {M:List Int} {t:TypeId} {vs:Array Value} (h:Has w m M) (k:At w c t vs):m≠c:=by
 rintro rfl;obtain ⟨n,D,h1,⟨es,clock,hb,_⟩,r⟩:=h;rw [show w.heap[m]?=_ from k] at hb
 cases hb
theorem Has.new (w:World):Has (w.alloc (.map #[] 0)) w.heap.size [] :=
 ⟨0,.map [],rfl,World.ownsMap_made w _ _ _,fun _=>rfl,fun _=>rfl,rfl⟩
theorem keep_grown {w w':World} {b:Nat} (h:w.grownBy w' (some b)):Keep (·=b) w w' :=
 ⟨h.os,h.tape,h.output,h.size,fun k hk hn=>h.block k hk (by simpa using hn)⟩
end Seen
end Go.Proofs.YthcjfgfbeollpaaDoor
