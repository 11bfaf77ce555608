/- The document's parser (layer 7) in memory: its state; next, fail, must. -/
import Derived.Test.YthcjfgfbeollpaaDoorKB03
import Derived.Test.YthcjfgfbeollpaaDoorChecked
import Derived.Test.YthcjfgfbeollpaaDoorKB01
import Derived.Deep.LoopGhost
import Derived.TacticsInMore
import Derived.Deep.QuietTactic
import Derived.BigQuiet
namespace Go.Proofs.YthcjfgfbeollpaaDoor
namespace P07
open Go.RowKit Base
@[reducible] def str (l:List UInt8):Value:=.string ⟨l.toArray⟩
theorem ret_bool {a b:Bool} (h:a=b):Ending.returned (.bool a)=.returned (.bool b):=by rw [h]
theorem ret_int {k:IntKind} {a b:Int} (h:a=b):Ending.returned (.int k a)=.returned (.int k b):=by rw [h]
theorem size_str (l:List UInt8):ByteArray.size ⟨l.toArray⟩=l.length:=rfl
theorem byteAt_lt (l:List UInt8) (k:Nat):byteAt l k<256:=UInt8.toNat_lt _
theorem index_run (l:List UInt8) (k:Nat) (h:k<l.length) (w:World):(Instr.index 9 (str l) (.int .i64 k)).run Tryd.prog w=.ok (.int .u8 (byteAt l k)) w:=by
 have h1:ByteArray.size ⟨l.toArray⟩=l.length:=rfl;have e:l[k]?.getD 0=l[k]:=by
  rw [List.getElem?_eq_getElem h]
  rfl
 unfold byteAt;rw [e]
 simp [Instr.index,run_underlying (P:=Tryd.prog) Tryd.underlying9,asIntOf,h1,h,go_sem]
 rfl
def badI:Option Nat→Int
 | none=>-1
 | some b=>b
@[reducible] def pcells (l:List UInt8) (s:PS):Array Value:=#[str l,.int .i64 s.pos,.int .i64 (badI s.bad),.int .i64 s.opn]
end P07
namespace P07
open Go.RowKit Base
theorem upk {w w':World} (b:Nat) (q:Keep (fun _=>False) w w'):Keep (fun i=>i=b) w w':=q.mono (fun _ h=>h.elim)
def hexs:List UInt8:=[48,49,50,51,52,53,54,55,56,57,97,98,99,100,101,102]
theorem hexv_ge (c:Int):-1≤hexv c∧hexv c≤15:=by
 unfold hexv
 split
 ·omega
 ·split <;> omega
end P07
namespace Ref06
open Go.RowKit Base
@[reducible] def str (l:List UInt8):Value:=.string ⟨l.toArray⟩
theorem ret_bool {a b:Bool} (h:a=b):Ending.returned (.bool a)=.returned (.bool b):=by rw [h]
theorem ret_int {k:IntKind} {a b:Int} (h:a=b):Ending.returned (.int k a)=.returned (.int k b):=by rw [h]
def byteAt (l:List UInt8) (k:Nat):Nat:=(l[k]?.getD 0).toNat
theorem byteAt_lt (l:List UInt8) (k:Nat):byteAt l k<256:=UInt8.toNat_lt _
theorem index_run (l:List UInt8) (k:Nat) (h:k<l.length) (w:World):(Instr.index 9 (str l) (.int .i64 k)).run Tryd.prog w=.ok (.int .u8 (byteAt l k)) w:=by
 have h1:ByteArray.size ⟨l.toArray⟩=l.length:=rfl;have e:l[k]?.getD 0=l[k]:=by
  rw [List.getElem?_eq_getElem h]
  rfl
 unfold byteAt;rw [e]
 simp [Instr.index,run_underlying (P:=Tryd.prog) Tryd.underlying9,asIntOf,h1,h,go_sem]
 rfl
def letB (b:Nat):Bool:=decide (97≤b∧b≤122) || decide (65≤b∧b≤90) || decide (48≤b∧b≤57) || decide (b=95)
theorem size_str (l:List UInt8):ByteArray.size ⟨l.toArray⟩=l.length:=rfl
end Ref06
namespace Ref06
open Go.RowKit Base
def sub (l:List UInt8) (lo hi:Nat):List UInt8:=(l.take hi).drop lo
def scan (l:List UInt8) (t:Nat):Nat→Nat→Nat
 | 0,i=>i
 | f+1,i=>if i<t∧letB (byteAt l i)=true then scan l t f (i+1) else i
def nmEnd (l:List UInt8) (a t:Nat):Nat:=scan l t 12 a
def bad' (l:List UInt8) (i a t:Nat):Bool:=decide (i=t) || decide (byteAt l i≠58) || decide (i=a)
def bad (l:List UInt8) (a t:Nat):Bool:=bad' l (nmEnd l a t) a t
@[reducible] def lineV (n x:List UInt8) (at':Int):Value:=.agg #[str n,str x,.int .i64 at']
end Ref06
namespace Ref06
open Go.RowKit Base
structure LN where
 name:List UInt8
 text:List UInt8
 place:Int
def LS (w:World) (a:Option Addr) (L:List LN):Prop :=
 L=[]∨∃ bl off:Nat,a=some ⟨bl,off,none⟩∧bl<w.heap.size∧∀ i r,L[i]?=some r→w.cell? ⟨bl,off+i * 3,none⟩=some (str r.name)∧w.cell? ⟨bl,off+i * 3+1,none⟩=some (str r.text)∧w.cell? ⟨bl,off+i * 3+2,none⟩=some (.int .i64 r.place)
theorem LS.keep {S:Nat→Prop} {w w':World} {a:Option Addr} {L:List LN} (h:LS w a L) (q:Keep S w w') (hn:∀ x,a=some x→¬ S x.block):LS w' a L:=by
 rcases h with h | ⟨bl,off,rfl,hb,hc⟩
 ·exact .inl h
 ·have hS:¬ S bl:=hn ⟨bl,off,none⟩ rfl
  exact .inr ⟨bl,off,rfl,Nat.lt_of_lt_of_le hb q.size,fun i r hr=>⟨(q.cell (a:=⟨bl,off+i * 3,none⟩) hb hS).trans (hc i r hr).1,(q.cell (a:=⟨bl,off+i * 3+1,none⟩) hb hS).trans (hc i r hr).2.1,(q.cell (a:=⟨bl,off+i * 3+2,none⟩) hb hS).trans (hc i r hr).2.2⟩⟩
theorem LS.get {w:World} {a:Option Addr} {L:List LN} (h:LS w a L) {i:Nat} {r:LN} (hr:L[i]?=some r):∃ bl off:Nat,a=some ⟨bl,off,none⟩∧bl<w.heap.size∧w.cell? ⟨bl,off+i * 3,none⟩=some (str r.name)∧w.cell? ⟨bl,off+i * 3+1,none⟩=some (str r.text)∧w.cell? ⟨bl,off+i * 3+2,none⟩=some (.int .i64 r.place):=by
 rcases h with rfl | ⟨bl,off,rfl,hb,hc⟩
 ·simp at hr
 ·exact ⟨bl,off,rfl,hb,hc i r hr⟩
end Ref06
end Go.Proofs.YthcjfgfbeollpaaDoor
