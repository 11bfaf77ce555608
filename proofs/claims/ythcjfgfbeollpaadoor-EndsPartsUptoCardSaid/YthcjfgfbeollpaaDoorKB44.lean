/- Layer 9: the code's measures of right expressions are the document's numbers; an expression in a box; Parse. -/
import Derived.Test.YthcjfgfbeollpaaDoorKB36
import Derived.Deep.DeepCutAuto
import Derived.Deep.CutBlock
import Derived.Test.YthcjfgfbeollpaaDoorKB29
import Derived.Test.YthcjfgfbeollpaaDoorKB30
import Derived.Test.YthcjfgfbeollpaaDoorKB32
import Derived.Test.YthcjfgfbeollpaaDoorKB37
import Derived.Test.YthcjfgfbeollpaaDoorKB31
import Derived.Test.YthcjfgfbeollpaaDoorKB39
namespace Go.Proofs.YthcjfgfbeollpaaDoor
namespace P09
open Go.RowKit Base Bytes P07 P08
open Sets (ST)
structure Nd (W:World) (n:Nat) (t:T) (a:Option Addr) (c:Nat):Prop where
 cell:At W n 27 (ncells t a c)
 lie:Lie W (fun _=>True) a t.subs
 le:t.subs.length≤c
theorem Nd.keep {W W':World} {n:Nat} {t:T} {a:Option Addr} {c:Nat} (h:Nd W n t a c) (q:Keep (fun _=>False) W W'):Nd W' n t a c:=⟨h.cell.keep q (fun h=>h),h.lie.keepF q,h.le⟩
theorem Nd.new {W:World} {t:T} {a:Option Addr} {c:Nat} {ok:Nat→Prop} (hle:t.subs.length≤c) (hL:Lie W ok a t.subs):Nd (W.alloc (.cells (ncells t a c) 27)) W.heap.size t a c :=
 ⟨At.new W _ _,(hL.mono (fun _ _=>trivial)).keepF ((Keep.refl (fun _=>False) W).alloc _),hle⟩
theorem parse_right9 {F:Nat} {l:List UInt8} {t:T} (h:parse F l=.inr t) (hF:l.length+2≤F) (hl:l.length≤100000000) (w:World) :
  Calls Tryd.prog 18 #[P07.str l] w fun e w'=>∃ a c,e=.returned (.tuple #[nodeV t a c,.int .i64 0,.int .i64 0])∧t.subs.length≤c∧Lie w' (fun k=>w.heap.size≤k) a t.subs∧Keep (fun _=>False) w w':=by
 refine (regex_any F l hF hl w).mono ?_;rintro e w' ⟨hP,q⟩;rw [h] at hP;obtain ⟨v,rfl,a,c,rfl,hle,hL⟩:=hP;exact ⟨a,c,rfl,hle,hL,q⟩
def awT (F:Nat) (l:List UInt8):Nat × Int × Bool × Int × Int × Bool × Nat × ST:=match parse F l with
 | .inr t=>(cnt t,wd t,nullB t,leastI t,mostI t,noneB t,(setsT t).length,firstS t)
 | .inl _=>(0,0,false,0,0,false,0,.none)
theorem aw1:awT 11 [97,123,50,44,51,125,124,98,42]=(5,14,true,0,-1,false,2,ST.range 97 98):=by kernel_rfl
theorem aw2:((awT 5 [97,91,93]).1,(awT 5 [97,91,93]).2.2.2.1,(awT 5 [97,91,93]).2.2.2.2.1,(awT 5 [97,91,93]).2.2.2.2.2.1)=(3,-1,-1,true):=by kernel_rfl
theorem aw4:rightB (.nd 0 zS 0 0 [])=false:=by kernel_rfl
end P09
end Go.Proofs.YthcjfgfbeollpaaDoor
