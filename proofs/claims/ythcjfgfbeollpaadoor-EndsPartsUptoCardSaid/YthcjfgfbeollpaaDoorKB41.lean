/- The document's Text (layer 8). -/
import Derived.Test.YthcjfgfbeollpaaDoorKB36
import Derived.Test.YthcjfgfbeollpaaDoorKB26
import Derived.Test.YthcjfgfbeollpaaDoorKB16
import Derived.Test.YthcjfgfbeollpaaDoorKB27
import Derived.Test.YthcjfgfbeollpaaDoorKB05
namespace Go.Proofs.YthcjfgfbeollpaaDoor
namespace P08
open Go.RowKit Base P07
open Sets (ST rgs rgs_ok rgs_le)
open Bytes (val)
theorem esc_eq:∀ b,b<256→P08.esc b=Bytes.esc b:=by decide +kernel
theorem spanT_eq {a b:Nat} (h:a≤b) (hb:b<256):P08.spanT a b=Bytes.spanT a b:=by
 unfold P08.spanT Bytes.spanT;rw [esc_eq a (by omega),esc_eq b hb]
theorem spansT_eq:∀ L:List (Nat × Nat),(∀ r,r ∈ L→r.1≤r.2∧r.2<256)→P08.spansT L=Bytes.spansT L
 | [],_=>rfl
 | r::L,h=>by
  have h1:=h r (by simp)
  rw [spansT_cons,spansT_eq L fun x hx=>h x (List.mem_cons_of_mem _ hx),spanT_eq h1.1 h1.2]
  simp [Bytes.spansT]
theorem textT_eq {s:ST} (hs:s.Ok):P08.textT s=Bytes.textT s:=by
 unfold P08.textT Bytes.textT;rw [spansT_eq _ (rgs_ok s.has 256).ord,spansT_eq _ (rgs_ok s.not.has 256).ord]
 by_cases h:s.count=1
 ·rw [esc_eq _ (single hs h).1]
 ·rw [if_neg h,if_neg h]
theorem textT_len {s:ST} (hs:s.Ok):(P08.textT s).length≤2310:=by
 rw [textT_eq hs];unfold Bytes.textT;have h1:=Bytes.spansT_len (rgs s.has 256);have h2:=rgs_le s.has 256;have h3:=Bytes.spansT_len (rgs s.not.has 256);have h4:=rgs_le s.not.has 256
 split
 ·simp
 ·split
  ·have:=Bytes.esc_len (Sets.nxt s.has 0)
   omega
  ·split
   ·simp
    omega
   ·simp
    omega
theorem times_len (lo hi:Int):(times lo hi).length≤7:=by
 unfold times;have h1:=num_len lo.toNat;have h2:=num_len hi.toNat
 split
 ·simp
 ·split
  ·simp
  ·split
   ·simp
   ·split
    ·simp
     omega
    ·split
     ·simp
      omega
     ·simp
      omega
theorem br_le (b:Bool) (u:List UInt8):(br b u).length≤u.length+2:=by
 cases b
 ·simp [br]
 ·simp [br]
mutual
theorem txt_len:∀ t:T,SOk t→(txt t).length+3≤2400 * cnt t
 | .nd k s mn mx l,h=>by
  rw [SOk] at h;rw [txt_eq,cnt];have h1:=textT_len h.1;have h2:=times_len mn mx;have h3:=subT_len l k true h.2
  split
  ·omega
  ·rw [List.length_append]
   split
   ·omega
   ·simp
    omega
theorem subT_len:∀ (l:List T) (k:Int) (b:Bool),SOkL l→(subT k b l).length≤2400 * cntL l
 | [],k,b,_=>by rw [subT_nil];simp
 | t::l,k,b,h=>by
  obtain ⟨h1,h2⟩:=SOk_cons h;have h3:=txt_len t h1;have h4:=subT_len l k false h2;have h5:=br_le (rnd k t.kind) (txt t);rw [subT_cons,cntL,List.length_append,List.length_append]
  split
  ·simp
   omega
  ·simp
   omega
end
end P08
namespace P08
open Go.RowKit Base P07
open Sets (ST)
structure RU where
 nm:List UInt8
 re:T
@[reducible] def rcells (x:RU) (a:Option Addr) (c:Nat):Array Value:=#[Bytes.str x.nm,.int .i64 x.re.kind,.int .u64 x.re.set.x0,.int .u64 x.re.set.x1,.int .u64 x.re.set.x2,.int .u64 x.re.set.x3,.int .i64 x.re.mn,.int .i64 x.re.mx,.slice a x.re.subs.length c]
theorem infoU:(Tryd.prog.info? 41).map (fun i=>(i.zero,i.size,i.bytes))=some (some (.agg #[.string ⟨#[]⟩,.int .i64 0,.int .u64 0,.int .u64 0,.int .u64 0,.int .u64 0,.int .i64 0,.int .i64 0,.slice none 0 0]),9,96):=by kernel_rfl
def RS (w:World) (ok:Nat→Prop) (a:Option Addr) (L:List RU):Prop :=
 L=[]∨∃ (bl off:Nat) (A:Nat→Option Addr) (C:Nat→Nat),a=some ⟨bl,off,none⟩∧bl<w.heap.size∧ok bl∧∀ i x,L[i]?=some x→x.re.subs.length≤C i∧Lie w ok (A i) x.re.subs∧∀ j v,(rcells x (A i) (C i))[j]?=some v→w.cell? ⟨bl,off+i * 9+j,none⟩=some v
theorem RS.keep {S:Nat→Prop} {w w':World} {ok:Nat→Prop} (q:Keep S w w') (hS:∀ b,ok b→¬ S b) {a:Option Addr} {L:List RU} (h:RS w ok a L):RS w' ok a L:=by
 rcases h with h | ⟨bl,off,A,C,rfl,hb,hok,h⟩
 ·exact .inl h
 ·exact .inr ⟨bl,off,A,C,rfl,Nat.lt_of_lt_of_le hb q.size,hok,fun i x hx=>⟨(h i x hx).1,(h i x hx).2.1.keep q hS,fun j v hv=>(q.cell (a:=⟨bl,off+i * 9+j,none⟩) hb (hS bl hok)).trans ((h i x hx).2.2 j v hv)⟩⟩
theorem RS.keepF {w w':World} {ok:Nat→Prop} (q:Keep (fun _=>False) w w') {a:Option Addr} {L:List RU} (h:RS w ok a L):RS w' ok a L:=h.keep q (fun _ _ h=>h)
theorem RS.mono {w:World} {ok ok':Nat→Prop} (hk:∀ b,ok b→ok' b) {a:Option Addr} {L:List RU} (h:RS w ok a L):RS w ok' a L:=by
 rcases h with h | ⟨bl,off,A,C,rfl,hb,hok,h⟩
 ·exact .inl h
 ·exact .inr ⟨bl,off,A,C,rfl,hb,hk _ hok,fun i x hx=>⟨(h i x hx).1,(h i x hx).2.1.mono hk,(h i x hx).2.2⟩⟩
theorem RS.get {w:World} {ok:Nat→Prop} {a:Option Addr} {L:List RU} (h:RS w ok a L) {i:Nat} {x:RU} (hx:L[i]?=some x) :
  ∃ bl off a' c',a=some ⟨bl,off,none⟩∧bl<w.heap.size∧ok bl∧x.re.subs.length≤c'∧Lie w ok a' x.re.subs∧∀ j v,(rcells x a' c')[j]?=some v→w.cell? ⟨bl,off+i * 9+j,none⟩=some v:=by
 rcases h with rfl | ⟨bl,off,A,C,rfl,hb,hok,h⟩
 ·simp at hx
 ·exact ⟨bl,off,A i,C i,rfl,hb,hok,(h i x hx).1,(h i x hx).2.1,(h i x hx).2.2⟩
theorem rnine {w:World} {bl o:Nat} {x:RU} {a:Option Addr} {c:Nat} (h:∀ j v,(rcells x a c)[j]?=some v→w.cell? ⟨bl,o+j,none⟩=some v) :
  w.cell? ⟨bl,o,none⟩=some (Bytes.str x.nm)∧w.cell? ⟨bl,o+1,none⟩=some (.int .i64 x.re.kind)∧w.cell? ⟨bl,o+1+1,none⟩=some (.int .u64 x.re.set.x0)∧w.cell? ⟨bl,o+1+2,none⟩=some (.int .u64 x.re.set.x1)∧w.cell? ⟨bl,o+1+3,none⟩=some (.int .u64 x.re.set.x2)∧w.cell? ⟨bl,o+1+4,none⟩=some (.int .u64 x.re.set.x3)∧w.cell? ⟨bl,o+1+5,none⟩=some (.int .i64 x.re.mn)∧w.cell? ⟨bl,o+1+6,none⟩=some (.int .i64 x.re.mx)∧w.cell? ⟨bl,o+1+7,none⟩=some (.slice a x.re.subs.length c) :=
 ⟨h 0 _ rfl,h 1 _ rfl,h 2 _ rfl,h 3 _ rfl,h 4 _ rfl,h 5 _ rfl,h 6 _ rfl,h 7 _ rfl,h 8 _ rfl⟩
@[reducible] def flatU (X:List (RU × Option Addr × Nat)):List Value:=X.flatMap fun x=>(rcells x.1 x.2.1 x.2.2).toList
theorem flatU_at:∀ (X:List (RU × Option Addr × Nat)) (i:Nat) (x:RU × Option Addr × Nat),X[i]?=some x→∀ j v,(rcells x.1 x.2.1 x.2.2)[j]?=some v→(flatU X)[i * 9+j]?=some v
 | [],i,x,h,_,_,_=>by simp at h
 | y::X,0,x,h,j,v,hv=>by
  simp at h
  subst h;have e:flatU (y::X)=(rcells y.1 y.2.1 y.2.2).toList++flatU X:=rfl;have hj:j<9:=(Array.getElem?_eq_some_iff.1 hv).1;rw [e,Nat.zero_mul,Nat.zero_add,List.getElem?_append_left (by simpa using hj)]
  simpa using hv
 | y::X,i+1,x,h,j,v,hv=>by
  have ih:=flatU_at X i x (by simpa using h) j v hv
  have e:flatU (y::X)=(rcells y.1 y.2.1 y.2.2).toList++flatU X:=rfl;rw [e,List.getElem?_append_right (by simp;omega),← ih]
  congr 1
  simp
  omega
def OUX (w:World) (ok:Nat→Prop) (v:Value) (X:List (RU × Option Addr × Nat)):Prop :=
 w.ownsRow 0 41 9 v X.length (flatU X)∧(∀ g,v.ownBlock=some g→ok g)∧∀ x ∈ X,x.1.re.subs.length≤x.2.2∧Lie w (fun k=>ok k∧v.ownBlock≠some k) x.2.1 x.1.re.subs
def OU (w:World) (ok:Nat→Prop) (v:Value) (L:List RU):Prop:=∃ X,OUX w ok v X∧X.map (·.1)=L
theorem OU.nil (w:World) (ok:Nat→Prop):OU w ok (.slice none 0 0) []:=⟨[],⟨⟨rfl,.inl ⟨rfl,rfl⟩⟩,fun g hg=>(by cases hg),by simp⟩,rfl⟩
theorem OU.keep {S:Nat→Prop} {w w':World} {ok:Nat→Prop} {v:Value} {L:List RU} (h:OU w ok v L) (q:Keep S w w') (hS:∀ b,ok b→¬ S b):OU w' ok v L:=by
 obtain ⟨X,⟨h1,h2,h3⟩,h4⟩:=h;refine ⟨X,⟨⟨h1.1,?_⟩,h2,fun x hx=>⟨(h3 x hx).1,(h3 x hx).2.keep q (fun b hb=>hS b hb.1)⟩⟩,h4⟩
 rcases h1.2 with h | ⟨g,cap,cur,rfl,hb,hg,r⟩
 ·exact .inl h
 ·refine .inr ⟨g,cap,cur,rfl,hb,?_,r⟩
  have:At w g 41 cur:=hg;exact this.keep q (hS g (h2 g rfl))
theorem OU.keepF {w w':World} {ok:Nat→Prop} {v:Value} {L:List RU} (h:OU w ok v L) (q:Keep (fun _=>False) w w'):OU w' ok v L:=h.keep q (fun _ _ h=>h)
theorem OU.form {w:World} {ok:Nat→Prop} {v:Value} {L:List RU} (h:OU w ok v L):∃ a cap,v=.slice a L.length cap∧L.length≤cap∧RS w ok a L:=by
 obtain ⟨X,⟨h1,h2,h3⟩,rfl⟩:=h
 rcases h1.2 with ⟨rfl,h0⟩ | ⟨g,cap,cur,rfl,_,hg,h5,h6,h7,h8⟩
 ·have e:X=[]:=List.eq_nil_of_length_eq_zero h0
  subst e;exact ⟨none,0,rfl,Nat.zero_le _,.inl rfl⟩
 ·have ha:At w g 41 cur:=hg
  refine ⟨_,cap,by rw [List.length_map],by rw [List.length_map];exact h5,.inr ⟨g,0,(fun i=>(X[i]?.map (·.2.1)).getD none),(fun i=>(X[i]?.map (·.2.2)).getD 0),rfl,ha.lt,h2 g rfl,fun i t ht=>?_⟩⟩
  rw [List.getElem?_map] at ht;obtain ⟨x,hx,rfl⟩:=Option.map_eq_some_iff.1 ht
  simp only [hx,Option.map_some,Option.getD_some]
  refine ⟨(h3 x (List.mem_of_getElem? hx)).1,(h3 x (List.mem_of_getElem? hx)).2.mono (fun _ h=>h.1),fun j v hv=>?_⟩
  have hj:j<9:=(Array.getElem?_eq_some_iff.1 hv).1;have hi:i<X.length:=(List.getElem?_eq_some_iff.1 hx).1;refine ha.cell ?_;have h9:=flatU_at X i x hx j v hv;have h10:(cur.toList.take (X.length * 9))[i * 9+j]?=(flatU X)[i * 9+j]?:=by rw [h8]
  rw [List.getElem?_take_of_lt (by omega),h9] at h10
  rw [Nat.zero_add]
  simpa using h10
theorem OU.push {w:World} {ok:Nat→Prop} {v:Value} {L:List RU} (h:OU w ok v L) (t:RU) (a:Option Addr) (c:Nat) (hc:t.re.subs.length≤c) (hl:Lie w (fun k=>ok k∧v.ownBlock≠some k) a t.re.subs)
  (hlen:(L.length+1) * 96≤140737488355328) (hok:∀ g,w.heap.size≤g→ok g) (ty:TypeId) :
  ∃ v' w',(Builtin.append_ #[42,42] ty #[v,.slice (some ⟨w.heap.size,0,none⟩) 1 1]).run Tryd.prog (w.alloc (.cells (rcells t a c) 41))=.ok v' w'∧OU w' ok v' (L++[t])∧Keep (fun b=>v.ownBlock=some b) w w'∧(∀ g,v'.ownBlock=some g→v.ownBlock=some g∨w.heap.size≤g):=by
 obtain ⟨X,⟨h1,h2,h3⟩,rfl⟩:=h;have qa:=(Keep.refl (fun _=>False) w).alloc (.cells (rcells t a c) 41)
 have ha:=At.new w (rcells t a c) 41;have hown:(w.alloc (.cells (rcells t a c) 41)).ownsRow 0 41 9 v X.length (flatU X):=by
  refine ⟨h1.1,?_⟩
  rcases h1.2 with h | ⟨g,cap,cur,rfl,hb,hg,r⟩
  ·exact .inl h
  ·refine .inr ⟨g,cap,cur,rfl,hb,?_,r⟩
   have:At w g 41 cur:=hg;exact this.keep qa (fun h=>h)
 obtain ⟨i0,hi0,hz0,hz1,hz2⟩:=info_parts infoU;rw [List.length_map] at hlen;obtain ⟨v',w',hrun,g2,g3,_,g5⟩:=run_append_own_at (P:=Tryd.prog) (w.alloc (.cells (rcells t a c) 41)) 0 42 ty 41 i0 (.agg #[.string ⟨#[]⟩,.int .i64 0,.int .u64 0,.int .u64 0,.int .u64 0,.int .u64 0,.int .i64 0,.int .i64 0,.slice none 0 0]) 9 96 Tryd.underlying42 hi0 hz0 hz1 hz2 rfl (by omega) v X.length (flatU X) hown ⟨w.heap.size,0,none⟩ 1 1 (rcells t a c).toList rfl
  (fun j u hu=>by
   have:=ha.cell (o:=j) (v:=u) (by simpa using hu)
   have e:(⟨w.heap.size,0,none⟩:Addr).add j=⟨w.heap.size,j,none⟩:=by
    unfold Addr.add
    split
    ·rename_i hz
     rw [hz]
    ·simp
   rw [e]
   exact this)
  (by intro u hu;simp at hu;rcases hu with rfl | rfl | rfl | rfl | rfl | rfl | rfl | rfl | rfl <;> rfl) (by simp only [maxLen];omega) (by omega) (Nat.zero_le _)
 have q:Keep (fun b=>v.ownBlock=some b) w w':=(qa.mono (fun _ h=>h.elim)).trans (nkeep_grown g3)
 have hbl:∀ g,v'.ownBlock=some g→v.ownBlock=some g∨w.heap.size≤g:=fun g hg=>by
  rcases g5 with g5 | g5
  ·exact .inl (by rw [← g5];exact hg)
  ·rw [g5] at hg
   injection hg with hg
   simp at hg
   exact .inr (by omega)
 have hlie:∀ {a:Option Addr} {M:List T},Lie w (fun k=>ok k∧v.ownBlock≠some k) a M→Lie w' (fun k=>ok k∧v'.ownBlock≠some k) a M:=fun {a M} h=>by
  have h1:Lie w (fun k=>(ok k∧v.ownBlock≠some k)∧k<w.heap.size) a M:=by
   induction h with
   | nil a=>exact .nil a
   | cons bl off L A C hL hb hok hC hc _ ih=>exact .cons bl off L A C hL hb ⟨hok,hb⟩ hC hc ih
  refine (h1.keep q (fun b hb e=>hb.1.2 e)).mono (fun k hk=>⟨hk.1.1,fun e=>?_⟩)
  rcases hbl k e with h | h
  ·exact hk.1.2 h
  ·have:=hk.2
   omega
 refine ⟨v',w',hrun,⟨X++[(t,a,c)],⟨?_,fun g hg=>?_,fun x hx=>?_⟩,by simp⟩,q,hbl⟩
 ·rw [List.length_append]
  have e:flatU (X++[(t,a,c)])=flatU X++(rcells t a c).toList:=by
   unfold flatU;rw [List.flatMap_append]
   simp
  rw [e];exact g2
 ·rcases hbl g hg with h | h
  ·exact h2 g h
  ·exact hok g h
 ·rcases List.mem_append.1 hx with hx | hx
  ·exact ⟨(h3 x hx).1,hlie (h3 x hx).2⟩
  ·rw [List.mem_singleton.1 hx]
   exact ⟨hc,hlie hl⟩
end P08
end Go.Proofs.YthcjfgfbeollpaaDoor
