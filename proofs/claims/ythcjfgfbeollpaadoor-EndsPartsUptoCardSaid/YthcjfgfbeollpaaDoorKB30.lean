/- Rows of truth values (layer 9): a slice of bools of the program's own; the document's join. -/
import Derived.Test.YthcjfgfbeollpaaDoorKB29
import Derived.Lib.AppendZeros
import Derived.Maps.AppendAt
set_option maxRecDepth 100000
set_option maxHeartbeats 32000000
namespace Go.Proofs.YthcjfgfbeollpaaDoor
namespace P09
open Go.RowKit Base Bytes P07 P08
open Sets (ST)
def bcells (L:List Bool):Array Value:=(L.map Value.bool).toArray
theorem bcells_get {L:List Bool} {k:Nat} {b:Bool} (h:L[k]?=some b):(bcells L)[k]?=some (.bool b):=by
 unfold bcells
 simp [h]
theorem bcells_set (L:List Bool) (k:Nat) (b:Bool):(bcells L).setIfInBounds k (.bool b)=bcells (L.set k b):=by
 unfold bcells
 apply Array.ext'
 simp [List.map_set]
theorem infoB:(Tryd.prog.info? 4).map (fun i=>(i.zero,i.size,i.bytes))=some (some (.bool false),1,1):=by kernel_rfl
theorem make_bools (n:Nat) (hn:n≤1048576) (w:World) :
  (Instr.makeSlice 35 (.int .i64 (n:Int)) (.int .i64 (n:Int))).run Tryd.prog w=.ok (.slice (some ⟨w.heap.size,0,none⟩) n n) (w.alloc (.cells (bcells (List.replicate n false)) 4)):=by
 obtain ⟨i0,hi0,hz0,hz1,hz2⟩:=info_parts infoB;have hr:=run_make (P:=Tryd.prog) w 35 4 i0 (.bool false) Tryd.underlying35 hi0 hz0 .i64 .i64 (n:Int) (n:Int) (by omega) (Int.le_refl _) (by rw [hz2];omega) (by omega)
 rw [Int.toNat_natCast,hz1,Nat.mul_one] at hr;rw [hr]
 congr 3
 apply Array.ext
 ·simp [madeCells,bcells]
 ·intro j h1 h2
  simp [madeCells,Value.cells,Nat.mod_one,bcells]
def jrow (a b:List Bool) (i m:Nat):Bool:=(List.range i).any fun j=>decide (j≤m) && (a.getD j false && b.getD (m - j) false)
def JB (a b:List Bool) (n i k:Nat):List Bool:=(List.range n).map fun m=>jrow a b i m || (decide (i≤m∧m<i+k) && (a.getD i false && b.getD (m - i) false))
theorem JB_length (a b:List Bool) (n i k:Nat):(JB a b n i k).length=n:=by simp [JB]
theorem JB_get (a b:List Bool) {n i k m:Nat} (h:m<n):(JB a b n i k)[m]?=some (jrow a b i m || (decide (i≤m∧m<i+k) && (a.getD i false && b.getD (m - i) false))):=by
 simp [JB,h]
def joinB (a b:List Bool):List Bool:=JB a b a.length a.length 0
theorem getD_get {L:List Bool} {k:Nat} (h:k<L.length):L[k]?=some (L.getD k false):=by
 rw [List.getD_eq_getElem?_getD,List.getElem?_eq_getElem h]
 rfl
end P09
namespace P09
open Go.RowKit Base Bytes P07 P08
open Sets (ST)
def noB (m:Nat):List Bool:=List.replicate (m+1) false
def oneB0 (m:Nat):List Bool:=(noB m).set 0 true
def OP (a b:List Bool) (i:Nat):List Bool:=(List.range a.length).map fun j=>a.getD j false || (decide (j<i) && b.getD j false)
def orB (a b:List Bool):List Bool:=OP a b a.length
theorem OP_length (a b:List Bool) (i:Nat):(OP a b i).length=a.length:=by simp [OP]
theorem OP_get (a b:List Bool) {i j:Nat} (h:j<a.length):(OP a b i)[j]?=some (a.getD j false || (decide (j<i) && b.getD j false)):=by
 simp [OP,h]
theorem joinB_length (a b:List Bool):(joinB a b).length=a.length:=by
 unfold joinB;exact JB_length a b _ _ _
theorem noB_length (m:Nat):(noB m).length=m+1:=by simp [noB]
theorem oneB0_length (m:Nat):(oneB0 m).length=m+1:=by simp [oneB0,noB]
def repS (m:Nat) (mn:Int) (L:List Bool):Nat→List Bool × List Bool
 | 0=>(noB m,oneB0 m)
 | k+1=>((if mn≤k then orB (repS m mn L k).1 (repS m mn L k).2 else (repS m mn L k).1),joinB (repS m mn L k).2 L)
def lastN (m:Nat) (mn mx:Int):Int:=if mx<0 then mn+m else mx
def repB (m:Nat) (mn mx:Int) (L:List Bool):List Bool:=(repS m mn L (lastN m mn mx+1).toNat).1
theorem repS_length (m:Nat) (mn:Int) (L:List Bool):∀ k,(repS m mn L k).1.length=m+1∧(repS m mn L k).2.length=m+1
 | 0=>⟨noB_length m,oneB0_length m⟩
 | k+1=>by
  have ih:=repS_length m mn L k;rw [repS];refine ⟨?_,by rw [joinB_length];exact ih.2⟩
  dsimp only
  split
  ·unfold orB
   rw [OP_length];exact ih.1
  ·exact ih.1
mutual
def lens (m:Nat):T→List Bool
 | .nd k s mn mx l=>if k=1 then oneB0 m else if k=2 then (if 1≤m then (noB m).set 1 (!eqB s ST.none) else noB m) else if k=3 then catB m (oneB0 m) l else if k=4 then altB m (noB m) l else if k=5 then repB m mn mx (headB m l) else noB m
def catB (m:Nat):List Bool→List T→List Bool
 | acc,[]=>acc
 | acc,t::l=>catB m (joinB acc (lens m t)) l
def altB (m:Nat):List Bool→List T→List Bool
 | acc,[]=>acc
 | acc,t::l=>altB m (orB acc (lens m t)) l
def headB (m:Nat):List T→List Bool
 | []=>[]
 | t::_=>lens m t
end
theorem lens_eq (m:Nat) (t:T):lens m t=if t.kind=1 then oneB0 m else if t.kind=2 then (if 1≤m then (noB m).set 1 (!eqB t.set ST.none) else noB m) else if t.kind=3 then catB m (oneB0 m) t.subs else if t.kind=4 then altB m (noB m) t.subs else if t.kind=5 then repB m t.mn t.mx (headB m t.subs) else noB m:=by
 cases t
 rw [lens]
 rfl
theorem catB_length (m:Nat):∀ (l:List T) (acc:List Bool),(catB m acc l).length=acc.length
 | [],acc=>by rw [catB]
 | t::l,acc=>by rw [catB,catB_length m l,joinB_length]
theorem altB_length (m:Nat):∀ (l:List T) (acc:List Bool),(altB m acc l).length=acc.length
 | [],acc=>by rw [altB]
 | t::l,acc=>by
  rw [altB,altB_length m l];unfold orB;rw [OP_length]
theorem lens_length (m:Nat) (t:T):(lens m t).length=m+1:=by
 rw [lens_eq]
 split
 ·exact oneB0_length m
 ·split
  ·split
   ·rw [List.length_set,noB_length]
   ·exact noB_length m
  ·split
   ·rw [catB_length,oneB0_length]
   ·split
    ·rw [altB_length,noB_length]
    ·split
     ·exact (repS_length m _ _ _).1
     ·exact noB_length m
end P09
namespace P09
open P07 P08 Bytes
open Sets (ST)
structure TX where
 none:Bool
 endless:Bool
 first:ST
 least:Int
 most:Int
def TX.empty:TX:=⟨false,false,.none,0,0⟩
def TX.nothing:TX:=⟨true,false,.none,0,0⟩
def TX.cls (s:ST):TX:=if s.count=0 then .nothing else ⟨false,false,s,1,1⟩
def TX.then_ (t n:TX):TX:=if t.none=true∨n.none=true then .nothing else ⟨false,t.endless || n.endless,if t.least=0 then t.first.or n.first else t.first,t.least+n.least,t.most+n.most⟩
def TX.or_ (t o:TX):TX:=if t.none=true then o else if o.none=true then t else ⟨false,t.endless || o.endless,t.first.or o.first,min t.least o.least,max t.most o.most⟩
def TX.rep (t:TX) (mn mx:Int):TX:=if mx=0∨(t.none=true∧mn=0) then .empty else if t.none=true then t else if mx=-1 then ⟨false,t.endless || decide (0<t.most),t.first,mn * t.least,t.most⟩ else ⟨false,t.endless,t.first,mn * t.least,mx * t.most⟩
mutual
def txOf:T→TX
 | .nd k s mn mx l=>if k=2 then .cls s else if k=3 then catX .empty l else if k=4 then altX .nothing l else if k=5 then (headX l).rep mn mx else .empty
def catX:TX→List T→TX
 | acc,[]=>acc
 | acc,t::l=>catX (acc.then_ (txOf t)) l
def altX:TX→List T→TX
 | acc,[]=>acc
 | acc,t::l=>altX (acc.or_ (txOf t)) l
def headX:List T→TX
 | []=>.empty
 | t::_=>txOf t
end
theorem txOf_eq (t:T):txOf t=if t.kind=2 then .cls t.set else if t.kind=3 then catX .empty t.subs else if t.kind=4 then altX .nothing t.subs else if t.kind=5 then (headX t.subs).rep t.mn t.mx else .empty:=by
 cases t
 rw [txOf]
 rfl
theorem count_none:ST.none.count=0:=by decide +kernel
theorem count_zero {s:ST} (hs:s.Ok):s.count=0↔s=.none:=by
 constructor
 ·intro h
  exact ST.ext hs ST.none_ok fun b hb=>by rw [Sets.cnt_zero h b hb,ST.has_none]
 ·intro h
  rw [h];exact count_none
theorem or_none {s:ST} (hs:s.Ok):s.or .none=s:=ST.ext (ST.or_ok hs ST.none_ok) hs fun b hb=>by rw [ST.has_or _ _ b hb,ST.has_none,Bool.or_false]
theorem none_or {s:ST} (hs:s.Ok):ST.or .none s=s:=ST.ext (ST.or_ok ST.none_ok hs) hs fun b hb=>by rw [ST.has_or _ _ b hb,ST.has_none,Bool.false_or]
structure TX.In (x:TX) (B:Int):Prop where
 l0:0≤x.least
 l1:x.least≤B
 m0:0≤x.most
 m1:x.most≤B
 ok:x.first.Ok
theorem TX.In.mono {x:TX} {A B:Int} (h:x.In A) (hB:A≤B):x.In B:=⟨h.l0,by have:=h.l1;omega,h.m0,by have:=h.m1;omega,h.ok⟩
theorem TX.In.empty {B:Int} (h:0≤B):TX.empty.In B:=⟨Int.le_refl _,h,Int.le_refl _,h,ST.none_ok⟩
theorem TX.In.nothing {B:Int} (h:0≤B):TX.nothing.In B:=⟨Int.le_refl _,h,Int.le_refl _,h,ST.none_ok⟩
theorem TX.In.cls {s:ST} (hs:s.Ok) {B:Int} (h:1≤B):(TX.cls s).In B:=by
 unfold TX.cls
 split
 ·exact TX.In.nothing (by omega)
 ·exact ⟨by show (0:Int)≤1;omega,h,by show (0:Int)≤1;omega,h,hs⟩
theorem TX.In.then_ {x y:TX} {A B:Int} (h:x.In A) (k:y.In B):(x.then_ y).In (A+B):=by
 have h1:=h.l0;have h2:=h.l1;have h3:=h.m0;have h4:=h.m1;have k1:=k.l0;have k2:=k.l1;have k3:=k.m0;have k4:=k.m1;unfold TX.then_
 split
 ·exact TX.In.nothing (by omega)
 ·refine ⟨?_,?_,?_,?_,?_⟩
  ·show 0≤x.least+y.least;omega
  ·show x.least+y.least≤_;omega
  ·show 0≤x.most+y.most;omega
  ·show x.most+y.most≤_;omega
  ·show (if x.least=0 then _ else _:ST).Ok
   split
   ·exact ST.or_ok h.ok k.ok
   ·exact h.ok
theorem TX.In.or_ {x y:TX} {A B:Int} (h:x.In A) (k:y.In B):(x.or_ y).In (A+B):=by
 have h1:=h.l0;have h2:=h.l1;have h3:=h.m0;have h4:=h.m1;have k1:=k.l0;have k2:=k.l1;have k3:=k.m0;have k4:=k.m1;unfold TX.or_
 split
 ·exact k.mono (by omega)
 ·split
  ·exact h.mono (by omega)
  ·refine ⟨?_,?_,?_,?_,ST.or_ok h.ok k.ok⟩
   ·show 0≤min x.least y.least;omega
   ·show min x.least y.least≤_;omega
   ·show 0≤max x.most y.most;omega
   ·show max x.most y.most≤_;omega
theorem rep_in {d:Nat} {a:T} (h:if rnd 5 a.kind then 1≤d∧RT (d - 1) a else RT d a) {x mn:Int} (hx:x=(txOf a).least∨x=(txOf a).most) (hi:∀ e,RT e a→(txOf a).In (bnd e (cnt a))) (hm:mn≤20):mn * x≤bnd d (cnt a+1):=by
 have h0:0≤x:=by
  rcases hx with h1 | h1 <;> rw [h1]
  ·exact (hi d (IS.rt (k:=5) h)).l0
  ·exact (hi d (IS.rt (k:=5) h)).m0
 rw [Int.mul_comm];refine rep_bnd h h0 (fun e he=>?_) (fun hk=>?_) hm
 ·rcases hx with h1 | h1 <;> rw [h1]
  ·exact (hi e he).l1
  ·exact (hi e he).m1
 ·have h2:txOf a=.cls a.set:=by rw [txOf_eq,if_pos hk]
  have h3:(TX.cls a.set).least≤1∧(TX.cls a.set).most≤1:=by
   unfold TX.cls
   split
   ·exact ⟨by decide,by decide⟩
   ·exact ⟨Int.le_refl _,Int.le_refl _⟩
  rcases hx with h1 | h1 <;> rw [h1,h2]
  ·exact h3.1
  ·exact h3.2
mutual
theorem tx_in:∀ (t:T) (d:Nat),RT d t→(txOf t).In (bnd d (cnt t))
 | .nd k s mn mx l,d,h=>by
  obtain ⟨hb,hs,hl⟩:=h.bare;have hg:=bnd_ge d (1+cntL l);have hm:=bnd_mono (Nat.le_refl d) (show cntL l≤1+cntL l by omega)
  rw [txOf,cnt]
  by_cases h2:k=2
  ·rw [if_pos h2]
   exact TX.In.cls hs (by omega)
  ·rw [if_neg h2]
   by_cases h3:k=3
   ·rw [if_pos h3]
    exact (cat_in l d k hl .empty 0 (TX.In.empty (Int.le_refl 0))).mono (by omega)
   ·rw [if_neg h3]
    by_cases h4:k=4
    ·rw [if_pos h4]
     exact (alt_in l d k hl .nothing 0 (TX.In.nothing (Int.le_refl 0))).mono (by omega)
    ·rw [if_neg h4]
     by_cases h5:k=5
     ·rw [if_pos h5]
      obtain ⟨a,rfl,b0,b1,bx,ha⟩:=one_sub h h5;have ec:1+cntL [a]=cnt a+1:=by rw [cntL,cntL];omega
      rw [headX,ec];rw [ec] at hg;have hi:=fun e he=>tx_in a e he
      have hx:=hi d (IS.rt (k:=5) ha);have hmo:=bnd_mono (Nat.le_refl d) (show cnt a≤cnt a+1 by omega)
      have hr1:=rep_in ha (.inl rfl) hi b1;have hr2:=rep_in ha (mn:=mx) (.inr rfl) hi (by omega)
      unfold TX.rep
      split
      ·exact TX.In.empty (by omega)
      ·split
       ·exact hx.mono (by omega)
       ·rename_i q1 q2
        split
        ·exact ⟨Int.mul_nonneg b0 hx.l0,hr1,hx.m0,by have:=hx.m1;show (txOf a).most≤_;omega,hx.ok⟩
        ·exact ⟨Int.mul_nonneg b0 hx.l0,hr1,Int.mul_nonneg (by omega) hx.m0,hr2,hx.ok⟩
     ·rw [if_neg h5]
      exact TX.In.empty (by omega)
theorem cat_in:∀ (l:List T) (d:Nat) (k:Int),RL d k l→∀ (acc:TX) (A:Int),acc.In A→(catX acc l).In (A+bnd d (cntL l))
 | [],d,k,_,acc,A,h=>by rw [catX];exact h.mono (by omega)
 | t::l,d,k,hR,acc,A,h=>by
  obtain ⟨h1,h2⟩:=RL_cons hR;rw [catX,cntL];have h6:=bnd_add d (cnt t) (cntL l);exact (cat_in l d k h2 _ _ (h.then_ (tx_in t d (IS.rt (k:=k) h1)))).mono (by omega)
theorem alt_in:∀ (l:List T) (d:Nat) (k:Int),RL d k l→∀ (acc:TX) (A:Int),acc.In A→(altX acc l).In (A+bnd d (cntL l))
 | [],d,k,_,acc,A,h=>by rw [altX];exact h.mono (by omega)
 | t::l,d,k,hR,acc,A,h=>by
  obtain ⟨h1,h2⟩:=RL_cons hR;rw [altX,cntL];have h6:=bnd_add d (cnt t) (cntL l);exact (alt_in l d k h2 _ _ (h.or_ (tx_in t d (IS.rt (k:=k) h1)))).mono (by omega)
end
structure Same (x:TX) (t:T):Prop where
 none:x.none=noneB t
 zero:noneB t=true→x=.nothing
 least:noneB t=false→x.least=leastI t
 inf:noneB t=false→x.endless=true→mostI t=-1
 fin:noneB t=false→x.endless=false→mostI t=x.most
theorem catX_nothing:∀ l,catX .nothing l=.nothing
 | []=>by rw [catX]
 | t::l=>by
  rw [catX];have:TX.nothing.then_ (txOf t)=.nothing:=by
   unfold TX.then_;rw [if_pos (.inl rfl)]
  rw [this];exact catX_nothing l
theorem mostL_neg {k:Int} {t:T} {l:List T} {acc:Int} (hn:noneB t=false) (hm:mostI t=-1):mostL k acc (t::l)=-1:=by
 rw [mostL,if_neg (by rw [hn];decide),if_pos (by omega)]
mutual
theorem tx_same:∀ (t:T) (d:Nat),RT d t→Same (txOf t) t
 | .nd k s mn mx l,d,h=>by
  obtain ⟨hb,hs,hl⟩:=h.bare;have en:=noneB_eq (.nd k s mn mx l);have el:=leastI_eq (.nd k s mn mx l);have em:=mostI_eq (.nd k s mn mx l);obtain ⟨N,hN⟩:∃ N,noneB (.nd k s mn mx l)=N:=⟨_,rfl⟩;obtain ⟨Le,hLe⟩:∃ Le,leastI (.nd k s mn mx l)=Le:=⟨_,rfl⟩;obtain ⟨M,hM⟩:∃ M,mostI (.nd k s mn mx l)=M:=⟨_,rfl⟩;rw [hN] at en el em;rw [hLe] at el;rw [hM] at em;unfold T.kind T.set T.mn T.subs at en;unfold T.kind T.mn T.subs at el;unfold T.kind T.mx T.subs at em
  dsimp only at en el em
  suffices hh:(txOf (.nd k s mn mx l)).none=N∧(N=true→txOf (.nd k s mn mx l)=.nothing)∧(N=false→(txOf (.nd k s mn mx l)).least=Le∧((txOf (.nd k s mn mx l)).endless=true→M=-1)∧((txOf (.nd k s mn mx l)).endless=false→M=(txOf (.nd k s mn mx l)).most)) by
   exact ⟨by rw [hN];exact hh.1,by rw [hN];exact hh.2.1,fun h=>by rw [hN] at h;rw [hLe];exact (hh.2.2 h).1,fun h=>by rw [hN] at h;rw [hM];exact (hh.2.2 h).2.1,fun h=>by rw [hN] at h;rw [hM];exact (hh.2.2 h).2.2⟩
  clear hN hLe hM;rw [txOf]
  by_cases h2:k=2
  ·rw [if_pos h2] at en el em ⊢
   unfold TX.cls
   by_cases hc:s.count=0
   ·rw [if_pos hc]
    have:N=true:=by rw [en];exact eqB_iff.2 ((count_zero hs).1 hc)
    subst this;exact ⟨rfl,fun _=>rfl,fun h=>by cases h⟩
   ·rw [if_neg hc]
    have:N=false:=by
     rw [en];exact eqB_ne fun h=>hc ((count_zero hs).2 h)
    subst this;rw [if_neg (by decide)] at el em
    exact ⟨rfl,fun h=>(by cases h),fun _=>⟨el.symm,fun h=>(by cases h),fun _=>em⟩⟩
  ·rw [if_neg h2] at en el em ⊢
   by_cases h3:k=3
   ·rw [if_pos h3] at en el ⊢
    rw [if_pos (show k=3∨k=4 from .inl h3)] at em
    have hc:=cat_same l d k hl
    cases N with
    | true =>
     have h1:=hc.1 en.symm .empty;rw [h1];exact ⟨rfl,fun _=>rfl,fun h=>by cases h⟩
    | false =>
     rw [if_neg (by decide)] at el em
     have h1:=hc.2 en.symm .empty rfl (Int.le_refl 0) (Int.le_refl 0);subst h3;refine ⟨h1.1,fun h=>(by cases h),fun _=>⟨by rw [el];exact h1.2.1,fun h=>?_,fun h=>?_⟩⟩
     ·rw [em];exact (h1.2.2.2 rfl).1 h
     ·rw [em];exact (h1.2.2.2 rfl).2 h
   ·rw [if_neg h3] at en el ⊢
    by_cases h4:k=4
    ·rw [if_pos h4] at en el ⊢
     rw [if_pos (show k=3∨k=4 from .inr h4)] at em
     have hc:=(alt_same l d k hl).1
     cases N with
     | true =>
      rw [hc.1 en.symm];exact ⟨rfl,fun _=>rfl,fun h=>by cases h⟩
     | false =>
      rw [if_neg (by decide)] at el em
      have h1:=hc.2 en.symm;subst h4;exact ⟨h1.1,fun h=>(by cases h),fun _=>⟨by rw [el];exact h1.2.1,fun h=>by rw [em];exact h1.2.2.1 h,fun h=>by rw [em];exact h1.2.2.2 h⟩⟩
    ·rw [if_neg h4] at en el ⊢
     rw [if_neg (show ¬ (k=3∨k=4) by omega)] at em
     by_cases h5:k=5
     ·rw [if_pos h5] at en em ⊢
      obtain ⟨a,rfl,b0,b1,bx,ha⟩:=one_sub h h5;have hra:RT d a:=IS.rt (k:=5) ha;have hS:=tx_same a d hra;have hI:=tx_in a d hra;rw [headN] at en em;rw [headM] at em;rw [headLe] at el;rw [headX];have hmo:=most_bnd a d hra;generalize txOf a=x at hS hI ⊢
      cases hna:noneB a with
      | true =>
       rw [hna,Bool.and_true] at en;have hx:=hS.zero hna;subst hx;unfold TX.rep
       by_cases hm:0<mn
       ·rw [decide_eq_true hm] at en
        subst en;rw [if_neg (by rintro (h | h);omega;omega),if_pos (show TX.nothing.none=true from rfl)]
        exact ⟨rfl,fun _=>rfl,fun h=>by cases h⟩
       ·rw [decide_eq_false hm] at en
        subst en;rw [if_pos (.inr ⟨rfl,by omega⟩)]
        rw [if_neg (by decide),if_neg (by omega)] at el
        rw [if_neg (by decide),if_pos (.inl hna)] at em
        exact ⟨rfl,fun h=>(by cases h),fun _=>⟨el.symm,fun h=>(by cases h),fun _=>em⟩⟩
      | false =>
       rw [hna,Bool.and_false] at en;subst en;rw [if_neg (by decide)] at el em
       have hxn:x.none=false:=hS.none.trans hna;have hle:=hS.least hna;have hin:=hS.inf hna;have hfi:=hS.fin hna;have h0:=hI.l0;have h1:=hI.m0;unfold TX.rep
       by_cases hm:mx=0
       ·rw [if_pos (.inl hm)]
        rw [if_pos (.inr hm)] at em;have:mn=0:=by omega
        rw [if_neg (by omega)] at el
        exact ⟨rfl,fun h=>(by cases h),fun _=>⟨el.symm,fun h=>(by cases h),fun _=>em⟩⟩
       ·rw [if_neg (by rintro (h | h);exact hm h;rw [hxn] at h;cases h.1),if_neg (by rw [hxn];decide)]
        rw [if_neg (by rintro (h | h);rw [hna] at h;cases h;exact hm h)] at em
        have hLe:Le=mn * x.least:=by
         rw [el,hle]
         split
         ·rfl
         ·have:mn=0:=by omega
          rw [this,Int.zero_mul]
        by_cases hu:mx=-1
        ·rw [if_pos hu]
         refine ⟨rfl,fun h=>(by cases h),fun _=>⟨hLe.symm,?_,?_⟩⟩
         ·intro he
          dsimp only at he
          rw [Bool.or_eq_true] at he
          cases hxe:x.endless with
          | true =>
           have:=hin hxe;rw [if_neg (by omega),if_pos (by omega)] at em
           exact em
          | false =>
           have h2:=hfi hxe;rw [hxe] at he;have h3:0<x.most:=by
            rcases he with he | he
            ·cases he
            ·exact of_decide_eq_true he
           rw [if_neg (by omega),if_pos (by omega)] at em
           exact em
         ·intro he
          dsimp only at he ⊢
          rw [Bool.or_eq_false_iff] at he;have h2:=hfi he.1;have h3:=of_decide_eq_false he.2;rw [if_pos (by omega)] at em
          omega
        ·rw [if_neg hu]
         refine ⟨rfl,fun h=>(by cases h),fun _=>⟨hLe.symm,?_,?_⟩⟩
         ·intro he
          have:=hin he;rw [if_neg (by omega),if_pos (by omega)] at em
          exact em
         ·intro he
          have h2:=hfi he
          dsimp only
          by_cases h3:mostI a=0
          ·rw [if_pos h3] at em
           rw [em,show x.most=0 from by omega,Int.mul_zero]
          ·rw [if_neg h3,if_neg (by omega)] at em
           rw [em,h2,Int.mul_comm]
     ·rw [if_neg h5] at en em ⊢
      subst en;rw [if_neg (by decide)] at el em
      rw [if_neg (show ¬ (k=5∧0<mn) by omega)] at el
      exact ⟨rfl,fun h=>(by cases h),fun _=>⟨el.symm,fun h=>(by cases h),fun _=>em⟩⟩
theorem cat_same:∀ (l:List T) (d:Nat) (k:Int),RL d k l→(anyN l=true→∀ acc:TX,catX acc l=.nothing)∧(anyN l=false→∀ acc:TX,acc.none=false→0≤acc.least→0≤acc.most→(catX acc l).none=false∧(catX acc l).least=sumLe acc.least l∧(acc.endless=true→(catX acc l).endless=true)∧(acc.endless=false→((catX acc l).endless=true→mostL 3 acc.most l=-1)∧((catX acc l).endless=false→mostL 3 acc.most l=(catX acc l).most)))
 | [],d,k,_=>by
  refine ⟨fun h=>?_,fun _ acc h0 h1 h2=>?_⟩
  ·rw [anyN] at h
   cases h
  ·rw [catX,sumLe,mostL]
   exact ⟨h0,rfl,fun h=>h,fun h=>⟨fun h'=>(by rw [h] at h';cases h'),fun _=>rfl⟩⟩
 | t::l,d,k,hR=>by
  obtain ⟨h1,h2⟩:=RL_cons hR;have hS:=tx_same t d (IS.rt (k:=k) h1);have hI:=tx_in t d (IS.rt (k:=k) h1);have ih:=cat_same l d k h2;refine ⟨fun h acc=>?_,fun h acc h0 hl0 hm0=>?_⟩
  ·rw [anyN] at h
   rw [catX]
   cases hn:noneB t with
   | true =>
    have:acc.then_ (txOf t)=.nothing:=by
     unfold TX.then_;rw [if_pos (.inr (hS.none.trans hn))]
    rw [this];exact catX_nothing l
   | false =>
    rw [hn,Bool.false_or] at h;exact ih.1 h _
  ·rw [anyN,Bool.or_eq_false_iff] at h
   have hth:acc.then_ (txOf t)=⟨false,acc.endless || (txOf t).endless,if acc.least=0 then acc.first.or (txOf t).first else acc.first,acc.least+(txOf t).least,acc.most+(txOf t).most⟩:=by
    unfold TX.then_;rw [if_neg (by rw [h0,hS.none,h.1];simp)]
   rw [catX,sumLe];have hle:=hS.least h.1;have hi0:=hI.l0;have hi1:=hI.m0;have h3:=ih.2 h.2 (acc.then_ (txOf t)) (by rw [hth]) (by rw [hth];show 0≤acc.least+(txOf t).least;omega) (by rw [hth];show 0≤acc.most+(txOf t).most;omega)
   have e1:(acc.then_ (txOf t)).least=acc.least+leastI t:=by rw [hth,← hle]
   have e2:(acc.then_ (txOf t)).most=acc.most+(txOf t).most:=by rw [hth]
   have e3:(acc.then_ (txOf t)).endless=(acc.endless || (txOf t).endless):=by rw [hth]
   rw [e1,e2,e3] at h3;refine ⟨h3.1,h3.2.1,fun he=>h3.2.2.1 (by rw [he];rfl),fun he=>?_⟩
   rw [he,Bool.false_or] at h3
   cases hxe:(txOf t).endless with
   | true =>
    have h4:=h3.2.2.1 hxe;rw [mostL_neg h.1 (hS.inf h.1 hxe),h4];exact ⟨fun _=>rfl,fun h=>by cases h⟩
   | false =>
    have h4:=hS.fin h.1 hxe;rw [mostL,if_neg (by rw [h.1];decide),if_neg (by omega),if_pos rfl,h4]
    exact h3.2.2.2 hxe
theorem alt_same:∀ (l:List T) (d:Nat) (k:Int),RL d k l→((allN l=true→altX .nothing l=.nothing)∧(allN l=false→(altX .nothing l).none=false∧(altX .nothing l).least=minLe (-1) l∧((altX .nothing l).endless=true→mostL 4 0 l=-1)∧((altX .nothing l).endless=false→mostL 4 0 l=(altX .nothing l).most)))
  ∧ ∀ acc:TX,acc.none=false→0≤acc.least→0≤acc.most→(altX acc l).none=false∧(altX acc l).least=minLe acc.least l∧(acc.endless=true→(altX acc l).endless=true)∧(acc.endless=false→((altX acc l).endless=true→mostL 4 acc.most l=-1)∧((altX acc l).endless=false→mostL 4 acc.most l=(altX acc l).most))
 | [],d,k,_=>by
  refine ⟨⟨fun _=>by rw [altX],fun h=>?_⟩,fun acc h0 h1 h2=>?_⟩
  ·rw [allN] at h
   cases h
  ·rw [altX,minLe,mostL]
   exact ⟨h0,rfl,fun h=>h,fun h=>⟨fun h'=>(by rw [h] at h';cases h'),fun _=>rfl⟩⟩
 | t::l,d,k,hR=>by
  obtain ⟨h1,h2⟩:=RL_cons hR;have hS:=tx_same t d (IS.rt (k:=k) h1);have hI:=tx_in t d (IS.rt (k:=k) h1);have hB:=(least_bnd t d (IS.rt (k:=k) h1));have ih:=alt_same l d k h2;have hno:TX.nothing.or_ (txOf t)=txOf t:=by
   unfold TX.or_;rw [if_pos (show TX.nothing.none=true from rfl)]
  have hi0:=hI.l0;have hi1:=hI.m0;refine ⟨?_,fun acc h0 hl0 hm0=>?_⟩
  ·rw [altX,hno,allN,minLe]
   cases hn:noneB t with
   | true =>
    rw [hS.zero hn,Bool.true_and,mostL,if_pos hn,if_neg (by have:=hB.1 hn;omega)]
    exact ih.1
   | false =>
    rw [Bool.false_and];refine ⟨fun h=>(by cases h),fun _=>?_⟩
    have h3:=ih.2 (txOf t) (hS.none.trans hn) hi0 hi1;have hle:=hS.least hn;rw [if_pos (by omega),← hle]
    refine ⟨h3.1,h3.2.1,?_⟩
    cases hxe:(txOf t).endless with
    | true =>
     have h4:=h3.2.2.1 hxe;rw [mostL_neg hn (hS.inf hn hxe),h4];exact ⟨fun _=>rfl,fun h=>by cases h⟩
    | false =>
     have h4:=hS.fin hn hxe;rw [mostL,if_neg (by rw [hn];decide),if_neg (by omega),if_neg (by decide),h4,show max 0 (txOf t).most=(txOf t).most from by omega]
     exact h3.2.2.2 hxe
  ·rw [altX,minLe]
   cases hn:noneB t with
   | true =>
    have:acc.or_ (txOf t)=acc:=by
     unfold TX.or_;rw [if_neg (by rw [h0];decide),if_pos (hS.none.trans hn)]
    rw [this,mostL,if_pos hn,if_neg (by have:=hB.1 hn;omega)]
    exact ih.2 acc h0 hl0 hm0
   | false =>
    have hth:acc.or_ (txOf t)=⟨false,acc.endless || (txOf t).endless,acc.first.or (txOf t).first,min acc.least (txOf t).least,max acc.most (txOf t).most⟩:=by
     unfold TX.or_;rw [if_neg (by rw [h0];decide),if_neg (by rw [hS.none,hn];decide)]
    have hle:=hS.least hn;have h3:=ih.2 (acc.or_ (txOf t)) (by rw [hth]) (by rw [hth];show 0≤min acc.least (txOf t).least;omega) (by rw [hth];show 0≤max acc.most (txOf t).most;omega)
    have e1:(acc.or_ (txOf t)).least=if 0≤leastI t∧(acc.least<0∨leastI t<acc.least) then leastI t else acc.least:=by
     rw [hth,← hle]
     show min acc.least (txOf t).least=_
     split <;> omega
    have e2:(acc.or_ (txOf t)).most=max acc.most (txOf t).most:=by rw [hth]
    have e3:(acc.or_ (txOf t)).endless=(acc.endless || (txOf t).endless):=by rw [hth]
    rw [e1,e2,e3] at h3;refine ⟨h3.1,h3.2.1,fun he=>h3.2.2.1 (by rw [he];rfl),fun he=>?_⟩
    rw [he,Bool.false_or] at h3
    cases hxe:(txOf t).endless with
    | true =>
     have h4:=h3.2.2.1 hxe;rw [mostL_neg hn (hS.inf hn hxe),h4];exact ⟨fun _=>rfl,fun h=>by cases h⟩
    | false =>
     have h4:=hS.fin hn hxe;rw [mostL,if_neg (by rw [hn];decide),if_neg (by omega),if_neg (by decide),h4]
     exact h3.2.2.2 hxe
end
end P09
namespace P09
open P07 P08 Bytes
open Sets (ST)
def Hs (L:List Bool) (k:Nat):Prop:=L.getD k false=true
theorem Hs.lt {L:List Bool} {k:Nat} (h:Hs L k):k<L.length:=by
 unfold Hs at h
 rcases Nat.lt_or_ge k L.length with h1 | h1
 ·exact h1
 ·rw [List.getD_eq_getElem?_getD,List.getElem?_eq_none h1] at h
  cases h
theorem hs_of {L:List Bool} {k:Nat} {b:Bool} (h:L[k]?=some b):Hs L k↔b=true:=by
 unfold Hs;rw [List.getD_eq_getElem?_getD,h]
 rfl
theorem hs_no {m k:Nat}:¬ Hs (noB m) k:=by
 intro h;have h1:=h.lt;rw [noB_length] at h1;have:=(hs_of (L:=noB m) (k:=k) (b:=false) (by simp [noB,h1])).1 h
 cases this
theorem hs_one {m k:Nat}:Hs (oneB0 m) k↔k=0:=by
 constructor
 ·intro h
  have h1:=h.lt;rw [oneB0_length] at h1
  rcases Nat.eq_zero_or_pos k with h0 | h0
  ·exact h0
  ·have:=(hs_of (L:=oneB0 m) (k:=k) (b:=false) (by unfold oneB0;rw [List.getElem?_set,if_neg (by omega)];simp [noB,h1])).1 h
   cases this
 ·intro h
  subst h;exact (hs_of (L:=oneB0 m) (k:=0) (b:=true) (by unfold oneB0;rw [List.getElem?_set,if_pos rfl,if_pos (by rw [noB_length];omega)])).2 rfl
theorem hs_or {a b:List Bool} {k:Nat} (hl:b.length=a.length):Hs (orB a b) k↔Hs a k∨Hs b k:=by
 rcases Nat.lt_or_ge k a.length with h1 | h1
 ·unfold orB
  rw [hs_of (OP_get a b h1),Bool.or_eq_true,decide_eq_true h1,Bool.true_and];exact Iff.rfl
 ·constructor
  ·intro h
   have:=h.lt;unfold orB at this;rw [OP_length] at this;omega
  ·rintro (h | h)
   ·have:=h.lt
    omega
   ·have:=h.lt
    omega
theorem hs_join {a b:List Bool} {k:Nat}:Hs (joinB a b) k↔k<a.length∧∃ i j,i+j=k∧Hs a i∧Hs b j:=by
 rcases Nat.lt_or_ge k a.length with h1 | h1
 ·unfold joinB
  have e:decide (a.length≤k∧k<a.length+0)=false:=decide_eq_false (by omega)
  rw [hs_of (JB_get a b h1),e,Bool.false_and,Bool.or_false];unfold jrow;rw [List.any_eq_true]
  constructor
  ·rintro ⟨i,hi,h⟩
   rw [Bool.and_eq_true,Bool.and_eq_true,decide_eq_true_eq] at h;exact ⟨h1,i,k - i,by omega,h.2.1,h.2.2⟩
  ·rintro ⟨-,i,j,hk,hi,hj⟩
   refine ⟨i,List.mem_range.2 hi.lt,?_⟩;rw [Bool.and_eq_true,Bool.and_eq_true,decide_eq_true_eq];refine ⟨by omega,hi,?_⟩
   rw [show k - i=j from by omega]
   exact hj
 ·constructor
  ·intro h
   have:=h.lt;rw [joinB_length] at this;omega
  ·rintro ⟨h,-⟩
   omega
structure LF (m:Nat) (t:T):Prop where
 no:noneB t=true→∀ k,¬ Hs (lens m t) k
 lo:∀ k,Hs (lens m t) k→leastI t≤k∧(0≤mostI t→(k:Int)≤mostI t)
 at_:noneB t=false→leastI t≤m→Hs (lens m t) (leastI t).toNat
theorem sumLe_mono:∀ (l:List T) (a b:Int),a≤b→sumLe a l≤sumLe b l
 | [],a,b,h=>by rw [sumLe,sumLe];exact h
 | t::l,a,b,h=>by rw [sumLe,sumLe];exact sumLe_mono l _ _ (by omega)
theorem mostL_mono:∀ (l:List T) (a b:Int),0≤a→a≤b→mostL 3 a l≤mostL 3 b l∧(0≤mostL 3 b l→0≤mostL 3 a l)
 | [],a,b,h0,h=>by rw [mostL,mostL];omega
 | t::l,a,b,h0,h=>by
  rw [mostL,mostL]
  split
  ·exact mostL_mono l a b h0 h
  ·split
   ·omega
   ·rw [if_pos rfl,if_pos rfl]
    exact mostL_mono l _ _ (by omega) (by omega)
theorem mostL4_ge:∀ (l:List T) (a:Int),0≤a→0≤mostL 4 a l→a≤mostL 4 a l
 | [],a,h0,h=>by rw [mostL];omega
 | t::l,a,h0,h=>by
  rw [mostL] at h ⊢
  split
  ·rename_i hn
   rw [if_pos hn] at h;exact mostL4_ge l a h0 h
  ·rename_i hn
   rw [if_neg hn] at h
   split
   ·rename_i hm
    rw [if_pos hm] at h;omega
   ·rename_i hm
    rw [if_neg hm,if_neg (by decide)] at h
    rw [if_neg (by decide)]
    have:=mostL4_ge l _ (by omega) h
    omega
theorem min_le:∀ (l:List T) (a:Int),0≤a→minLe a l≤a
 | [],a,h=>by rw [minLe];exact Int.le_refl _
 | t::l,a,h=>by
  rw [minLe]
  split
  ·have:=min_le l (leastI t) (by omega)
   omega
  ·exact min_le l a h
theorem rep_two {m:Nat} {mn:Int} {L:List Bool} (hl:L.length=m+1) {lo hi:Int} (hlo:∀ k,Hs L k→lo≤k∧(0≤hi→(k:Int)≤hi)):∀ (n i:Nat),Hs (repS m mn L n).2 i→(n:Int) * lo≤i∧(0≤hi→(i:Int)≤n * hi)
 | 0,i,h=>by
  rw [repS] at h;have:=hs_one.1 h;subst this
  simp
 | n+1,i,h=>by
  rw [repS] at h;obtain ⟨-,a,b,rfl,ha,hb⟩:=hs_join.1 h;have h1:=rep_two hl hlo n a ha;have h2:=hlo b hb;have e1:((n+1:Nat):Int) * lo=n * lo+lo:=by rw [Int.natCast_add,Int.add_mul];omega
  have e2:((n+1:Nat):Int) * hi=n * hi+hi:=by rw [Int.natCast_add,Int.add_mul];omega
  rw [e1,e2];refine ⟨by have:=h1.1;have:=h2.1;omega,fun h=>?_⟩
  have:=h1.2 h;have:=h2.2 h;omega
theorem rep_at {m:Nat} {mn:Int} {L:List Bool} {a:Nat} (ha:Hs L a):∀ (n:Nat),n * a≤m→Hs (repS m mn L n).2 (n * a)
 | 0,h=>by
  rw [repS,Nat.zero_mul];exact hs_one.2 rfl
 | n+1,h=>by
  rw [Nat.add_mul,Nat.one_mul] at h ⊢;rw [repS];exact hs_join.2 ⟨by rw [(repS_length m mn L n).2];omega,n * a,a,rfl,rep_at ha n (by omega),ha⟩
theorem rep_one {m:Nat} {mn:Int} {L:List Bool}:∀ (n i:Nat),Hs (repS m mn L n).1 i↔∃ k:Nat,k<n∧mn≤k∧Hs (repS m mn L k).2 i
 | 0,i=>by
  rw [repS];exact ⟨fun h=>absurd h hs_no,fun ⟨k,h,_⟩=>by omega⟩
 | n+1,i=>by
  rw [repS];have ih:=rep_one (m:=m) (mn:=mn) (L:=L) n i;have hl:=repS_length m mn L n
  dsimp only
  split
  ·rename_i hm
   rw [hs_or (by rw [hl.1,hl.2]),ih]
   constructor
   ·rintro (⟨k,h1,h2,h3⟩ | h)
    ·exact ⟨k,by omega,h2,h3⟩
    ·exact ⟨n,by omega,hm,h⟩
   ·rintro ⟨k,h1,h2,h3⟩
    rcases Nat.lt_or_ge k n with h4 | h4
    ·exact .inl ⟨k,h4,h2,h3⟩
    ·have:k=n:=by omega
     subst this;exact .inr h3
  ·rename_i hm
   rw [ih]
   constructor
   ·rintro ⟨k,h1,h2,h3⟩
    exact ⟨k,by omega,h2,h3⟩
   ·rintro ⟨k,h1,h2,h3⟩
    rcases Nat.lt_or_ge k n with h4 | h4
    ·exact ⟨k,h4,h2,h3⟩
    ·have:k=n:=by omega
     subst this;exact absurd h2 hm
theorem rep_nothing {m:Nat} {mn:Int} {L:List Bool} (h:∀ k,¬ Hs L k):∀ (n i:Nat),0<n→¬ Hs (repS m mn L n).2 i
 | 0,i,h0=>by omega
 | n+1,i,_=>by
  rw [repS];intro hh;obtain ⟨-,a,b,-,-,hb⟩:=hs_join.1 hh;exact h b hb
mutual
theorem lens_facts (m:Nat):∀ (t:T) (d:Nat),RT d t→LF m t
 | .nd k s mn mx l,d,h=>by
  obtain ⟨hb,hs,hl⟩:=h.bare;have en:=noneB_eq (.nd k s mn mx l);have el:=leastI_eq (.nd k s mn mx l);have em:=mostI_eq (.nd k s mn mx l);have eL:=lens_eq m (.nd k s mn mx l);obtain ⟨N,hN⟩:∃ N,noneB (.nd k s mn mx l)=N:=⟨_,rfl⟩;obtain ⟨Le,hLe⟩:∃ Le,leastI (.nd k s mn mx l)=Le:=⟨_,rfl⟩;obtain ⟨M,hM⟩:∃ M,mostI (.nd k s mn mx l)=M:=⟨_,rfl⟩;obtain ⟨B,hB⟩:∃ B,lens m (.nd k s mn mx l)=B:=⟨_,rfl⟩;rw [hN] at en el em;rw [hLe] at el;rw [hM] at em;rw [hB] at eL;unfold T.kind T.set T.mn T.subs at en;unfold T.kind T.mn T.subs at el;unfold T.kind T.mx T.subs at em;unfold T.kind T.set T.mn T.mx T.subs at eL
  dsimp only at en el em eL
  suffices hh:(N=true→∀ k,¬ Hs B k)∧(∀ k,Hs B k→Le≤k∧(0≤M→(k:Int)≤M))∧(N=false→Le≤m→Hs B Le.toNat) by
   exact ⟨by rw [hN,hB];exact hh.1,by rw [hLe,hM,hB];exact hh.2.1,by rw [hN,hLe,hB];exact hh.2.2⟩
  clear hN hLe hM hB
  by_cases h2:k=2
  ·rw [if_pos h2] at en el em
   rw [if_neg (by omega),if_pos h2] at eL
   have hB:∀ i,Hs B i↔i=1∧1≤m∧N=false:=fun i=>by
    rw [eL]
    split
    ·rename_i h1
     by_cases hi:i=1
     ·subst hi
      rw [hs_of (b:=!eqB s ST.none) (by rw [List.getElem?_set,if_pos rfl,if_pos (by rw [noB_length];omega)]),en]
      cases eqB s ST.none <;> simp [h1]
     ·constructor
      ·intro hh
       have hlt:=hh.lt;rw [List.length_set,noB_length] at hlt;have:=(hs_of (b:=false) (by rw [List.getElem?_set,if_neg (by omega)];simp [noB,hlt])).1 hh
       cases this
      ·rintro ⟨h3,-⟩
       exact absurd h3 hi
    ·rename_i h1
     exact ⟨fun h=>absurd h hs_no,fun h=>absurd h.2.1 h1⟩
   refine ⟨fun hn i hh=>?_,fun i hh=>?_,fun hn hle=>?_⟩
   ·have:=((hB i).1 hh).2.2
    rw [hn] at this
    cases this
   ·obtain ⟨h3,h4,h5⟩:=(hB i).1 hh
    rw [h5,if_neg (by decide)] at el em
    omega
   ·rw [hn,if_neg (by decide)] at el
    rw [el];exact (hB _).2 ⟨rfl,by omega,hn⟩
  ·rw [if_neg h2] at en el em
   by_cases h3:k=3
   ·rw [if_pos h3] at en el
    rw [if_pos (show k=3∨k=4 from .inl h3)] at em
    rw [if_neg (by omega),if_neg h2,if_pos h3] at eL
    have hc:=cat_facts m l d k hl;subst h3;refine ⟨fun hn i hh=>?_,fun i hh=>?_,fun hn hle=>?_⟩
    ·rw [eL] at hh
     obtain ⟨-,-,-,-,h5⟩:=hc.1 _ i (oneB0_length m) hh;rw [← en,hn] at h5
     cases h5
    ·rw [eL] at hh
     obtain ⟨j,hj,h4,h6,h5⟩:=hc.1 _ i (oneB0_length m) hh;have:=hs_one.1 hj;subst this;rw [en,h5,if_neg (by decide)] at el em
     rw [el,em];exact ⟨h4,h6⟩
    ·rw [hn,if_neg (by decide)] at el
     rw [eL,el];rw [el] at hle;exact hc.2 (by rw [← en,hn]) _ 0 (oneB0_length m) (hs_one.2 rfl) hle
   ·rw [if_neg h3] at en el
    by_cases h4:k=4
    ·rw [if_pos h4] at en el
     rw [if_pos (show k=3∨k=4 from .inr h4)] at em
     rw [if_neg (by omega),if_neg h2,if_neg h3,if_pos h4] at eL
     have hc:=alt_facts m l d k hl;subst h4;refine ⟨fun hn i hh=>?_,fun i hh=>?_,fun hn hle=>?_⟩
     ·rw [eL] at hh
      rcases hc.1 _ i (noB_length m) hh with hh | ⟨h5,-⟩
      ·exact hs_no hh
      ·rw [← en,hn] at h5
       cases h5
     ·rw [eL] at hh
      rcases hc.1 _ i (noB_length m) hh with hh | ⟨h5,h6⟩
      ·exact absurd hh hs_no
      ·rw [en,h5,if_neg (by decide)] at el em
       have h7:=h6 (-1) 0 (by omega) (by omega)
       rw [el,em];exact ⟨h7.1,h7.2⟩
     ·rw [hn,if_neg (by decide)] at el
      rw [eL,el];rw [el] at hle;exact hc.2 _ (-1) (noB_length m) (Int.le_refl _) (by rw [← en];exact .inr hn) (fun h=>by omega) hle
    ·rw [if_neg h4] at en el
     rw [if_neg (show ¬ (k=3∨k=4) by omega)] at em
     by_cases h5:k=5
     ·rw [if_pos h5] at en em
      rw [if_neg (by omega),if_neg h2,if_neg h3,if_neg h4,if_pos h5] at eL
      obtain ⟨a,rfl,b0,b1,bx,ha⟩:=one_sub h h5;have hra:RT d a:=IS.rt (k:=5) ha;have hF:=lens_facts m a d hra;have hlb:=least_bnd a d hra;have hmb:=most_bnd a d hra;rw [headN] at en em;rw [headM] at em;rw [headLe] at el;rw [headB] at eL;have hL:=lens_length m a;unfold repB at eL;have hK:mn<((lastN m mn mx+1).toNat:Int)∧(0≤mx→(((lastN m mn mx+1).toNat:Nat):Int)≤mx+1):=by
       unfold lastN
       split <;> omega
      generalize (lastN m mn mx+1).toNat=K at eL hK;have hB:∀ i,Hs B i↔∃ k:Nat,k<K∧mn≤k∧Hs (repS m mn (lens m a) k).2 i:=fun i=>by
       rw [eL];exact rep_one K i
      obtain ⟨hno,hlo,hat⟩:=hF;generalize lens m a=L at hno hlo hat hL hB;refine ⟨fun hn i hh=>?_,fun i hh=>?_,fun hn hle=>?_⟩
      ·rw [hn] at en
       have en2:=en.symm;rw [Bool.and_eq_true,decide_eq_true_eq] at en2;obtain ⟨q,h6,h7,h8⟩:=(hB i).1 hh;exact rep_nothing (hno en2.2) q i (by omega) h8
      ·obtain ⟨q,h6,h7,h8⟩:=(hB i).1 hh
       cases hna:noneB a with
       | true =>
        rw [hna,Bool.and_true] at en;have hq0:q=0:=by
         rcases Nat.eq_zero_or_pos q with h9 | h9
         ·exact h9
         ·exact absurd h8 (rep_nothing (hno hna) q i h9)
        subst hq0;rw [repS] at h8;have hi:=hs_one.1 h8;subst hi;rw [decide_eq_false (by omega)] at en
        rw [en,if_neg (by decide)] at el em
        rw [if_neg (by omega)] at el
        rw [if_pos (.inl hna)] at em;omega
       | false =>
        rw [hna,Bool.and_false] at en;rw [en,if_neg (by decide)] at el em
        have h9:=rep_two (mn:=mn) hL hlo q i h8;have h0:=hlb.2.1 hna;have hLe:Le=mn * leastI a:=by
         rw [el]
         split
         ·rfl
         ·rw [show mn=0 from by omega,Int.zero_mul]
        have hml:=Int.mul_le_mul_of_nonneg_right h7 h0;refine ⟨by omega,fun hM0=>?_⟩
        by_cases hm0:mx=0
        ·rw [if_pos (.inr hm0)] at em
         have hq0:q=0:=by
          have:=hK.2 (by omega)
          omega
         subst hq0;rw [repS] at h8;have hi:=hs_one.1 h8;omega
        ·rw [if_neg (by rintro (h | h);rw [hna] at h;cases h;exact hm0 h)] at em
         by_cases hv:mostI a=0
         ·rw [if_pos hv] at em
          have h10:=h9.2 (by omega)
          rw [hv,Int.mul_zero] at h10;omega
         ·rw [if_neg hv] at em
          by_cases hv2:mostI a<0∨mx<0
          ·rw [if_pos hv2] at em
           omega
          ·rw [if_neg hv2] at em
           have h10:=h9.2 (by omega)
           have h11:(q:Int)≤mx:=by
            have:=hK.2 (by omega)
            omega
           have h12:=Int.mul_le_mul_of_nonneg_right h11 (show 0≤mostI a by omega)
           rw [em,Int.mul_comm];omega
      ·rw [hn,if_neg (by decide)] at el
       obtain ⟨q,rfl⟩:∃ q:Nat,mn=q:=⟨mn.toNat,by omega⟩
       refine (hB _).2 ⟨q,by omega,Int.le_refl _,?_⟩
       rcases Nat.eq_zero_or_pos q with h9 | h9
       ·subst h9
        rw [if_neg (by omega)] at el
        rw [el,repS];exact hs_one.2 rfl
       ·rw [if_pos ⟨h5,by omega⟩] at el
        have hna:noneB a=false:=by
         rw [hn,decide_eq_true (by omega),Bool.true_and] at en
         exact en.symm
        have h0:=hlb.2.1 hna;obtain ⟨x,hx⟩:∃ x:Nat,leastI a=x:=⟨(leastI a).toNat,by omega⟩
        rw [hx] at el hat;have hqx:Le.toNat=q * x:=by
         rw [el];omega
        have hqm:q * x≤m:=by omega
        rw [hqx];refine rep_at (mn:=q) (hat hna ?_) q hqm;have:1 * x≤q * x:=Nat.mul_le_mul_right x h9;omega
     ·rw [if_neg h5] at en em
      subst en;rw [if_neg (by decide)] at el em
      rw [if_neg (show ¬ (k=5∧0<mn) by omega)] at el
      have h1:k=1:=by
       unfold Bare at hb;omega
      rw [if_pos h1] at eL;subst eL el em;refine ⟨fun h=>(by cases h),fun i hh=>?_,fun _ _=>hs_one.2 rfl⟩
      have:=hs_one.1 hh;omega
theorem cat_facts (m:Nat):∀ (l:List T) (d:Nat) (k:Int),RL d k l →
  (∀ (acc:List Bool) (i:Nat),acc.length=m+1→Hs (catB m acc l) i→∃ j:Nat,Hs acc j∧sumLe j l≤i∧(0≤mostL 3 j l→(i:Int)≤mostL 3 j l)∧anyN l=false)
  ∧ (anyN l=false→∀ (acc:List Bool) (j:Nat),acc.length=m+1→Hs acc j→sumLe j l≤m→Hs (catB m acc l) (sumLe j l).toNat)
 | [],d,k,_=>by
  refine ⟨fun acc i _ h=>?_,fun _ acc j _ h _=>?_⟩
  ·rw [catB] at h
   exact ⟨i,h,by rw [sumLe];exact Int.le_refl _,by rw [mostL];exact fun _=>Int.le_refl _,by rw [anyN]⟩
  ·rw [catB,sumLe,Int.toNat_natCast]
   exact h
 | t::l,d,k,hR=>by
  obtain ⟨h1,h2⟩:=RL_cons hR;have hF:=lens_facts m t d (IS.rt (k:=k) h1);have hlb:=least_bnd t d (IS.rt (k:=k) h1);have ih:=cat_facts m l d k h2;refine ⟨fun acc i hal h=>?_,fun hn acc j hal h hle=>?_⟩
  ·rw [catB] at h
   obtain ⟨j',hj',h3,h4,h5⟩:=ih.1 _ i (by rw [joinB_length];exact hal) h
   obtain ⟨-,p,q,rfl,hp,hq⟩:=hs_join.1 hj';have h6:=hF.lo q hq;have hn:noneB t=false:=by
    cases e:noneB t with
    | false=>rfl
    | true=>exact absurd hq (hF.no e q)
   refine ⟨p,hp,?_,?_,by rw [anyN,hn,h5];rfl⟩
   ·rw [sumLe]
    have:=sumLe_mono l ((p:Int)+leastI t) ((p+q:Nat):Int) (by omega)
    omega
   ·rw [mostL,if_neg (by rw [hn];decide)]
    split
    ·intro h;omega
    ·rename_i hm
     rw [if_pos rfl];intro h7;have h8:=h6.2 (by omega)
     have h9:=mostL_mono l ((p+q:Nat):Int) ((p:Int)+mostI t) (by omega) (by omega)
     have:=h4 (h9.2 h7);omega
  ·rw [anyN,Bool.or_eq_false_iff] at hn
   have h0:=hlb.2.1 hn.1;obtain ⟨x,hx⟩:∃ x:Nat,leastI t=x:=⟨(leastI t).toNat,by omega⟩
   rw [sumLe,hx] at hle ⊢;rw [catB];have hs0:=(sum_bnd l d k h2 hn.2 ((j:Int)+x) (by omega)).1
   have hat:=hF.at_ hn.1;rw [hx] at hat;have hk:=ih.2 hn.2 (joinB acc (lens m t)) (j+x) (by rw [joinB_length];exact hal) (hs_join.2 ⟨by rw [hal];omega,j,x,rfl,h,hat (by omega)⟩) (by rw [Int.natCast_add];exact hle)
   rw [Int.natCast_add] at hk;exact hk
theorem alt_facts (m:Nat):∀ (l:List T) (d:Nat) (k:Int),RL d k l →
  (∀ (acc:List Bool) (i:Nat),acc.length=m+1→Hs (altB m acc l) i→Hs acc i∨(allN l=false∧∀ a b:Int,-1≤a→0≤b→minLe a l≤i∧(0≤mostL 4 b l→(i:Int)≤mostL 4 b l)))
  ∧ (∀ (acc:List Bool) (a:Int),acc.length=m+1→-1≤a→(0≤a∨allN l=false)→(0≤a→a≤m→Hs acc a.toNat)→minLe a l≤m→Hs (altB m acc l) (minLe a l).toNat)
 | [],d,k,_=>by
  refine ⟨fun acc i _ h=>?_,fun acc a _ h0 h1 h2 h3=>?_⟩
  ·rw [altB] at h
   exact .inl h
  ·rw [minLe] at h3 ⊢
   rw [altB];rw [allN] at h1
   rcases h1 with h1 | h1
   ·exact h2 h1 h3
   ·cases h1
 | t::l,d,k,hR=>by
  obtain ⟨h1,h2⟩:=RL_cons hR;have hF:=lens_facts m t d (IS.rt (k:=k) h1);have hlb:=least_bnd t d (IS.rt (k:=k) h1);have ih:=alt_facts m l d k h2;refine ⟨fun acc i hal h=>?_,fun acc a hal h0 ha hh hle=>?_⟩
  ·rw [altB] at h
   have hll:(orB acc (lens m t)).length=m+1:=by
    unfold orB;rw [OP_length];exact hal
   have hmin:∀ a:Int,-1≤a→-1≤(if 0≤leastI t∧(a<0∨leastI t<a) then leastI t else a):=fun a h=>by split <;> omega
   rcases ih.1 _ i hll h with h3 | ⟨h3,h4⟩
   ·rcases (hs_or (by rw [lens_length,hal])).1 h3 with h5 | h5
    ·exact .inl h5
    ·right
     have hn:noneB t=false:=by
      cases e:noneB t with
      | false=>rfl
      | true=>exact absurd h5 (hF.no e i)
     have h6:=hF.lo i h5;refine ⟨by rw [allN,hn];rfl,fun a b ha hb=>?_⟩
     rw [minLe,mostL,if_neg (show ¬ noneB t=true by rw [hn];decide)]
     have h7:=hlb.2.1 hn;have hA:(if 0≤leastI t∧(a<0∨leastI t<a) then leastI t else a)≤i∧0≤(if 0≤leastI t∧(a<0∨leastI t<a) then leastI t else a):=by
      split <;> omega
     refine ⟨?_,?_⟩
     ·have:=min_le l _ hA.2
      omega
     ·split
      ·intro h;omega
      ·rw [if_neg (by decide)]
       intro h8;have h9:=mostL4_ge l _ (by omega) h8
       have:=h6.2 (by omega)
       omega
   ·right
    refine ⟨by rw [allN,h3,Bool.and_false],fun a b ha hb=>?_⟩
    rw [minLe,mostL];have h5:=h4 _ b (hmin a ha) hb;refine ⟨h5.1,?_⟩
    split
    ·exact h5.2
    ·split
     ·intro h;omega
     ·rw [if_neg (by decide)]
      exact (h4 (-1) _ (by omega) (by omega)).2
  ·rw [minLe] at hle ⊢
   rw [altB];refine ih.2 _ _ (by unfold orB;rw [OP_length];exact hal) (by split <;> omega) ?_ ?_ hle
   ·rcases ha with ha | ha
    ·left
     split <;> omega
    ·rw [allN] at ha
     cases hn:noneB t with
     | true =>
      rw [hn,Bool.true_and] at ha;exact .inr ha
     | false =>
      left
      have:=hlb.2.1 hn
      split <;> omega
   ·split
    ·rename_i hc
     intro h3 h4;refine (hs_or (by rw [lens_length,hal])).2 (.inr (hF.at_ ?_ h4))
     cases hn:noneB t with
     | false=>rfl
     | true =>
      have:=hlb.1 hn;omega
    ·intro h3 h4
     exact (hs_or (by rw [lens_length,hal])).2 (.inl (hh h3 h4))
end
def nullB (t:T):Bool:=(lens 0 t).getD 0 false
theorem nullB_iff {t:T} {d:Nat} (h:RT d t):nullB t=(!noneB t && decide (leastI t=0)):=by
 have hF:=lens_facts 0 t d h;have hlb:=least_bnd t d h;rw [Bool.eq_iff_iff]
 show Hs (lens 0 t) 0↔_
 rw [Bool.and_eq_true,decide_eq_true_eq]
 cases hn:noneB t with
 | true=>exact ⟨fun hh=>absurd hh (hF.no hn 0),fun hh=>by cases hh.1⟩
 | false =>
  have h0:=hlb.2.1 hn
  constructor
  ·intro hh
   have:=(hF.lo 0 hh).1;exact ⟨rfl,by omega⟩
  ·rintro ⟨-,h1⟩
   have:=hF.at_ hn (by omega)
   rw [h1] at this;exact this
end P09
end Go.Proofs.YthcjfgfbeollpaaDoor
