/- Layer 9, plain: what the code tells of an expression's texts; that lengths and nothing are the document's; what bounds them. -/
import Derived.Test.YtlmfbchgkjgljaaGreatKY24
namespace Go.Proofs.YtlmfbchgkjgljaaGreat
namespace P09
open P07 P08 Bytes
open Sets (ST)
structure TX where
 none:Bool
 endless:Bool
 first:ST
 least:Int
 most:Int
def TX.empty:TX:=⟨false,false,.none,0,0⟩
def TX.nothing:TX:=⟨true,false,.none,0,0⟩
def TX.cls (s:ST):TX:=if s.count=0 then .nothing else ⟨false,false,s,1,1⟩
def TX.then_ (t n:TX):TX:=if t.none=true∨n.none=true then .nothing else ⟨false,t.endless || n.endless,if t.least=0 then t.first.or n.first else t.first,t.least+n.least,t.most+n.most⟩
def TX.or_ (t o:TX):TX:=if t.none=true then o else if o.none=true then t else ⟨false,t.endless || o.endless,t.first.or o.first,min t.least o.least,max t.most o.most⟩
def TX.rep (t:TX) (mn mx:Int):TX:=if mx=0∨(t.none=true∧mn=0) then .empty else if t.none=true then t else if mx=-1 then ⟨false,t.endless || decide (0<t.most),t.first,mn * t.least,t.most⟩ else ⟨false,t.endless,t.first,mn * t.least,mx * t.most⟩
mutual
def txOf:T→TX
 | .nd k s mn mx l=>if k=2 then .cls s else if k=3 then catX .empty l else if k=4 then altX .nothing l else if k=5 then (headX l).rep mn mx else .empty
def catX:TX→List T→TX
 | acc,[]=>acc
 | acc,t::l=>catX (acc.then_ (txOf t)) l
def altX:TX→List T→TX
 | acc,[]=>acc
 | acc,t::l=>altX (acc.or_ (txOf t)) l
def headX:List T→TX
 | []=>.empty
 | t::_=>txOf t
end
theorem txOf_eq (t:T):txOf t=if t.kind=2 then .cls t.set else if t.kind=3 then catX .empty t.subs else if t.kind=4 then altX .nothing t.subs else if t.kind=5 then (headX t.subs).rep t.mn t.mx else .empty:=by
 cases t
 rw [txOf]
 rfl
theorem count_none:ST.none.count=0:=by decide +kernel
theorem count_zero {s:ST} (hs:s.Ok):s.count=0↔s=.none:=by
 constructor
 ·intro h
  exact ST.ext hs ST.none_ok fun b hb=>by rw [Sets.cnt_zero h b hb,ST.has_none]
 ·intro h
  rw [h];exact count_none
theorem or_none {s:ST} (hs:s.Ok):s.or .none=s:=ST.ext (ST.or_ok hs ST.none_ok) hs fun b hb=>by rw [ST.has_or _ _ b hb,ST.has_none,Bool.or_false]
theorem none_or {s:ST} (hs:s.Ok):ST.or .none s=s:=ST.ext (ST.or_ok ST.none_ok hs) hs fun b hb=>by rw [ST.has_or _ _ b hb,ST.has_none,Bool.false_or]
structure TX.In (x:TX) (B:Int):Prop where
 l0:0≤x.least
 l1:x.least≤B
 m0:0≤x.most
 m1:x.most≤B
 ok:x.first.Ok
theorem TX.In.mono {x:TX} {A B:Int} (h:x.In A) (hB:A≤B):x.In B:=⟨h.l0,by have:=h.l1;omega,h.m0,by have:=h.m1;omega,h.ok⟩
theorem TX.In.empty {B:Int} (h:0≤B):TX.empty.In B:=⟨Int.le_refl _,h,Int.le_refl _,h,ST.none_ok⟩
theorem TX.In.nothing {B:Int} (h:0≤B):TX.nothing.In B:=⟨Int.le_refl _,h,Int.le_refl _,h,ST.none_ok⟩
theorem TX.In.cls {s:ST} (hs:s.Ok) {B:Int} (h:1≤B):(TX.cls s).In B:=by
 unfold TX.cls
 split
 ·exact TX.In.nothing (by omega)
 ·exact ⟨by show (0:Int)≤1;omega,h,by show (0:Int)≤1;omega,h,hs⟩
theorem TX.In.then_ {x y:TX} {A B:Int} (h:x.In A) (k:y.In B):(x.then_ y).In (A+B):=by
 have h1:=h.l0;have h2:=h.l1;have h3:=h.m0;have h4:=h.m1;have k1:=k.l0;have k2:=k.l1;have k3:=k.m0;have k4:=k.m1;unfold TX.then_
 split
 ·exact TX.In.nothing (by omega)
 ·refine ⟨?_,?_,?_,?_,?_⟩
  ·show 0≤x.least+y.least;omega
  ·show x.least+y.least≤_;omega
  ·show 0≤x.most+y.most;omega
  ·show x.most+y.most≤_;omega
  ·show (if x.least=0 then _ else _:ST).Ok
   split
   ·exact ST.or_ok h.ok k.ok
   ·exact h.ok
theorem TX.In.or_ {x y:TX} {A B:Int} (h:x.In A) (k:y.In B):(x.or_ y).In (A+B):=by
 have h1:=h.l0;have h2:=h.l1;have h3:=h.m0;have h4:=h.m1;have k1:=k.l0;have k2:=k.l1;have k3:=k.m0;have k4:=k.m1;unfold TX.or_
 split
 ·exact k.mono (by omega)
 ·split
  ·exact h.mono (by omega)
  ·refine ⟨?_,?_,?_,?_,ST.or_ok h.ok k.ok⟩
   ·show 0≤min x.least y.least;omega
   ·show min x.least y.least≤_;omega
   ·show 0≤max x.most y.most;omega
   ·show max x.most y.most≤_;omega
theorem rep_in {d:Nat} {a:T} (h:if rnd 5 a.kind then 1≤d∧RT (d - 1) a else RT d a) {x mn:Int} (hx:x=(txOf a).least∨x=(txOf a).most) (hi:∀ e,RT e a→(txOf a).In (bnd e (cnt a))) (hm:mn≤20):mn * x≤bnd d (cnt a+1):=by
 have h0:0≤x:=by
  rcases hx with h1 | h1 <;> rw [h1]
  ·exact (hi d (IS.rt (k:=5) h)).l0
  ·exact (hi d (IS.rt (k:=5) h)).m0
 rw [Int.mul_comm];refine rep_bnd h h0 (fun e he=>?_) (fun hk=>?_) hm
 ·rcases hx with h1 | h1 <;> rw [h1]
  ·exact (hi e he).l1
  ·exact (hi e he).m1
 ·have h2:txOf a=.cls a.set:=by rw [txOf_eq,if_pos hk]
  have h3:(TX.cls a.set).least≤1∧(TX.cls a.set).most≤1:=by
   unfold TX.cls
   split
   ·exact ⟨by decide,by decide⟩
   ·exact ⟨Int.le_refl _,Int.le_refl _⟩
  rcases hx with h1 | h1 <;> rw [h1,h2]
  ·exact h3.1
  ·exact h3.2
mutual
theorem tx_in:∀ (t:T) (d:Nat),RT d t→(txOf t).In (bnd d (cnt t))
 | .nd k s mn mx l,d,h=>by
  obtain ⟨hb,hs,hl⟩:=h.bare;have hg:=bnd_ge d (1+cntL l);have hm:=bnd_mono (Nat.le_refl d) (show cntL l≤1+cntL l by omega)
  rw [txOf,cnt]
  by_cases h2:k=2
  ·rw [if_pos h2]
   exact TX.In.cls hs (by omega)
  ·rw [if_neg h2]
   by_cases h3:k=3
   ·rw [if_pos h3]
    exact (cat_in l d k hl .empty 0 (TX.In.empty (Int.le_refl 0))).mono (by omega)
   ·rw [if_neg h3]
    by_cases h4:k=4
    ·rw [if_pos h4]
     exact (alt_in l d k hl .nothing 0 (TX.In.nothing (Int.le_refl 0))).mono (by omega)
    ·rw [if_neg h4]
     by_cases h5:k=5
     ·rw [if_pos h5]
      obtain ⟨a,rfl,b0,b1,bx,ha⟩:=one_sub h h5;have ec:1+cntL [a]=cnt a+1:=by rw [cntL,cntL];omega
      rw [headX,ec];rw [ec] at hg;have hi:=fun e he=>tx_in a e he
      have hx:=hi d (IS.rt (k:=5) ha);have hmo:=bnd_mono (Nat.le_refl d) (show cnt a≤cnt a+1 by omega)
      have hr1:=rep_in ha (.inl rfl) hi b1;have hr2:=rep_in ha (mn:=mx) (.inr rfl) hi (by omega)
      unfold TX.rep
      split
      ·exact TX.In.empty (by omega)
      ·split
       ·exact hx.mono (by omega)
       ·rename_i q1 q2
        split
        ·exact ⟨Int.mul_nonneg b0 hx.l0,hr1,hx.m0,by have:=hx.m1;show (txOf a).most≤_;omega,hx.ok⟩
        ·exact ⟨Int.mul_nonneg b0 hx.l0,hr1,Int.mul_nonneg (by omega) hx.m0,hr2,hx.ok⟩
     ·rw [if_neg h5]
      exact TX.In.empty (by omega)
theorem cat_in:∀ (l:List T) (d:Nat) (k:Int),RL d k l→∀ (acc:TX) (A:Int),acc.In A→(catX acc l).In (A+bnd d (cntL l))
 | [],d,k,_,acc,A,h=>by rw [catX];exact h.mono (by omega)
 | t::l,d,k,hR,acc,A,h=>by
  obtain ⟨h1,h2⟩:=RL_cons hR;rw [catX,cntL];have h6:=bnd_add d (cnt t) (cntL l);exact (cat_in l d k h2 _ _ (h.then_ (tx_in t d (IS.rt (k:=k) h1)))).mono (by omega)
theorem alt_in:∀ (l:List T) (d:Nat) (k:Int),RL d k l→∀ (acc:TX) (A:Int),acc.In A→(altX acc l).In (A+bnd d (cntL l))
 | [],d,k,_,acc,A,h=>by rw [altX];exact h.mono (by omega)
 | t::l,d,k,hR,acc,A,h=>by
  obtain ⟨h1,h2⟩:=RL_cons hR;rw [altX,cntL];have h6:=bnd_add d (cnt t) (cntL l);exact (alt_in l d k h2 _ _ (h.or_ (tx_in t d (IS.rt (k:=k) h1)))).mono (by omega)
end
structure Same (x:TX) (t:T):Prop where
 none:x.none=noneB t
 zero:noneB t=true→x=.nothing
 least:noneB t=false→x.least=leastI t
 inf:noneB t=false→x.endless=true→mostI t=-1
 fin:noneB t=false→x.endless=false→mostI t=x.most
theorem catX_nothing:∀ l,catX .nothing l=.nothing
 | []=>by rw [catX]
 | t::l=>by
  rw [catX];have:TX.nothing.then_ (txOf t)=.nothing:=by
   unfold TX.then_;rw [if_pos (.inl rfl)]
  rw [this];exact catX_nothing l
theorem mostL_neg {k:Int} {t:T} {l:List T} {acc:Int} (hn:noneB t=false) (hm:mostI t=-1):mostL k acc (t::l)=-1:=by
 rw [mostL,if_neg (by rw [hn];decide),if_pos (by omega)]
mutual
theorem tx_same:∀ (t:T) (d:Nat),RT d t→Same (txOf t) t
 | .nd k s mn mx l,d,h=>by
  obtain ⟨hb,hs,hl⟩:=h.bare;have en:=noneB_eq (.nd k s mn mx l);have el:=leastI_eq (.nd k s mn mx l);have em:=mostI_eq (.nd k s mn mx l);obtain ⟨N,hN⟩:∃ N,noneB (.nd k s mn mx l)=N:=⟨_,rfl⟩;obtain ⟨Le,hLe⟩:∃ Le,leastI (.nd k s mn mx l)=Le:=⟨_,rfl⟩;obtain ⟨M,hM⟩:∃ M,mostI (.nd k s mn mx l)=M:=⟨_,rfl⟩;rw [hN] at en el em;rw [hLe] at el;rw [hM] at em;unfold T.kind T.set T.mn T.subs at en;unfold T.kind T.mn T.subs at el;unfold T.kind T.mx T.subs at em
  dsimp only at en el em
  suffices hh:(txOf (.nd k s mn mx l)).none=N∧(N=true→txOf (.nd k s mn mx l)=.nothing)∧(N=false→(txOf (.nd k s mn mx l)).least=Le∧((txOf (.nd k s mn mx l)).endless=true→M=-1)∧((txOf (.nd k s mn mx l)).endless=false→M=(txOf (.nd k s mn mx l)).most)) by
   exact ⟨by rw [hN];exact hh.1,by rw [hN];exact hh.2.1,fun h=>by rw [hN] at h;rw [hLe];exact (hh.2.2 h).1,fun h=>by rw [hN] at h;rw [hM];exact (hh.2.2 h).2.1,fun h=>by rw [hN] at h;rw [hM];exact (hh.2.2 h).2.2⟩
  clear hN hLe hM;rw [txOf]
  by_cases h2:k=2
  ·rw [if_pos h2] at en el em ⊢
   unfold TX.cls
   by_cases hc:s.count=0
   ·rw [if_pos hc]
    have:N=true:=by rw [en];exact eqB_iff.2 ((count_zero hs).1 hc)
    subst this;exact ⟨rfl,fun _=>rfl,fun h=>by cases h⟩
   ·rw [if_neg hc]
    have:N=false:=by
     rw [en];exact eqB_ne fun h=>hc ((count_zero hs).2 h)
    subst this;rw [if_neg (by decide)] at el em
    exact ⟨rfl,fun h=>(by cases h),fun _=>⟨el.symm,fun h=>(by cases h),fun _=>em⟩⟩
  ·rw [if_neg h2] at en el em ⊢
   by_cases h3:k=3
   ·rw [if_pos h3] at en el ⊢
    rw [if_pos (show k=3∨k=4 from .inl h3)] at em
    have hc:=cat_same l d k hl
    cases N with
    | true =>
     have h1:=hc.1 en.symm .empty;rw [h1];exact ⟨rfl,fun _=>rfl,fun h=>by cases h⟩
    | false =>
     rw [if_neg (by decide)] at el em
     have h1:=hc.2 en.symm .empty rfl (Int.le_refl 0) (Int.le_refl 0);subst h3;refine ⟨h1.1,fun h=>(by cases h),fun _=>⟨by rw [el];exact h1.2.1,fun h=>?_,fun h=>?_⟩⟩
     ·rw [em];exact (h1.2.2.2 rfl).1 h
     ·rw [em];exact (h1.2.2.2 rfl).2 h
   ·rw [if_neg h3] at en el ⊢
    by_cases h4:k=4
    ·rw [if_pos h4] at en el ⊢
     rw [if_pos (show k=3∨k=4 from .inr h4)] at em
     have hc:=(alt_same l d k hl).1
     cases N with
     | true =>
      rw [hc.1 en.symm];exact ⟨rfl,fun _=>rfl,fun h=>by cases h⟩
     | false =>
      rw [if_neg (by decide)] at el em
      have h1:=hc.2 en.symm;subst h4;exact ⟨h1.1,fun h=>(by cases h),fun _=>⟨by rw [el];exact h1.2.1,fun h=>by rw [em];exact h1.2.2.1 h,fun h=>by rw [em];exact h1.2.2.2 h⟩⟩
    ·rw [if_neg h4] at en el ⊢
     rw [if_neg (show ¬ (k=3∨k=4) by omega)] at em
     by_cases h5:k=5
     ·rw [if_pos h5] at en em ⊢
      obtain ⟨a,rfl,b0,b1,bx,ha⟩:=one_sub h h5;have hra:RT d a:=IS.rt (k:=5) ha;have hS:=tx_same a d hra;have hI:=tx_in a d hra;rw [headN] at en em;rw [headM] at em;rw [headLe] at el;rw [headX];have hmo:=most_bnd a d hra;generalize txOf a=x at hS hI ⊢
      cases hna:noneB a with
      | true =>
       rw [hna,Bool.and_true] at en;have hx:=hS.zero hna;subst hx;unfold TX.rep
       by_cases hm:0<mn
       ·rw [decide_eq_true hm] at en
        subst en;rw [if_neg (by rintro (h | h);omega;omega),if_pos (show TX.nothing.none=true from rfl)]
        exact ⟨rfl,fun _=>rfl,fun h=>by cases h⟩
       ·rw [decide_eq_false hm] at en
        subst en;rw [if_pos (.inr ⟨rfl,by omega⟩)]
        rw [if_neg (by decide),if_neg (by omega)] at el
        rw [if_neg (by decide),if_pos (.inl hna)] at em
        exact ⟨rfl,fun h=>(by cases h),fun _=>⟨el.symm,fun h=>(by cases h),fun _=>em⟩⟩
      | false =>
       rw [hna,Bool.and_false] at en;subst en;rw [if_neg (by decide)] at el em
       have hxn:x.none=false:=hS.none.trans hna;have hle:=hS.least hna;have hin:=hS.inf hna;have hfi:=hS.fin hna;have h0:=hI.l0;have h1:=hI.m0;unfold TX.rep
       by_cases hm:mx=0
       ·rw [if_pos (.inl hm)]
        rw [if_pos (.inr hm)] at em;have:mn=0:=by omega
        rw [if_neg (by omega)] at el
        exact ⟨rfl,fun h=>(by cases h),fun _=>⟨el.symm,fun h=>(by cases h),fun _=>em⟩⟩
       ·rw [if_neg (by rintro (h | h);exact hm h;rw [hxn] at h;cases h.1),if_neg (by rw [hxn];decide)]
        rw [if_neg (by rintro (h | h);rw [hna] at h;cases h;exact hm h)] at em
        have hLe:Le=mn * x.least:=by
         rw [el,hle]
         split
         ·rfl
         ·have:mn=0:=by omega
          rw [this,Int.zero_mul]
        by_cases hu:mx=-1
        ·rw [if_pos hu]
         refine ⟨rfl,fun h=>(by cases h),fun _=>⟨hLe.symm,?_,?_⟩⟩
         ·intro he
          dsimp only at he
          rw [Bool.or_eq_true] at he
          cases hxe:x.endless with
          | true =>
           have:=hin hxe;rw [if_neg (by omega),if_pos (by omega)] at em
           exact em
          | false =>
           have h2:=hfi hxe;rw [hxe] at he;have h3:0<x.most:=by
            rcases he with he | he
            ·cases he
            ·exact of_decide_eq_true he
           rw [if_neg (by omega),if_pos (by omega)] at em
           exact em
         ·intro he
          dsimp only at he ⊢
          rw [Bool.or_eq_false_iff] at he;have h2:=hfi he.1;have h3:=of_decide_eq_false he.2;rw [if_pos (by omega)] at em
          omega
        ·rw [if_neg hu]
         refine ⟨rfl,fun h=>(by cases h),fun _=>⟨hLe.symm,?_,?_⟩⟩
         ·intro he
          have:=hin he;rw [if_neg (by omega),if_pos (by omega)] at em
          exact em
         ·intro he
          have h2:=hfi he
          dsimp only
          by_cases h3:mostI a=0
          ·rw [if_pos h3] at em
           rw [em,show x.most=0 from by omega,Int.mul_zero]
          ·rw [if_neg h3,if_neg (by omega)] at em
           rw [em,h2,Int.mul_comm]
     ·rw [if_neg h5] at en em ⊢
      subst en;rw [if_neg (by decide)] at el em
      rw [if_neg (show ¬ (k=5∧0<mn) by omega)] at el
      exact ⟨rfl,fun h=>(by cases h),fun _=>⟨el.symm,fun h=>(by cases h),fun _=>em⟩⟩
theorem cat_same:∀ (l:List T) (d:Nat) (k:Int),RL d k l→(anyN l=true→∀ acc:TX,catX acc l=.nothing)∧(anyN l=false→∀ acc:TX,acc.none=false→0≤acc.least→0≤acc.most→(catX acc l).none=false∧(catX acc l).least=sumLe acc.least l∧(acc.endless=true→(catX acc l).endless=true)∧(acc.endless=false→((catX acc l).endless=true→mostL 3 acc.most l=-1)∧((catX acc l).endless=false→mostL 3 acc.most l=(catX acc l).most)))
 | [],d,k,_=>by
  refine ⟨fun h=>?_,fun _ acc h0 h1 h2=>?_⟩
  ·rw [anyN] at h
   cases h
  ·rw [catX,sumLe,mostL]
   exact ⟨h0,rfl,fun h=>h,fun h=>⟨fun h'=>(by rw [h] at h';cases h'),fun _=>rfl⟩⟩
 | t::l,d,k,hR=>by
  obtain ⟨h1,h2⟩:=RL_cons hR;have hS:=tx_same t d (IS.rt (k:=k) h1);have hI:=tx_in t d (IS.rt (k:=k) h1);have ih:=cat_same l d k h2;refine ⟨fun h acc=>?_,fun h acc h0 hl0 hm0=>?_⟩
  ·rw [anyN] at h
   rw [catX]
   cases hn:noneB t with
   | true =>
    have:acc.then_ (txOf t)=.nothing:=by
     unfold TX.then_;rw [if_pos (.inr (hS.none.trans hn))]
    rw [this];exact catX_nothing l
   | false =>
    rw [hn,Bool.false_or] at h;exact ih.1 h _
  ·rw [anyN,Bool.or_eq_false_iff] at h
   have hth:acc.then_ (txOf t)=⟨false,acc.endless || (txOf t).endless,if acc.least=0 then acc.first.or (txOf t).first else acc.first,acc.least+(txOf t).least,acc.most+(txOf t).most⟩:=by
    unfold TX.then_;rw [if_neg (by rw [h0,hS.none,h.1];simp)]
   rw [catX,sumLe];have hle:=hS.least h.1;have hi0:=hI.l0;have hi1:=hI.m0;have h3:=ih.2 h.2 (acc.then_ (txOf t)) (by rw [hth]) (by rw [hth];show 0≤acc.least+(txOf t).least;omega) (by rw [hth];show 0≤acc.most+(txOf t).most;omega)
   have e1:(acc.then_ (txOf t)).least=acc.least+leastI t:=by rw [hth,← hle]
   have e2:(acc.then_ (txOf t)).most=acc.most+(txOf t).most:=by rw [hth]
   have e3:(acc.then_ (txOf t)).endless=(acc.endless || (txOf t).endless):=by rw [hth]
   rw [e1,e2,e3] at h3;refine ⟨h3.1,h3.2.1,fun he=>h3.2.2.1 (by rw [he];rfl),fun he=>?_⟩
   rw [he,Bool.false_or] at h3
   cases hxe:(txOf t).endless with
   | true =>
    have h4:=h3.2.2.1 hxe;rw [mostL_neg h.1 (hS.inf h.1 hxe),h4];exact ⟨fun _=>rfl,fun h=>by cases h⟩
   | false =>
    have h4:=hS.fin h.1 hxe;rw [mostL,if_neg (by rw [h.1];decide),if_neg (by omega),if_pos rfl,h4]
    exact h3.2.2.2 hxe
theorem alt_same:∀ (l:List T) (d:Nat) (k:Int),RL d k l→((allN l=true→altX .nothing l=.nothing)∧(allN l=false→(altX .nothing l).none=false∧(altX .nothing l).least=minLe (-1) l∧((altX .nothing l).endless=true→mostL 4 0 l=-1)∧((altX .nothing l).endless=false→mostL 4 0 l=(altX .nothing l).most)))
  ∧ ∀ acc:TX,acc.none=false→0≤acc.least→0≤acc.most→(altX acc l).none=false∧(altX acc l).least=minLe acc.least l∧(acc.endless=true→(altX acc l).endless=true)∧(acc.endless=false→((altX acc l).endless=true→mostL 4 acc.most l=-1)∧((altX acc l).endless=false→mostL 4 acc.most l=(altX acc l).most))
 | [],d,k,_=>by
  refine ⟨⟨fun _=>by rw [altX],fun h=>?_⟩,fun acc h0 h1 h2=>?_⟩
  ·rw [allN] at h
   cases h
  ·rw [altX,minLe,mostL]
   exact ⟨h0,rfl,fun h=>h,fun h=>⟨fun h'=>(by rw [h] at h';cases h'),fun _=>rfl⟩⟩
 | t::l,d,k,hR=>by
  obtain ⟨h1,h2⟩:=RL_cons hR;have hS:=tx_same t d (IS.rt (k:=k) h1);have hI:=tx_in t d (IS.rt (k:=k) h1);have hB:=(least_bnd t d (IS.rt (k:=k) h1));have ih:=alt_same l d k h2;have hno:TX.nothing.or_ (txOf t)=txOf t:=by
   unfold TX.or_;rw [if_pos (show TX.nothing.none=true from rfl)]
  have hi0:=hI.l0;have hi1:=hI.m0;refine ⟨?_,fun acc h0 hl0 hm0=>?_⟩
  ·rw [altX,hno,allN,minLe]
   cases hn:noneB t with
   | true =>
    rw [hS.zero hn,Bool.true_and,mostL,if_pos hn,if_neg (by have:=hB.1 hn;omega)]
    exact ih.1
   | false =>
    rw [Bool.false_and];refine ⟨fun h=>(by cases h),fun _=>?_⟩
    have h3:=ih.2 (txOf t) (hS.none.trans hn) hi0 hi1;have hle:=hS.least hn;rw [if_pos (by omega),← hle]
    refine ⟨h3.1,h3.2.1,?_⟩
    cases hxe:(txOf t).endless with
    | true =>
     have h4:=h3.2.2.1 hxe;rw [mostL_neg hn (hS.inf hn hxe),h4];exact ⟨fun _=>rfl,fun h=>by cases h⟩
    | false =>
     have h4:=hS.fin hn hxe;rw [mostL,if_neg (by rw [hn];decide),if_neg (by omega),if_neg (by decide),h4,show max 0 (txOf t).most=(txOf t).most from by omega]
     exact h3.2.2.2 hxe
  ·rw [altX,minLe]
   cases hn:noneB t with
   | true =>
    have:acc.or_ (txOf t)=acc:=by
     unfold TX.or_;rw [if_neg (by rw [h0];decide),if_pos (hS.none.trans hn)]
    rw [this,mostL,if_pos hn,if_neg (by have:=hB.1 hn;omega)]
    exact ih.2 acc h0 hl0 hm0
   | false =>
    have hth:acc.or_ (txOf t)=⟨false,acc.endless || (txOf t).endless,acc.first.or (txOf t).first,min acc.least (txOf t).least,max acc.most (txOf t).most⟩:=by
     unfold TX.or_;rw [if_neg (by rw [h0];decide),if_neg (by rw [hS.none,hn];decide)]
    have hle:=hS.least hn;have h3:=ih.2 (acc.or_ (txOf t)) (by rw [hth]) (by rw [hth];show 0≤min acc.least (txOf t).least;omega) (by rw [hth];show 0≤max acc.most (txOf t).most;omega)
    have e1:(acc.or_ (txOf t)).least=if 0≤leastI t∧(acc.least<0∨leastI t<acc.least) then leastI t else acc.least:=by
     rw [hth,← hle]
     show min acc.least (txOf t).least=_
     split <;> omega
    have e2:(acc.or_ (txOf t)).most=max acc.most (txOf t).most:=by rw [hth]
    have e3:(acc.or_ (txOf t)).endless=(acc.endless || (txOf t).endless):=by rw [hth]
    rw [e1,e2,e3] at h3;refine ⟨h3.1,h3.2.1,fun he=>h3.2.2.1 (by rw [he];rfl),fun he=>?_⟩
    rw [he,Bool.false_or] at h3
    cases hxe:(txOf t).endless with
    | true =>
     have h4:=h3.2.2.1 hxe;rw [mostL_neg hn (hS.inf hn hxe),h4];exact ⟨fun _=>rfl,fun h=>by cases h⟩
    | false =>
     have h4:=hS.fin hn hxe;rw [mostL,if_neg (by rw [hn];decide),if_neg (by omega),if_neg (by decide),h4]
     exact h3.2.2.2 hxe
end
end P09
namespace P09
open P07 P08 Bytes
open Sets (ST)
def Hs (L:List Bool) (k:Nat):Prop:=L.getD k false=true
theorem Hs.lt {L:List Bool} {k:Nat} (h:Hs L k):k<L.length:=by
 unfold Hs at h
 rcases Nat.lt_or_ge k L.length with h1 | h1
 ·exact h1
 ·rw [List.getD_eq_getElem?_getD,List.getElem?_eq_none h1] at h
  cases h
theorem hs_of {L:List Bool} {k:Nat} {b:Bool} (h:L[k]?=some b):Hs L k↔b=true:=by
 unfold Hs;rw [List.getD_eq_getElem?_getD,h]
 rfl
theorem hs_no {m k:Nat}:¬ Hs (noB m) k:=by
 intro h;have h1:=h.lt;rw [noB_length] at h1;have:=(hs_of (L:=noB m) (k:=k) (b:=false) (by simp [noB,h1])).1 h
 cases this
theorem hs_one {m k:Nat}:Hs (oneB0 m) k↔k=0:=by
 constructor
 ·intro h
  have h1:=h.lt;rw [oneB0_length] at h1
  rcases Nat.eq_zero_or_pos k with h0 | h0
  ·exact h0
  ·have:=(hs_of (L:=oneB0 m) (k:=k) (b:=false) (by unfold oneB0;rw [List.getElem?_set,if_neg (by omega)];simp [noB,h1])).1 h
   cases this
 ·intro h
  subst h;exact (hs_of (L:=oneB0 m) (k:=0) (b:=true) (by unfold oneB0;rw [List.getElem?_set,if_pos rfl,if_pos (by rw [noB_length];omega)])).2 rfl
theorem hs_or {a b:List Bool} {k:Nat} (hl:b.length=a.length):Hs (orB a b) k↔Hs a k∨Hs b k:=by
 rcases Nat.lt_or_ge k a.length with h1 | h1
 ·unfold orB
  rw [hs_of (OP_get a b h1),Bool.or_eq_true,decide_eq_true h1,Bool.true_and];exact Iff.rfl
 ·constructor
  ·intro h
   have:=h.lt;unfold orB at this;rw [OP_length] at this;omega
  ·rintro (h | h)
   ·have:=h.lt
    omega
   ·have:=h.lt
    omega
theorem hs_join {a b:List Bool} {k:Nat}:Hs (joinB a b) k↔k<a.length∧∃ i j,i+j=k∧Hs a i∧Hs b j:=by
 rcases Nat.lt_or_ge k a.length with h1 | h1
 ·unfold joinB
  have e:decide (a.length≤k∧k<a.length+0)=false:=decide_eq_false (by omega)
  rw [hs_of (JB_get a b h1),e,Bool.false_and,Bool.or_false];unfold jrow;rw [List.any_eq_true]
  constructor
  ·rintro ⟨i,hi,h⟩
   rw [Bool.and_eq_true,Bool.and_eq_true,decide_eq_true_eq] at h;exact ⟨h1,i,k - i,by omega,h.2.1,h.2.2⟩
  ·rintro ⟨-,i,j,hk,hi,hj⟩
   refine ⟨i,List.mem_range.2 hi.lt,?_⟩;rw [Bool.and_eq_true,Bool.and_eq_true,decide_eq_true_eq];refine ⟨by omega,hi,?_⟩
   rw [show k - i=j from by omega]
   exact hj
 ·constructor
  ·intro h
   have:=h.lt;rw [joinB_length] at this;omega
  ·rintro ⟨h,-⟩
   omega
structure LF (m:Nat) (t:T):Prop where
 no:noneB t=true→∀ k,¬ Hs (lens m t) k
 lo:∀ k,Hs (lens m t) k→leastI t≤k∧(0≤mostI t→(k:Int)≤mostI t)
 at_:noneB t=false→leastI t≤m→Hs (lens m t) (leastI t).toNat
theorem sumLe_mono:∀ (l:List T) (a b:Int),a≤b→sumLe a l≤sumLe b l
 | [],a,b,h=>by rw [sumLe,sumLe];exact h
 | t::l,a,b,h=>by rw [sumLe,sumLe];exact sumLe_mono l _ _ (by omega)
theorem mostL_mono:∀ (l:List T) (a b:Int),0≤a→a≤b→mostL 3 a l≤mostL 3 b l∧(0≤mostL 3 b l→0≤mostL 3 a l)
 | [],a,b,h0,h=>by rw [mostL,mostL];omega
 | t::l,a,b,h0,h=>by
  rw [mostL,mostL]
  split
  ·exact mostL_mono l a b h0 h
  ·split
   ·omega
   ·rw [if_pos rfl,if_pos rfl]
    exact mostL_mono l _ _ (by omega) (by omega)
theorem mostL4_ge:∀ (l:List T) (a:Int),0≤a→0≤mostL 4 a l→a≤mostL 4 a l
 | [],a,h0,h=>by rw [mostL];omega
 | t::l,a,h0,h=>by
  rw [mostL] at h ⊢
  split
  ·rename_i hn
   rw [if_pos hn] at h;exact mostL4_ge l a h0 h
  ·rename_i hn
   rw [if_neg hn] at h
   split
   ·rename_i hm
    rw [if_pos hm] at h;omega
   ·rename_i hm
    rw [if_neg hm,if_neg (by decide)] at h
    rw [if_neg (by decide)]
    have:=mostL4_ge l _ (by omega) h
    omega
theorem min_le:∀ (l:List T) (a:Int),0≤a→minLe a l≤a
 | [],a,h=>by rw [minLe];exact Int.le_refl _
 | t::l,a,h=>by
  rw [minLe]
  split
  ·have:=min_le l (leastI t) (by omega)
   omega
  ·exact min_le l a h
theorem rep_two {m:Nat} {mn:Int} {L:List Bool} (hl:L.length=m+1) {lo hi:Int} (hlo:∀ k,Hs L k→lo≤k∧(0≤hi→(k:Int)≤hi)):∀ (n i:Nat),Hs (repS m mn L n).2 i→(n:Int) * lo≤i∧(0≤hi→(i:Int)≤n * hi)
 | 0,i,h=>by
  rw [repS] at h;have:=hs_one.1 h;subst this
  simp
 | n+1,i,h=>by
  rw [repS] at h;obtain ⟨-,a,b,rfl,ha,hb⟩:=hs_join.1 h;have h1:=rep_two hl hlo n a ha;have h2:=hlo b hb;have e1:((n+1:Nat):Int) * lo=n * lo+lo:=by rw [Int.natCast_add,Int.add_mul];omega
  have e2:((n+1:Nat):Int) * hi=n * hi+hi:=by rw [Int.natCast_add,Int.add_mul];omega
  rw [e1,e2];refine ⟨by have:=h1.1;have:=h2.1;omega,fun h=>?_⟩
  have:=h1.2 h;have:=h2.2 h;omega
theorem rep_at {m:Nat} {mn:Int} {L:List Bool} {a:Nat} (ha:Hs L a):∀ (n:Nat),n * a≤m→Hs (repS m mn L n).2 (n * a)
 | 0,h=>by
  rw [repS,Nat.zero_mul];exact hs_one.2 rfl
 | n+1,h=>by
  rw [Nat.add_mul,Nat.one_mul] at h ⊢;rw [repS];exact hs_join.2 ⟨by rw [(repS_length m mn L n).2];omega,n * a,a,rfl,rep_at ha n (by omega),ha⟩
theorem rep_one {m:Nat} {mn:Int} {L:List Bool}:∀ (n i:Nat),Hs (repS m mn L n).1 i↔∃ k:Nat,k<n∧mn≤k∧Hs (repS m mn L k).2 i
 | 0,i=>by
  rw [repS];exact ⟨fun h=>absurd h hs_no,fun ⟨k,h,_⟩=>by omega⟩
 | n+1,i=>by
  rw [repS];have ih:=rep_one (m:=m) (mn:=mn) (L:=L) n i;have hl:=repS_length m mn L n
  dsimp only
  split
  ·rename_i hm
   rw [hs_or (by rw [hl.1,hl.2]),ih]
   constructor
   ·rintro (⟨k,h1,h2,h3⟩ | h)
    ·exact ⟨k,by omega,h2,h3⟩
    ·exact ⟨n,by omega,hm,h⟩
   ·rintro ⟨k,h1,h2,h3⟩
    rcases Nat.lt_or_ge k n with h4 | h4
    ·exact .inl ⟨k,h4,h2,h3⟩
    ·have:k=n:=by omega
     subst this;exact .inr h3
  ·rename_i hm
   rw [ih]
   constructor
   ·rintro ⟨k,h1,h2,h3⟩
    exact ⟨k,by omega,h2,h3⟩
   ·rintro ⟨k,h1,h2,h3⟩
    rcases Nat.lt_or_ge k n with h4 | h4
    ·exact ⟨k,h4,h2,h3⟩
    ·have:k=n:=by omega
     subst this;exact absurd h2 hm
theorem rep_nothing {m:Nat} {mn:Int} {L:List Bool} (h:∀ k,¬ Hs L k):∀ (n i:Nat),0<n→¬ Hs (repS m mn L n).2 i
 | 0,i,h0=>by omega
 | n+1,i,_=>by
  rw [repS];intro hh;obtain ⟨-,a,b,-,-,hb⟩:=hs_join.1 hh;exact h b hb
mutual
theorem lens_facts (m:Nat):∀ (t:T) (d:Nat),RT d t→LF m t
 | .nd k s mn mx l,d,h=>by
  obtain ⟨hb,hs,hl⟩:=h.bare;have en:=noneB_eq (.nd k s mn mx l);have el:=leastI_eq (.nd k s mn mx l);have em:=mostI_eq (.nd k s mn mx l);have eL:=lens_eq m (.nd k s mn mx l);obtain ⟨N,hN⟩:∃ N,noneB (.nd k s mn mx l)=N:=⟨_,rfl⟩;obtain ⟨Le,hLe⟩:∃ Le,leastI (.nd k s mn mx l)=Le:=⟨_,rfl⟩;obtain ⟨M,hM⟩:∃ M,mostI (.nd k s mn mx l)=M:=⟨_,rfl⟩;obtain ⟨B,hB⟩:∃ B,lens m (.nd k s mn mx l)=B:=⟨_,rfl⟩;rw [hN] at en el em;rw [hLe] at el;rw [hM] at em;rw [hB] at eL;unfold T.kind T.set T.mn T.subs at en;unfold T.kind T.mn T.subs at el;unfold T.kind T.mx T.subs at em;unfold T.kind T.set T.mn T.mx T.subs at eL
  dsimp only at en el em eL
  suffices hh:(N=true→∀ k,¬ Hs B k)∧(∀ k,Hs B k→Le≤k∧(0≤M→(k:Int)≤M))∧(N=false→Le≤m→Hs B Le.toNat) by
   exact ⟨by rw [hN,hB];exact hh.1,by rw [hLe,hM,hB];exact hh.2.1,by rw [hN,hLe,hB];exact hh.2.2⟩
  clear hN hLe hM hB
  by_cases h2:k=2
  ·rw [if_pos h2] at en el em
   rw [if_neg (by omega),if_pos h2] at eL
   have hB:∀ i,Hs B i↔i=1∧1≤m∧N=false:=fun i=>by
    rw [eL]
    split
    ·rename_i h1
     by_cases hi:i=1
     ·subst hi
      rw [hs_of (b:=!eqB s ST.none) (by rw [List.getElem?_set,if_pos rfl,if_pos (by rw [noB_length];omega)]),en]
      cases eqB s ST.none <;> simp [h1]
     ·constructor
      ·intro hh
       have hlt:=hh.lt;rw [List.length_set,noB_length] at hlt;have:=(hs_of (b:=false) (by rw [List.getElem?_set,if_neg (by omega)];simp [noB,hlt])).1 hh
       cases this
      ·rintro ⟨h3,-⟩
       exact absurd h3 hi
    ·rename_i h1
     exact ⟨fun h=>absurd h hs_no,fun h=>absurd h.2.1 h1⟩
   refine ⟨fun hn i hh=>?_,fun i hh=>?_,fun hn hle=>?_⟩
   ·have:=((hB i).1 hh).2.2
    rw [hn] at this
    cases this
   ·obtain ⟨h3,h4,h5⟩:=(hB i).1 hh
    rw [h5,if_neg (by decide)] at el em
    omega
   ·rw [hn,if_neg (by decide)] at el
    rw [el];exact (hB _).2 ⟨rfl,by omega,hn⟩
  ·rw [if_neg h2] at en el em
   by_cases h3:k=3
   ·rw [if_pos h3] at en el
    rw [if_pos (show k=3∨k=4 from .inl h3)] at em
    rw [if_neg (by omega),if_neg h2,if_pos h3] at eL
    have hc:=cat_facts m l d k hl;subst h3;refine ⟨fun hn i hh=>?_,fun i hh=>?_,fun hn hle=>?_⟩
    ·rw [eL] at hh
     obtain ⟨-,-,-,-,h5⟩:=hc.1 _ i (oneB0_length m) hh;rw [← en,hn] at h5
     cases h5
    ·rw [eL] at hh
     obtain ⟨j,hj,h4,h6,h5⟩:=hc.1 _ i (oneB0_length m) hh;have:=hs_one.1 hj;subst this;rw [en,h5,if_neg (by decide)] at el em
     rw [el,em];exact ⟨h4,h6⟩
    ·rw [hn,if_neg (by decide)] at el
     rw [eL,el];rw [el] at hle;exact hc.2 (by rw [← en,hn]) _ 0 (oneB0_length m) (hs_one.2 rfl) hle
   ·rw [if_neg h3] at en el
    by_cases h4:k=4
    ·rw [if_pos h4] at en el
     rw [if_pos (show k=3∨k=4 from .inr h4)] at em
     rw [if_neg (by omega),if_neg h2,if_neg h3,if_pos h4] at eL
     have hc:=alt_facts m l d k hl;subst h4;refine ⟨fun hn i hh=>?_,fun i hh=>?_,fun hn hle=>?_⟩
     ·rw [eL] at hh
      rcases hc.1 _ i (noB_length m) hh with hh | ⟨h5,-⟩
      ·exact hs_no hh
      ·rw [← en,hn] at h5
       cases h5
     ·rw [eL] at hh
      rcases hc.1 _ i (noB_length m) hh with hh | ⟨h5,h6⟩
      ·exact absurd hh hs_no
      ·rw [en,h5,if_neg (by decide)] at el em
       have h7:=h6 (-1) 0 (by omega) (by omega)
       rw [el,em];exact ⟨h7.1,h7.2⟩
     ·rw [hn,if_neg (by decide)] at el
      rw [eL,el];rw [el] at hle;exact hc.2 _ (-1) (noB_length m) (Int.le_refl _) (by rw [← en];exact .inr hn) (fun h=>by omega) hle
    ·rw [if_neg h4] at en el
     rw [if_neg (show ¬ (k=3∨k=4) by omega)] at em
     by_cases h5:k=5
     ·rw [if_pos h5] at en em
      rw [if_neg (by omega),if_neg h2,if_neg h3,if_neg h4,if_pos h5] at eL
      obtain ⟨a,rfl,b0,b1,bx,ha⟩:=one_sub h h5;have hra:RT d a:=IS.rt (k:=5) ha;have hF:=lens_facts m a d hra;have hlb:=least_bnd a d hra;have hmb:=most_bnd a d hra;rw [headN] at en em;rw [headM] at em;rw [headLe] at el;rw [headB] at eL;have hL:=lens_length m a;unfold repB at eL;have hK:mn<((lastN m mn mx+1).toNat:Int)∧(0≤mx→(((lastN m mn mx+1).toNat:Nat):Int)≤mx+1):=by
       unfold lastN
       split <;> omega
      generalize (lastN m mn mx+1).toNat=K at eL hK;have hB:∀ i,Hs B i↔∃ k:Nat,k<K∧mn≤k∧Hs (repS m mn (lens m a) k).2 i:=fun i=>by
       rw [eL];exact rep_one K i
      obtain ⟨hno,hlo,hat⟩:=hF;generalize lens m a=L at hno hlo hat hL hB;refine ⟨fun hn i hh=>?_,fun i hh=>?_,fun hn hle=>?_⟩
      ·rw [hn] at en
       have en2:=en.symm;rw [Bool.and_eq_true,decide_eq_true_eq] at en2;obtain ⟨q,h6,h7,h8⟩:=(hB i).1 hh;exact rep_nothing (hno en2.2) q i (by omega) h8
      ·obtain ⟨q,h6,h7,h8⟩:=(hB i).1 hh
       cases hna:noneB a with
       | true =>
        rw [hna,Bool.and_true] at en;have hq0:q=0:=by
         rcases Nat.eq_zero_or_pos q with h9 | h9
         ·exact h9
         ·exact absurd h8 (rep_nothing (hno hna) q i h9)
        subst hq0;rw [repS] at h8;have hi:=hs_one.1 h8;subst hi;rw [decide_eq_false (by omega)] at en
        rw [en,if_neg (by decide)] at el em
        rw [if_neg (by omega)] at el
        rw [if_pos (.inl hna)] at em;omega
       | false =>
        rw [hna,Bool.and_false] at en;rw [en,if_neg (by decide)] at el em
        have h9:=rep_two (mn:=mn) hL hlo q i h8;have h0:=hlb.2.1 hna;have hLe:Le=mn * leastI a:=by
         rw [el]
         split
         ·rfl
         ·rw [show mn=0 from by omega,Int.zero_mul]
        have hml:=Int.mul_le_mul_of_nonneg_right h7 h0;refine ⟨by omega,fun hM0=>?_⟩
        by_cases hm0:mx=0
        ·rw [if_pos (.inr hm0)] at em
         have hq0:q=0:=by
          have:=hK.2 (by omega)
          omega
         subst hq0;rw [repS] at h8;have hi:=hs_one.1 h8;omega
        ·rw [if_neg (by rintro (h | h);rw [hna] at h;cases h;exact hm0 h)] at em
         by_cases hv:mostI a=0
         ·rw [if_pos hv] at em
          have h10:=h9.2 (by omega)
          rw [hv,Int.mul_zero] at h10;omega
         ·rw [if_neg hv] at em
          by_cases hv2:mostI a<0∨mx<0
          ·rw [if_pos hv2] at em
           omega
          ·rw [if_neg hv2] at em
           have h10:=h9.2 (by omega)
           have h11:(q:Int)≤mx:=by
            have:=hK.2 (by omega)
            omega
           have h12:=Int.mul_le_mul_of_nonneg_right h11 (show 0≤mostI a by omega)
           rw [em,Int.mul_comm];omega
      ·rw [hn,if_neg (by decide)] at el
       obtain ⟨q,rfl⟩:∃ q:Nat,mn=q:=⟨mn.toNat,by omega⟩
       refine (hB _).2 ⟨q,by omega,Int.le_refl _,?_⟩
       rcases Nat.eq_zero_or_pos q with h9 | h9
       ·subst h9
        rw [if_neg (by omega)] at el
        rw [el,repS];exact hs_one.2 rfl
       ·rw [if_pos ⟨h5,by omega⟩] at el
        have hna:noneB a=false:=by
         rw [hn,decide_eq_true (by omega),Bool.true_and] at en
         exact en.symm
        have h0:=hlb.2.1 hna;obtain ⟨x,hx⟩:∃ x:Nat,leastI a=x:=⟨(leastI a).toNat,by omega⟩
        rw [hx] at el hat;have hqx:Le.toNat=q * x:=by
         rw [el];omega
        have hqm:q * x≤m:=by omega
        rw [hqx];refine rep_at (mn:=q) (hat hna ?_) q hqm;have:1 * x≤q * x:=Nat.mul_le_mul_right x h9;omega
     ·rw [if_neg h5] at en em
      subst en;rw [if_neg (by decide)] at el em
      rw [if_neg (show ¬ (k=5∧0<mn) by omega)] at el
      have h1:k=1:=by
       unfold Bare at hb;omega
      rw [if_pos h1] at eL;subst eL el em;refine ⟨fun h=>(by cases h),fun i hh=>?_,fun _ _=>hs_one.2 rfl⟩
      have:=hs_one.1 hh;omega
theorem cat_facts (m:Nat):∀ (l:List T) (d:Nat) (k:Int),RL d k l →
  (∀ (acc:List Bool) (i:Nat),acc.length=m+1→Hs (catB m acc l) i→∃ j:Nat,Hs acc j∧sumLe j l≤i∧(0≤mostL 3 j l→(i:Int)≤mostL 3 j l)∧anyN l=false)
  ∧ (anyN l=false→∀ (acc:List Bool) (j:Nat),acc.length=m+1→Hs acc j→sumLe j l≤m→Hs (catB m acc l) (sumLe j l).toNat)
 | [],d,k,_=>by
  refine ⟨fun acc i _ h=>?_,fun _ acc j _ h _=>?_⟩
  ·rw [catB] at h
   exact ⟨i,h,by rw [sumLe];exact Int.le_refl _,by rw [mostL];exact fun _=>Int.le_refl _,by rw [anyN]⟩
  ·rw [catB,sumLe,Int.toNat_natCast]
   exact h
 | t::l,d,k,hR=>by
  obtain ⟨h1,h2⟩:=RL_cons hR;have hF:=lens_facts m t d (IS.rt (k:=k) h1);have hlb:=least_bnd t d (IS.rt (k:=k) h1);have ih:=cat_facts m l d k h2;refine ⟨fun acc i hal h=>?_,fun hn acc j hal h hle=>?_⟩
  ·rw [catB] at h
   obtain ⟨j',hj',h3,h4,h5⟩:=ih.1 _ i (by rw [joinB_length];exact hal) h
   obtain ⟨-,p,q,rfl,hp,hq⟩:=hs_join.1 hj';have h6:=hF.lo q hq;have hn:noneB t=false:=by
    cases e:noneB t with
    | false=>rfl
    | true=>exact absurd hq (hF.no e q)
   refine ⟨p,hp,?_,?_,by rw [anyN,hn,h5];rfl⟩
   ·rw [sumLe]
    have:=sumLe_mono l ((p:Int)+leastI t) ((p+q:Nat):Int) (by omega)
    omega
   ·rw [mostL,if_neg (by rw [hn];decide)]
    split
    ·intro h;omega
    ·rename_i hm
     rw [if_pos rfl];intro h7;have h8:=h6.2 (by omega)
     have h9:=mostL_mono l ((p+q:Nat):Int) ((p:Int)+mostI t) (by omega) (by omega)
     have:=h4 (h9.2 h7);omega
  ·rw [anyN,Bool.or_eq_false_iff] at hn
   have h0:=hlb.2.1 hn.1;obtain ⟨x,hx⟩:∃ x:Nat,leastI t=x:=⟨(leastI t).toNat,by omega⟩
   rw [sumLe,hx] at hle ⊢;rw [catB];have hs0:=(sum_bnd l d k h2 hn.2 ((j:Int)+x) (by omega)).1
   have hat:=hF.at_ hn.1;rw [hx] at hat;have hk:=ih.2 hn.2 (joinB acc (lens m t)) (j+x) (by rw [joinB_length];exact hal) (hs_join.2 ⟨by rw [hal];omega,j,x,rfl,h,hat (by omega)⟩) (by rw [Int.natCast_add];exact hle)
   rw [Int.natCast_add] at hk;exact hk
theorem alt_facts (m:Nat):∀ (l:List T) (d:Nat) (k:Int),RL d k l →
  (∀ (acc:List Bool) (i:Nat),acc.length=m+1→Hs (altB m acc l) i→Hs acc i∨(allN l=false∧∀ a b:Int,-1≤a→0≤b→minLe a l≤i∧(0≤mostL 4 b l→(i:Int)≤mostL 4 b l)))
  ∧ (∀ (acc:List Bool) (a:Int),acc.length=m+1→-1≤a→(0≤a∨allN l=false)→(0≤a→a≤m→Hs acc a.toNat)→minLe a l≤m→Hs (altB m acc l) (minLe a l).toNat)
 | [],d,k,_=>by
  refine ⟨fun acc i _ h=>?_,fun acc a _ h0 h1 h2 h3=>?_⟩
  ·rw [altB] at h
   exact .inl h
  ·rw [minLe] at h3 ⊢
   rw [altB];rw [allN] at h1
   rcases h1 with h1 | h1
   ·exact h2 h1 h3
   ·cases h1
 | t::l,d,k,hR=>by
  obtain ⟨h1,h2⟩:=RL_cons hR;have hF:=lens_facts m t d (IS.rt (k:=k) h1);have hlb:=least_bnd t d (IS.rt (k:=k) h1);have ih:=alt_facts m l d k h2;refine ⟨fun acc i hal h=>?_,fun acc a hal h0 ha hh hle=>?_⟩
  ·rw [altB] at h
   have hll:(orB acc (lens m t)).length=m+1:=by
    unfold orB;rw [OP_length];exact hal
   have hmin:∀ a:Int,-1≤a→-1≤(if 0≤leastI t∧(a<0∨leastI t<a) then leastI t else a):=fun a h=>by split <;> omega
   rcases ih.1 _ i hll h with h3 | ⟨h3,h4⟩
   ·rcases (hs_or (by rw [lens_length,hal])).1 h3 with h5 | h5
    ·exact .inl h5
    ·right
     have hn:noneB t=false:=by
      cases e:noneB t with
      | false=>rfl
      | true=>exact absurd h5 (hF.no e i)
     have h6:=hF.lo i h5;refine ⟨by rw [allN,hn];rfl,fun a b ha hb=>?_⟩
     rw [minLe,mostL,if_neg (show ¬ noneB t=true by rw [hn];decide)]
     have h7:=hlb.2.1 hn;have hA:(if 0≤leastI t∧(a<0∨leastI t<a) then leastI t else a)≤i∧0≤(if 0≤leastI t∧(a<0∨leastI t<a) then leastI t else a):=by
      split <;> omega
     refine ⟨?_,?_⟩
     ·have:=min_le l _ hA.2
      omega
     ·split
      ·intro h;omega
      ·rw [if_neg (by decide)]
       intro h8;have h9:=mostL4_ge l _ (by omega) h8
       have:=h6.2 (by omega)
       omega
   ·right
    refine ⟨by rw [allN,h3,Bool.and_false],fun a b ha hb=>?_⟩
    rw [minLe,mostL];have h5:=h4 _ b (hmin a ha) hb;refine ⟨h5.1,?_⟩
    split
    ·exact h5.2
    ·split
     ·intro h;omega
     ·rw [if_neg (by decide)]
      exact (h4 (-1) _ (by omega) (by omega)).2
  ·rw [minLe] at hle ⊢
   rw [altB];refine ih.2 _ _ (by unfold orB;rw [OP_length];exact hal) (by split <;> omega) ?_ ?_ hle
   ·rcases ha with ha | ha
    ·left
     split <;> omega
    ·rw [allN] at ha
     cases hn:noneB t with
     | true =>
      rw [hn,Bool.true_and] at ha;exact .inr ha
     | false =>
      left
      have:=hlb.2.1 hn
      split <;> omega
   ·split
    ·rename_i hc
     intro h3 h4;refine (hs_or (by rw [lens_length,hal])).2 (.inr (hF.at_ ?_ h4))
     cases hn:noneB t with
     | false=>rfl
     | true =>
      have:=hlb.1 hn;omega
    ·intro h3 h4
     exact (hs_or (by rw [lens_length,hal])).2 (.inl (hh h3 h4))
end
def nullB (t:T):Bool:=(lens 0 t).getD 0 false
theorem nullB_iff {t:T} {d:Nat} (h:RT d t):nullB t=(!noneB t && decide (leastI t=0)):=by
 have hF:=lens_facts 0 t d h;have hlb:=least_bnd t d h;rw [Bool.eq_iff_iff]
 show Hs (lens 0 t) 0↔_
 rw [Bool.and_eq_true,decide_eq_true_eq]
 cases hn:noneB t with
 | true=>exact ⟨fun hh=>absurd hh (hF.no hn 0),fun hh=>by cases hh.1⟩
 | false =>
  have h0:=hlb.2.1 hn
  constructor
  ·intro hh
   have:=(hF.lo 0 hh).1;exact ⟨rfl,by omega⟩
  ·rintro ⟨-,h1⟩
   have:=hF.at_ hn (by omega)
   rw [h1] at this;exact this
end P09
namespace P09
open P07 P08 Bytes
open Sets (ST)
mutual
def firstS:T→ST
 | .nd k s mn mx l=>if noneB (.nd k s mn mx l)=true then .none else if k=2 then s else if k=3 then catF .none l else if k=4 then altF .none l else if k=5∧mx≠0 then headF l else .none
def catF:ST→List T→ST
 | acc,[]=>acc
 | acc,t::l=>if nullB t=true then catF (acc.or (firstS t)) l else acc.or (firstS t)
def altF:ST→List T→ST
 | acc,[]=>acc
 | acc,t::l=>altF (acc.or (firstS t)) l
def headF:List T→ST
 | []=>.none
 | t::_=>firstS t
end
theorem firstS_eq (t:T):firstS t=if noneB t=true then .none else if t.kind=2 then t.set else if t.kind=3 then catF .none t.subs else if t.kind=4 then altF .none t.subs else if t.kind=5∧t.mx≠0 then headF t.subs else .none:=by
 cases t
 rw [firstS]
 rfl
mutual
theorem tx_first:∀ (t:T) (d:Nat),RT d t→(txOf t).first=firstS t
 | .nd k s mn mx l,d,h=>by
  obtain ⟨hb,hs,hl⟩:=h.bare;have hS:=tx_same _ d h;have ef:=firstS_eq (.nd k s mn mx l);have en:=noneB_eq (.nd k s mn mx l)
  cases hn:noneB (.nd k s mn mx l) with
  | true =>
   rw [hS.zero hn,ef,if_pos hn]
   rfl
  | false =>
   rw [hn,if_neg (by decide)] at ef
   rw [hn] at en;rw [ef,txOf];unfold T.kind T.set T.mn T.subs at en;unfold T.kind T.set T.mx T.subs
   dsimp only at en ⊢
   clear ef hS hn
   by_cases h2:k=2
   ·rw [if_pos h2] at en ⊢
    rw [if_pos h2];unfold TX.cls;rw [if_neg];intro hc;rw [(count_zero hs).1 hc,eqB_refl] at en
    cases en
   ·rw [if_neg h2] at en ⊢
    rw [if_neg h2]
    by_cases h3:k=3
    ·rw [if_pos h3] at en ⊢
     rw [if_pos h3];have:=cat_first l d k hl en.symm .empty rfl (Int.le_refl 0);rw [if_pos (show TX.empty.least=0 from rfl)] at this
     exact this
    ·rw [if_neg h3] at en ⊢
     rw [if_neg h3]
     by_cases h4:k=4
     ·rw [if_pos h4] at en ⊢
      rw [if_pos h4];exact (alt_first l d k hl).1
     ·rw [if_neg h4] at en ⊢
      rw [if_neg h4]
      by_cases h5:k=5
      ·rw [if_pos h5] at en ⊢
       obtain ⟨a,rfl,b0,b1,bx,ha⟩:=one_sub h h5;have hra:RT d a:=IS.rt (k:=5) ha;have hS:=tx_same a d hra;have hf:=tx_first a d hra;rw [headX,headF];rw [headN] at en;unfold TX.rep
       by_cases hm:mx=0
       ·rw [if_pos (.inl hm),if_neg (show ¬ (k=5∧mx≠0) by omega)]
        rfl
       ·rw [if_pos (show k=5∧mx≠0 from ⟨h5,hm⟩),← hf]
        split
        ·rename_i h
         rcases h with h | h
         ·exact absurd h hm
         ·rw [hS.zero (by rw [← hS.none];exact h.1)]
          rfl
        ·split
         ·rfl
         ·split <;> rfl
      ·rw [if_neg h5,if_neg (show ¬ (k=5∧mx≠0) by omega)]
       rfl
theorem cat_first:∀ (l:List T) (d:Nat) (k:Int),RL d k l→anyN l=false→∀ acc:TX,acc.none=false→0≤acc.least→(catX acc l).first=if acc.least=0 then catF acc.first l else acc.first
 | [],d,k,_,_,acc,_,_=>by
  rw [catX,catF]
  split <;> rfl
 | t::l,d,k,hR,hn,acc,h0,hl0=>by
  obtain ⟨h1,h2⟩:=RL_cons hR;have hrt:=IS.rt (k:=k) h1;have hS:=tx_same t d hrt;have hI:=tx_in t d hrt;have hf:=tx_first t d hrt;rw [anyN,Bool.or_eq_false_iff] at hn;have hle:=hS.least hn.1;have hi0:=hI.l0;have hnl:=nullB_iff hrt;rw [hn.1,Bool.not_false,Bool.true_and] at hnl;have hth:acc.then_ (txOf t)=⟨false,acc.endless || (txOf t).endless,if acc.least=0 then acc.first.or (txOf t).first else acc.first,acc.least+(txOf t).least,acc.most+(txOf t).most⟩:=by
   unfold TX.then_;rw [if_neg (by rw [h0,hS.none,hn.1];simp)]
  have ih:=cat_first l d k h2 hn.2 (acc.then_ (txOf t)) (by rw [hth]) (by rw [hth];show 0≤acc.least+(txOf t).least;omega)
  rw [catX,ih,catF,hnl,← hf,hth]
  dsimp only
  by_cases ha:acc.least=0
  ·rw [if_pos ha,if_pos ha]
   by_cases hx:(txOf t).least=0
   ·rw [if_pos (by omega),if_pos (decide_eq_true (by omega))]
   ·rw [if_neg (by omega),if_neg (by rw [decide_eq_false (by omega)];decide)]
  ·rw [if_neg ha,if_neg ha,if_neg (by omega)]
theorem alt_first:∀ (l:List T) (d:Nat) (k:Int),RL d k l→(altX .nothing l).first=altF .none l∧∀ acc:TX,acc.none=false→acc.first.Ok→(altX acc l).first=altF acc.first l
 | [],d,k,_=>by
  rw [altX,altF];exact ⟨rfl,fun acc _ _=>by rw [altX,altF]⟩
 | t::l,d,k,hR=>by
  obtain ⟨h1,h2⟩:=RL_cons hR;have hrt:=IS.rt (k:=k) h1;have hS:=tx_same t d hrt;have hI:=tx_in t d hrt;have hf:=tx_first t d hrt;have ih:=alt_first l d k h2;refine ⟨?_,fun acc h0 hok=>?_⟩
  ·have hno:TX.nothing.or_ (txOf t)=txOf t:=by
    unfold TX.or_;rw [if_pos (show TX.nothing.none=true from rfl)]
   rw [altX,altF,hno,← hf,none_or hI.ok]
   cases hn:noneB t with
   | true =>
    rw [hS.zero hn];exact ih.1
   | false=>exact ih.2 _ (hS.none.trans hn) hI.ok
  ·rw [altX,altF,← hf]
   cases hn:noneB t with
   | true =>
    have hth:acc.or_ (txOf t)=acc:=by
     unfold TX.or_;rw [if_neg (by rw [h0];decide),if_pos (hS.none.trans hn)]
    rw [hth,hS.zero hn]
    show _=altF (acc.first.or .none) l
    rw [or_none hok];exact ih.2 acc h0 hok
   | false =>
    have hth:acc.or_ (txOf t)=⟨false,acc.endless || (txOf t).endless,acc.first.or (txOf t).first,min acc.least (txOf t).least,max acc.most (txOf t).most⟩:=by
     unfold TX.or_;rw [if_neg (by rw [h0];decide),if_neg (by rw [hS.none,hn];decide)]
    rw [hth];exact ih.2 _ rfl (ST.or_ok hok hI.ok)
end
end P09
namespace P10
open P07 P08 P09 Bytes
open Sets (ST)
def Pow (P:List UInt8→Prop):Nat→List UInt8→Prop
 | 0,w=>w=[]
 | n+1,w=>∃ u v,w=u++v∧P u∧Pow P n v
mutual
def Mat:T→List UInt8→Prop
 | .nd k s mn mx l=>fun w=>(k=1∧w=[])∨(k=2∧∃ b:UInt8,w=[b]∧s.has b.toNat=true)∨(k=3∧MCat l w)∨(k=4∧MAlt l w)∨(k=5∧∃ n:Nat,mn≤n∧(mx<0∨(n:Int)≤mx)∧Pow (MHd l) n w)
def MCat:List T→List UInt8→Prop
 | []=>fun w=>w=[]
 | t::l=>fun w=>∃ u v,w=u++v∧Mat t u∧MCat l v
def MAlt:List T→List UInt8→Prop
 | []=>fun _=>False
 | t::l=>fun w=>Mat t w∨MAlt l w
def MHd:List T→List UInt8→Prop
 | []=>fun _=>False
 | t::_=>fun w=>Mat t w
end
theorem mcat_nil (w:List UInt8):MCat [] w↔w=[]:=by rw [MCat]
theorem mcat_cons (t:T) (l:List T) (w:List UInt8):MCat (t::l) w↔∃ u v,w=u++v∧Mat t u∧MCat l v:=by rw [MCat]
theorem malt_nil (w:List UInt8):¬ MAlt [] w:=by rw [MAlt];exact fun h=>h
theorem malt_cons (t:T) (l:List T) (w:List UInt8):MAlt (t::l) w↔Mat t w∨MAlt l w:=by rw [MAlt]
theorem mhd_cons (t:T) (l:List T) (w:List UInt8):MHd (t::l) w↔Mat t w:=by rw [MHd]
theorem mat_nd (k:Int) (s:ST) (mn mx:Int) (l:List T) (w:List UInt8):Mat (.nd k s mn mx l) w↔(k=1∧w=[])∨(k=2∧∃ b:UInt8,w=[b]∧s.has b.toNat=true)∨(k=3∧MCat l w)∨(k=4∧MAlt l w)∨(k=5∧∃ n:Nat,mn≤n∧(mx<0∨(n:Int)≤mx)∧Pow (MHd l) n w):=by rw [Mat]
theorem mat_1 (s:ST) (mn mx:Int) (l:List T) (w:List UInt8):Mat (.nd 1 s mn mx l) w↔w=[]:=by
 rw [mat_nd]
 constructor
 ·rintro (h | h | h | h | h)
  ·exact h.2
  ·omega
  ·omega
  ·omega
  ·omega
 ·exact fun h=>.inl ⟨rfl,h⟩
theorem mat_2 (s:ST) (mn mx:Int) (l:List T) (w:List UInt8):Mat (.nd 2 s mn mx l) w↔∃ b:UInt8,w=[b]∧s.has b.toNat=true:=by
 rw [mat_nd]
 constructor
 ·rintro (h | h | h | h | h)
  ·omega
  ·exact h.2
  ·omega
  ·omega
  ·omega
 ·exact fun h=>.inr (.inl ⟨rfl,h⟩)
theorem mat_3 (s:ST) (mn mx:Int) (l:List T) (w:List UInt8):Mat (.nd 3 s mn mx l) w↔MCat l w:=by
 rw [mat_nd]
 constructor
 ·rintro (h | h | h | h | h)
  ·omega
  ·omega
  ·exact h.2
  ·omega
  ·omega
 ·exact fun h=>.inr (.inr (.inl ⟨rfl,h⟩))
theorem mat_4 (s:ST) (mn mx:Int) (l:List T) (w:List UInt8):Mat (.nd 4 s mn mx l) w↔MAlt l w:=by
 rw [mat_nd]
 constructor
 ·rintro (h | h | h | h | h)
  ·omega
  ·omega
  ·omega
  ·exact h.2
  ·omega
 ·exact fun h=>.inr (.inr (.inr (.inl ⟨rfl,h⟩)))
theorem mat_5 (s:ST) (mn mx:Int) (l:List T) (w:List UInt8):Mat (.nd 5 s mn mx l) w↔∃ n:Nat,mn≤n∧(mx<0∨(n:Int)≤mx)∧Pow (MHd l) n w:=by
 rw [mat_nd]
 constructor
 ·rintro (h | h | h | h | h)
  ·omega
  ·omega
  ·omega
  ·omega
  ·exact h.2
 ·exact fun h=>.inr (.inr (.inr (.inr ⟨rfl,h⟩)))
theorem Pow.congr {P Q:List UInt8→Prop} (h:∀ w,P w↔Q w):∀ (n:Nat) (w:List UInt8),Pow P n w↔Pow Q n w
 | 0,w=>Iff.rfl
 | n+1,w=>by
  constructor
  ·rintro ⟨u,v,rfl,h1,h2⟩
   exact ⟨u,v,rfl,(h u).1 h1,(Pow.congr h n v).1 h2⟩
  ·rintro ⟨u,v,rfl,h1,h2⟩
   exact ⟨u,v,rfl,(h u).2 h1,(Pow.congr h n v).2 h2⟩
theorem Pow.mono {P Q:List UInt8→Prop} (h:∀ w,P w→Q w):∀ (n:Nat) (w:List UInt8),Pow P n w→Pow Q n w
 | 0,_,h0=>h0
 | n+1,_,⟨u,v,e,h1,h2⟩=>⟨u,v,e,h u h1,Pow.mono h n v h2⟩
theorem Pow.one {P:List UInt8→Prop} (w:List UInt8):Pow P 1 w↔P w:=by
 constructor
 ·rintro ⟨u,v,rfl,h,rfl⟩
  rw [List.append_nil];exact h
 ·exact fun h=>⟨w,[],by simp,h,rfl⟩
theorem Pow.add {P:List UInt8→Prop}:∀ (n m:Nat) (u v:List UInt8),Pow P n u→Pow P m v→Pow P (n+m) (u++v)
 | 0,m,u,v,hu,hv=>by
  rw [show u=[] from hu,Nat.zero_add]
  exact hv
 | n+1,m,u,v,⟨a,b,e,h1,h2⟩,hv=>by
  rw [show n+1+m=(n+m)+1 by omega,e,List.append_assoc]
  exact ⟨a,b++v,rfl,h1,Pow.add n m b v h2 hv⟩
theorem Pow.nil {P:List UInt8→Prop} (h:P []):∀ n,Pow P n []
 | 0=>rfl
 | n+1=>⟨[],[],rfl,h,Pow.nil h n⟩
theorem Pow.short {P:List UInt8→Prop}:∀ (n:Nat) (w:List UInt8),Pow P n w→∃ m,m≤n∧m≤w.length∧(m<n→P [])∧Pow P m w
 | 0,w,h=>⟨0,Nat.le_refl 0,Nat.zero_le _,fun h=>absurd h (Nat.lt_irrefl 0),h⟩
 | n+1,w,⟨u,v,e,h1,h2⟩=>by
  obtain ⟨m,hm,hl,hP,hv⟩:=Pow.short n v h2
  cases u with
  | nil =>
   refine ⟨m,by omega,by rw [e];exact hl,fun _=>h1,?_⟩
   rw [e];exact hv
  | cons a u =>
   refine ⟨m+1,by omega,by rw [e];simp;omega,fun h=>hP (by omega),a::u,v,e,h1,hv⟩
theorem Pow.more {P:List UInt8→Prop} (h:P []) {n m:Nat} (hm:n≤m) {w:List UInt8} (hw:Pow P n w):Pow P m w:=by
 have:=Pow.add (m - n) n [] w (Pow.nil h _) hw;rw [Nat.sub_add_cancel hm] at this;exact this
theorem Pow.flat {P Q:List UInt8→Prop} (hP:∀ w,P w→∃ n,Pow Q n w):∀ (n:Nat) (w:List UInt8),Pow P n w→∃ m,Pow Q m w
 | 0,w,h=>⟨0,h⟩
 | n+1,w,⟨u,v,e,h1,h2⟩=>by
  obtain ⟨a,ha⟩:=hP u h1;obtain ⟨b,hb⟩:=Pow.flat hP n v h2;exact ⟨a+b,by rw [e];exact Pow.add a b u v ha hb⟩
theorem set_any {s:ST} (hs:s.Ok):eqB s ST.none=false↔∃ b:UInt8,s.has b.toNat=true:=by
 constructor
 ·intro h
  refine Classical.byContradiction fun hn=>?_
  have e:s=ST.none:=ST.ext hs ST.none_ok fun b hb=>by
   rw [ST.has_none]
   cases e:s.has b with
   | false=>rfl
   | true=>exact absurd ⟨UInt8.ofNat b,by rw [UInt8.toNat_ofNat_of_lt' (by simpa using hb)];exact e⟩ hn
  rw [e,eqB_refl] at h
  cases h
 ·rintro ⟨b,hb⟩
  cases e:eqB s ST.none with
  | false=>rfl
  | true =>
   rw [eqB_iff.1 e,ST.has_none] at hb
   cases hb
def LenOk (m:Nat) (P:List UInt8→Prop) (L:List Bool):Prop:=∀ k,Hs L k↔k≤m∧∃ w,w.length=k∧P w
theorem LenOk.join {m:Nat} {P Q:List UInt8→Prop} {a b:List Bool} (ha:a.length=m+1) (hP:LenOk m P a) (hQ:LenOk m Q b):LenOk m (fun w=>∃ u v,w=u++v∧P u∧Q v) (joinB a b):=fun k=>by
 rw [hs_join,ha]
 constructor
 ·rintro ⟨hk,i,j,rfl,hi,hj⟩
  obtain ⟨-,u,rfl,hu⟩:=(hP i).1 hi;obtain ⟨-,v,rfl,hv⟩:=(hQ j).1 hj;exact ⟨by omega,u++v,by simp,u,v,rfl,hu,hv⟩
 ·rintro ⟨hk,w,rfl,u,v,rfl,hu,hv⟩
  rw [List.length_append] at hk ⊢;exact ⟨by omega,u.length,v.length,rfl,(hP _).2 ⟨by omega,u,rfl,hu⟩,(hQ _).2 ⟨by omega,v,rfl,hv⟩⟩
theorem LenOk.or {m:Nat} {P Q:List UInt8→Prop} {a b:List Bool} (hl:b.length=a.length) (hP:LenOk m P a) (hQ:LenOk m Q b):LenOk m (fun w=>P w∨Q w) (orB a b):=fun k=>by
 rw [hs_or hl,hP k,hQ k]
 constructor
 ·rintro (⟨h,w,e,h1⟩ | ⟨h,w,e,h1⟩)
  ·exact ⟨h,w,e,.inl h1⟩
  ·exact ⟨h,w,e,.inr h1⟩
 ·rintro ⟨h,w,e,h1 | h1⟩
  ·exact .inl ⟨h,w,e,h1⟩
  ·exact .inr ⟨h,w,e,h1⟩
theorem LenOk.congr {m:Nat} {P Q:List UInt8→Prop} {a:List Bool} (hP:LenOk m P a) (h:∀ w,P w↔Q w):LenOk m Q a:=fun k=>by
 rw [hP k]
 constructor
 ·rintro ⟨h1,w,e,h2⟩
  exact ⟨h1,w,e,(h w).1 h2⟩
 ·rintro ⟨h1,w,e,h2⟩
  exact ⟨h1,w,e,(h w).2 h2⟩
theorem LenOk.eps (m:Nat):LenOk m (fun w=>w=[]) (oneB0 m):=fun k=>by
 rw [hs_one]
 constructor
 ·rintro rfl
  exact ⟨Nat.zero_le _,[],rfl,rfl⟩
 ·rintro ⟨-,w,rfl,rfl⟩
  rfl
theorem LenOk.no (m:Nat):LenOk m (fun _=>False) (noB m):=fun k=>by
 constructor
 ·exact fun h=>absurd h hs_no
 ·rintro ⟨-,w,-,h⟩
  exact h.elim
theorem LenOk.pow {m:Nat} {mn:Int} {P:List UInt8→Prop} {L:List Bool} (hP:LenOk m P L):∀ n,LenOk m (Pow P n) (repS m mn L n).2
 | 0=>LenOk.eps m
 | n+1=>by
  rw [repS];refine (LenOk.join (repS_length m mn L n).2 (LenOk.pow hP n) hP).congr fun w=>?_
  constructor
  ·rintro ⟨u,v,rfl,hu,hv⟩
   exact Pow.add n 1 u v hu ((Pow.one v).2 hv)
  ·intro h
   have key:∀ (n:Nat) (w:List UInt8),Pow P (n+1) w→∃ u v,w=u++v∧Pow P n u∧P v:=fun n=>by
    induction n with
    | zero =>
     intro w h;exact ⟨[],w,rfl,rfl,(Pow.one w).1 h⟩
    | succ n ih =>
     rintro w ⟨u,v,rfl,hu,hv⟩;obtain ⟨a,b,rfl,ha,hb⟩:=ih v hv;exact ⟨u++a,b,by simp,⟨u,a,rfl,hu,ha⟩,hb⟩
   exact key n w h
mutual
theorem lens_mat (m:Nat):∀ (t:T) (d:Nat),RT d t→LenOk m (Mat t) (lens m t)
 | .nd k s mn mx l,d,h=>by
  obtain ⟨hb,hs,hl⟩:=h.bare;have eL:=lens_eq m (.nd k s mn mx l);unfold T.kind T.set T.mn T.mx T.subs at eL
  dsimp only at eL
  rw [eL]
  by_cases h1:k=1
  ·rw [if_pos h1]
   subst h1;exact (LenOk.eps m).congr fun w=>(mat_1 s mn mx l w).symm
  rw [if_neg h1]
  by_cases h2:k=2
  ·rw [if_pos h2]
   subst h2;refine LenOk.congr (P:=fun w=>∃ b:UInt8,w=[b]∧s.has b.toNat=true) ?_ fun w=>(mat_2 s mn mx l w).symm
   intro i;have hex:(∃ w:List UInt8,w.length=i∧∃ b:UInt8,w=[b]∧s.has b.toNat=true)↔i=1∧eqB s ST.none=false:=by
    rw [set_any hs]
    constructor
    ·rintro ⟨w,rfl,b,rfl,hb⟩
     exact ⟨rfl,b,hb⟩
    ·rintro ⟨rfl,b,hb⟩
     exact ⟨[b],rfl,b,rfl,hb⟩
   rw [hex]
   by_cases hm:1≤m
   ·rw [if_pos hm]
    by_cases hi:i=1
    ·subst hi
     rw [hs_of (b:=!eqB s ST.none) (by rw [List.getElem?_set,if_pos rfl,if_pos (by rw [noB_length];omega)])]
     cases eqB s ST.none <;> simp [hm]
    ·constructor
     ·intro hh
      have hlt:=hh.lt;rw [List.length_set,noB_length] at hlt;have:=(hs_of (b:=false) (by rw [List.getElem?_set,if_neg (by omega)];simp [noB,hlt])).1 hh
      cases this
     ·rintro ⟨-,h3,-⟩
      exact absurd h3 hi
   ·rw [if_neg hm]
    constructor
    ·exact fun h=>absurd h hs_no
    ·rintro ⟨h3,h4,-⟩
     omega
  rw [if_neg h2]
  by_cases h3:k=3
  ·rw [if_pos h3]
   subst h3;refine (cat_mat m l d 3 hl _ _ (oneB0_length m) (LenOk.eps m)).congr fun w=>?_
   rw [mat_3]
   constructor
   ·rintro ⟨u,v,rfl,rfl,h⟩
    exact h
   ·exact fun h=>⟨[],w,rfl,rfl,h⟩
  rw [if_neg h3]
  by_cases h4:k=4
  ·rw [if_pos h4]
   subst h4;refine (alt_mat m l d 4 hl _ _ (noB_length m) (LenOk.no m)).congr fun w=>?_
   rw [mat_4]
   constructor
   ·rintro (h | h)
    ·exact h.elim
    ·exact h
   ·exact fun h=>.inr h
  rw [if_neg h4]
  by_cases h5:k=5
  ·rw [if_pos h5]
   obtain ⟨a,rfl,b0,b1,bx,ha⟩:=one_sub h h5;subst h5;have ih:=lens_mat m a d (IS.rt (k:=5) ha);rw [headB];intro i
   show Hs (repS m mn (lens m a) (lastN m mn mx+1).toNat).1 i↔_
   rw [rep_one]
   constructor
   ·rintro ⟨q,h6,h7,h8⟩
    obtain ⟨h9,w,rfl,hw⟩:=(LenOk.pow ih q i).1 h8;refine ⟨h9,w,rfl,(mat_5 s mn mx [a] w).2 ⟨q,h7,?_,?_⟩⟩
    ·unfold lastN at h6
     split at h6 <;> omega
    ·exact Pow.mono (fun w h=>(mhd_cons a [] w).2 h) q w hw
   ·rintro ⟨h9,w,rfl,hw⟩
    obtain ⟨q,h7,h8,hq⟩:=(mat_5 s mn mx [a] w).1 hw;have hq:=Pow.mono (fun w h=>(mhd_cons a [] w).1 h) q w hq
    by_cases hx:mx<0
    ·obtain ⟨p,hp1,hp2,hp3,hp4⟩:=Pow.short q w hq
     by_cases hpm:mn≤p
     ·refine ⟨p,?_,hpm,(LenOk.pow ih p _).2 ⟨h9,w,rfl,hp4⟩⟩
      unfold lastN;rw [if_pos hx];omega
     ·obtain ⟨n,rfl⟩:∃ n:Nat,mn=n:=⟨mn.toNat,by omega⟩
      refine ⟨n,?_,Int.le_refl _,(LenOk.pow ih n _).2 ⟨h9,w,rfl,Pow.more (hp3 (by omega)) (by omega) hp4⟩⟩
      unfold lastN;rw [if_pos hx];omega
    ·refine ⟨q,?_,h7,(LenOk.pow ih q _).2 ⟨h9,w,rfl,hq⟩⟩
     unfold lastN;rw [if_neg hx];omega
  ·exfalso
   unfold Bare at hb;omega
theorem cat_mat (m:Nat):∀ (l:List T) (d:Nat) (k:Int),RL d k l→∀ (acc:List Bool) (P:List UInt8→Prop),acc.length=m+1→LenOk m P acc→LenOk m (fun w=>∃ u v,w=u++v∧P u∧MCat l v) (catB m acc l)
 | [],d,k,_,acc,P,_,hP=>by
  rw [catB];refine hP.congr fun w=>?_
  constructor
  ·exact fun h=>⟨w,[],by simp,h,(mcat_nil []).2 rfl⟩
  ·rintro ⟨u,v,rfl,hu,hv⟩
   rw [(mcat_nil v).1 hv,List.append_nil];exact hu
 | t::l,d,k,hR,acc,P,hal,hP=>by
  obtain ⟨h1,h2⟩:=RL_cons hR;have ih:=lens_mat m t d (IS.rt (k:=k) h1);rw [catB];refine (cat_mat m l d k h2 _ _ (by rw [joinB_length];exact hal) (LenOk.join hal hP ih)).congr fun w=>?_
  constructor
  ·rintro ⟨-,v,rfl,⟨a,b,rfl,ha,hb⟩,hv⟩
   exact ⟨a,b++v,by simp,ha,(mcat_cons t l _).2 ⟨b,v,rfl,hb,hv⟩⟩
  ·rintro ⟨u,v,rfl,hu,hv⟩
   obtain ⟨a,b,rfl,ha,hb⟩:=(mcat_cons t l _).1 hv;exact ⟨u++a,b,by simp,⟨u,a,rfl,hu,ha⟩,hb⟩
theorem alt_mat (m:Nat):∀ (l:List T) (d:Nat) (k:Int),RL d k l→∀ (acc:List Bool) (P:List UInt8→Prop),acc.length=m+1→LenOk m P acc→LenOk m (fun w=>P w∨MAlt l w) (altB m acc l)
 | [],d,k,_,acc,P,_,hP=>by
  rw [altB];refine hP.congr fun w=>?_
  constructor
  ·exact fun h=>.inl h
  ·rintro (h | h)
   ·exact h
   ·exact absurd h (malt_nil w)
 | t::l,d,k,hR,acc,P,hal,hP=>by
  obtain ⟨h1,h2⟩:=RL_cons hR;have ih:=lens_mat m t d (IS.rt (k:=k) h1);rw [altB];refine (alt_mat m l d k h2 _ _ (by unfold orB;rw [OP_length];exact hal) (LenOk.or (by rw [lens_length,hal]) hP ih)).congr fun w=>?_
  rw [malt_cons];exact or_assoc
end
theorem null_mat {t:T} {d:Nat} (h:RT d t):nullB t=true↔Mat t []:=by
 show Hs (lens 0 t) 0↔_
 rw [lens_mat 0 t d h 0]
 constructor
 ·rintro ⟨-,w,h1,h2⟩
  rw [List.eq_nil_of_length_eq_zero h1] at h2;exact h2
 ·exact fun h=>⟨Nat.le_refl 0,[],rfl,h⟩
end P10
namespace P10
open P07 P08 P09 Bytes
open Sets (ST)
mutual
def sameB:T→T→Bool
 | .nd k s m x l,.nd k' s' m' x' l'=>decide (k=k') && (eqB s s' && (decide (m=m') && (decide (x=x') && sameL l l')))
def sameL:List T→List T→Bool
 | [],[]=>true
 | a::l,b::m=>sameB a b && sameL l m
 | [],_::_=>false
 | _::_,[]=>false
end
mutual
theorem sameB_iff:∀ a b:T,sameB a b=true↔a=b
 | .nd k s m x l,.nd k' s' m' x' l'=>by
  rw [sameB]
  simp only [Bool.and_eq_true,decide_eq_true_eq,eqB_iff,sameL_iff l l',T.nd.injEq]
theorem sameL_iff:∀ a b:List T,sameL a b=true↔a=b
 | [],[]=>by rw [sameL];simp
 | a::l,b::m=>by
  rw [sameL]
  simp only [Bool.and_eq_true,sameB_iff a b,sameL_iff l m,List.cons.injEq]
 | [],_::_=>by rw [sameL];simp
 | _::_,[]=>by rw [sameL];simp
end
def isNo (t:T):Bool:=decide (t.kind=2) && eqB t.set ST.none
def noT:T:=clsT ST.none
def epsT:T:=.nd 1 ST.none 0 0 []
def unf (k:Int) (L:List T):List T:=L.flatMap fun t=>if t.kind=k then t.subs else [t]
def joinT (k:Int) (L:List T) (e:T):T :=
 match L with
 | []=>e
 | [t]=>t
 | a::b::l=>.nd k ST.none 0 0 (a::b::l)
def catT (L:List T):T:=if (unf 3 L).any isNo then noT else joinT 3 ((unf 3 L).filter fun t=>decide (t.kind≠1)) epsT
def altS (A:List T × Option Nat) (t:T):List T × Option Nat :=
 if isNo t=true then A
 else if t.kind=2 then (match A.2 with
  | none=>(A.1++[clsT t.set],some A.1.length)
  | some i=>(A.1.set i (clsT ((A.1.getD i noT).set.or t.set)),some i))
 else if A.1.any (sameB t)=true then A else (A.1++[t],A.2)
def altF (L:List T):List T × Option Nat:=L.foldl altS ([],none)
def altT (L:List T):T:=joinT 4 (altF (unf 4 L)).1 noT
def isSt (t:T):Bool:=decide (t.kind=5∧t.mn=0∧t.mx=-1)
mutual
def starT:T→T
 | .nd k s mn mx l=>if k=1∨isNo (.nd k s mn mx l)=true then epsT else if isSt (.nd k s mn mx l)=true then .nd k s mn mx l
  else if k=5∧(mn=0∨mn=1)∧l.length=1 then starH l else .nd 5 ST.none 0 (-1) [.nd k s mn mx l]
def starH:List T→T
 | []=>epsT
 | t::_=>starT t
end
def repP (t:T) (lo hi:Int):T :=
 if hi=0∨t.kind=1∨(isNo t=true∧lo=0) then epsT
 else if isNo t=true∨(lo=1∧hi=1)∨isSt t=true then t
 else if lo=0∧hi=-1 then starT t
 else .nd 5 ST.none lo hi [t]
mutual
def simT:T→T
 | .nd k s mn mx l=>if k=3 then catT (simL l) else if k=4 then altT (simL l) else if k=5 then simH mn mx l else .nd k s mn mx l
def simL:List T→List T
 | []=>[]
 | t::l=>simT t::simL l
def simH:Int→Int→List T→T
 | _,_,[]=>noT
 | mn,mx,t::_=>repP (simT t) mn mx
end
theorem simL_map:∀ L:List T,simL L=L.map simT
 | []=>by rw [simL];rfl
 | t::l=>by rw [simL,simL_map l];rfl
theorem simT_eq (t:T):simT t=if t.kind=3 then catT (t.subs.map simT) else if t.kind=4 then altT (t.subs.map simT) else if t.kind=5 then simH t.mn t.mx t.subs else t:=by
 cases t with
 | nd k s mn mx l =>
  rw [simT,simL_map]
  rfl
theorem starT_eq (t:T):starT t=if t.kind=1∨isNo t=true then epsT else if isSt t=true then t else if t.kind=5∧(t.mn=0∨t.mn=1)∧t.subs.length=1 then starH t.subs else .nd 5 ST.none 0 (-1) [t]:=by
 cases t
 rw [starT]
 rfl
theorem mat_no {t:T} (h:isNo t=true) (w:List UInt8):¬ Mat t w:=by
 cases t with
 | nd k s mn mx l =>
  unfold isNo T.kind T.set at h
  simp only [Bool.and_eq_true,decide_eq_true_eq,eqB_iff] at h
  obtain ⟨rfl,rfl⟩:=h;rw [mat_2];rintro ⟨b,-,hb⟩;rw [ST.has_none] at hb
  cases hb
theorem mat_noT (w:List UInt8):¬ Mat noT w:=mat_no (by unfold isNo noT clsT T.kind T.set;simp [eqB_refl]) w
theorem mat_epsT (w:List UInt8):Mat epsT w↔w=[]:=mat_1 _ _ _ _ w
theorem mat_kind1 {t:T} (h:t.kind=1) (w:List UInt8):Mat t w↔w=[]:=by
 cases t with
 | nd k s mn mx l =>
  have:k=1:=h;subst this;exact mat_1 _ _ _ _ w
theorem mat_kind3 {t:T} (h:t.kind=3) (w:List UInt8):Mat t w↔MCat t.subs w:=by
 cases t with
 | nd k s mn mx l =>
  have:k=3:=h;subst this;exact mat_3 _ _ _ _ w
theorem mat_kind4 {t:T} (h:t.kind=4) (w:List UInt8):Mat t w↔MAlt t.subs w:=by
 cases t with
 | nd k s mn mx l =>
  have:k=4:=h;subst this;exact mat_4 _ _ _ _ w
theorem mat_kind2 {t:T} (h:t.kind=2) (w:List UInt8):Mat t w↔∃ b:UInt8,w=[b]∧t.set.has b.toNat=true:=by
 cases t with
 | nd k s mn mx l =>
  have:k=2:=h;subst this;exact mat_2 _ _ _ _ w
theorem mcat_append:∀ (L M:List T) (w:List UInt8),MCat (L++M) w↔∃ u v,w=u++v∧MCat L u∧MCat M v
 | [],M,w=>by
  constructor
  ·exact fun h=>⟨[],w,rfl,(mcat_nil []).2 rfl,h⟩
  ·rintro ⟨u,v,rfl,hu,hv⟩
   rw [(mcat_nil u).1 hu];exact hv
 | t::L,M,w=>by
  rw [List.cons_append,mcat_cons]
  constructor
  ·rintro ⟨u,v,rfl,hu,hv⟩
   obtain ⟨a,b,rfl,ha,hb⟩:=(mcat_append L M v).1 hv;exact ⟨u++a,b,by simp,(mcat_cons t L _).2 ⟨u,a,rfl,hu,ha⟩,hb⟩
  ·rintro ⟨u,v,rfl,hu,hv⟩
   obtain ⟨a,b,rfl,ha,hb⟩:=(mcat_cons t L u).1 hu;exact ⟨a,b++v,by simp,ha,(mcat_append L M _).2 ⟨b,v,rfl,hb,hv⟩⟩
theorem mcat_one (t:T) (w:List UInt8):MCat [t] w↔Mat t w:=by
 rw [mcat_cons]
 constructor
 ·rintro ⟨u,v,rfl,hu,hv⟩
  rw [(mcat_nil v).1 hv,List.append_nil];exact hu
 ·exact fun h=>⟨w,[],by simp,h,(mcat_nil []).2 rfl⟩
theorem malt_iff:∀ (L:List T) (w:List UInt8),MAlt L w↔∃ t,t ∈ L∧Mat t w
 | [],w=>by
  constructor
  ·exact fun h=>absurd h (malt_nil w)
  ·rintro ⟨t,h,-⟩
   cases h
 | t::L,w=>by
  rw [malt_cons,malt_iff L w]
  constructor
  ·rintro (h | ⟨s,h1,h2⟩)
   ·exact ⟨t,by simp,h⟩
   ·exact ⟨s,by simp [h1],h2⟩
  ·rintro ⟨s,h1,h2⟩
   rcases List.mem_cons.1 h1 with rfl | h1
   ·exact .inl h2
   ·exact .inr ⟨s,h1,h2⟩
theorem unf_cons (k:Int) (t:T) (L:List T):unf k (t::L)=(if t.kind=k then t.subs else [t])++unf k L:=by
 unfold unf;rw [List.flatMap_cons]
theorem mcat_unf:∀ (L:List T) (w:List UInt8),MCat (unf 3 L) w↔MCat L w
 | [],w=>Iff.rfl
 | t::L,w=>by
  rw [unf_cons,mcat_append,mcat_cons];have e:∀ u,MCat (if t.kind=3 then t.subs else [t]) u↔Mat t u:=fun u=>by
   split
   ·rename_i h
    exact (mat_kind3 h u).symm
   ·exact mcat_one t u
  constructor
  ·rintro ⟨u,v,rfl,hu,hv⟩
   exact ⟨u,v,rfl,(e u).1 hu,(mcat_unf L v).1 hv⟩
  ·rintro ⟨u,v,rfl,hu,hv⟩
   exact ⟨u,v,rfl,(e u).2 hu,(mcat_unf L v).2 hv⟩
theorem malt_unf (L:List T) (w:List UInt8):MAlt (unf 4 L) w↔MAlt L w:=by
 induction L with
 | nil=>exact Iff.rfl
 | cons t L ih =>
  rw [malt_iff,unf_cons,malt_cons,← ih,malt_iff]
  constructor
  ·rintro ⟨s,h1,h2⟩
   rcases List.mem_append.1 h1 with h1 | h1
   ·left
    split at h1
    ·rename_i h
     exact (mat_kind4 h w).2 ((malt_iff _ w).2 ⟨s,h1,h2⟩)
    ·rw [← List.mem_singleton.1 h1]
     exact h2
   ·exact .inr ⟨s,h1,h2⟩
  ·rintro (h | ⟨s,h1,h2⟩)
   ·by_cases hk:t.kind=4
    ·obtain ⟨s,h1,h2⟩:=(malt_iff _ w).1 ((mat_kind4 hk w).1 h)
     exact ⟨s,List.mem_append.2 (.inl (by rw [if_pos hk];exact h1)),h2⟩
    ·exact ⟨t,List.mem_append.2 (.inl (by rw [if_neg hk];simp)),h⟩
   ·exact ⟨s,List.mem_append.2 (.inr h1),h2⟩
theorem mcat_no:∀ {L:List T},L.any isNo=true→∀ w,¬ MCat L w
 | [],h,w=>by cases h
 | t::L,h,w=>by
  rw [List.any_cons,Bool.or_eq_true] at h;rw [mcat_cons];rintro ⟨u,v,rfl,hu,hv⟩
  rcases h with h | h
  ·exact mat_no h u hu
  ·exact mcat_no h v hv
theorem mcat_filter:∀ (L:List T) (w:List UInt8),MCat (L.filter fun t=>decide (t.kind≠1)) w↔MCat L w
 | [],w=>Iff.rfl
 | t::L,w=>by
  by_cases h:t.kind=1
  ·rw [List.filter_cons_of_neg (by simp [h]),mcat_filter L w,mcat_cons]
   constructor
   ·exact fun h1=>⟨[],w,rfl,(mat_kind1 h []).2 rfl,h1⟩
   ·rintro ⟨u,v,rfl,hu,hv⟩
    rw [(mat_kind1 h u).1 hu];exact hv
  ·rw [List.filter_cons_of_pos (by simp [h]),mcat_cons,mcat_cons]
   constructor
   ·rintro ⟨u,v,e,hu,hv⟩
    exact ⟨u,v,e,hu,(mcat_filter L v).1 hv⟩
   ·rintro ⟨u,v,e,hu,hv⟩
    exact ⟨u,v,e,hu,(mcat_filter L v).2 hv⟩
theorem mat_catT (L:List T) (w:List UInt8):Mat (catT L) w↔MCat L w:=by
 unfold catT
 by_cases h:(unf 3 L).any isNo=true
 ·rw [if_pos h]
  constructor
  ·exact fun h1=>absurd h1 (mat_noT w)
  ·exact fun h1=>absurd ((mcat_unf L w).2 h1) (mcat_no h w)
 ·rw [if_neg h,← mcat_unf,← mcat_filter]
  generalize (unf 3 L).filter (fun t=>decide (t.kind≠1))=M
  match M with
  | []=>rw [mcat_nil];exact mat_epsT w
  | [t]=>exact (mcat_one t w).symm
  | a::b::l=>exact mat_3 _ _ _ _ w
theorem mat_clsT (s:ST) (w:List UInt8):Mat (clsT s) w↔∃ b:UInt8,w=[b]∧s.has b.toNat=true:=mat_2 _ _ _ _ w
def AtOk (A:List T × Option Nat):Prop:=∀ i,A.2=some i→∃ s,A.1[i]?=some (clsT s)
theorem getD_cls {L:List T} {i:Nat} {s:ST} (h:L[i]?=some (clsT s)):(L.getD i noT).set=s:=by
 rw [List.getD_eq_getElem?_getD,h]
 rfl
theorem altS_at {A:List T × Option Nat} (h:AtOk A) (t:T):AtOk (altS A t):=by
 obtain ⟨L,c⟩:=A;unfold altS
 dsimp only
 split
 ·exact h
 ·split
  ·cases c with
   | none =>
    intro i hi;injection hi with hi;subst hi;exact ⟨t.set,by simp⟩
   | some j =>
    intro i hi;injection hi with hi;subst hi;obtain ⟨s,hs⟩:=h j rfl;have hj:=(List.getElem?_eq_some_iff.1 hs).1;exact ⟨_,by rw [List.getElem?_set_self hj]⟩
  ·split
   ·exact h
   ·intro i hi
    obtain ⟨s,hs⟩:=h i hi;have hj:=(List.getElem?_eq_some_iff.1 hs).1;exact ⟨s,by rw [List.getElem?_append_left hj];exact hs⟩
theorem mem_set_iff {L:List T} {i:Nat} {a b:T} (h:L[i]?=some a) (w:List UInt8):(∃ t,t ∈ L.set i b∧Mat t w)↔(∃ j t,j≠i∧L[j]?=some t∧Mat t w)∨Mat b w:=by
 have hi:=(List.getElem?_eq_some_iff.1 h).1
 constructor
 ·rintro ⟨t,h1,h2⟩
  obtain ⟨j,hj⟩:=List.mem_iff_getElem?.1 h1
  by_cases e:j=i
  ·subst e
   rw [List.getElem?_set_self hi] at hj;injection hj with hj;subst hj;exact .inr h2
  ·rw [List.getElem?_set_ne (fun h=>e h.symm)] at hj
   exact .inl ⟨j,t,e,hj,h2⟩
 ·rintro (⟨j,t,e,hj,h2⟩ | h2)
  ·exact ⟨t,List.mem_iff_getElem?.2 ⟨j,by rw [List.getElem?_set_ne (fun h=>e h.symm)];exact hj⟩,h2⟩
  ·exact ⟨b,List.mem_iff_getElem?.2 ⟨i,by rw [List.getElem?_set_self hi]⟩,h2⟩
theorem mem_at_iff {L:List T} {i:Nat} {a:T} (h:L[i]?=some a) (w:List UInt8):(∃ t,t ∈ L∧Mat t w)↔(∃ j t,j≠i∧L[j]?=some t∧Mat t w)∨Mat a w:=by
 constructor
 ·rintro ⟨t,h1,h2⟩
  obtain ⟨j,hj⟩:=List.mem_iff_getElem?.1 h1
  by_cases e:j=i
  ·subst e
   rw [h] at hj;injection hj with hj;subst hj;exact .inr h2
  ·exact .inl ⟨j,t,e,hj,h2⟩
 ·rintro (⟨j,t,e,hj,h2⟩ | h2)
  ·exact ⟨t,List.mem_iff_getElem?.2 ⟨j,hj⟩,h2⟩
  ·exact ⟨a,List.mem_iff_getElem?.2 ⟨i,h⟩,h2⟩
theorem any_same {L:List T} {t:T}:L.any (sameB t)=true↔t ∈ L:=by
 rw [List.any_eq_true]
 constructor
 ·rintro ⟨s,h1,h2⟩
  rw [(sameB_iff t s).1 h2];exact h1
 ·exact fun h=>⟨t,h,(sameB_iff t t).2 rfl⟩
theorem malt_altS {A:List T × Option Nat} (h:AtOk A) (t:T) (w:List UInt8):MAlt (altS A t).1 w↔MAlt A.1 w∨Mat t w:=by
 obtain ⟨L,c⟩:=A;unfold altS
 dsimp only
 have hadd:∀ u:T,(∀ w,Mat u w↔Mat t w)→(MAlt (L++[u]) w↔MAlt L w∨Mat t w):=fun u hu=>by
  rw [malt_iff,malt_iff,← hu]
  constructor
  ·rintro ⟨s,h1,h2⟩
   rcases List.mem_append.1 h1 with h1 | h1
   ·exact .inl ⟨s,h1,h2⟩
   ·rw [← List.mem_singleton.1 h1]
    exact .inr h2
  ·rintro (⟨s,h1,h2⟩ | h2)
   ·exact ⟨s,by simp [h1],h2⟩
   ·exact ⟨u,by simp,h2⟩
 split
 ·rename_i hn
  constructor
  ·exact .inl
  ·rintro (h1 | h1)
   ·exact h1
   ·exact absurd h1 (mat_no hn w)
 ·split
  ·rename_i hk
   cases c with
   | none=>exact hadd (clsT t.set) fun w=>by rw [mat_clsT,mat_kind2 hk]
   | some j =>
    obtain ⟨s,hs⟩:=h j rfl
    dsimp only
    rw [getD_cls hs,malt_iff,malt_iff,mem_set_iff hs,mem_at_iff hs,mat_clsT,mat_clsT,mat_kind2 hk,or_assoc];have e:(∃ b:UInt8,w=[b]∧(s.or t.set).has b.toNat=true)↔((∃ b:UInt8,w=[b]∧s.has b.toNat=true)∨∃ b:UInt8,w=[b]∧t.set.has b.toNat=true):=by
     constructor
     ·rintro ⟨b,e,hb⟩
      rw [ST.has_or _ _ _ b.toNat_lt,Bool.or_eq_true] at hb
      rcases hb with hb | hb
      ·exact .inl ⟨b,e,hb⟩
      ·exact .inr ⟨b,e,hb⟩
     ·rintro (⟨b,e,hb⟩ | ⟨b,e,hb⟩)
      ·exact ⟨b,e,by rw [ST.has_or _ _ _ b.toNat_lt,hb,Bool.true_or]⟩
      ·exact ⟨b,e,by rw [ST.has_or _ _ _ b.toNat_lt,hb,Bool.or_true]⟩
    rw [e]
  ·split
   ·rename_i hm
    have:=any_same.1 hm
    constructor
    ·exact .inl
    ·rintro (h1 | h1)
     ·exact h1
     ·exact (malt_iff L w).2 ⟨t,this,h1⟩
   ·exact hadd t fun w=>Iff.rfl
theorem malt_fold:∀ (L:List T) (A:List T × Option Nat),AtOk A→∀ w,MAlt (L.foldl altS A).1 w↔MAlt A.1 w∨MAlt L w
 | [],A,_,w=>by
  constructor
  ·exact .inl
  ·rintro (h | h)
   ·exact h
   ·exact absurd h (malt_nil w)
 | t::L,A,h,w=>by
  rw [List.foldl_cons,malt_fold L _ (altS_at h t) w,malt_altS h t w,malt_cons,or_assoc]
theorem at_start:AtOk ([],none):=fun i hi=>by cases hi
theorem mat_altT (L:List T) (w:List UInt8):Mat (altT L) w↔MAlt L w:=by
 have h:MAlt (altF (unf 4 L)).1 w↔MAlt L w:=by
  unfold altF;rw [malt_fold _ _ at_start w,malt_unf]
  constructor
  ·rintro (h | h)
   ·exact absurd h (malt_nil w)
   ·exact h
  ·exact .inr
 rw [← h];unfold altT;generalize (altF (unf 4 L)).1=M
 match M with
 | [] =>
  constructor
  ·exact fun h=>absurd h (mat_noT w)
  ·exact fun h=>absurd h (malt_nil w)
 | [t] =>
  rw [malt_cons]
  constructor
  ·exact .inl
  ·rintro (h | h)
   ·exact h
   ·exact absurd h (malt_nil w)
 | a::b::l=>exact mat_4 _ _ _ _ w
end P10
namespace P10
open P07 P08 P09 Bytes
open Sets (ST)
structure Alo (L:List T) (c:Option Nat):Prop where
 no:∀ t ∈ L,isNo t=false
 four:∀ t ∈ L,t.kind≠4
 dup:∀ (i j:Nat) (t:T),L[i]?=some t→L[j]?=some t→i=j
 cl:∀ (i:Nat) (t:T),L[i]?=some t→t.kind=2→c=some i
 at_:∀ i:Nat,c=some i→∃ s:ST,s.Ok∧L[i]?=some (clsT s)
def needs (t:T):Prop:=t.kind=5∧(t.mn=0∨t.mn=1)∧t.subs.length=1
mutual
def Smp:T→Prop
 | .nd k _ mn mx l=>SmpL l∧(k=3→∀ t ∈ l,t.kind≠3∧t.kind≠1∧isNo t=false)∧(k=4→∃ c,Alo l c)
  ∧ (k=5→mx≠0∧∀ t ∈ l,t.kind≠1∧isNo t=false∧¬ (mn=1∧mx=1)∧isSt t=false∧(mn=0→mx=-1→¬ needs t))
def SmpL:List T→Prop
 | []=>True
 | t::l=>Smp t∧SmpL l
end
theorem smpL_iff:∀ L:List T,SmpL L↔∀ t ∈ L,Smp t
 | []=>by rw [SmpL];simp
 | t::l=>by rw [SmpL,smpL_iff l];simp
theorem smp_nd (k:Int) (s:ST) (mn mx:Int) (l:List T):Smp (.nd k s mn mx l)↔SmpL l∧(k=3→∀ t ∈ l,t.kind≠3∧t.kind≠1∧isNo t=false)∧(k=4→∃ c,Alo l c)
  ∧ (k=5→mx≠0∧∀ t ∈ l,t.kind≠1∧isNo t=false∧¬ (mn=1∧mx=1)∧isSt t=false∧(mn=0→mx=-1→¬ needs t)):=by rw [Smp]
theorem rl_iff {d:Nat} {k:Int} {L:List T}:RL d k L↔∀ t ∈ L,IS d k t:=by
 constructor
 ·intro h t ht
  induction L with
  | nil=>cases ht
  | cons a L ih =>
   obtain ⟨h1,h2⟩:=RL_cons h
   rcases List.mem_cons.1 ht with rfl | ht
   ·exact h1
   ·exact ih h2 ht
 ·exact RL_all L
theorem is_mono {d e:Nat} {k:Int} {t:T} (h:IS d k t) (hd:d≤e):IS e k t:=by
 unfold IS at *
 split
 ·rename_i h1
  rw [if_pos h1] at h;exact ⟨by omega,RT_mono t _ _ h.2 (by omega)⟩
 ·rename_i h1
  rw [if_neg h1] at h;exact RT_mono t _ _ h hd
theorem noT_rt (d:Nat):RT d noT:=class_RT ST.none_ok d
theorem epsT_rt (d:Nat):RT d epsT:=by
 unfold epsT;rw [RT];exact ⟨.inl ⟨rfl,rfl,rfl,rfl,rfl⟩,ST.none_ok,by rw [RL];trivial⟩
theorem clsT_smp (s:ST):Smp (clsT s):=by
 unfold clsT;rw [smp_nd,SmpL];exact ⟨trivial,fun h=>by omega,fun h=>by omega,fun h=>by omega⟩
theorem noT_smp:Smp noT:=clsT_smp _
theorem epsT_smp:Smp epsT:=by
 unfold epsT;rw [smp_nd,SmpL];exact ⟨trivial,fun h=>by omega,fun h=>by omega,fun h=>by omega⟩
theorem cls_is {d:Nat} {t:T} (h:RT d t) (hk:t.kind=2):t=clsT t.set∧t.set.Ok:=by
 cases t with
 | nd k s mn mx l =>
  obtain ⟨hb,hs,hl⟩:=h.bare;have:k=2:=hk;subst this;unfold Bare at hb;have e:l=[]:=List.eq_nil_of_length_eq_zero (by omega)
  have e2:mn=0∧mx=0:=by omega
  subst e;rw [e2.1,e2.2];exact ⟨rfl,hs⟩
theorem eps_is {d:Nat} {t:T} (h:RT d t) (hk:t.kind=1):t=epsT:=by
 cases t with
 | nd k s mn mx l =>
  obtain ⟨hb,hs,hl⟩:=h.bare;have:k=1:=hk;subst this;unfold Bare at hb
  rcases hb with h | h | h | h
  ·obtain ⟨-,rfl,rfl,rfl,h0⟩:=h
   rw [List.eq_nil_of_length_eq_zero h0]
   rfl
  ·omega
  ·omega
  ·omega
theorem no_is {d:Nat} {t:T} (h:RT d t) (hn:isNo t=true):t=noT:=by
 unfold isNo at hn
 simp only [Bool.and_eq_true,decide_eq_true_eq,eqB_iff] at hn
 rw [(cls_is h hn.1).1,hn.2]
 rfl
theorem kinds {d:Nat} {t:T} (h:RT d t):t.kind=1∨t.kind=2∨t.kind=3∨t.kind=4∨t.kind=5:=by
 cases t with
 | nd k s mn mx l =>
  obtain ⟨hb,-,-⟩:=h.bare
  show k=1∨k=2∨k=3∨k=4∨k=5
  unfold Bare at hb;omega
theorem many_is {d:Nat} {t:T} (h:RT d t) (hk:t.kind=3∨t.kind=4):t=.nd t.kind ST.none 0 0 t.subs∧2≤t.subs.length:=by
 cases t with
 | nd k s mn mx l =>
  obtain ⟨hb,-,-⟩:=h.bare;unfold T.kind T.subs at *
  dsimp only at *
  unfold Bare at hb
  rcases hb with h | h | h | h
  ·omega
  ·omega
  ·obtain ⟨-,rfl,rfl,rfl,h0⟩:=h
   exact ⟨rfl,h0⟩
  ·omega
theorem rep_is {d:Nat} {t:T} (h:RT d t) (hk:t.kind=5):∃ a mn mx,t=.nd 5 ST.none mn mx [a]∧0≤mn∧mn≤20∧(mx=-1∨mn≤mx∧mx≤20)∧IS d 5 a:=by
 cases t with
 | nd k s mn mx l =>
  have:k=5:=hk;subst this;obtain ⟨a,rfl,b0,b1,bx,ha⟩:=one_sub h rfl;obtain ⟨hb,-,-⟩:=h.bare;unfold Bare at hb;have hs:s=ST.none:=by
   rcases hb with h | h | h | h
   ·omega
   ·omega
   ·omega
   ·exact h.2.1
  rw [hs];exact ⟨a,mn,mx,rfl,b0,b1,bx,ha⟩
theorem cntL_unf (k:Int):∀ L:List T,cntL (unf k L)≤cntL L
 | []=>Nat.le_refl _
 | t::L=>by
  have:=cntL_unf k L;rw [unf_cons,cntL_append,cntL]
  split
  ·rw [cnt_eq t]
   omega
  ·rw [cntL,cntL]
   omega
theorem cntL_filter (p:T→Bool):∀ L:List T,cntL (L.filter p)≤cntL L
 | []=>Nat.le_refl _
 | t::L=>by
  have:=cntL_filter p L;rw [cntL]
  by_cases h:p t=true
  ·rw [List.filter_cons_of_pos h,cntL]
   omega
  ·rw [List.filter_cons_of_neg h]
   omega
theorem cntL_set:∀ (L:List T) (i:Nat) (a b:T),L[i]?=some a→cnt b≤cnt a→cntL (L.set i b)≤cntL L
 | [],i,a,b,h,_=>by simp at h
 | t::L,0,a,b,h,hb=>by
  simp at h
  subst h;rw [List.set_cons_zero,cntL,cntL];omega
 | t::L,i+1,a,b,h,hb=>by
  have:=cntL_set L i a b (by simpa using h) hb
  rw [List.set_cons_succ,cntL,cntL];omega
theorem cnt_clsT (s:ST):cnt (clsT s)=1:=by
 unfold clsT;rw [cnt,cntL]
theorem cnt_join (k:Int) (L:List T) (e:T) (he:cnt e=1):cnt (joinT k L e)≤1+cntL L:=by
 match L with
 | []=>show cnt e≤_;omega
 | [t]=>show cnt t≤_;rw [cntL];omega
 | a::b::l=>show cnt (.nd k ST.none 0 0 (a::b::l))≤_;rw [cnt];omega
theorem cnt_catT (L:List T):cnt (catT L)≤1+cntL L:=by
 unfold catT
 split
 ·rw [show cnt noT=1 from cnt_clsT _]
  omega
 ·have h1:=cnt_join 3 ((unf 3 L).filter fun t=>decide (t.kind≠1)) epsT (by unfold epsT;rw [cnt,cntL])
  have h2:=cntL_filter (fun t=>decide (t.kind≠1)) (unf 3 L)
  have h3:=cntL_unf 3 L;omega
theorem cntL_altS {A:List T × Option Nat} (h:AtOk A) (t:T):cntL (altS A t).1≤cntL A.1+cnt t:=by
 obtain ⟨L,c⟩:=A;have hp:=cnt_pos t;unfold altS
 dsimp only
 split
 ·show cntL L≤_
  omega
 ·split
  ·cases c with
   | none =>
    show cntL (L++[clsT t.set])≤_
    rw [cntL_append,cntL,cntL,cnt_clsT];omega
   | some i =>
    obtain ⟨s,hs⟩:=h i rfl;have:=cntL_set L i _ (clsT ((L.getD i noT).set.or t.set)) hs (by rw [cnt_clsT,cnt_clsT];omega)
    show cntL (L.set i _)≤_
    omega
  ·split
   ·show cntL L≤_
    omega
   ·show cntL (L++[t])≤_
    rw [cntL_append,cntL,cntL];omega
theorem cntL_fold:∀ (L:List T) (A:List T × Option Nat),AtOk A→cntL (L.foldl altS A).1≤cntL A.1+cntL L
 | [],A,_=>by rw [cntL];exact Nat.le_refl _
 | t::L,A,h=>by
  have h1:=cntL_fold L _ (altS_at h t);have h2:=cntL_altS h t;rw [List.foldl_cons,cntL];omega
theorem cnt_altT (L:List T):cnt (altT L)≤1+cntL L:=by
 unfold altT altF;have h1:=cnt_join 4 ((unf 4 L).foldl altS ([],none)).1 noT (cnt_clsT _);have h2:=cntL_fold (unf 4 L) _ at_start;have h3:=cntL_unf 4 L;rw [show cntL (([],none):List T × Option Nat).1=0 from by rw [cntL]] at h2
 omega
theorem or_some {s t:ST} (hs:s.Ok) (h:s≠ST.none):s.or t≠ST.none:=by
 intro e;obtain ⟨b,hb⟩:=(set_any hs).1 (eqB_ne h);have:(s.or t).has b.toNat=true:=by rw [ST.has_or _ _ _ b.toNat_lt,hb,Bool.true_or]
 rw [e,ST.has_none] at this
 cases this
theorem isNo_cls (s:ST):isNo (clsT s)=eqB s ST.none:=by
 unfold isNo clsT T.kind T.set;rw [decide_eq_true rfl,Bool.true_and]
theorem alo_step {L:List T} {c:Option Nat} (h:Alo L c) {d:Nat} {t:T} (ht:RT d t) (h4:t.kind≠4):Alo (altS (L,c) t).1 (altS (L,c) t).2:=by
 have hadd:∀ (u:T) (c':Option Nat),isNo u=false→u.kind≠4→u ∉ L→(u.kind=2→c'=some L.length∧c=none∧∃ s:ST,s.Ok∧u=clsT s)→(u.kind≠2→c'=c)→Alo (L++[u]) c':=fun u c' hu h4 hm h2 hn=>by
  refine ⟨fun t ht=>?_,fun t ht=>?_,fun i j t hi hj=>?_,fun i t hi hk=>?_,fun i hi=>?_⟩
  ·rcases List.mem_append.1 ht with ht | ht
   ·exact h.no t ht
   ·rw [List.mem_singleton.1 ht];exact hu
  ·rcases List.mem_append.1 ht with ht | ht
   ·exact h.four t ht
   ·rw [List.mem_singleton.1 ht];exact h4
  ·rcases Nat.lt_or_ge i L.length with hi1 | hi1
   ·rw [List.getElem?_append_left hi1] at hi
    rcases Nat.lt_or_ge j L.length with hj1 | hj1
    ·rw [List.getElem?_append_left hj1] at hj
     exact h.dup i j t hi hj
    ·rw [List.getElem?_append_right hj1] at hj
     have:=List.mem_singleton.1 (List.mem_of_getElem? hj);rw [this] at hi;exact absurd (List.mem_of_getElem? hi) hm
   ·rw [List.getElem?_append_right hi1] at hi
    have h5:=(List.getElem?_eq_some_iff.1 hi).1;have:=List.mem_singleton.1 (List.mem_of_getElem? hi)
    rcases Nat.lt_or_ge j L.length with hj1 | hj1
    ·rw [List.getElem?_append_left hj1,this] at hj
     exact absurd (List.mem_of_getElem? hj) hm
    ·rw [List.getElem?_append_right hj1] at hj
     have h6:=(List.getElem?_eq_some_iff.1 hj).1
     simp at h5 h6
     omega
  ·rcases Nat.lt_or_ge i L.length with hi1 | hi1
   ·rw [List.getElem?_append_left hi1] at hi
    have:=h.cl i t hi hk
    by_cases hu2:u.kind=2
    ·rw [(h2 hu2).2.1] at this
     cases this
    ·rw [hn hu2]
     exact this
   ·rw [List.getElem?_append_right hi1] at hi
    have h5:=(List.getElem?_eq_some_iff.1 hi).1;have e:=List.mem_singleton.1 (List.mem_of_getElem? hi);rw [e] at hk;rw [(h2 hk).1]
    simp at h5
    congr 1
    omega
  ·by_cases hu2:u.kind=2
   ·obtain ⟨e,-,s,hs,rfl⟩:=h2 hu2
    rw [e] at hi;injection hi with hi;subst hi;exact ⟨s,hs,by simp⟩
   ·rw [hn hu2] at hi
    obtain ⟨s,hs,he⟩:=h.at_ i hi;exact ⟨s,hs,by rw [List.getElem?_append_left (List.getElem?_eq_some_iff.1 he).1];exact he⟩
 unfold altS
 dsimp only
 split
 ·exact h
 ·rename_i hno
  have hno:isNo t=false:=by simpa using hno
  split
  ·rename_i hk
   obtain ⟨he,hs⟩:=cls_is ht hk;rw [he,isNo_cls] at hno
   cases c with
   | none =>
    dsimp only
    refine hadd _ _ (by rw [isNo_cls];exact hno) (by show (2:Int)≠4;decide) (fun hm=>?_) (fun _=>⟨rfl,rfl,t.set,hs,rfl⟩) (fun h=>absurd rfl h)
    obtain ⟨i,hi⟩:=List.mem_iff_getElem?.1 hm
    cases h.cl i _ hi rfl
   | some i =>
    dsimp only
    obtain ⟨s,hsk,hi⟩:=h.at_ i rfl;have hil:=(List.getElem?_eq_some_iff.1 hi).1;have hsn:s≠ST.none:=fun e=>by
     have:=h.no _ (List.mem_of_getElem? hi);rw [isNo_cls,e,eqB_refl] at this
     cases this
    rw [getD_cls hi];have hor:=or_some (t:=t.set) hsk hsn;have hget:∀ j u,(L.set i (clsT (s.or t.set)))[j]?=some u→(j=i∧u=clsT (s.or t.set))∨(j≠i∧L[j]?=some u):=fun j u hj=>by
     by_cases e:j=i
     ·subst e
      rw [List.getElem?_set_self hil] at hj;injection hj with hj;exact .inl ⟨rfl,hj.symm⟩
     ·rw [List.getElem?_set_ne (fun h=>e h.symm)] at hj
      exact .inr ⟨e,hj⟩
    refine ⟨fun u hu=>?_,fun u hu=>?_,fun j k u hj hk=>?_,fun j u hj hk=>?_,fun j hj=>?_⟩
    ·obtain ⟨j,hj⟩:=List.mem_iff_getElem?.1 hu
     rcases hget j u hj with ⟨-,rfl⟩ | ⟨-,hj⟩
     ·rw [isNo_cls]
      exact eqB_ne hor
     ·exact h.no u (List.mem_of_getElem? hj)
    ·obtain ⟨j,hj⟩:=List.mem_iff_getElem?.1 hu
     rcases hget j u hj with ⟨-,rfl⟩ | ⟨-,hj⟩
     ·show (2:Int)≠4
      decide
     ·exact h.four u (List.mem_of_getElem? hj)
    ·rcases hget j u hj with ⟨e1,e2⟩ | ⟨e1,hj⟩
     ·rcases hget k u hk with ⟨e3,e4⟩ | ⟨e3,hk⟩
      ·omega
      ·have:=h.cl k u hk (by rw [e2];rfl)
       injection this with this;omega
     ·rcases hget k u hk with ⟨e3,e4⟩ | ⟨e3,hk⟩
      ·have:=h.cl j u hj (by rw [e4];rfl)
       injection this with this;omega
      ·exact h.dup j k u hj hk
    ·rcases hget j u hj with ⟨e1,e2⟩ | ⟨e1,hj⟩
     ·rw [e1]
     ·exact h.cl j u hj hk
    ·injection hj with hj
     subst hj;exact ⟨s.or t.set,ST.or_ok hsk hs,by rw [List.getElem?_set_self hil]⟩
  ·rename_i hk
   split
   ·exact h
   ·rename_i hm
    exact hadd t c hno h4 (fun h=>hm (any_same.2 h)) (fun h=>absurd h hk) (fun _=>rfl)
theorem alo_fold {d:Nat}:∀ (L:List T) (A:List T × Option Nat),Alo A.1 A.2→(∀ t ∈ L,RT d t∧t.kind≠4)→Alo (L.foldl altS A).1 (L.foldl altS A).2
 | [],A,h,_=>h
 | t::L,A,h,ht=>by
  rw [List.foldl_cons];exact alo_fold L _ (alo_step h (ht t (by simp)).1 (ht t (by simp)).2) fun u hu=>ht u (by simp [hu])
theorem alo_start:Alo [] none:=⟨by simp,by simp,by simp,by simp,fun i hi=>by cases hi⟩
theorem alt_all {P:T→Prop} (hc:∀ s:ST,s.Ok→P (clsT s)) {d:Nat}:∀ (L:List T) (A:List T × Option Nat),Alo A.1 A.2→(∀ t ∈ A.1,P t)→(∀ t ∈ L,RT d t∧t.kind≠4∧P t)→∀ t ∈ (L.foldl altS A).1,P t
 | [],A,_,h,_=>h
 | t::L,A,hA,h,ht=>by
  rw [List.foldl_cons];have h0:=ht t (by simp)
  have hA':=alo_step hA h0.1 h0.2.1;refine alt_all hc L _ hA' ?_ fun u hu=>ht u (by simp [hu])
  obtain ⟨M,c⟩:=A;intro u hu
  by_cases hu2:u.kind=2
  ·obtain ⟨i,hi⟩:=List.mem_iff_getElem?.1 hu
   obtain ⟨s,hs,he⟩:=hA'.at_ i (hA'.cl i u hi hu2);rw [hi] at he;injection he with he;rw [he];exact hc s hs
  ·unfold altS at hu
   dsimp only at hu
   split at hu
   ·exact h u hu
   ·split at hu
    ·cases c with
     | none =>
      rcases List.mem_append.1 hu with hu | hu
      ·exact h u hu
      ·rw [List.mem_singleton.1 hu] at hu2
       exact absurd rfl hu2
     | some i =>
      dsimp only at hu
      rcases List.mem_or_eq_of_mem_set hu with hu | hu
      ·exact h u hu
      ·rw [hu] at hu2
       exact absurd rfl hu2
    ·split at hu
     ·exact h u hu
     ·rcases List.mem_append.1 hu with hu | hu
      ·exact h u hu
      ·rw [List.mem_singleton.1 hu]
       exact h0.2.2
theorem alt_fix {d:Nat} {L:List T} {c:Option Nat} (h:Alo L c) (hR:∀ t ∈ L,RT d t):∀ k,k≤L.length→(L.take k).foldl altS ([],none)=(L.take k,if ∃ i,c=some i∧i<k then c else none)
 | 0,_=>by
  rw [List.take_zero];rw [if_neg (by rintro ⟨i,-,hi⟩;omega)]
  rfl
 | k+1,hk=>by
  have hkl:k<L.length:=by omega
  obtain ⟨t,ht⟩:∃ t,L[k]?=some t:=⟨L[k],List.getElem?_eq_getElem hkl⟩;have hm:=List.mem_of_getElem? ht;rw [List.take_add_one,ht,Option.toList_some,List.foldl_append,alt_fix h hR k (by omega),List.foldl_cons,List.foldl_nil]
  have hno:=h.no t hm;unfold altS
  dsimp only
  rw [if_neg (by rw [hno];decide)]
  by_cases h2:t.kind=2
  ·have hc:=h.cl k t ht h2
   rw [if_pos h2,if_neg (by rintro ⟨i,h1,h3⟩;rw [hc] at h1;injection h1 with h1;omega)]
   dsimp only
   rw [if_pos ⟨k,hc,by omega⟩,hc,List.length_take,Nat.min_eq_left (by omega),← (cls_is (hR t hm) h2).1]
  ·rw [if_neg h2]
   have hnm:t ∉ L.take k:=fun hmem=>by
    obtain ⟨i,hi⟩:=List.mem_iff_getElem?.1 hmem;have hik:i<k:=by
     have:=(List.getElem?_eq_some_iff.1 hi).1;rw [List.length_take] at this;omega
    rw [List.getElem?_take_of_lt hik] at hi;have:=h.dup i k t hi ht;omega
   rw [if_neg (fun hh=>hnm (any_same.1 hh))]
   congr 1
   have:(∃ i,c=some i∧i<k)↔∃ i,c=some i∧i<k+1:=by
    constructor
    ·rintro ⟨i,h1,h3⟩
     exact ⟨i,h1,by omega⟩
    ·rintro ⟨i,h1,h3⟩
     refine ⟨i,h1,?_⟩
     rcases Nat.lt_or_ge i k with h4 | h4
     ·exact h4
     ·exfalso
      obtain ⟨s,-,hs⟩:=h.at_ i h1;rw [show i=k by omega,ht] at hs
      injection hs with hs;rw [hs] at h2;exact h2 rfl
   simp only [this]
theorem altF_fix {d:Nat} {L:List T} {c:Option Nat} (h:Alo L c) (hR:∀ t ∈ L,RT d t):altF L=(L,c):=by
 have:=alt_fix h hR L.length (Nat.le_refl _);rw [List.take_length] at this;unfold altF;rw [this]
 congr 1
 cases c with
 | none=>rw [if_neg (by rintro ⟨i,h1,-⟩;cases h1)]
 | some i =>
  obtain ⟨s,-,hs⟩:=h.at_ i rfl;rw [if_pos ⟨i,rfl,(List.getElem?_eq_some_iff.1 hs).1⟩]
theorem joinT_ge {k:Int} {L:List T} {e:T} (h:2≤L.length):joinT k L e=.nd k ST.none 0 0 L:=by
 match L,h with
 | a::b::l,_=>rfl
theorem join_cases (k:Int) (L:List T) (e:T):(L=[]∧joinT k L e=e)∨(∃ t,L=[t]∧joinT k L e=t)∨(2≤L.length∧joinT k L e=.nd k ST.none 0 0 L):=by
 match L with
 | []=>exact .inl ⟨rfl,rfl⟩
 | [t]=>exact .inr (.inl ⟨t,rfl,rfl⟩)
 | a::b::l=>exact .inr (.inr ⟨by simp,rfl⟩)
theorem unf_none {k:Int}:∀ {L:List T},(∀ t ∈ L,t.kind≠k)→unf k L=L
 | [],_=>rfl
 | t::L,h=>by
  rw [unf_cons,if_neg (h t (by simp)),unf_none fun u hu=>h u (by simp [hu])]
  rfl
theorem mem_unf {k:Int} {L:List T} {t:T} (h:t ∈ unf k L):(t ∈ L∧t.kind≠k)∨∃ u ∈ L,u.kind=k∧t ∈ u.subs:=by
 unfold unf at h;obtain ⟨u,hu,ht⟩:=List.mem_flatMap.1 h
 split at ht
 ·rename_i hk
  exact .inr ⟨u,hu,hk,ht⟩
 ·rename_i hk
  rw [List.mem_singleton.1 ht];exact .inl ⟨hu,hk⟩
end P10
namespace P10
open P07 P08 P09 Bytes
open Sets (ST)
structure SimOk (d:Nat) (t m:T):Prop where
 rt:RT d m
 smp:Smp m
 cnt:cnt m≤cnt t
 mat:∀ w,Mat m w↔Mat t w
theorem is_no {t:T} (h:isNo t=true):t.kind=2:=by
 unfold isNo at h
 simp only [Bool.and_eq_true,decide_eq_true_eq] at h
 exact h.1
theorem is_st {t:T}:isSt t=true↔t.kind=5∧t.mn=0∧t.mx=-1:=by
 unfold isSt;rw [decide_eq_true_eq]
theorem rep_rt {d:Nat} {a:T} (h:IS d 5 a) {mn mx:Int} (b0:0≤mn) (b1:mn≤20) (bx:mx=-1∨mn≤mx∧mx≤20):RT d (.nd 5 ST.none mn mx [a]):=by
 rw [RT];exact ⟨.inr (.inr (.inr ⟨rfl,rfl,rfl,b0,b1,bx⟩)),ST.none_ok,rl_iff.2 fun t ht=>by rw [List.mem_singleton.1 ht];exact h⟩
theorem mat_rep (a:T) (mn mx:Int) (w:List UInt8):Mat (.nd 5 ST.none mn mx [a]) w↔∃ n:Nat,mn≤n∧(mx<0∨(n:Int)≤mx)∧Pow (Mat a) n w:=by
 rw [mat_5];have e:∀ n w,Pow (MHd [a]) n w↔Pow (Mat a) n w:=fun n w=>Pow.congr (fun w=>mhd_cons a [] w) n w
 simp only [e]
theorem pow_no {P:List UInt8→Prop} (h:∀ w,¬ P w):∀ n w,Pow P n w→n=0
 | 0,_,_=>rfl
 | _+1,_,⟨u,_,_,h1,_⟩=>absurd h1 (h u)
theorem pow_eps {P:List UInt8→Prop} (h:∀ w,P w↔w=[]):∀ n w,Pow P n w→w=[]
 | 0,_,h0=>h0
 | n+1,w,⟨u,v,e,h1,h2⟩=>by
  rw [e,(h u).1 h1,pow_eps h n v h2]
  rfl
structure StarOk (d:Nat) (a r:T):Prop where
 what:r=epsT∨(∃ b,r=b∧IS d 5 b∧b.kind=5)∨∃ b,r=.nd 5 ST.none 0 (-1) [b]∧IS d 5 b
 rt:RT d r
 smp:Smp r
 cnt:cnt r≤1+cnt a
 mat:∀ w,Mat r w↔∃ n:Nat,Pow (Mat a) n w
theorem is_down {d:Nat} {a:T} {s:ST} {mn mx:Int} (h:IS d 5 (.nd 5 s mn mx [a])):IS d 5 a:=by
 unfold IS at h;rw [if_pos (show rnd 5 (T.nd 5 s mn mx [a]).kind=true from rfl)] at h
 obtain ⟨-,-,hl⟩:=h.2.bare;exact is_mono (rl_iff.1 hl a (by simp)) (by omega)
theorem star_ok:∀ (a:T) (d:Nat),IS d 5 a→Smp a→StarOk d a (starT a):=by
 intro a
 induction h:SizeOf.sizeOf a using Nat.strongRecOn generalizing a with
 | _ n ih =>
  subst h;intro d hI hS;have hr:=IS.rt (k:=5) hI;rw [starT_eq]
  by_cases h1:a.kind=1∨isNo a=true
  ·rw [if_pos h1]
   refine ⟨.inl rfl,epsT_rt d,epsT_smp,by rw [show cnt epsT=1 from by unfold epsT;rw [cnt,cntL]];omega,fun w=>?_⟩
   rw [mat_epsT]
   constructor
   ·exact fun h=>⟨0,h⟩
   ·rintro ⟨n,hn⟩
    rcases h1 with h1 | h1
    ·exact pow_eps (mat_kind1 h1) n w hn
    ·have:=pow_no (mat_no h1) n w hn
     subst this;exact hn
  rw [if_neg h1]
  by_cases h2:isSt a=true
  ·rw [if_pos h2]
   have hk:=is_st.1 h2;refine ⟨.inr (.inl ⟨a,rfl,hI,hk.1⟩),hr,hS,by omega,fun w=>?_⟩
   obtain ⟨b,mn,mx,rfl,b0,b1,bx,hb⟩:=rep_is hr hk.1;have e1:mn=0:=hk.2.1;have e2:mx=-1:=hk.2.2;subst e1 e2
   constructor
   ·exact fun h=>⟨1,(Pow.one w).2 h⟩
   ·rintro ⟨n,hn⟩
    rw [mat_rep]
    obtain ⟨m,hm⟩:=Pow.flat (Q:=Mat b) (fun w h=>by
     obtain ⟨n,-,-,hn⟩:=(mat_rep b _ _ w).1 h
     exact ⟨n,hn⟩) n w hn
    exact ⟨m,by omega,.inl (by omega),hm⟩
  rw [if_neg h2]
  by_cases h3:a.kind=5∧(a.mn=0∨a.mn=1)∧a.subs.length=1
  ·rw [if_pos h3]
   obtain ⟨b,mn,mx,rfl,b0,b1,bx,hb⟩:=rep_is hr h3.1;have e1:mn=0∨mn=1:=h3.2.1;have hsb:=(smp_nd _ _ _ _ _).1 hS;have hmx:=(hsb.2.2.2 rfl).1
   show StarOk d _ (starH [b])
   rw [starH];have hk:=ih (SizeOf.sizeOf b) (by simp;omega) b rfl d (is_down hI) ((smpL_iff _).1 hsb.1 b (by simp))
   refine ⟨hk.what,hk.rt,hk.smp,by have:=hk.cnt;rw [cnt,cntL,cntL];omega,fun w=>?_⟩
   rw [hk.mat]
   constructor
   ·rintro ⟨n,hn⟩
    exact ⟨n,Pow.mono (fun w h=>(mat_rep b mn mx w).2 ⟨1,by omega,by omega,(Pow.one w).2 h⟩) n w hn⟩
   ·rintro ⟨n,hn⟩
    exact Pow.flat (Q:=Mat b) (fun w h=>by
     obtain ⟨n,-,-,hn⟩:=(mat_rep b _ _ w).1 h
     exact ⟨n,hn⟩) n w hn
  ·rw [if_neg h3]
   refine ⟨.inr (.inr ⟨a,rfl,hI⟩),rep_rt hI (by decide) (by decide) (.inl rfl),?_,by rw [cnt,cntL,cntL];omega,fun w=>?_⟩
   ·rw [smp_nd,smpL_iff]
    refine ⟨fun t ht=>by rw [List.mem_singleton.1 ht];exact hS,fun h=>by omega,fun h=>by omega,fun _=>⟨by decide,fun t ht=>?_⟩⟩
    rw [List.mem_singleton.1 ht];refine ⟨fun h=>h1 (.inl h),?_,by decide,?_,fun _ _ hn=>h3 hn⟩
    ·cases e:isNo a with
     | false=>rfl
     | true=>exact absurd (.inr e) h1
    ·cases e:isSt a with
     | false=>rfl
     | true=>exact absurd e h2
   ·rw [mat_rep]
    constructor
    ·rintro ⟨n,-,-,hn⟩
     exact ⟨n,hn⟩
    ·rintro ⟨n,hn⟩
     exact ⟨n,by omega,.inl (by decide),hn⟩
structure RepOk (d:Nat) (a r:T) (mn mx:Int):Prop where
 what:r=epsT∨r=a∨(r.kind=5∧RT d r)
 rt:RT d r
 smp:Smp r
 cnt:cnt r≤1+cnt a
 mat:∀ w,Mat r w↔∃ n:Nat,mn≤n∧(mx<0∨(n:Int)≤mx)∧Pow (Mat a) n w
theorem repP_ok {d:Nat} {a:T} (hI:IS d 5 a) (hS:Smp a) {mn mx:Int} (b0:0≤mn) (b1:mn≤20) (bx:mx=-1∨mn≤mx∧mx≤20):RepOk d a (repP a mn mx) mn mx:=by
 have hr:=IS.rt (k:=5) hI;unfold repP
 by_cases h1:mx=0∨a.kind=1∨(isNo a=true∧mn=0)
 ·rw [if_pos h1]
  refine ⟨.inl rfl,epsT_rt d,epsT_smp,by rw [show P07.cnt epsT=1 from by unfold epsT;rw [P07.cnt,cntL]];omega,fun w=>?_⟩
  rw [mat_epsT];obtain ⟨q,hq⟩:∃ q:Nat,mn=q:=⟨mn.toNat,by omega⟩
  constructor
  ·rintro rfl
   rcases h1 with h1 | h1 | h1
   ·exact ⟨0,by omega,by omega,rfl⟩
   ·exact ⟨q,by omega,by omega,Pow.nil ((mat_kind1 h1 []).2 rfl) q⟩
   ·exact ⟨0,by omega,by omega,rfl⟩
  ·rintro ⟨n,hn1,hn2,hn⟩
   rcases h1 with h1 | h1 | h1
   ·have:n=0:=by omega
    subst this;exact hn
   ·exact pow_eps (mat_kind1 h1) n w hn
   ·have:=pow_no (mat_no h1.1) n w hn
    subst this;exact hn
 rw [if_neg h1]
 by_cases h2:isNo a=true∨(mn=1∧mx=1)∨isSt a=true
 ·rw [if_pos h2]
  refine ⟨.inr (.inl rfl),hr,hS,by omega,fun w=>?_⟩
  rcases h2 with h2 | h2 | h2
  ·constructor
   ·exact fun h=>absurd h (mat_no h2 w)
   ·rintro ⟨n,hn1,-,hn⟩
    have:=pow_no (mat_no h2) n w hn;exact absurd (.inr (.inr ⟨h2,by omega⟩)) h1
  ·constructor
   ·exact fun h=>⟨1,by omega,by omega,(Pow.one w).2 h⟩
   ·rintro ⟨n,hn1,hn2,hn⟩
    have:n=1:=by omega
    subst this;exact (Pow.one w).1 hn
  ·have hk:=is_st.1 h2
   obtain ⟨b,m,x,rfl,-,-,-,hb⟩:=rep_is hr hk.1;have e1:m=0:=hk.2.1;have e2:x=-1:=hk.2.2;subst e1 e2;have hnil:Mat (.nd 5 ST.none 0 (-1) [b]) []:=(mat_rep b _ _ []).2 ⟨0,by omega,.inl (by decide),rfl⟩
   constructor
   ·intro h
    obtain ⟨q,hq⟩:∃ q:Nat,mn=q:=⟨mn.toNat,by omega⟩
    rcases Nat.eq_zero_or_pos q with h0 | h0
    ·exact ⟨1,by omega,by omega,(Pow.one w).2 h⟩
    ·exact ⟨q,by omega,by omega,Pow.more hnil h0 ((Pow.one w).2 h)⟩
   ·rintro ⟨n,-,-,hn⟩
    obtain ⟨m,hm⟩:=Pow.flat (Q:=Mat b) (fun w h=>by
     obtain ⟨n,-,-,hn⟩:=(mat_rep b _ _ w).1 h
     exact ⟨n,hn⟩) n w hn
    exact (mat_rep b _ _ w).2 ⟨m,by omega,.inl (by decide),hm⟩
 rw [if_neg h2]
 by_cases h3:mn=0∧mx=-1
 ·rw [if_pos h3]
  have hk:=star_ok a d hI hS;refine ⟨?_,hk.rt,hk.smp,hk.cnt,fun w=>?_⟩
  ·rcases hk.what with h | ⟨b,h,h4,h5⟩ | ⟨b,h,h4⟩
   ·exact .inl h
   ·exact .inr (.inr ⟨by rw [h];exact h5,hk.rt⟩)
   ·exact .inr (.inr ⟨by rw [h];rfl,hk.rt⟩)
  ·rw [hk.mat,h3.1,h3.2]
   constructor
   ·rintro ⟨n,hn⟩
    exact ⟨n,by omega,.inl (by decide),hn⟩
   ·rintro ⟨n,-,-,hn⟩
    exact ⟨n,hn⟩
 ·rw [if_neg h3]
  refine ⟨.inr (.inr ⟨rfl,rep_rt hI b0 b1 bx⟩),rep_rt hI b0 b1 bx,?_,by rw [P07.cnt,cntL,cntL];omega,fun w=>mat_rep a mn mx w⟩
  rw [smp_nd,smpL_iff];refine ⟨fun t ht=>by rw [List.mem_singleton.1 ht];exact hS,fun h=>by omega,fun h=>by omega,fun _=>⟨fun h=>h1 (.inl h),fun t ht=>?_⟩⟩
  rw [List.mem_singleton.1 ht];refine ⟨fun h=>h1 (.inr (.inl h)),?_,fun h=>h2 (.inr (.inl h)),?_,fun h5 h6=>absurd ⟨h5,h6⟩ h3⟩
  ·cases e:isNo a with
   | false=>rfl
   | true=>exact absurd (.inl e) h2
  ·cases e:isSt a with
   | false=>rfl
   | true=>exact absurd (.inr (.inr e)) h2
theorem smp_subs {t:T} (h:Smp t):∀ u ∈ t.subs,Smp u:=by
 cases t with
 | nd k s mn mx l=>exact (smpL_iff l).1 ((smp_nd _ _ _ _ _).1 h).1
theorem smp_3 {t:T} (h:Smp t) (hk:t.kind=3):∀ u ∈ t.subs,u.kind≠3∧u.kind≠1∧isNo u=false:=by
 cases t with
 | nd k s mn mx l=>exact ((smp_nd _ _ _ _ _).1 h).2.1 hk
theorem smp_4 {t:T} (h:Smp t) (hk:t.kind=4):∃ c,Alo t.subs c:=by
 cases t with
 | nd k s mn mx l=>exact ((smp_nd _ _ _ _ _).1 h).2.2.1 hk
theorem many_rt {d:Nat} {k:Int} (hk:k=3∨k=4) {L:List T} (h2:2≤L.length) (h:∀ t ∈ L,IS d k t):RT d (.nd k ST.none 0 0 L):=by
 rw [RT];exact ⟨.inr (.inr (.inl ⟨hk,rfl,rfl,rfl,h2⟩)),ST.none_ok,rl_iff.2 h⟩
def In3 (d:Nat) (t:T):Prop:=RT d t∧(t.kind=3∨t.kind=1∨IS d 3 t)
theorem cat_ok {d:Nat} {L:List T} (h:∀ t ∈ L,In3 d t∧Smp t):RT d (catT L)∧Smp (catT L):=by
 unfold catT
 split
 ·exact ⟨noT_rt d,noT_smp⟩
 ·rename_i hn
  have hU:∀ t ∈ (unf 3 L).filter (fun t=>decide (t.kind≠1)),IS d 3 t∧Smp t∧t.kind≠3∧t.kind≠1∧isNo t=false:=fun t ht=>by
   obtain ⟨ht,h1⟩:=List.mem_filter.1 ht;have h1:t.kind≠1:=by simpa using h1
   have hno:isNo t=false:=by
    cases e:isNo t with
    | false=>rfl
    | true=>exact absurd (List.any_eq_true.2 ⟨t,ht,e⟩) hn
   rcases mem_unf ht with ⟨hm,hk⟩ | ⟨u,hu,hk,hm⟩
   ·have:=h t hm
    refine ⟨?_,this.2,hk,h1,hno⟩
    rcases this.1.2 with h3 | h3 | h3
    ·exact absurd h3 hk
    ·exact absurd h3 h1
    ·exact h3
   ·have:=h u hu
    have h3:=smp_3 this.2 hk t hm;refine ⟨?_,smp_subs this.2 t hm,h3.1,h1,hno⟩;have:=this.1.1.subs;rw [hk] at this;exact rl_iff.1 this t hm
  generalize (unf 3 L).filter (fun t=>decide (t.kind≠1))=M at hU
  rcases join_cases 3 M epsT with ⟨rfl,e⟩ | ⟨t,rfl,e⟩ | ⟨h2,e⟩
  ·rw [e]
   exact ⟨epsT_rt d,epsT_smp⟩
  ·rw [e]
   have:=hU t (by simp)
   exact ⟨IS.rt this.1,this.2.1⟩
  ·rw [e]
   refine ⟨many_rt (.inl rfl) h2 fun t ht=>(hU t ht).1,(smp_nd _ _ _ _ _).2 ⟨(smpL_iff M).2 fun t ht=>(hU t ht).2.1,fun _ t ht=>(hU t ht).2.2,fun h=>by omega,fun h=>by omega⟩⟩
theorem is_4 {d:Nat} {t:T} (h:RT d t) (hk:t.kind≠4):IS d 4 t:=by
 unfold IS;rw [if_neg]
 ·exact h
 ·unfold rnd
  simp [hk]
theorem alt_ok {d:Nat} {L:List T} (h:∀ t ∈ L,RT d t∧Smp t):RT d (altT L)∧Smp (altT L):=by
 have hU:∀ t ∈ unf 4 L,RT d t∧t.kind≠4∧IS d 4 t∧Smp t:=fun t ht=>by
  rcases mem_unf ht with ⟨hm,hk⟩ | ⟨u,hu,hk,hm⟩
  ·have:=h t hm
   exact ⟨this.1,hk,is_4 this.1 hk,this.2⟩
  ·have:=h u hu
   obtain ⟨c,hA⟩:=smp_4 this.2 hk;have h2:=this.1.subs;rw [hk] at h2;have h3:=rl_iff.1 h2 t hm;exact ⟨IS.rt h3,hA.four t hm,h3,smp_subs this.2 t hm⟩
 have hA:=alo_fold (unf 4 L) ([],none) alo_start fun t ht=>⟨(hU t ht).1,(hU t ht).2.1⟩
 have hP:=alt_all (P:=fun t=>IS d 4 t∧Smp t) (fun s hs=>⟨is_4 (class_RT hs d) (by show (2:Int)≠4;decide),clsT_smp s⟩) (unf 4 L) ([],none) alo_start (by simp) fun t ht=>⟨(hU t ht).1,(hU t ht).2.1,(hU t ht).2.2⟩
 unfold altT
 show RT d (joinT 4 ((unf 4 L).foldl altS ([],none)).1 noT)∧Smp (joinT 4 ((unf 4 L).foldl altS ([],none)).1 noT)
 generalize ((unf 4 L).foldl altS ([],none))=A at hA hP;obtain ⟨M,c⟩:=A
 dsimp only at hA hP ⊢
 rcases join_cases 4 M noT with ⟨rfl,e⟩ | ⟨t,rfl,e⟩ | ⟨h2,e⟩
 ·rw [e]
  exact ⟨noT_rt d,noT_smp⟩
 ·rw [e]
  have:=hP t (by simp)
  exact ⟨IS.rt this.1,this.2⟩
 ·rw [e]
  exact ⟨many_rt (.inr rfl) h2 fun t ht=>(hP t ht).1,(smp_nd _ _ _ _ _).2 ⟨(smpL_iff M).2 fun t ht=>(hP t ht).2,fun h=>by omega,fun _=>⟨c,hA⟩,fun h=>by omega⟩⟩
theorem mcat_congr {f:T→T}:∀ (L:List T),(∀ t ∈ L,∀ w,Mat (f t) w↔Mat t w)→∀ w,MCat (L.map f) w↔MCat L w
 | [],_,w=>Iff.rfl
 | t::L,h,w=>by
  rw [List.map_cons,mcat_cons,mcat_cons];have h1:=h t (by simp)
  have h2:=mcat_congr L fun u hu=>h u (by simp [hu])
  constructor
  ·rintro ⟨u,v,e,hu,hv⟩
   exact ⟨u,v,e,(h1 u).1 hu,(h2 v).1 hv⟩
  ·rintro ⟨u,v,e,hu,hv⟩
   exact ⟨u,v,e,(h1 u).2 hu,(h2 v).2 hv⟩
theorem malt_congr {f:T→T}:∀ (L:List T),(∀ t ∈ L,∀ w,Mat (f t) w↔Mat t w)→∀ w,MAlt (L.map f) w↔MAlt L w
 | [],_,w=>Iff.rfl
 | t::L,h,w=>by
  rw [List.map_cons,malt_cons,malt_cons,h t (by simp) w,malt_congr L (fun u hu=>h u (by simp [hu])) w]
theorem cntL_map {f:T→T}:∀ (L:List T),(∀ t ∈ L,cnt (f t)≤cnt t)→cntL (L.map f)≤cntL L
 | [],_=>Nat.le_refl _
 | t::L,h=>by
  have h1:=h t (by simp)
  have h2:=cntL_map L fun u hu=>h u (by simp [hu])
  rw [List.map_cons,cntL,cntL];omega
theorem sim_ok:∀ (t:T) (d:Nat),RT d t→SimOk d t (simT t)∧(IS d 3 t→In3 d (simT t)):=by
 intro t
 induction h:SizeOf.sizeOf t using Nat.strongRecOn generalizing t with
 | _ n ih0 =>
  subst h
  have ih:∀ u ∈ t.subs,∀ d,RT d u→SimOk d u (simT u)∧(IS d 3 u→In3 d (simT u)):=fun u hu d hR=>ih0 (SizeOf.sizeOf u) (by
   obtain ⟨i,hi⟩:=List.mem_iff_getElem?.1 hu
   exact sub_less hi) u rfl d hR
  clear ih0;intro d hR;have hsub:=hR.subs;have key:SimOk d t (simT t)∧(t.kind=5→(simT t).kind=1∨IS d 3 (simT t)∨(simT t).kind=3):=by
   rw [simT_eq]
   by_cases h3:t.kind=3
   ·rw [if_pos h3]
    have hk:∀ u ∈ t.subs,SimOk d u (simT u)∧In3 d (simT u):=fun u hu=>by
     rw [h3] at hsub;have hI:=rl_iff.1 hsub u hu;have:=ih u hu d (IS.rt hI);exact ⟨this.1,this.2 hI⟩
    have hc:=cat_ok (L:=t.subs.map simT) fun m hm=>by
     obtain ⟨u,hu,rfl⟩:=List.mem_map.1 hm;exact ⟨(hk u hu).2,(hk u hu).1.smp⟩
    refine ⟨⟨hc.1,hc.2,?_,fun w=>?_⟩,fun h=>by omega⟩
    ·have h1:=cnt_catT (t.subs.map simT)
     have h2:=cntL_map (f:=simT) t.subs fun u hu=>(hk u hu).1.cnt
     rw [cnt_eq t];omega
    ·rw [mat_catT,mcat_congr t.subs (fun u hu=>(hk u hu).1.mat),← mat_kind3 h3]
   rw [if_neg h3]
   by_cases h4:t.kind=4
   ·rw [if_pos h4]
    have hk:∀ u ∈ t.subs,SimOk d u (simT u):=fun u hu=>(ih u hu d (sub_right hsub u hu)).1
    have hc:=alt_ok (d:=d) (L:=t.subs.map simT) fun m hm=>by
     obtain ⟨u,hu,rfl⟩:=List.mem_map.1 hm;exact ⟨(hk u hu).rt,(hk u hu).smp⟩
    refine ⟨⟨hc.1,hc.2,?_,fun w=>?_⟩,fun h=>by omega⟩
    ·have h1:=cnt_altT (t.subs.map simT)
     have h2:=cntL_map (f:=simT) t.subs fun u hu=>(hk u hu).cnt
     rw [cnt_eq t];omega
    ·rw [mat_altT,malt_congr t.subs (fun u hu=>(hk u hu).mat),← mat_kind4 h4]
   rw [if_neg h4]
   by_cases h5:t.kind=5
   ·rw [if_pos h5]
    obtain ⟨a,mn,mx,rfl,b0,b1,bx,hI⟩:=rep_is hR h5
    show SimOk d (.nd 5 ST.none mn mx [a]) (simH mn mx [a])∧_
    rw [simH];have haI:IS d 5 (simT a)∧SimOk d a (simT a):=by
     have h1:=(ih a (by show a ∈ [a];simp) d (IS.rt hI)).1
     refine ⟨?_,h1⟩;unfold IS at hI ⊢
     by_cases hk2:a.kind=2
     ·have e:simT a=a:=by rw [simT_eq,if_neg (by omega),if_neg (by omega),if_neg (by omega)]
      rw [e];exact hI
     ·have hr:rnd 5 a.kind=true:=by unfold rnd;simp [hk2]
      rw [if_pos hr] at hI;have h2:=(ih a (by show a ∈ [a];simp) (d - 1) hI.2).1
      split
      ·exact ⟨hI.1,h2.rt⟩
      ·exact h1.rt
    have hk:=repP_ok haI.1 haI.2.smp b0 b1 bx;refine ⟨⟨hk.rt,hk.smp,?_,fun w=>?_⟩,fun _=>?_⟩
    ·have h1:=hk.cnt
     have h2:=haI.2.cnt;rw [cnt,cntL,cntL];omega
    ·rw [hk.mat,mat_rep]
     have e:∀ n w,Pow (Mat (simT a)) n w↔Pow (Mat a) n w:=fun n w=>Pow.congr haI.2.mat n w
     simp only [e]
    ·have hw:=hk.what
     show (repP (simT a) mn mx).kind=1∨IS d 3 (repP (simT a) mn mx)∨(repP (simT a) mn mx).kind=3
     generalize repP (simT a) mn mx=r at hw
     rcases hw with h | h | ⟨h,hr⟩
     ·left
      rw [h]
      rfl
     ·right
      left
      rw [h];have h1:=haI.1;unfold IS at h1 ⊢
      split
      ·rename_i hr
       have:rnd 5 (simT a).kind=true:=by
        unfold rnd at hr ⊢
        simp at hr ⊢
        omega
       rw [if_pos this] at h1;exact h1
      ·exact IS.rt haI.1
     ·right
      left
      unfold IS;rw [if_neg (by rw [h];unfold rnd;decide)]
      exact hr
   ·rw [if_neg h5]
    have hk:=kinds hR;have hs:Smp t:=by
     rcases hk with h | h | h | h | h
     ·rw [eps_is hR h]
      exact epsT_smp
     ·rw [(cls_is hR h).1]
      exact clsT_smp _
     ·exact absurd h h3
     ·exact absurd h h4
     ·exact absurd h h5
    exact ⟨⟨hR,hs,Nat.le_refl _,fun w=>Iff.rfl⟩,fun h=>absurd h h5⟩
  refine ⟨key.1,fun hI=>⟨key.1.rt,?_⟩⟩
  by_cases hk3:(simT t).kind=3
  ·exact .inl hk3
  by_cases hk1:(simT t).kind=1
  ·exact .inr (.inl hk1)
  right
  right
  unfold IS at hI
  by_cases hr:rnd 3 t.kind=true
  ·rw [if_pos hr] at hI
   have h2:SimOk (d - 1) t (simT t):=by
    have hsub:=hI.2.subs;have hk:=kinds hR
    rcases hk with h | h | h | h | h
    ·have e:simT t=t:=by rw [simT_eq,if_neg (by omega),if_neg (by omega),if_neg (by omega)]
     rw [e] at hk1;exact absurd h hk1
    ·rw [h] at hr
     exact absurd hr (by unfold rnd;decide)
    ·have hk:∀ u ∈ t.subs,SimOk (d - 1) u (simT u)∧In3 (d - 1) (simT u):=fun u hu=>by
      rw [h] at hsub;have hI:=rl_iff.1 hsub u hu;have:=ih u hu (d - 1) (IS.rt hI);exact ⟨this.1,this.2 hI⟩
     have hc:=cat_ok (L:=t.subs.map simT) fun m hm=>by
      obtain ⟨u,hu,rfl⟩:=List.mem_map.1 hm;exact ⟨(hk u hu).2,(hk u hu).1.smp⟩
     have e:simT t=catT (t.subs.map simT):=by rw [simT_eq,if_pos h]
     rw [← e] at hc;exact ⟨hc.1,hc.2,key.1.cnt,key.1.mat⟩
    ·have hc:=alt_ok (d:=d - 1) (L:=t.subs.map simT) fun m hm=>by
      obtain ⟨u,hu,rfl⟩:=List.mem_map.1 hm;have:=(ih u hu (d - 1) (sub_right hsub u hu)).1;exact ⟨this.rt,this.smp⟩
     have e:simT t=altT (t.subs.map simT):=by rw [simT_eq,if_neg (by omega),if_pos h]
     rw [← e] at hc;exact ⟨hc.1,hc.2,key.1.cnt,key.1.mat⟩
    ·rw [h] at hr
     exact absurd hr (by unfold rnd;decide)
   unfold IS
   split
   ·exact ⟨hI.1,h2.rt⟩
   ·exact key.1.rt
  ·by_cases h5:t.kind=5
   ·rcases key.2 h5 with h | h | h
    ·exact absurd h hk1
    ·exact h
    ·exact absurd h hk3
   ·have e:simT t=t:=by
     have hk:=kinds hR;unfold rnd at hr
     simp at hr
     rw [simT_eq,if_neg (by omega),if_neg (by omega),if_neg (by omega)]
    unfold IS;rw [e,if_neg hr];exact hR
end P10
end Go.Proofs.YtlmfbchgkjgljaaGreat
