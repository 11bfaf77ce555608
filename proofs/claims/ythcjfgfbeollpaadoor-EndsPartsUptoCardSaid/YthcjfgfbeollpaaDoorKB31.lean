/- Layer 9, plain: the bytes with which a match may begin, as the document puts them together; the code's are the same. -/
import Derived.Test.YthcjfgfbeollpaaDoorKB30
import Derived.Test.YthcjfgfbeollpaaDoorKB29
namespace Go.Proofs.YthcjfgfbeollpaaDoor
namespace P09
open P07 P08 Bytes
open Sets (ST)
mutual
def firstS:T→ST
 | .nd k s mn mx l=>if noneB (.nd k s mn mx l)=true then .none else if k=2 then s else if k=3 then catF .none l else if k=4 then altF .none l else if k=5∧mx≠0 then headF l else .none
def catF:ST→List T→ST
 | acc,[]=>acc
 | acc,t::l=>if nullB t=true then catF (acc.or (firstS t)) l else acc.or (firstS t)
def altF:ST→List T→ST
 | acc,[]=>acc
 | acc,t::l=>altF (acc.or (firstS t)) l
def headF:List T→ST
 | []=>.none
 | t::_=>firstS t
end
theorem firstS_eq (t:T):firstS t=if noneB t=true then .none else if t.kind=2 then t.set else if t.kind=3 then catF .none t.subs else if t.kind=4 then altF .none t.subs else if t.kind=5∧t.mx≠0 then headF t.subs else .none:=by
 cases t
 rw [firstS]
 rfl
mutual
theorem tx_first:∀ (t:T) (d:Nat),RT d t→(txOf t).first=firstS t
 | .nd k s mn mx l,d,h=>by
  obtain ⟨hb,hs,hl⟩:=h.bare;have hS:=tx_same _ d h;have ef:=firstS_eq (.nd k s mn mx l);have en:=noneB_eq (.nd k s mn mx l)
  cases hn:noneB (.nd k s mn mx l) with
  | true =>
   rw [hS.zero hn,ef,if_pos hn]
   rfl
  | false =>
   rw [hn,if_neg (by decide)] at ef
   rw [hn] at en;rw [ef,txOf];unfold T.kind T.set T.mn T.subs at en;unfold T.kind T.set T.mx T.subs
   dsimp only at en ⊢
   clear ef hS hn
   by_cases h2:k=2
   ·rw [if_pos h2] at en ⊢
    rw [if_pos h2];unfold TX.cls;rw [if_neg];intro hc;rw [(count_zero hs).1 hc,eqB_refl] at en
    cases en
   ·rw [if_neg h2] at en ⊢
    rw [if_neg h2]
    by_cases h3:k=3
    ·rw [if_pos h3] at en ⊢
     rw [if_pos h3];have:=cat_first l d k hl en.symm .empty rfl (Int.le_refl 0);rw [if_pos (show TX.empty.least=0 from rfl)] at this
     exact this
    ·rw [if_neg h3] at en ⊢
     rw [if_neg h3]
     by_cases h4:k=4
     ·rw [if_pos h4] at en ⊢
      rw [if_pos h4];exact (alt_first l d k hl).1
     ·rw [if_neg h4] at en ⊢
      rw [if_neg h4]
      by_cases h5:k=5
      ·rw [if_pos h5] at en ⊢
       obtain ⟨a,rfl,b0,b1,bx,ha⟩:=one_sub h h5;have hra:RT d a:=IS.rt (k:=5) ha;have hS:=tx_same a d hra;have hf:=tx_first a d hra;rw [headX,headF];rw [headN] at en;unfold TX.rep
       by_cases hm:mx=0
       ·rw [if_pos (.inl hm),if_neg (show ¬ (k=5∧mx≠0) by omega)]
        rfl
       ·rw [if_pos (show k=5∧mx≠0 from ⟨h5,hm⟩),← hf]
        split
        ·rename_i h
         rcases h with h | h
         ·exact absurd h hm
         ·rw [hS.zero (by rw [← hS.none];exact h.1)]
          rfl
        ·split
         ·rfl
         ·split <;> rfl
      ·rw [if_neg h5,if_neg (show ¬ (k=5∧mx≠0) by omega)]
       rfl
theorem cat_first:∀ (l:List T) (d:Nat) (k:Int),RL d k l→anyN l=false→∀ acc:TX,acc.none=false→0≤acc.least→(catX acc l).first=if acc.least=0 then catF acc.first l else acc.first
 | [],d,k,_,_,acc,_,_=>by
  rw [catX,catF]
  split <;> rfl
 | t::l,d,k,hR,hn,acc,h0,hl0=>by
  obtain ⟨h1,h2⟩:=RL_cons hR;have hrt:=IS.rt (k:=k) h1;have hS:=tx_same t d hrt;have hI:=tx_in t d hrt;have hf:=tx_first t d hrt;rw [anyN,Bool.or_eq_false_iff] at hn;have hle:=hS.least hn.1;have hi0:=hI.l0;have hnl:=nullB_iff hrt;rw [hn.1,Bool.not_false,Bool.true_and] at hnl;have hth:acc.then_ (txOf t)=⟨false,acc.endless || (txOf t).endless,if acc.least=0 then acc.first.or (txOf t).first else acc.first,acc.least+(txOf t).least,acc.most+(txOf t).most⟩:=by
   unfold TX.then_;rw [if_neg (by rw [h0,hS.none,hn.1];simp)]
  have ih:=cat_first l d k h2 hn.2 (acc.then_ (txOf t)) (by rw [hth]) (by rw [hth];show 0≤acc.least+(txOf t).least;omega)
  rw [catX,ih,catF,hnl,← hf,hth]
  dsimp only
  by_cases ha:acc.least=0
  ·rw [if_pos ha,if_pos ha]
   by_cases hx:(txOf t).least=0
   ·rw [if_pos (by omega),if_pos (decide_eq_true (by omega))]
   ·rw [if_neg (by omega),if_neg (by rw [decide_eq_false (by omega)];decide)]
  ·rw [if_neg ha,if_neg ha,if_neg (by omega)]
theorem alt_first:∀ (l:List T) (d:Nat) (k:Int),RL d k l→(altX .nothing l).first=altF .none l∧∀ acc:TX,acc.none=false→acc.first.Ok→(altX acc l).first=altF acc.first l
 | [],d,k,_=>by
  rw [altX,altF];exact ⟨rfl,fun acc _ _=>by rw [altX,altF]⟩
 | t::l,d,k,hR=>by
  obtain ⟨h1,h2⟩:=RL_cons hR;have hrt:=IS.rt (k:=k) h1;have hS:=tx_same t d hrt;have hI:=tx_in t d hrt;have hf:=tx_first t d hrt;have ih:=alt_first l d k h2;refine ⟨?_,fun acc h0 hok=>?_⟩
  ·have hno:TX.nothing.or_ (txOf t)=txOf t:=by
    unfold TX.or_;rw [if_pos (show TX.nothing.none=true from rfl)]
   rw [altX,altF,hno,← hf,none_or hI.ok]
   cases hn:noneB t with
   | true =>
    rw [hS.zero hn];exact ih.1
   | false=>exact ih.2 _ (hS.none.trans hn) hI.ok
  ·rw [altX,altF,← hf]
   cases hn:noneB t with
   | true =>
    have hth:acc.or_ (txOf t)=acc:=by
     unfold TX.or_;rw [if_neg (by rw [h0];decide),if_pos (hS.none.trans hn)]
    rw [hth,hS.zero hn]
    show _=altF (acc.first.or .none) l
    rw [or_none hok];exact ih.2 acc h0 hok
   | false =>
    have hth:acc.or_ (txOf t)=⟨false,acc.endless || (txOf t).endless,acc.first.or (txOf t).first,min acc.least (txOf t).least,max acc.most (txOf t).most⟩:=by
     unfold TX.or_;rw [if_neg (by rw [h0];decide),if_neg (by rw [hS.none,hn];decide)]
    rw [hth];exact ih.2 _ rfl (ST.or_ok hok hI.ok)
end
end P09
namespace P10
open P07 P08 P09 Bytes
open Sets (ST)
def Pow (P:List UInt8→Prop):Nat→List UInt8→Prop
 | 0,w=>w=[]
 | n+1,w=>∃ u v,w=u++v∧P u∧Pow P n v
mutual
def Mat:T→List UInt8→Prop
 | .nd k s mn mx l=>fun w=>(k=1∧w=[])∨(k=2∧∃ b:UInt8,w=[b]∧s.has b.toNat=true)∨(k=3∧MCat l w)∨(k=4∧MAlt l w)∨(k=5∧∃ n:Nat,mn≤n∧(mx<0∨(n:Int)≤mx)∧Pow (MHd l) n w)
def MCat:List T→List UInt8→Prop
 | []=>fun w=>w=[]
 | t::l=>fun w=>∃ u v,w=u++v∧Mat t u∧MCat l v
def MAlt:List T→List UInt8→Prop
 | []=>fun _=>False
 | t::l=>fun w=>Mat t w∨MAlt l w
def MHd:List T→List UInt8→Prop
 | []=>fun _=>False
 | t::_=>fun w=>Mat t w
end
theorem mcat_nil (w:List UInt8):MCat [] w↔w=[]:=by rw [MCat]
theorem mcat_cons (t:T) (l:List T) (w:List UInt8):MCat (t::l) w↔∃ u v,w=u++v∧Mat t u∧MCat l v:=by rw [MCat]
theorem malt_nil (w:List UInt8):¬ MAlt [] w:=by rw [MAlt];exact fun h=>h
theorem malt_cons (t:T) (l:List T) (w:List UInt8):MAlt (t::l) w↔Mat t w∨MAlt l w:=by rw [MAlt]
theorem mhd_cons (t:T) (l:List T) (w:List UInt8):MHd (t::l) w↔Mat t w:=by rw [MHd]
theorem mat_nd (k:Int) (s:ST) (mn mx:Int) (l:List T) (w:List UInt8):Mat (.nd k s mn mx l) w↔(k=1∧w=[])∨(k=2∧∃ b:UInt8,w=[b]∧s.has b.toNat=true)∨(k=3∧MCat l w)∨(k=4∧MAlt l w)∨(k=5∧∃ n:Nat,mn≤n∧(mx<0∨(n:Int)≤mx)∧Pow (MHd l) n w):=by rw [Mat]
theorem mat_1 (s:ST) (mn mx:Int) (l:List T) (w:List UInt8):Mat (.nd 1 s mn mx l) w↔w=[]:=by
 rw [mat_nd]
 constructor
 ·rintro (h | h | h | h | h)
  ·exact h.2
  ·omega
  ·omega
  ·omega
  ·omega
 ·exact fun h=>.inl ⟨rfl,h⟩
theorem mat_2 (s:ST) (mn mx:Int) (l:List T) (w:List UInt8):Mat (.nd 2 s mn mx l) w↔∃ b:UInt8,w=[b]∧s.has b.toNat=true:=by
 rw [mat_nd]
 constructor
 ·rintro (h | h | h | h | h)
  ·omega
  ·exact h.2
  ·omega
  ·omega
  ·omega
 ·exact fun h=>.inr (.inl ⟨rfl,h⟩)
theorem mat_3 (s:ST) (mn mx:Int) (l:List T) (w:List UInt8):Mat (.nd 3 s mn mx l) w↔MCat l w:=by
 rw [mat_nd]
 constructor
 ·rintro (h | h | h | h | h)
  ·omega
  ·omega
  ·exact h.2
  ·omega
  ·omega
 ·exact fun h=>.inr (.inr (.inl ⟨rfl,h⟩))
theorem mat_4 (s:ST) (mn mx:Int) (l:List T) (w:List UInt8):Mat (.nd 4 s mn mx l) w↔MAlt l w:=by
 rw [mat_nd]
 constructor
 ·rintro (h | h | h | h | h)
  ·omega
  ·omega
  ·omega
  ·exact h.2
  ·omega
 ·exact fun h=>.inr (.inr (.inr (.inl ⟨rfl,h⟩)))
theorem mat_5 (s:ST) (mn mx:Int) (l:List T) (w:List UInt8):Mat (.nd 5 s mn mx l) w↔∃ n:Nat,mn≤n∧(mx<0∨(n:Int)≤mx)∧Pow (MHd l) n w:=by
 rw [mat_nd]
 constructor
 ·rintro (h | h | h | h | h)
  ·omega
  ·omega
  ·omega
  ·omega
  ·exact h.2
 ·exact fun h=>.inr (.inr (.inr (.inr ⟨rfl,h⟩)))
theorem Pow.congr {P Q:List UInt8→Prop} (h:∀ w,P w↔Q w):∀ (n:Nat) (w:List UInt8),Pow P n w↔Pow Q n w
 | 0,w=>Iff.rfl
 | n+1,w=>by
  constructor
  ·rintro ⟨u,v,rfl,h1,h2⟩
   exact ⟨u,v,rfl,(h u).1 h1,(Pow.congr h n v).1 h2⟩
  ·rintro ⟨u,v,rfl,h1,h2⟩
   exact ⟨u,v,rfl,(h u).2 h1,(Pow.congr h n v).2 h2⟩
theorem Pow.mono {P Q:List UInt8→Prop} (h:∀ w,P w→Q w):∀ (n:Nat) (w:List UInt8),Pow P n w→Pow Q n w
 | 0,_,h0=>h0
 | n+1,_,⟨u,v,e,h1,h2⟩=>⟨u,v,e,h u h1,Pow.mono h n v h2⟩
theorem Pow.one {P:List UInt8→Prop} (w:List UInt8):Pow P 1 w↔P w:=by
 constructor
 ·rintro ⟨u,v,rfl,h,rfl⟩
  rw [List.append_nil];exact h
 ·exact fun h=>⟨w,[],by simp,h,rfl⟩
theorem Pow.add {P:List UInt8→Prop}:∀ (n m:Nat) (u v:List UInt8),Pow P n u→Pow P m v→Pow P (n+m) (u++v)
 | 0,m,u,v,hu,hv=>by
  rw [show u=[] from hu,Nat.zero_add]
  exact hv
 | n+1,m,u,v,⟨a,b,e,h1,h2⟩,hv=>by
  rw [show n+1+m=(n+m)+1 by omega,e,List.append_assoc]
  exact ⟨a,b++v,rfl,h1,Pow.add n m b v h2 hv⟩
theorem Pow.nil {P:List UInt8→Prop} (h:P []):∀ n,Pow P n []
 | 0=>rfl
 | n+1=>⟨[],[],rfl,h,Pow.nil h n⟩
theorem Pow.short {P:List UInt8→Prop}:∀ (n:Nat) (w:List UInt8),Pow P n w→∃ m,m≤n∧m≤w.length∧(m<n→P [])∧Pow P m w
 | 0,w,h=>⟨0,Nat.le_refl 0,Nat.zero_le _,fun h=>absurd h (Nat.lt_irrefl 0),h⟩
 | n+1,w,⟨u,v,e,h1,h2⟩=>by
  obtain ⟨m,hm,hl,hP,hv⟩:=Pow.short n v h2
  cases u with
  | nil =>
   refine ⟨m,by omega,by rw [e];exact hl,fun _=>h1,?_⟩
   rw [e];exact hv
  | cons a u =>
   refine ⟨m+1,by omega,by rw [e];simp;omega,fun h=>hP (by omega),a::u,v,e,h1,hv⟩
theorem Pow.more {P:List UInt8→Prop} (h:P []) {n m:Nat} (hm:n≤m) {w:List UInt8} (hw:Pow P n w):Pow P m w:=by
 have:=Pow.add (m - n) n [] w (Pow.nil h _) hw;rw [Nat.sub_add_cancel hm] at this;exact this
theorem Pow.flat {P Q:List UInt8→Prop} (hP:∀ w,P w→∃ n,Pow Q n w):∀ (n:Nat) (w:List UInt8),Pow P n w→∃ m,Pow Q m w
 | 0,w,h=>⟨0,h⟩
 | n+1,w,⟨u,v,e,h1,h2⟩=>by
  obtain ⟨a,ha⟩:=hP u h1;obtain ⟨b,hb⟩:=Pow.flat hP n v h2;exact ⟨a+b,by rw [e];exact Pow.add a b u v ha hb⟩
theorem set_any {s:ST} (hs:s.Ok):eqB s ST.none=false↔∃ b:UInt8,s.has b.toNat=true:=by
 constructor
 ·intro h
  refine Classical.byContradiction fun hn=>?_
  have e:s=ST.none:=ST.ext hs ST.none_ok fun b hb=>by
   rw [ST.has_none]
   cases e:s.has b with
   | false=>rfl
   | true=>exact absurd ⟨UInt8.ofNat b,by rw [UInt8.toNat_ofNat_of_lt' (by simpa using hb)];exact e⟩ hn
  rw [e,eqB_refl] at h
  cases h
 ·rintro ⟨b,hb⟩
  cases e:eqB s ST.none with
  | false=>rfl
  | true =>
   rw [eqB_iff.1 e,ST.has_none] at hb
   cases hb
def LenOk (m:Nat) (P:List UInt8→Prop) (L:List Bool):Prop:=∀ k,Hs L k↔k≤m∧∃ w,w.length=k∧P w
theorem LenOk.join {m:Nat} {P Q:List UInt8→Prop} {a b:List Bool} (ha:a.length=m+1) (hP:LenOk m P a) (hQ:LenOk m Q b):LenOk m (fun w=>∃ u v,w=u++v∧P u∧Q v) (joinB a b):=fun k=>by
 rw [hs_join,ha]
 constructor
 ·rintro ⟨hk,i,j,rfl,hi,hj⟩
  obtain ⟨-,u,rfl,hu⟩:=(hP i).1 hi;obtain ⟨-,v,rfl,hv⟩:=(hQ j).1 hj;exact ⟨by omega,u++v,by simp,u,v,rfl,hu,hv⟩
 ·rintro ⟨hk,w,rfl,u,v,rfl,hu,hv⟩
  rw [List.length_append] at hk ⊢;exact ⟨by omega,u.length,v.length,rfl,(hP _).2 ⟨by omega,u,rfl,hu⟩,(hQ _).2 ⟨by omega,v,rfl,hv⟩⟩
theorem LenOk.or {m:Nat} {P Q:List UInt8→Prop} {a b:List Bool} (hl:b.length=a.length) (hP:LenOk m P a) (hQ:LenOk m Q b):LenOk m (fun w=>P w∨Q w) (orB a b):=fun k=>by
 rw [hs_or hl,hP k,hQ k]
 constructor
 ·rintro (⟨h,w,e,h1⟩ | ⟨h,w,e,h1⟩)
  ·exact ⟨h,w,e,.inl h1⟩
  ·exact ⟨h,w,e,.inr h1⟩
 ·rintro ⟨h,w,e,h1 | h1⟩
  ·exact .inl ⟨h,w,e,h1⟩
  ·exact .inr ⟨h,w,e,h1⟩
theorem LenOk.congr {m:Nat} {P Q:List UInt8→Prop} {a:List Bool} (hP:LenOk m P a) (h:∀ w,P w↔Q w):LenOk m Q a:=fun k=>by
 rw [hP k]
 constructor
 ·rintro ⟨h1,w,e,h2⟩
  exact ⟨h1,w,e,(h w).1 h2⟩
 ·rintro ⟨h1,w,e,h2⟩
  exact ⟨h1,w,e,(h w).2 h2⟩
theorem LenOk.eps (m:Nat):LenOk m (fun w=>w=[]) (oneB0 m):=fun k=>by
 rw [hs_one]
 constructor
 ·rintro rfl
  exact ⟨Nat.zero_le _,[],rfl,rfl⟩
 ·rintro ⟨-,w,rfl,rfl⟩
  rfl
theorem LenOk.no (m:Nat):LenOk m (fun _=>False) (noB m):=fun k=>by
 constructor
 ·exact fun h=>absurd h hs_no
 ·rintro ⟨-,w,-,h⟩
  exact h.elim
theorem LenOk.pow {m:Nat} {mn:Int} {P:List UInt8→Prop} {L:List Bool} (hP:LenOk m P L):∀ n,LenOk m (Pow P n) (repS m mn L n).2
 | 0=>LenOk.eps m
 | n+1=>by
  rw [repS];refine (LenOk.join (repS_length m mn L n).2 (LenOk.pow hP n) hP).congr fun w=>?_
  constructor
  ·rintro ⟨u,v,rfl,hu,hv⟩
   exact Pow.add n 1 u v hu ((Pow.one v).2 hv)
  ·intro h
   have key:∀ (n:Nat) (w:List UInt8),Pow P (n+1) w→∃ u v,w=u++v∧Pow P n u∧P v:=fun n=>by
    induction n with
    | zero =>
     intro w h;exact ⟨[],w,rfl,rfl,(Pow.one w).1 h⟩
    | succ n ih =>
     rintro w ⟨u,v,rfl,hu,hv⟩;obtain ⟨a,b,rfl,ha,hb⟩:=ih v hv;exact ⟨u++a,b,by simp,⟨u,a,rfl,hu,ha⟩,hb⟩
   exact key n w h
mutual
theorem lens_mat (m:Nat):∀ (t:T) (d:Nat),RT d t→LenOk m (Mat t) (lens m t)
 | .nd k s mn mx l,d,h=>by
  obtain ⟨hb,hs,hl⟩:=h.bare;have eL:=lens_eq m (.nd k s mn mx l);unfold T.kind T.set T.mn T.mx T.subs at eL
  dsimp only at eL
  rw [eL]
  by_cases h1:k=1
  ·rw [if_pos h1]
   subst h1;exact (LenOk.eps m).congr fun w=>(mat_1 s mn mx l w).symm
  rw [if_neg h1]
  by_cases h2:k=2
  ·rw [if_pos h2]
   subst h2;refine LenOk.congr (P:=fun w=>∃ b:UInt8,w=[b]∧s.has b.toNat=true) ?_ fun w=>(mat_2 s mn mx l w).symm
   intro i;have hex:(∃ w:List UInt8,w.length=i∧∃ b:UInt8,w=[b]∧s.has b.toNat=true)↔i=1∧eqB s ST.none=false:=by
    rw [set_any hs]
    constructor
    ·rintro ⟨w,rfl,b,rfl,hb⟩
     exact ⟨rfl,b,hb⟩
    ·rintro ⟨rfl,b,hb⟩
     exact ⟨[b],rfl,b,rfl,hb⟩
   rw [hex]
   by_cases hm:1≤m
   ·rw [if_pos hm]
    by_cases hi:i=1
    ·subst hi
     rw [hs_of (b:=!eqB s ST.none) (by rw [List.getElem?_set,if_pos rfl,if_pos (by rw [noB_length];omega)])]
     cases eqB s ST.none <;> simp [hm]
    ·constructor
     ·intro hh
      have hlt:=hh.lt;rw [List.length_set,noB_length] at hlt;have:=(hs_of (b:=false) (by rw [List.getElem?_set,if_neg (by omega)];simp [noB,hlt])).1 hh
      cases this
     ·rintro ⟨-,h3,-⟩
      exact absurd h3 hi
   ·rw [if_neg hm]
    constructor
    ·exact fun h=>absurd h hs_no
    ·rintro ⟨h3,h4,-⟩
     omega
  rw [if_neg h2]
  by_cases h3:k=3
  ·rw [if_pos h3]
   subst h3;refine (cat_mat m l d 3 hl _ _ (oneB0_length m) (LenOk.eps m)).congr fun w=>?_
   rw [mat_3]
   constructor
   ·rintro ⟨u,v,rfl,rfl,h⟩
    exact h
   ·exact fun h=>⟨[],w,rfl,rfl,h⟩
  rw [if_neg h3]
  by_cases h4:k=4
  ·rw [if_pos h4]
   subst h4;refine (alt_mat m l d 4 hl _ _ (noB_length m) (LenOk.no m)).congr fun w=>?_
   rw [mat_4]
   constructor
   ·rintro (h | h)
    ·exact h.elim
    ·exact h
   ·exact fun h=>.inr h
  rw [if_neg h4]
  by_cases h5:k=5
  ·rw [if_pos h5]
   obtain ⟨a,rfl,b0,b1,bx,ha⟩:=one_sub h h5;subst h5;have ih:=lens_mat m a d (IS.rt (k:=5) ha);rw [headB];intro i
   show Hs (repS m mn (lens m a) (lastN m mn mx+1).toNat).1 i↔_
   rw [rep_one]
   constructor
   ·rintro ⟨q,h6,h7,h8⟩
    obtain ⟨h9,w,rfl,hw⟩:=(LenOk.pow ih q i).1 h8;refine ⟨h9,w,rfl,(mat_5 s mn mx [a] w).2 ⟨q,h7,?_,?_⟩⟩
    ·unfold lastN at h6
     split at h6 <;> omega
    ·exact Pow.mono (fun w h=>(mhd_cons a [] w).2 h) q w hw
   ·rintro ⟨h9,w,rfl,hw⟩
    obtain ⟨q,h7,h8,hq⟩:=(mat_5 s mn mx [a] w).1 hw;have hq:=Pow.mono (fun w h=>(mhd_cons a [] w).1 h) q w hq
    by_cases hx:mx<0
    ·obtain ⟨p,hp1,hp2,hp3,hp4⟩:=Pow.short q w hq
     by_cases hpm:mn≤p
     ·refine ⟨p,?_,hpm,(LenOk.pow ih p _).2 ⟨h9,w,rfl,hp4⟩⟩
      unfold lastN;rw [if_pos hx];omega
     ·obtain ⟨n,rfl⟩:∃ n:Nat,mn=n:=⟨mn.toNat,by omega⟩
      refine ⟨n,?_,Int.le_refl _,(LenOk.pow ih n _).2 ⟨h9,w,rfl,Pow.more (hp3 (by omega)) (by omega) hp4⟩⟩
      unfold lastN;rw [if_pos hx];omega
    ·refine ⟨q,?_,h7,(LenOk.pow ih q _).2 ⟨h9,w,rfl,hq⟩⟩
     unfold lastN;rw [if_neg hx];omega
  ·exfalso
   unfold Bare at hb;omega
theorem cat_mat (m:Nat):∀ (l:List T) (d:Nat) (k:Int),RL d k l→∀ (acc:List Bool) (P:List UInt8→Prop),acc.length=m+1→LenOk m P acc→LenOk m (fun w=>∃ u v,w=u++v∧P u∧MCat l v) (catB m acc l)
 | [],d,k,_,acc,P,_,hP=>by
  rw [catB];refine hP.congr fun w=>?_
  constructor
  ·exact fun h=>⟨w,[],by simp,h,(mcat_nil []).2 rfl⟩
  ·rintro ⟨u,v,rfl,hu,hv⟩
   rw [(mcat_nil v).1 hv,List.append_nil];exact hu
 | t::l,d,k,hR,acc,P,hal,hP=>by
  obtain ⟨h1,h2⟩:=RL_cons hR;have ih:=lens_mat m t d (IS.rt (k:=k) h1);rw [catB];refine (cat_mat m l d k h2 _ _ (by rw [joinB_length];exact hal) (LenOk.join hal hP ih)).congr fun w=>?_
  constructor
  ·rintro ⟨-,v,rfl,⟨a,b,rfl,ha,hb⟩,hv⟩
   exact ⟨a,b++v,by simp,ha,(mcat_cons t l _).2 ⟨b,v,rfl,hb,hv⟩⟩
  ·rintro ⟨u,v,rfl,hu,hv⟩
   obtain ⟨a,b,rfl,ha,hb⟩:=(mcat_cons t l _).1 hv;exact ⟨u++a,b,by simp,⟨u,a,rfl,hu,ha⟩,hb⟩
theorem alt_mat (m:Nat):∀ (l:List T) (d:Nat) (k:Int),RL d k l→∀ (acc:List Bool) (P:List UInt8→Prop),acc.length=m+1→LenOk m P acc→LenOk m (fun w=>P w∨MAlt l w) (altB m acc l)
 | [],d,k,_,acc,P,_,hP=>by
  rw [altB];refine hP.congr fun w=>?_
  constructor
  ·exact fun h=>.inl h
  ·rintro (h | h)
   ·exact h
   ·exact absurd h (malt_nil w)
 | t::l,d,k,hR,acc,P,hal,hP=>by
  obtain ⟨h1,h2⟩:=RL_cons hR;have ih:=lens_mat m t d (IS.rt (k:=k) h1);rw [altB];refine (alt_mat m l d k h2 _ _ (by unfold orB;rw [OP_length];exact hal) (LenOk.or (by rw [lens_length,hal]) hP ih)).congr fun w=>?_
  rw [malt_cons];exact or_assoc
end
theorem null_mat {t:T} {d:Nat} (h:RT d t):nullB t=true↔Mat t []:=by
 show Hs (lens 0 t) 0↔_
 rw [lens_mat 0 t d h 0]
 constructor
 ·rintro ⟨-,w,h1,h2⟩
  rw [List.eq_nil_of_length_eq_zero h1] at h2;exact h2
 ·exact fun h=>⟨Nat.le_refl 0,[],rfl,h⟩
end P10
namespace P11
open P07 P08 P09 P10 Bytes
open Sets (ST)
def seg (s:List UInt8) (i j:Nat):List UInt8:=(s.drop i).take (j - i)
theorem seg_length {s:List UInt8} {i j:Nat} (h:j≤s.length):(seg s i j).length=j - i:=by
 unfold seg;rw [List.length_take,List.length_drop];omega
theorem seg_split (s:List UInt8) {i k j:Nat} (h1:i≤k) (h2:k≤j):seg s i j=seg s i k++seg s k j:=by
 unfold seg;rw [show j - i=(k - i)+(j - k) by omega,List.take_add,List.drop_drop,show i+(k - i)=k by omega]
theorem seg_whole (s:List UInt8):seg s 0 s.length=s:=by
 unfold seg
 simp
theorem seg_self (s:List UInt8) (i:Nat):seg s i i=[]:=by
 unfold seg
 simp
theorem seg_one {s:List UInt8} {i:Nat} (h:i<s.length):seg s i (i+1)=[s.getD i 0]:=by
 unfold seg;rw [List.drop_eq_getElem_cons h,Nat.add_sub_cancel_left,List.getD_eq_getElem?_getD,List.getElem?_eq_getElem h]
 rfl
theorem seg_seq {s:List UInt8} {i j:Nat} (h1:i≤j) (h2:j≤s.length) (P Q:List UInt8→Prop):(∃ u v,seg s i j=u++v∧P u∧Q v)↔∃ k,i≤k∧k≤j∧P (seg s i k)∧Q (seg s k j):=by
 constructor
 ·rintro ⟨u,v,e,hu,hv⟩
  have hl:=seg_length (i:=i) h2;rw [e,List.length_append] at hl;have e2:=seg_split s (i:=i) (k:=i+u.length) (j:=j) (by omega) (by omega)
  rw [e] at e2;obtain ⟨e3,e4⟩:=List.append_inj e2 (by rw [seg_length (by omega)];omega)
  exact ⟨i+u.length,by omega,by omega,by rw [← e3];exact hu,by rw [← e4];exact hv⟩
 ·rintro ⟨k,hk1,hk2,hu,hv⟩
  exact ⟨_,_,seg_split s hk1 hk2,hu,hv⟩
theorem Pow.snoc {P:List UInt8→Prop}:∀ (n:Nat) (w:List UInt8),Pow P (n+1) w↔∃ u v,w=u++v∧Pow P n u∧P v:=fun n w=>by
 constructor
 ·intro h
  induction n generalizing w with
  | zero=>exact ⟨[],w,rfl,rfl,(Pow.one w).1 h⟩
  | succ n ih =>
   obtain ⟨u,v,rfl,hu,hv⟩:=h;obtain ⟨a,b,rfl,ha,hb⟩:=ih v hv;exact ⟨u++a,b,by rw [List.append_assoc],⟨u,a,rfl,hu,ha⟩,hb⟩
 ·rintro ⟨u,v,rfl,hu,hv⟩
  exact Pow.add n 1 u v hu ((Pow.one v).2 hv)
def On (X:List Bool) (j:Nat):Prop:=X.getD j false=true
theorem On.lt {X:List Bool} {j:Nat} (h:On X j):j<X.length:=by
 unfold On at h;refine Decidable.byContradiction fun hn=>?_
 rw [List.getD_eq_getElem?_getD,List.getElem?_eq_none (by omega)] at h
 cases h
theorem On.some {X:List Bool} {j:Nat} {b:Bool} (h:X[j]?=some b):On X j↔b=true:=by
 unfold On;rw [List.getD_eq_getElem?_getD,h]
 rfl
theorem On.ext {X Y:List Bool} (hl:X.length=Y.length) (h:∀ j,On X j↔On Y j):X=Y:=by
 apply List.ext_getElem?
 intro j
 by_cases hj:j<X.length
 ·rw [getD_get hj,getD_get (L:=Y) (by omega)]
  have:=h j;unfold On at this;rw [Bool.eq_iff_iff.2 this]
 ·rw [List.getElem?_eq_none (by omega),List.getElem?_eq_none (by omega)]
theorem On.no (m j:Nat):¬ On (noB m) j:=by
 intro h;have:=h.lt;rw [noB_length] at this;rw [On.some (b:=false) (by simp [noB,this])] at h
 cases h
theorem orB_length (a b:List Bool):(orB a b).length=a.length:=by
 unfold orB;exact OP_length _ _ _
theorem On.or {a b:List Bool} (hl:b.length=a.length) (j:Nat):On (orB a b) j↔On a j∨On b j:=by
 by_cases hj:j<a.length
 ·unfold orB
  rw [On.some (OP_get a b (i:=a.length) hj)];unfold On;rw [decide_eq_true hj,Bool.true_and,Bool.or_eq_true]
 ·constructor
  ·intro h
   have:=h.lt;rw [orB_length] at this;exact absurd this hj
  ·rintro (h | h)
   ·exact absurd h.lt hj
   ·have:=h.lt
    omega
def CL (s:List UInt8) (S:ST) (a:List Bool) (i:Nat):List Bool:=(List.range (s.length+1)).map fun j=>decide (1≤j∧j≤i) && (a.getD (j - 1) false && S.has (s.getD (j - 1) 0).toNat)
def clsB (s:List UInt8) (S:ST) (a:List Bool):List Bool:=CL s S a s.length
theorem CL_length (s:List UInt8) (S:ST) (a:List Bool) (i:Nat):(CL s S a i).length=s.length+1:=by simp [CL]
theorem CL_get (s:List UInt8) (S:ST) (a:List Bool) {i j:Nat} (h:j<s.length+1):(CL s S a i)[j]?=some (decide (1≤j∧j≤i) && (a.getD (j - 1) false && S.has (s.getD (j - 1) 0).toNat)):=by
 simp [CL,h]
theorem cls_on (s:List UInt8) (S:ST) (a:List Bool) (j:Nat):On (clsB s S a) j↔∃ i,On a i∧i≤j∧j≤s.length∧∃ b:UInt8,seg s i j=[b]∧S.has b.toNat=true:=by
 by_cases hj:j<s.length+1
 ·unfold clsB
  rw [On.some (CL_get s S a hj),Bool.and_eq_true,Bool.and_eq_true,decide_eq_true_iff]
  constructor
  ·rintro ⟨⟨h1,-⟩,h2,h3⟩
   have e:=seg_one (s:=s) (i:=j - 1) (by omega)
   rw [show j - 1+1=j by omega] at e
   exact ⟨j - 1,h2,by omega,by omega,_,e,h3⟩
  ·rintro ⟨i,h1,h2,h3,b,h4,h5⟩
   have hl:=seg_length (s:=s) (i:=i) h3;rw [h4,List.length_singleton] at hl;have hi:i=j - 1:=by omega
   subst hi;have e:=seg_one (s:=s) (i:=j - 1) (by omega)
   rw [show j - 1+1=j by omega,h4] at e
   injection e with e _;rw [e] at h5;exact ⟨by omega,h1,h5⟩
 ·constructor
  ·intro h
   have:=h.lt;unfold clsB at this;rw [CL_length] at this;exact absurd this hj
  ·rintro ⟨i,-,-,h,-⟩
   omega
def cameB (X Y:List Bool):Bool:=(List.range X.length).any fun j=>Y.getD j false && !X.getD j false
theorem came_no {X Y:List Bool} (hl:Y.length=X.length) (h:cameB X Y=false) (j:Nat) (hj:On Y j):On X j:=by
 refine Classical.byContradiction fun hn=>?_
 have:=hj.lt;have h1:cameB X Y=true:=by
  unfold cameB;rw [List.any_eq_true];refine ⟨j,List.mem_range.2 (by omega),?_⟩
  unfold On at hj hn;rw [hj]
  simpa using hn
 rw [h] at h1
 cases h1
def repE (mn:Int) (f:List Bool→List Bool):Nat→Nat→List Bool→List Bool→List Bool
 | 0,_,out,_=>out
 | n+1,k,out,now=>if mn≤k then (if cameB out now=true then repE mn f n (k+1) (orB out now) (f now) else orB out now) else repE mn f n (k+1) out (f now)
mutual
def stepB (s:List UInt8):T→List Bool→List Bool
 | .nd k S mn mx l=>fun X=>if k=1 then X else if k=2 then clsB s S X else if k=3 then stepC s l X else if k=4 then stepA s l (noB s.length) X else if k=5 then repE mn (stepH s l) (lastN (s.length+1) mn mx+1).toNat 0 (noB s.length) X else noB s.length
def stepC (s:List UInt8):List T→List Bool→List Bool
 | []=>fun X=>X
 | t::l=>fun X=>stepC s l (stepB s t X)
def stepA (s:List UInt8):List T→List Bool→List Bool→List Bool
 | []=>fun acc _=>acc
 | t::l=>fun acc X=>stepA s l (orB acc (stepB s t X)) X
def stepH (s:List UInt8):List T→List Bool→List Bool
 | []=>fun _=>noB s.length
 | t::_=>stepB s t
end
theorem stepB_eq (s:List UInt8) (t:T) (X:List Bool):stepB s t X=if t.kind=1 then X else if t.kind=2 then clsB s t.set X else if t.kind=3 then stepC s t.subs X else if t.kind=4 then stepA s t.subs (noB s.length) X else if t.kind=5 then repE t.mn (stepH s t.subs) (lastN (s.length+1) t.mn t.mx+1).toNat 0 (noB s.length) X else noB s.length:=by
 cases t
 rw [stepB]
 rfl
theorem stepC_nil (s:List UInt8) (X:List Bool):stepC s [] X=X:=by rw [stepC]
theorem stepC_cons (s:List UInt8) (t:T) (l:List T) (X:List Bool):stepC s (t::l) X=stepC s l (stepB s t X):=by rw [stepC]
theorem stepA_nil (s:List UInt8) (acc X:List Bool):stepA s [] acc X=acc:=by rw [stepA]
theorem stepA_cons (s:List UInt8) (t:T) (l:List T) (acc X:List Bool):stepA s (t::l) acc X=stepA s l (orB acc (stepB s t X)) X:=by rw [stepA]
theorem stepH_cons (s:List UInt8) (t:T) (l:List T) (X:List Bool):stepH s (t::l) X=stepB s t X:=by rw [stepH]
def Rch (s:List UInt8) (P:List UInt8→Prop) (X:List Bool) (j:Nat):Prop:=∃ i,On X i∧i≤j∧j≤s.length∧P (seg s i j)
theorem Rch.congr {s:List UInt8} {P Q:List UInt8→Prop} (h:∀ w,P w↔Q w) (X:List Bool) (j:Nat):Rch s P X j↔Rch s Q X j:=by
 constructor
 ·rintro ⟨i,h1,h2,h3,h4⟩
  exact ⟨i,h1,h2,h3,(h _).1 h4⟩
 ·rintro ⟨i,h1,h2,h3,h4⟩
  exact ⟨i,h1,h2,h3,(h _).2 h4⟩
theorem Rch.seq {s:List UInt8} (P Q:List UInt8→Prop) (X Y:List Bool) (hY:∀ j,On Y j↔Rch s P X j) (j:Nat):Rch s (fun w=>∃ u v,w=u++v∧P u∧Q v) X j↔Rch s Q Y j:=by
 constructor
 ·rintro ⟨i,h1,h2,h3,h4⟩
  obtain ⟨k,hk1,hk2,hu,hv⟩:=(seg_seq h2 h3 P Q).1 h4;exact ⟨k,(hY k).2 ⟨i,h1,hk1,by omega,hu⟩,hk2,h3,hv⟩
 ·rintro ⟨k,hk,hk2,h3,hv⟩
  obtain ⟨i,h1,hk1,-,hu⟩:=(hY k).1 hk;exact ⟨i,h1,by omega,h3,(seg_seq (by omega) h3 P Q).2 ⟨k,hk1,hk2,hu,hv⟩⟩
def StepOk (s:List UInt8) (t:T):Prop:=∀ X:List Bool,X.length=s.length+1→(stepB s t X).length=s.length+1∧∀ j,On (stepB s t X) j↔Rch s (Mat t) X j
theorem stepC_ok (s:List UInt8):∀ l:List T,(∀ t ∈ l,StepOk s t)→∀ X:List Bool,X.length=s.length+1→(stepC s l X).length=s.length+1∧∀ j,On (stepC s l X) j↔Rch s (MCat l) X j
 | [],_,X,hX=>by
  rw [stepC_nil];refine ⟨hX,fun j=>⟨fun h=>⟨j,h,Nat.le_refl j,by have:=h.lt;omega,by rw [seg_self,mcat_nil]⟩,?_⟩⟩
  rintro ⟨i,h1,h2,h3,h4⟩;rw [mcat_nil] at h4;have:=seg_length (s:=s) (i:=i) h3;rw [h4,List.length_nil] at this;rw [show j=i by omega]
  exact h1
 | t::l,h,X,hX=>by
  obtain ⟨h1,h2⟩:=h t (List.mem_cons_self ..) X hX;obtain ⟨h3,h4⟩:=stepC_ok s l (fun u hu=>h u (List.mem_cons_of_mem _ hu)) (stepB s t X) h1
  rw [stepC_cons];refine ⟨h3,fun j=>?_⟩
  rw [h4 j,← Rch.seq (Mat t) (MCat l) X (stepB s t X) h2 j];exact Rch.congr (fun w=>(mcat_cons t l w).symm) X j
theorem stepA_ok (s:List UInt8):∀ l:List T,(∀ t ∈ l,StepOk s t)→∀ acc X:List Bool,acc.length=s.length+1→X.length=s.length+1→(stepA s l acc X).length=s.length+1∧∀ j,On (stepA s l acc X) j↔On acc j∨Rch s (MAlt l) X j
 | [],_,acc,X,ha,hX=>by
  rw [stepA_nil];refine ⟨ha,fun j=>⟨.inl,?_⟩⟩
  rintro (h | ⟨i,h1,h2,h3,h4⟩)
  ·exact h
  ·exact absurd h4 (malt_nil _)
 | t::l,h,acc,X,ha,hX=>by
  obtain ⟨h1,h2⟩:=h t (List.mem_cons_self ..) X hX;obtain ⟨h3,h4⟩:=stepA_ok s l (fun u hu=>h u (List.mem_cons_of_mem _ hu)) (orB acc (stepB s t X)) X (by rw [orB_length];exact ha) hX
  rw [stepA_cons];refine ⟨h3,fun j=>?_⟩
  rw [h4 j,On.or (by omega),h2 j,or_assoc]
  refine or_congr_right ?_
  constructor
  ·rintro (⟨i,a1,a2,a3,a4⟩ | ⟨i,a1,a2,a3,a4⟩)
   ·exact ⟨i,a1,a2,a3,(malt_cons _ _ _).2 (.inl a4)⟩
   ·exact ⟨i,a1,a2,a3,(malt_cons _ _ _).2 (.inr a4)⟩
  ·rintro ⟨i,a1,a2,a3,a4⟩
   rcases (malt_cons _ _ _).1 a4 with a4 | a4
   ·exact .inl ⟨i,a1,a2,a3,a4⟩
   ·exact .inr ⟨i,a1,a2,a3,a4⟩
theorem Rch.next {s:List UInt8} {P:List UInt8→Prop} {X Y:List Bool} {k:Nat} (hY:∀ j,On Y j↔Rch s (Pow P k) X j) (j:Nat):Rch s (Pow P (k+1)) X j↔Rch s P Y j:=by
 rw [← Rch.seq (Pow P k) P X Y hY j];exact Rch.congr (fun w=>Pow.snoc k w) X j
theorem rep_ok (s:List UInt8) (mn:Int) (P:List UInt8→Prop) (f:List Bool→List Bool) (hf:∀ X:List Bool,X.length=s.length+1→(f X).length=s.length+1∧∀ j,On (f X) j↔Rch s P X j) (X:List Bool):∀ (n k:Nat) (out now:List Bool),out.length=s.length+1→now.length=s.length+1→(∀ j,On out j↔∃ m:Nat,mn≤m∧m<k∧Rch s (Pow P m) X j)→(∀ j,On now j↔Rch s (Pow P k) X j) →
  (repE mn f n k out now).length=s.length+1∧∀ j,On (repE mn f n k out now) j↔∃ m:Nat,mn≤m∧m<k+n∧Rch s (Pow P m) X j
 | 0,k,out,now,ho,_,h1,_=>by
  rw [repE];exact ⟨ho,h1⟩
 | n+1,k,out,now,ho,hn,h1,h2=>by
  obtain ⟨f1,f2⟩:=hf now hn;have h3:∀ j,On (f now) j↔Rch s (Pow P (k+1)) X j:=fun j=>by rw [f2 j,Rch.next h2 j]
  rw [repE]
  by_cases hk:mn≤k
  ·rw [if_pos hk]
   have h4:∀ j,On (orB out now) j↔∃ m:Nat,mn≤m∧m<k+1∧Rch s (Pow P m) X j:=fun j=>by
    rw [On.or (by omega),h1 j,h2 j]
    constructor
    ·rintro (⟨m,a1,a2,a3⟩ | h)
     ·exact ⟨m,a1,by omega,a3⟩
     ·exact ⟨k,hk,by omega,h⟩
    ·rintro ⟨m,a1,a2,a3⟩
     by_cases hm:m=k
     ·subst hm
      exact .inr a3
     ·exact .inl ⟨m,a1,by omega,a3⟩
   cases hc:cameB out now with
   | true =>
    rw [if_pos rfl];have:=rep_ok s mn P f hf X n (k+1) (orB out now) (f now) (by rw [orB_length];exact ho) f1 h4 h3
    rw [show k+1+n=k+(n+1) by omega] at this
    exact this
   | false =>
    rw [if_neg (by decide)]
    refine ⟨by rw [orB_length];exact ho,fun j=>?_⟩
    have hin:=came_no (by omega) hc
    have h5:∀ (d j:Nat),Rch s (Pow P (k+d)) X j→∃ m:Nat,mn≤m∧m<k+1∧Rch s (Pow P m) X j:=by
     intro d
     induction d with
     | zero=>exact fun j h=>⟨k,hk,by omega,h⟩
     | succ d ih =>
      rintro j ⟨i,a1,a2,a3,a4⟩;obtain ⟨u,v,e,hu,hv⟩:=(Pow.snoc (k+d) _).1 a4;obtain ⟨p,b1,b2,b3,b4⟩:=(seg_seq a2 a3 (Pow P (k+d)) P).1 ⟨u,v,e,hu,hv⟩;obtain ⟨m,c1,c2,c3⟩:=ih p ⟨i,a1,b1,by omega,b3⟩
      have c4:On out p:=by
       by_cases hm:m=k
       ·subst hm
        exact hin p ((h2 p).2 c3)
       ·exact (h1 p).2 ⟨m,c1,by omega,c3⟩
      obtain ⟨m',d1,d2,q,d3,d4,d5,d6⟩:=(h1 p).1 c4;exact ⟨m'+1,by omega,by omega,q,d3,by omega,a3,(Pow.snoc m' _).2 ⟨_,_,seg_split s d4 b2,d6,b4⟩⟩
    rw [h4 j]
    constructor
    ·rintro ⟨m,a1,a2,a3⟩
     exact ⟨m,a1,by omega,a3⟩
    ·rintro ⟨m,a1,a2,a3⟩
     by_cases hm:m<k+1
     ·exact ⟨m,a1,hm,a3⟩
     ·exact h5 (m - k) j (by rw [show k+(m - k)=m by omega];exact a3)
  ·rw [if_neg hk]
   have:=rep_ok s mn P f hf X n (k+1) out (f now) ho f1 (fun j=>by
    rw [h1 j]
    constructor
    ·rintro ⟨m,a1,a2,a3⟩
     exact ⟨m,a1,by omega,a3⟩
    ·rintro ⟨m,a1,a2,a3⟩
     exact ⟨m,a1,by omega,a3⟩) h3
   rw [show k+1+n=k+(n+1) by omega] at this
   exact this
theorem step_ok (s:List UInt8):∀ (n:Nat) (t:T),SizeOf.sizeOf t<n→∀ d,RT d t→StepOk s t
 | 0,_,h,_,_=>absurd h (Nat.not_lt_zero _)
 | n+1,t,h,d,hR=>fun X hX=>by
  have ih:∀ u ∈ t.subs,StepOk s u:=fun u hu=>by
   obtain ⟨i,hi⟩:=List.mem_iff_getElem?.1 hu;exact step_ok s n u (by have:=sub_less hi;omega) d (sub_RT hR hi)
  have e:=stepB_eq s t X;have e2:∀ j,Rch s (Mat t) X j↔Rch s (fun w=>(t.kind=1∧w=[])∨(t.kind=2∧∃ b:UInt8,w=[b]∧t.set.has b.toNat=true)∨(t.kind=3∧MCat t.subs w)∨(t.kind=4∧MAlt t.subs w)∨(t.kind=5∧∃ n:Nat,t.mn≤n∧(t.mx<0∨(n:Int)≤t.mx)∧Pow (MHd t.subs) n w)) X j:=fun j=>Rch.congr (fun w=>by cases t;exact mat_nd ..) X j
  by_cases k1:t.kind=1
  ·rw [if_pos k1] at e
   rw [e];refine ⟨hX,fun j=>?_⟩
   rw [e2 j,Rch.congr (Q:=fun w=>w=[]) (fun w=>⟨fun h=>by
    rcases h with h | h | h | h | h
    ·exact h.2
    all_goals omega,fun h=>.inl ⟨k1,h⟩⟩) X j]
   constructor
   ·exact fun h=>⟨j,h,Nat.le_refl j,by have:=h.lt;omega,seg_self s j⟩
   ·rintro ⟨i,a1,a2,a3,a4⟩
    have:=seg_length (s:=s) (i:=i) a3;rw [a4,List.length_nil] at this;rw [show j=i by omega]
    exact a1
  rw [if_neg k1] at e
  by_cases k2:t.kind=2
  ·rw [if_pos k2] at e
   rw [e];refine ⟨CL_length _ _ _ _,fun j=>?_⟩
   rw [e2 j,cls_on]
   exact (Rch.congr (Q:=fun w=>∃ b:UInt8,w=[b]∧t.set.has b.toNat=true) (fun w=>⟨fun h=>by
    rcases h with h | h | h | h | h
    ·omega
    ·exact h.2
    all_goals omega,fun h=>.inr (.inl ⟨k2,h⟩)⟩) X j).symm
  rw [if_neg k2] at e
  by_cases k3:t.kind=3
  ·rw [if_pos k3] at e
   rw [e];obtain ⟨h1,h2⟩:=stepC_ok s t.subs ih X hX;refine ⟨h1,fun j=>?_⟩
   rw [e2 j,h2 j]
   exact Rch.congr (fun w=>⟨fun h=>.inr (.inr (.inl ⟨k3,h⟩)),fun h=>by
    rcases h with h | h | h | h | h
    ·omega
    ·omega
    ·exact h.2
    all_goals omega⟩) X j
  rw [if_neg k3] at e
  by_cases k4:t.kind=4
  ·rw [if_pos k4] at e
   rw [e];obtain ⟨h1,h2⟩:=stepA_ok s t.subs ih (noB s.length) X (noB_length _) hX;refine ⟨h1,fun j=>?_⟩
   rw [e2 j,h2 j]
   rw [Rch.congr (P:=fun w=>_∨_) (Q:=MAlt t.subs) (fun w=>⟨fun h=>by
    rcases h with h | h | h | h | h
    ·omega
    ·omega
    ·omega
    ·exact h.2
    ·omega,fun h=>.inr (.inr (.inr (.inl ⟨k4,h⟩)))⟩) X j]
   exact ⟨fun h=>h.resolve_left (On.no _ _),.inr⟩
  rw [if_neg k4] at e
  by_cases k5:t.kind=5
  ·rw [if_pos k5] at e
   rw [e];obtain ⟨u,hsub,m0,m1,hxx,-⟩:=kind5_one hR k5;have hu:=ih u (by rw [hsub];exact List.mem_cons_self ..)
   have hH:stepH s t.subs=stepB s u:=by
    rw [hsub]
    funext X
    exact stepH_cons s u [] X
   rw [hH]
   obtain ⟨h1,h2⟩:=rep_ok s t.mn (Mat u) (stepB s u) hu X (lastN (s.length+1) t.mn t.mx+1).toNat 0 (noB s.length) X (noB_length _) hX (fun j=>⟨fun h=>absurd h (On.no _ _),fun ⟨m,_,h,_⟩=>absurd h (Nat.not_lt_zero _)⟩) (fun j=>by
    constructor
    ·exact fun h=>⟨j,h,Nat.le_refl j,by have:=h.lt;omega,by rw [seg_self];rfl⟩
    ·rintro ⟨i,a1,a2,a3,a4⟩
     have:=seg_length (s:=s) (i:=i) a3;rw [show seg s i j=[] from a4,List.length_nil] at this
     rw [show j=i by omega]
     exact a1)
   refine ⟨h1,fun j=>?_⟩
   rw [e2 j,h2 j,Nat.zero_add];have hLN:lastN (s.length+1) t.mn t.mx=if t.mx<0 then t.mn+((s.length+1:Nat):Int) else t.mx:=rfl
   constructor
   ·rintro ⟨m,a1,a2,i,b1,b2,b3,b4⟩
    refine ⟨i,b1,b2,b3,.inr (.inr (.inr (.inr ⟨k5,m,a1,?_,by rw [hsub];exact (Pow.congr (fun w=>(mhd_cons u [] w).symm) m _).1 b4⟩)))⟩
    by_cases hx:t.mx<0
    ·exact .inl hx
    ·rw [if_neg hx] at hLN
     exact .inr (by omega)
   ·rintro ⟨i,b1,b2,b3,b4⟩
    obtain ⟨m,a1,a2,a3⟩:∃ m:Nat,t.mn≤m∧(t.mx<0∨(m:Int)≤t.mx)∧Pow (MHd t.subs) m (seg s i j):=by
     rcases b4 with h | h | h | h | h
     ·omega
     ·omega
     ·omega
     ·omega
     ·exact h.2
    rw [hsub] at a3;have a4:=(Pow.congr (fun w=>mhd_cons u [] w) m _).1 a3
    by_cases hx:t.mx<0
    ·rw [if_pos hx] at hLN
     obtain ⟨m',c1,c2,c3,c4⟩:=Pow.short m _ a4;have hl:=seg_length (s:=s) (i:=i) b3
     by_cases hm:m'<m
     ·by_cases hm2:t.mn≤m'
      ·exact ⟨m',hm2,by omega,i,b1,b2,b3,c4⟩
      ·exact ⟨t.mn.toNat,by omega,by omega,i,b1,b2,b3,Pow.more (c3 hm) (by omega) c4⟩
     ·exact ⟨m',by omega,by omega,i,b1,b2,b3,c4⟩
    ·rw [if_neg hx] at hLN
     exact ⟨m,a1,by omega,i,b1,b2,b3,a4⟩
  rw [if_neg k5] at e;exact absurd (P08.kinds hR) (by omega)
end P11
namespace P09
open Go.RowKit Base Bytes P07 P08
open Sets (ST)
theorem lie_under {w:World} {ok:Nat→Prop} {a:Option Addr} {L:List T} (h:Lie w ok a L):Lie w (fun k=>k<w.heap.size) a L:=by
 induction h with
 | nil a=>exact .nil a
 | cons bl off L A C hL hb hok hC hc _ ih=>exact .cons bl off L A C hL hb hb hC hc ih
structure Bz (W:World) (n:Nat) (t:T) (a:Option Addr) (c:Nat):Prop where
 cell:At W n 27 (ncells t a c)
 lie:Lie W (fun k=>k<n) a t.subs
theorem Bz.keep {S:Nat→Prop} {W W':World} {n:Nat} {t:T} {a:Option Addr} {c:Nat} (h:Bz W n t a c) (q:Keep S W W') (hS:∀ b,b≤n→¬ S b):Bz W' n t a c:=⟨h.cell.keep q (hS n (Nat.le_refl n)),h.lie.keep q (fun b hb=>hS b (by omega))⟩
theorem Bz.box {W:World} {n:Nat} {t:T} {a:Option Addr} {c:Nat} (h:Bz W n t a c):Bx W n t a c:=⟨h.cell,h.lie.mono (fun _ _=>trivial)⟩
theorem Bz.new {W:World} {t:T} {a:Option Addr} {c:Nat} (hL:Lie W (fun _=>True) a t.subs):Bz (W.alloc (.cells (ncells t a c) 27)) W.heap.size t a c :=
 ⟨At.new W _ _,(lie_under hL).keepF ((Keep.refl (fun _=>False) W).alloc _)⟩
end P09
namespace P11
open P07 P08 P09 P10 Bytes
open Sets (ST)
noncomputable def pb (p:Prop):Bool:=@decide p (Classical.propDecidable p)
theorem pb_iff {p:Prop}:pb p=true↔p:=by
 unfold pb;exact @decide_eq_true_iff p (Classical.propDecidable p)
theorem pb_is {p:Prop} {b:Bool} (h:p↔b=true):pb p=b:=by
 rw [Bool.eq_iff_iff,pb_iff,h]
theorem mat_all (t:T) (w:List UInt8):Mat t w↔(t.kind=1∧w=[])∨(t.kind=2∧∃ b:UInt8,w=[b]∧t.set.has b.toNat=true)∨(t.kind=3∧MCat t.subs w)∨(t.kind=4∧MAlt t.subs w)∨(t.kind=5∧∃ n:Nat,t.mn≤n∧(t.mx<0∨(n:Int)≤t.mx)∧Pow (MHd t.subs) n w):=by
 cases t
 exact mat_nd ..
theorem mat_k1 {t:T} (h:t.kind=1) (w:List UInt8):Mat t w↔w=[]:=by
 rw [mat_all]
 constructor
 ·rintro (h | h | h | h | h)
  ·exact h.2
  all_goals omega
 ·exact fun h'=>.inl ⟨h,h'⟩
theorem mat_k2 {t:T} (h:t.kind=2) (w:List UInt8):Mat t w↔∃ b:UInt8,w=[b]∧t.set.has b.toNat=true:=by
 rw [mat_all]
 constructor
 ·rintro (h | h | h | h | h)
  ·omega
  ·exact h.2
  all_goals omega
 ·exact fun h'=>.inr (.inl ⟨h,h'⟩)
theorem mat_k3 {t:T} (h:t.kind=3) (w:List UInt8):Mat t w↔MCat t.subs w:=by
 rw [mat_all]
 constructor
 ·rintro (h | h | h | h | h)
  ·omega
  ·omega
  ·exact h.2
  all_goals omega
 ·exact fun h'=>.inr (.inr (.inl ⟨h,h'⟩))
theorem mat_k4 {t:T} (h:t.kind=4) (w:List UInt8):Mat t w↔MAlt t.subs w:=by
 rw [mat_all]
 constructor
 ·rintro (h | h | h | h | h)
  ·omega
  ·omega
  ·omega
  ·exact h.2
  ·omega
 ·exact fun h'=>.inr (.inr (.inr (.inl ⟨h,h'⟩)))
theorem mat_k5 {t:T} (h:t.kind=5) (w:List UInt8):Mat t w↔∃ n:Nat,t.mn≤n∧(t.mx<0∨(n:Int)≤t.mx)∧Pow (MHd t.subs) n w:=by
 rw [mat_all]
 constructor
 ·rintro (h | h | h | h | h)
  ·omega
  ·omega
  ·omega
  ·omega
  ·exact h.2
 ·exact fun h'=>.inr (.inr (.inr (.inr ⟨h,h'⟩)))
end P11
end Go.Proofs.YthcjfgfbeollpaaDoor
