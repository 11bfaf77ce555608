/- Layer 10 (simplify), plain. Part 1: put together simply, as the document says (P10.1). -/
import Derived.Test.YtlmfbchgkjgljaaKF26
import Derived.Test.YtlmfbchgkjgljaaKF23
set_option maxRecDepth 100000
set_option maxHeartbeats 32000000
open Go.Lib (hid)
namespace Go.Proofs.Ytlmfbchgkjgljaa
namespace P10
open P07 P08 P09 Bytes
open Sets (ST)
mutual
def sameB:T→T→Bool
 | .nd k s m x l,.nd k' s' m' x' l'=>decide (k=k') && (eqB s s' && (decide (m=m') && (decide (x=x') && sameL l l')))
def sameL:List T→List T→Bool
 | [],[]=>true
 | a::l,b::m=>sameB a b && sameL l m
 | [],_::_=>false
 | _::_,[]=>false
end
mutual
theorem sameB_iff:∀ a b:T,sameB a b=true↔a=b
 | .nd k s m x l,.nd k' s' m' x' l'=>by
  rw [sameB]
  simp only [Bool.and_eq_true,decide_eq_true_eq,eqB_iff,sameL_iff l l',T.nd.injEq]
theorem sameL_iff:∀ a b:List T,sameL a b=true↔a=b
 | [],[]=>by rw [sameL];simp
 | a::l,b::m=>by
  rw [sameL]
  simp only [Bool.and_eq_true,sameB_iff a b,sameL_iff l m,List.cons.injEq]
 | [],_::_=>by rw [sameL];simp
 | _::_,[]=>by rw [sameL];simp
end
def isNo (t:T):Bool:=decide (t.kind=2) && eqB t.set ST.none
def noT:T:=clsT ST.none
def epsT:T:=.nd 1 ST.none 0 0 []
def unf (k:Int) (L:List T):List T:=L.flatMap fun t=>if t.kind=k then t.subs else [t]
def joinT (k:Int) (L:List T) (e:T):T :=
 match L with
 | []=>e
 | [t]=>t
 | a::b::l=>.nd k ST.none 0 0 (a::b::l)
def catT (L:List T):T:=if (unf 3 L).any isNo then noT else joinT 3 ((unf 3 L).filter fun t=>decide (t.kind≠1)) epsT
def altS (A:List T × Option Nat) (t:T):List T × Option Nat :=
 if isNo t=true then A
 else if t.kind=2 then (match A.2 with
  | none=>(A.1++[clsT t.set],some A.1.length)
  | some i=>(A.1.set i (clsT ((A.1.getD i noT).set.or t.set)),some i))
 else if A.1.any (sameB t)=true then A else (A.1++[t],A.2)
def altF (L:List T):List T × Option Nat:=L.foldl altS ([],none)
def altT (L:List T):T:=joinT 4 (altF (unf 4 L)).1 noT
def isSt (t:T):Bool:=decide (t.kind=5∧t.mn=0∧t.mx=-1)
mutual
def starT:T→T
 | .nd k s mn mx l=>if k=1∨isNo (.nd k s mn mx l)=true then epsT else if isSt (.nd k s mn mx l)=true then .nd k s mn mx l
  else if k=5∧(mn=0∨mn=1)∧l.length=1 then starH l else .nd 5 ST.none 0 (-1) [.nd k s mn mx l]
def starH:List T→T
 | []=>epsT
 | t::_=>starT t
end
def repP (t:T) (lo hi:Int):T :=
 if hi=0∨t.kind=1∨(isNo t=true∧lo=0) then epsT
 else if isNo t=true∨(lo=1∧hi=1)∨isSt t=true then t
 else if lo=0∧hi=-1 then starT t
 else .nd 5 ST.none lo hi [t]
mutual
def simT:T→T
 | .nd k s mn mx l=>if k=3 then catT (simL l) else if k=4 then altT (simL l) else if k=5 then simH mn mx l else .nd k s mn mx l
def simL:List T→List T
 | []=>[]
 | t::l=>simT t::simL l
def simH:Int→Int→List T→T
 | _,_,[]=>noT
 | mn,mx,t::_=>repP (simT t) mn mx
end
theorem simL_map:∀ L:List T,simL L=L.map simT
 | []=>by rw [simL];rfl
 | t::l=>by rw [simL,simL_map l];rfl
theorem simT_eq (t:T):simT t=if t.kind=3 then catT (t.subs.map simT) else if t.kind=4 then altT (t.subs.map simT) else if t.kind=5 then simH t.mn t.mx t.subs else t:=by
 cases t with
 | nd k s mn mx l =>
  rw [simT,simL_map]
  rfl
theorem starT_eq (t:T):starT t=if t.kind=1∨isNo t=true then epsT else if isSt t=true then t else if t.kind=5∧(t.mn=0∨t.mn=1)∧t.subs.length=1 then starH t.subs else .nd 5 ST.none 0 (-1) [t]:=by
 cases t
 rw [starT]
 rfl
theorem mat_no {t:T} (h:isNo t=true) (w:List UInt8):¬ Mat t w:=by
 cases t with
 | nd k s mn mx l =>
  unfold isNo T.kind T.set at h
  simp only [Bool.and_eq_true,decide_eq_true_eq,eqB_iff] at h
  obtain ⟨rfl,rfl⟩:=h;rw [mat_2];rintro ⟨b,-,hb⟩;rw [ST.has_none] at hb
  cases hb
theorem mat_noT (w:List UInt8):¬ Mat noT w:=mat_no (by unfold isNo noT clsT T.kind T.set;simp [eqB_refl]) w
theorem mat_epsT (w:List UInt8):Mat epsT w↔w=[]:=mat_1 _ _ _ _ w
theorem mat_kind1 {t:T} (h:t.kind=1) (w:List UInt8):Mat t w↔w=[]:=by
 cases t with
 | nd k s mn mx l =>
  have:k=1:=h;subst this;exact mat_1 _ _ _ _ w
theorem mat_kind3 {t:T} (h:t.kind=3) (w:List UInt8):Mat t w↔MCat t.subs w:=by
 cases t with
 | nd k s mn mx l =>
  have:k=3:=h;subst this;exact mat_3 _ _ _ _ w
theorem mat_kind4 {t:T} (h:t.kind=4) (w:List UInt8):Mat t w↔MAlt t.subs w:=by
 cases t with
 | nd k s mn mx l =>
  have:k=4:=h;subst this;exact mat_4 _ _ _ _ w
theorem mat_kind2 {t:T} (h:t.kind=2) (w:List UInt8):Mat t w↔∃ b:UInt8,w=[b]∧t.set.has b.toNat=true:=by
 cases t with
 | nd k s mn mx l =>
  have:k=2:=h;subst this;exact mat_2 _ _ _ _ w
theorem mcat_append:∀ (L M:List T) (w:List UInt8),MCat (L++M) w↔∃ u v,w=u++v∧MCat L u∧MCat M v
 | [],M,w=>by
  constructor
  ·exact fun h=>⟨[],w,rfl,(mcat_nil []).2 rfl,h⟩
  ·rintro ⟨u,v,rfl,hu,hv⟩
   rw [(mcat_nil u).1 hu];exact hv
 | t::L,M,w=>by
  rw [List.cons_append,mcat_cons]
  constructor
  ·rintro ⟨u,v,rfl,hu,hv⟩
   obtain ⟨a,b,rfl,ha,hb⟩:=(mcat_append L M v).1 hv;exact ⟨u++a,b,by simp,(mcat_cons t L _).2 ⟨u,a,rfl,hu,ha⟩,hb⟩
  ·rintro ⟨u,v,rfl,hu,hv⟩
   obtain ⟨a,b,rfl,ha,hb⟩:=(mcat_cons t L u).1 hu;exact ⟨a,b++v,by simp,ha,(mcat_append L M _).2 ⟨b,v,rfl,hb,hv⟩⟩
theorem mcat_one (t:T) (w:List UInt8):MCat [t] w↔Mat t w:=by
 rw [mcat_cons]
 constructor
 ·rintro ⟨u,v,rfl,hu,hv⟩
  rw [(mcat_nil v).1 hv,List.append_nil];exact hu
 ·exact fun h=>⟨w,[],by simp,h,(mcat_nil []).2 rfl⟩
theorem malt_iff:∀ (L:List T) (w:List UInt8),MAlt L w↔∃ t,t ∈ L∧Mat t w
 | [],w=>by
  constructor
  ·exact fun h=>absurd h (malt_nil w)
  ·rintro ⟨t,h,-⟩
   cases h
 | t::L,w=>by
  rw [malt_cons,malt_iff L w]
  constructor
  ·rintro (h | ⟨s,h1,h2⟩)
   ·exact ⟨t,by simp,h⟩
   ·exact ⟨s,by simp [h1],h2⟩
  ·rintro ⟨s,h1,h2⟩
   rcases List.mem_cons.1 h1 with rfl | h1
   ·exact .inl h2
   ·exact .inr ⟨s,h1,h2⟩
theorem unf_cons (k:Int) (t:T) (L:List T):unf k (t::L)=(if t.kind=k then t.subs else [t])++unf k L:=by
 unfold unf;rw [List.flatMap_cons]
theorem mcat_unf:∀ (L:List T) (w:List UInt8),MCat (unf 3 L) w↔MCat L w
 | [],w=>Iff.rfl
 | t::L,w=>by
  rw [unf_cons,mcat_append,mcat_cons];have e:∀ u,MCat (if t.kind=3 then t.subs else [t]) u↔Mat t u:=fun u=>by
   split
   ·rename_i h
    exact (mat_kind3 h u).symm
   ·exact mcat_one t u
  constructor
  ·rintro ⟨u,v,rfl,hu,hv⟩
   exact ⟨u,v,rfl,(e u).1 hu,(mcat_unf L v).1 hv⟩
  ·rintro ⟨u,v,rfl,hu,hv⟩
   exact ⟨u,v,rfl,(e u).2 hu,(mcat_unf L v).2 hv⟩
theorem malt_unf (L:List T) (w:List UInt8):MAlt (unf 4 L) w↔MAlt L w:=by
 induction L with
 | nil=>exact Iff.rfl
 | cons t L ih =>
  rw [malt_iff,unf_cons,malt_cons,← ih,malt_iff]
  constructor
  ·rintro ⟨s,h1,h2⟩
   rcases List.mem_append.1 h1 with h1 | h1
   ·left
    split at h1
    ·rename_i h
     exact (mat_kind4 h w).2 ((malt_iff _ w).2 ⟨s,h1,h2⟩)
    ·rw [← List.mem_singleton.1 h1]
     exact h2
   ·exact .inr ⟨s,h1,h2⟩
  ·rintro (h | ⟨s,h1,h2⟩)
   ·by_cases hk:t.kind=4
    ·obtain ⟨s,h1,h2⟩:=(malt_iff _ w).1 ((mat_kind4 hk w).1 h)
     exact ⟨s,List.mem_append.2 (.inl (by rw [if_pos hk];exact h1)),h2⟩
    ·exact ⟨t,List.mem_append.2 (.inl (by rw [if_neg hk];simp)),h⟩
   ·exact ⟨s,List.mem_append.2 (.inr h1),h2⟩
theorem mcat_no:∀ {L:List T},L.any isNo=true→∀ w,¬ MCat L w
 | [],h,w=>by cases h
 | t::L,h,w=>by
  rw [List.any_cons,Bool.or_eq_true] at h;rw [mcat_cons];rintro ⟨u,v,rfl,hu,hv⟩
  rcases h with h | h
  ·exact mat_no h u hu
  ·exact mcat_no h v hv
theorem mcat_filter:∀ (L:List T) (w:List UInt8),MCat (L.filter fun t=>decide (t.kind≠1)) w↔MCat L w
 | [],w=>Iff.rfl
 | t::L,w=>by
  by_cases h:t.kind=1
  ·rw [List.filter_cons_of_neg (by simp [h]),mcat_filter L w,mcat_cons]
   constructor
   ·exact fun h1=>⟨[],w,rfl,(mat_kind1 h []).2 rfl,h1⟩
   ·rintro ⟨u,v,rfl,hu,hv⟩
    rw [(mat_kind1 h u).1 hu];exact hv
  ·rw [List.filter_cons_of_pos (by simp [h]),mcat_cons,mcat_cons]
   constructor
   ·rintro ⟨u,v,e,hu,hv⟩
    exact ⟨u,v,e,hu,(mcat_filter L v).1 hv⟩
   ·rintro ⟨u,v,e,hu,hv⟩
    exact ⟨u,v,e,hu,(mcat_filter L v).2 hv⟩
theorem mat_catT (L:List T) (w:List UInt8):Mat (catT L) w↔MCat L w:=by
 unfold catT
 by_cases h:(unf 3 L).any isNo=true
 ·rw [if_pos h]
  constructor
  ·exact fun h1=>absurd h1 (mat_noT w)
  ·exact fun h1=>absurd ((mcat_unf L w).2 h1) (mcat_no h w)
 ·rw [if_neg h,← mcat_unf,← mcat_filter]
  generalize (unf 3 L).filter (fun t=>decide (t.kind≠1))=M
  match M with
  | []=>rw [mcat_nil];exact mat_epsT w
  | [t]=>exact (mcat_one t w).symm
  | a::b::l=>exact mat_3 _ _ _ _ w
theorem mat_clsT (s:ST) (w:List UInt8):Mat (clsT s) w↔∃ b:UInt8,w=[b]∧s.has b.toNat=true:=mat_2 _ _ _ _ w
def AtOk (A:List T × Option Nat):Prop:=∀ i,A.2=some i→∃ s,A.1[i]?=some (clsT s)
theorem getD_cls {L:List T} {i:Nat} {s:ST} (h:L[i]?=some (clsT s)):(L.getD i noT).set=s:=by
 rw [List.getD_eq_getElem?_getD,h]
 rfl
theorem altS_at {A:List T × Option Nat} (h:AtOk A) (t:T):AtOk (altS A t):=by
 obtain ⟨L,c⟩:=A;unfold altS
 dsimp only
 split
 ·exact h
 ·split
  ·cases c with
   | none =>
    intro i hi;injection hi with hi;subst hi;exact ⟨t.set,by simp⟩
   | some j =>
    intro i hi;injection hi with hi;subst hi;obtain ⟨s,hs⟩:=h j rfl;have hj:=(List.getElem?_eq_some_iff.1 hs).1;exact ⟨_,by rw [List.getElem?_set_self hj]⟩
  ·split
   ·exact h
   ·intro i hi
    obtain ⟨s,hs⟩:=h i hi;have hj:=(List.getElem?_eq_some_iff.1 hs).1;exact ⟨s,by rw [List.getElem?_append_left hj];exact hs⟩
theorem mem_set_iff {L:List T} {i:Nat} {a b:T} (h:L[i]?=some a) (w:List UInt8):(∃ t,t ∈ L.set i b∧Mat t w)↔(∃ j t,j≠i∧L[j]?=some t∧Mat t w)∨Mat b w:=by
 have hi:=(List.getElem?_eq_some_iff.1 h).1
 constructor
 ·rintro ⟨t,h1,h2⟩
  obtain ⟨j,hj⟩:=List.mem_iff_getElem?.1 h1
  by_cases e:j=i
  ·subst e
   rw [List.getElem?_set_self hi] at hj;injection hj with hj;subst hj;exact .inr h2
  ·rw [List.getElem?_set_ne (fun h=>e h.symm)] at hj
   exact .inl ⟨j,t,e,hj,h2⟩
 ·rintro (⟨j,t,e,hj,h2⟩ | h2)
  ·exact ⟨t,List.mem_iff_getElem?.2 ⟨j,by rw [List.getElem?_set_ne (fun h=>e h.symm)];exact hj⟩,h2⟩
  ·exact ⟨b,List.mem_iff_getElem?.2 ⟨i,by rw [List.getElem?_set_self hi]⟩,h2⟩
theorem mem_at_iff {L:List T} {i:Nat} {a:T} (h:L[i]?=some a) (w:List UInt8):(∃ t,t ∈ L∧Mat t w)↔(∃ j t,j≠i∧L[j]?=some t∧Mat t w)∨Mat a w:=by
 constructor
 ·rintro ⟨t,h1,h2⟩
  obtain ⟨j,hj⟩:=List.mem_iff_getElem?.1 h1
  by_cases e:j=i
  ·subst e
   rw [h] at hj;injection hj with hj;subst hj;exact .inr h2
  ·exact .inl ⟨j,t,e,hj,h2⟩
 ·rintro (⟨j,t,e,hj,h2⟩ | h2)
  ·exact ⟨t,List.mem_iff_getElem?.2 ⟨j,hj⟩,h2⟩
  ·exact ⟨a,List.mem_iff_getElem?.2 ⟨i,h⟩,h2⟩
theorem any_same {L:List T} {t:T}:L.any (sameB t)=true↔t ∈ L:=by
 rw [List.any_eq_true]
 constructor
 ·rintro ⟨s,h1,h2⟩
  rw [(sameB_iff t s).1 h2];exact h1
 ·exact fun h=>⟨t,h,(sameB_iff t t).2 rfl⟩
theorem malt_altS {A:List T × Option Nat} (h:AtOk A) (t:T) (w:List UInt8):MAlt (altS A t).1 w↔MAlt A.1 w∨Mat t w:=by
 obtain ⟨L,c⟩:=A;unfold altS
 dsimp only
 have hadd:∀ u:T,(∀ w,Mat u w↔Mat t w)→(MAlt (L++[u]) w↔MAlt L w∨Mat t w):=fun u hu=>by
  rw [malt_iff,malt_iff,← hu]
  constructor
  ·rintro ⟨s,h1,h2⟩
   rcases List.mem_append.1 h1 with h1 | h1
   ·exact .inl ⟨s,h1,h2⟩
   ·rw [← List.mem_singleton.1 h1]
    exact .inr h2
  ·rintro (⟨s,h1,h2⟩ | h2)
   ·exact ⟨s,by simp [h1],h2⟩
   ·exact ⟨u,by simp,h2⟩
 split
 ·rename_i hn
  constructor
  ·exact .inl
  ·rintro (h1 | h1)
   ·exact h1
   ·exact absurd h1 (mat_no hn w)
 ·split
  ·rename_i hk
   cases c with
   | none=>exact hadd (clsT t.set) fun w=>by rw [mat_clsT,mat_kind2 hk]
   | some j =>
    obtain ⟨s,hs⟩:=h j rfl
    dsimp only
    rw [getD_cls hs,malt_iff,malt_iff,mem_set_iff hs,mem_at_iff hs,mat_clsT,mat_clsT,mat_kind2 hk,or_assoc];have e:(∃ b:UInt8,w=[b]∧(s.or t.set).has b.toNat=true)↔((∃ b:UInt8,w=[b]∧s.has b.toNat=true)∨∃ b:UInt8,w=[b]∧t.set.has b.toNat=true):=by
     constructor
     ·rintro ⟨b,e,hb⟩
      rw [ST.has_or _ _ _ b.toNat_lt,Bool.or_eq_true] at hb
      rcases hb with hb | hb
      ·exact .inl ⟨b,e,hb⟩
      ·exact .inr ⟨b,e,hb⟩
     ·rintro (⟨b,e,hb⟩ | ⟨b,e,hb⟩)
      ·exact ⟨b,e,by rw [ST.has_or _ _ _ b.toNat_lt,hb,Bool.true_or]⟩
      ·exact ⟨b,e,by rw [ST.has_or _ _ _ b.toNat_lt,hb,Bool.or_true]⟩
    rw [e]
  ·split
   ·rename_i hm
    have:=any_same.1 hm
    constructor
    ·exact .inl
    ·rintro (h1 | h1)
     ·exact h1
     ·exact (malt_iff L w).2 ⟨t,this,h1⟩
   ·exact hadd t fun w=>Iff.rfl
theorem malt_fold:∀ (L:List T) (A:List T × Option Nat),AtOk A→∀ w,MAlt (L.foldl altS A).1 w↔MAlt A.1 w∨MAlt L w
 | [],A,_,w=>by
  constructor
  ·exact .inl
  ·rintro (h | h)
   ·exact h
   ·exact absurd h (malt_nil w)
 | t::L,A,h,w=>by
  rw [List.foldl_cons,malt_fold L _ (altS_at h t) w,malt_altS h t w,malt_cons,or_assoc]
theorem at_start:AtOk ([],none):=fun i hi=>by cases hi
theorem mat_altT (L:List T) (w:List UInt8):Mat (altT L) w↔MAlt L w:=by
 have h:MAlt (altF (unf 4 L)).1 w↔MAlt L w:=by
  unfold altF;rw [malt_fold _ _ at_start w,malt_unf]
  constructor
  ·rintro (h | h)
   ·exact absurd h (malt_nil w)
   ·exact h
  ·exact .inr
 rw [← h];unfold altT;generalize (altF (unf 4 L)).1=M
 match M with
 | [] =>
  constructor
  ·exact fun h=>absurd h (mat_noT w)
  ·exact fun h=>absurd h (malt_nil w)
 | [t] =>
  rw [malt_cons]
  constructor
  ·exact .inl
  ·rintro (h | h)
   ·exact h
   ·exact absurd h (malt_nil w)
 | a::b::l=>exact mat_4 _ _ _ _ w
end P10
namespace P10
open P07 P08 P09 Bytes
open Sets (ST)
structure Alo (L:List T) (c:Option Nat):Prop where
 no:∀ t ∈ L,isNo t=false
 four:∀ t ∈ L,t.kind≠4
 dup:∀ (i j:Nat) (t:T),L[i]?=some t→L[j]?=some t→i=j
 cl:∀ (i:Nat) (t:T),L[i]?=some t→t.kind=2→c=some i
 at_:∀ i:Nat,c=some i→∃ s:ST,s.Ok∧L[i]?=some (clsT s)
def needs (t:T):Prop:=t.kind=5∧(t.mn=0∨t.mn=1)∧t.subs.length=1
mutual
def Smp:T→Prop
 | .nd k _ mn mx l=>SmpL l∧(k=3→∀ t ∈ l,t.kind≠3∧t.kind≠1∧isNo t=false)∧(k=4→∃ c,Alo l c)
  ∧ (k=5→mx≠0∧∀ t ∈ l,t.kind≠1∧isNo t=false∧¬ (mn=1∧mx=1)∧isSt t=false∧(mn=0→mx=-1→¬ needs t))
def SmpL:List T→Prop
 | []=>True
 | t::l=>Smp t∧SmpL l
end
theorem smpL_iff:∀ L:List T,SmpL L↔∀ t ∈ L,Smp t
 | []=>by rw [SmpL];simp
 | t::l=>by rw [SmpL,smpL_iff l];simp
theorem smp_nd (k:Int) (s:ST) (mn mx:Int) (l:List T):Smp (.nd k s mn mx l)↔SmpL l∧(k=3→∀ t ∈ l,t.kind≠3∧t.kind≠1∧isNo t=false)∧(k=4→∃ c,Alo l c)
  ∧ (k=5→mx≠0∧∀ t ∈ l,t.kind≠1∧isNo t=false∧¬ (mn=1∧mx=1)∧isSt t=false∧(mn=0→mx=-1→¬ needs t)):=by rw [Smp]
theorem rl_iff {d:Nat} {k:Int} {L:List T}:RL d k L↔∀ t ∈ L,IS d k t:=by
 constructor
 ·intro h t ht
  induction L with
  | nil=>cases ht
  | cons a L ih =>
   obtain ⟨h1,h2⟩:=RL_cons h
   rcases List.mem_cons.1 ht with rfl | ht
   ·exact h1
   ·exact ih h2 ht
 ·exact RL_all L
theorem is_mono {d e:Nat} {k:Int} {t:T} (h:IS d k t) (hd:d≤e):IS e k t:=by
 unfold IS at *
 split
 ·rename_i h1
  rw [if_pos h1] at h;exact ⟨by omega,RT_mono t _ _ h.2 (by omega)⟩
 ·rename_i h1
  rw [if_neg h1] at h;exact RT_mono t _ _ h hd
theorem noT_rt (d:Nat):RT d noT:=class_RT ST.none_ok d
theorem epsT_rt (d:Nat):RT d epsT:=by
 unfold epsT;rw [RT];exact ⟨.inl ⟨rfl,rfl,rfl,rfl,rfl⟩,ST.none_ok,by rw [RL];trivial⟩
theorem clsT_smp (s:ST):Smp (clsT s):=by
 unfold clsT;rw [smp_nd,SmpL];exact ⟨trivial,fun h=>by omega,fun h=>by omega,fun h=>by omega⟩
theorem noT_smp:Smp noT:=clsT_smp _
theorem epsT_smp:Smp epsT:=by
 unfold epsT;rw [smp_nd,SmpL];exact ⟨trivial,fun h=>by omega,fun h=>by omega,fun h=>by omega⟩
theorem cls_is {d:Nat} {t:T} (h:RT d t) (hk:t.kind=2):t=clsT t.set∧t.set.Ok:=by
 cases t with
 | nd k s mn mx l =>
  obtain ⟨hb,hs,hl⟩:=h.bare;have:k=2:=hk;subst this;unfold Bare at hb;have e:l=[]:=List.eq_nil_of_length_eq_zero (by omega)
  have e2:mn=0∧mx=0:=by omega
  subst e;rw [e2.1,e2.2];exact ⟨rfl,hs⟩
theorem eps_is {d:Nat} {t:T} (h:RT d t) (hk:t.kind=1):t=epsT:=by
 cases t with
 | nd k s mn mx l =>
  obtain ⟨hb,hs,hl⟩:=h.bare;have:k=1:=hk;subst this;unfold Bare at hb
  rcases hb with h | h | h | h
  ·obtain ⟨-,rfl,rfl,rfl,h0⟩:=h
   rw [List.eq_nil_of_length_eq_zero h0]
   rfl
  ·omega
  ·omega
  ·omega
theorem no_is {d:Nat} {t:T} (h:RT d t) (hn:isNo t=true):t=noT:=by
 unfold isNo at hn
 simp only [Bool.and_eq_true,decide_eq_true_eq,eqB_iff] at hn
 rw [(cls_is h hn.1).1,hn.2]
 rfl
theorem kinds {d:Nat} {t:T} (h:RT d t):t.kind=1∨t.kind=2∨t.kind=3∨t.kind=4∨t.kind=5:=by
 cases t with
 | nd k s mn mx l =>
  obtain ⟨hb,-,-⟩:=h.bare
  show k=1∨k=2∨k=3∨k=4∨k=5
  unfold Bare at hb;omega
theorem many_is {d:Nat} {t:T} (h:RT d t) (hk:t.kind=3∨t.kind=4):t=.nd t.kind ST.none 0 0 t.subs∧2≤t.subs.length:=by
 cases t with
 | nd k s mn mx l =>
  obtain ⟨hb,-,-⟩:=h.bare;unfold T.kind T.subs at *
  dsimp only at *
  unfold Bare at hb
  rcases hb with h | h | h | h
  ·omega
  ·omega
  ·obtain ⟨-,rfl,rfl,rfl,h0⟩:=h
   exact ⟨rfl,h0⟩
  ·omega
theorem rep_is {d:Nat} {t:T} (h:RT d t) (hk:t.kind=5):∃ a mn mx,t=.nd 5 ST.none mn mx [a]∧0≤mn∧mn≤20∧(mx=-1∨mn≤mx∧mx≤20)∧IS d 5 a:=by
 cases t with
 | nd k s mn mx l =>
  have:k=5:=hk;subst this;obtain ⟨a,rfl,b0,b1,bx,ha⟩:=one_sub h rfl;obtain ⟨hb,-,-⟩:=h.bare;unfold Bare at hb;have hs:s=ST.none:=by
   rcases hb with h | h | h | h
   ·omega
   ·omega
   ·omega
   ·exact h.2.1
  rw [hs];exact ⟨a,mn,mx,rfl,b0,b1,bx,ha⟩
theorem cntL_unf (k:Int):∀ L:List T,cntL (unf k L)≤cntL L
 | []=>Nat.le_refl _
 | t::L=>by
  have:=cntL_unf k L;rw [unf_cons,cntL_append,cntL]
  split
  ·rw [cnt_eq t]
   omega
  ·rw [cntL,cntL]
   omega
theorem cntL_filter (p:T→Bool):∀ L:List T,cntL (L.filter p)≤cntL L
 | []=>Nat.le_refl _
 | t::L=>by
  have:=cntL_filter p L;rw [cntL]
  by_cases h:p t=true
  ·rw [List.filter_cons_of_pos h,cntL]
   omega
  ·rw [List.filter_cons_of_neg h]
   omega
theorem cntL_set:∀ (L:List T) (i:Nat) (a b:T),L[i]?=some a→cnt b≤cnt a→cntL (L.set i b)≤cntL L
 | [],i,a,b,h,_=>by simp at h
 | t::L,0,a,b,h,hb=>by
  simp at h
  subst h;rw [List.set_cons_zero,cntL,cntL];omega
 | t::L,i+1,a,b,h,hb=>by
  have:=cntL_set L i a b (by simpa using h) hb
  rw [List.set_cons_succ,cntL,cntL];omega
theorem cnt_clsT (s:ST):cnt (clsT s)=1:=by
 unfold clsT;rw [cnt,cntL]
theorem cnt_join (k:Int) (L:List T) (e:T) (he:cnt e=1):cnt (joinT k L e)≤1+cntL L:=by
 match L with
 | []=>show cnt e≤_;omega
 | [t]=>show cnt t≤_;rw [cntL];omega
 | a::b::l=>show cnt (.nd k ST.none 0 0 (a::b::l))≤_;rw [cnt];omega
theorem cnt_catT (L:List T):cnt (catT L)≤1+cntL L:=by
 unfold catT
 split
 ·rw [show cnt noT=1 from cnt_clsT _]
  omega
 ·have h1:=cnt_join 3 ((unf 3 L).filter fun t=>decide (t.kind≠1)) epsT (by unfold epsT;rw [cnt,cntL])
  have h2:=cntL_filter (fun t=>decide (t.kind≠1)) (unf 3 L)
  have h3:=cntL_unf 3 L;omega
theorem cntL_altS {A:List T × Option Nat} (h:AtOk A) (t:T):cntL (altS A t).1≤cntL A.1+cnt t:=by
 obtain ⟨L,c⟩:=A;have hp:=cnt_pos t;unfold altS
 dsimp only
 split
 ·show cntL L≤_
  omega
 ·split
  ·cases c with
   | none =>
    show cntL (L++[clsT t.set])≤_
    rw [cntL_append,cntL,cntL,cnt_clsT];omega
   | some i =>
    obtain ⟨s,hs⟩:=h i rfl;have:=cntL_set L i _ (clsT ((L.getD i noT).set.or t.set)) hs (by rw [cnt_clsT,cnt_clsT];omega)
    show cntL (L.set i _)≤_
    omega
  ·split
   ·show cntL L≤_
    omega
   ·show cntL (L++[t])≤_
    rw [cntL_append,cntL,cntL];omega
theorem cntL_fold:∀ (L:List T) (A:List T × Option Nat),AtOk A→cntL (L.foldl altS A).1≤cntL A.1+cntL L
 | [],A,_=>by rw [cntL];exact Nat.le_refl _
 | t::L,A,h=>by
  have h1:=cntL_fold L _ (altS_at h t);have h2:=cntL_altS h t;rw [List.foldl_cons,cntL];omega
theorem cnt_altT (L:List T):cnt (altT L)≤1+cntL L:=by
 unfold altT altF;have h1:=cnt_join 4 ((unf 4 L).foldl altS ([],none)).1 noT (cnt_clsT _);have h2:=cntL_fold (unf 4 L) _ at_start;have h3:=cntL_unf 4 L;rw [show cntL (([],none):List T × Option Nat).1=0 from by rw [cntL]] at h2
 omega
theorem or_some {s t:ST} (hs:s.Ok) (h:s≠ST.none):s.or t≠ST.none:=by
 intro e;obtain ⟨b,hb⟩:=(set_any hs).1 (eqB_ne h);have:(s.or t).has b.toNat=true:=by rw [ST.has_or _ _ _ b.toNat_lt,hb,Bool.true_or]
 rw [e,ST.has_none] at this
 cases this
theorem isNo_cls (s:ST):isNo (clsT s)=eqB s ST.none:=by
 unfold isNo clsT T.kind T.set;rw [decide_eq_true rfl,Bool.true_and]
theorem alo_step {L:List T} {c:Option Nat} (h:Alo L c) {d:Nat} {t:T} (ht:RT d t) (h4:t.kind≠4):Alo (altS (L,c) t).1 (altS (L,c) t).2:=by
 have hadd:∀ (u:T) (c':Option Nat),isNo u=false→u.kind≠4→u ∉ L→(u.kind=2→c'=some L.length∧c=none∧∃ s:ST,s.Ok∧u=clsT s)→(u.kind≠2→c'=c)→Alo (L++[u]) c':=fun u c' hu h4 hm h2 hn=>by
  refine ⟨fun t ht=>?_,fun t ht=>?_,fun i j t hi hj=>?_,fun i t hi hk=>?_,fun i hi=>?_⟩
  ·rcases List.mem_append.1 ht with ht | ht
   ·exact h.no t ht
   ·rw [List.mem_singleton.1 ht];exact hu
  ·rcases List.mem_append.1 ht with ht | ht
   ·exact h.four t ht
   ·rw [List.mem_singleton.1 ht];exact h4
  ·rcases Nat.lt_or_ge i L.length with hi1 | hi1
   ·rw [List.getElem?_append_left hi1] at hi
    rcases Nat.lt_or_ge j L.length with hj1 | hj1
    ·rw [List.getElem?_append_left hj1] at hj
     exact h.dup i j t hi hj
    ·rw [List.getElem?_append_right hj1] at hj
     have:=List.mem_singleton.1 (List.mem_of_getElem? hj);rw [this] at hi;exact absurd (List.mem_of_getElem? hi) hm
   ·rw [List.getElem?_append_right hi1] at hi
    have h5:=(List.getElem?_eq_some_iff.1 hi).1;have:=List.mem_singleton.1 (List.mem_of_getElem? hi)
    rcases Nat.lt_or_ge j L.length with hj1 | hj1
    ·rw [List.getElem?_append_left hj1,this] at hj
     exact absurd (List.mem_of_getElem? hj) hm
    ·rw [List.getElem?_append_right hj1] at hj
     have h6:=(List.getElem?_eq_some_iff.1 hj).1
     simp at h5 h6
     omega
  ·rcases Nat.lt_or_ge i L.length with hi1 | hi1
   ·rw [List.getElem?_append_left hi1] at hi
    have:=h.cl i t hi hk
    by_cases hu2:u.kind=2
    ·rw [(h2 hu2).2.1] at this
     cases this
    ·rw [hn hu2]
     exact this
   ·rw [List.getElem?_append_right hi1] at hi
    have h5:=(List.getElem?_eq_some_iff.1 hi).1;have e:=List.mem_singleton.1 (List.mem_of_getElem? hi);rw [e] at hk;rw [(h2 hk).1]
    simp at h5
    congr 1
    omega
  ·by_cases hu2:u.kind=2
   ·obtain ⟨e,-,s,hs,rfl⟩:=h2 hu2
    rw [e] at hi;injection hi with hi;subst hi;exact ⟨s,hs,by simp⟩
   ·rw [hn hu2] at hi
    obtain ⟨s,hs,he⟩:=h.at_ i hi;exact ⟨s,hs,by rw [List.getElem?_append_left (List.getElem?_eq_some_iff.1 he).1];exact he⟩
 unfold altS
 dsimp only
 split
 ·exact h
 ·rename_i hno
  have hno:isNo t=false:=by simpa using hno
  split
  ·rename_i hk
   obtain ⟨he,hs⟩:=cls_is ht hk;rw [he,isNo_cls] at hno
   cases c with
   | none =>
    dsimp only
    refine hadd _ _ (by rw [isNo_cls];exact hno) (by show (2:Int)≠4;decide) (fun hm=>?_) (fun _=>⟨rfl,rfl,t.set,hs,rfl⟩) (fun h=>absurd rfl h)
    obtain ⟨i,hi⟩:=List.mem_iff_getElem?.1 hm
    cases h.cl i _ hi rfl
   | some i =>
    dsimp only
    obtain ⟨s,hsk,hi⟩:=h.at_ i rfl;have hil:=(List.getElem?_eq_some_iff.1 hi).1;have hsn:s≠ST.none:=fun e=>by
     have:=h.no _ (List.mem_of_getElem? hi);rw [isNo_cls,e,eqB_refl] at this
     cases this
    rw [getD_cls hi];have hor:=or_some (t:=t.set) hsk hsn;have hget:∀ j u,(L.set i (clsT (s.or t.set)))[j]?=some u→(j=i∧u=clsT (s.or t.set))∨(j≠i∧L[j]?=some u):=fun j u hj=>by
     by_cases e:j=i
     ·subst e
      rw [List.getElem?_set_self hil] at hj;injection hj with hj;exact .inl ⟨rfl,hj.symm⟩
     ·rw [List.getElem?_set_ne (fun h=>e h.symm)] at hj
      exact .inr ⟨e,hj⟩
    refine ⟨fun u hu=>?_,fun u hu=>?_,fun j k u hj hk=>?_,fun j u hj hk=>?_,fun j hj=>?_⟩
    ·obtain ⟨j,hj⟩:=List.mem_iff_getElem?.1 hu
     rcases hget j u hj with ⟨-,rfl⟩ | ⟨-,hj⟩
     ·rw [isNo_cls]
      exact eqB_ne hor
     ·exact h.no u (List.mem_of_getElem? hj)
    ·obtain ⟨j,hj⟩:=List.mem_iff_getElem?.1 hu
     rcases hget j u hj with ⟨-,rfl⟩ | ⟨-,hj⟩
     ·show (2:Int)≠4
      decide
     ·exact h.four u (List.mem_of_getElem? hj)
    ·rcases hget j u hj with ⟨e1,e2⟩ | ⟨e1,hj⟩
     ·rcases hget k u hk with ⟨e3,e4⟩ | ⟨e3,hk⟩
      ·omega
      ·have:=h.cl k u hk (by rw [e2];rfl)
       injection this with this;omega
     ·rcases hget k u hk with ⟨e3,e4⟩ | ⟨e3,hk⟩
      ·have:=h.cl j u hj (by rw [e4];rfl)
       injection this with this;omega
      ·exact h.dup j k u hj hk
    ·rcases hget j u hj with ⟨e1,e2⟩ | ⟨e1,hj⟩
     ·rw [e1]
     ·exact h.cl j u hj hk
    ·injection hj with hj
     subst hj;exact ⟨s.or t.set,ST.or_ok hsk hs,by rw [List.getElem?_set_self hil]⟩
  ·rename_i hk
   split
   ·exact h
   ·rename_i hm
    exact hadd t c hno h4 (fun h=>hm (any_same.2 h)) (fun h=>absurd h hk) (fun _=>rfl)
theorem alo_fold {d:Nat}:∀ (L:List T) (A:List T × Option Nat),Alo A.1 A.2→(∀ t ∈ L,RT d t∧t.kind≠4)→Alo (L.foldl altS A).1 (L.foldl altS A).2
 | [],A,h,_=>h
 | t::L,A,h,ht=>by
  rw [List.foldl_cons];exact alo_fold L _ (alo_step h (ht t (by simp)).1 (ht t (by simp)).2) fun u hu=>ht u (by simp [hu])
theorem alo_start:Alo [] none:=⟨by simp,by simp,by simp,by simp,fun i hi=>by cases hi⟩
theorem alt_all {P:T→Prop} (hc:∀ s:ST,s.Ok→P (clsT s)) {d:Nat}:∀ (L:List T) (A:List T × Option Nat),Alo A.1 A.2→(∀ t ∈ A.1,P t)→(∀ t ∈ L,RT d t∧t.kind≠4∧P t)→∀ t ∈ (L.foldl altS A).1,P t
 | [],A,_,h,_=>h
 | t::L,A,hA,h,ht=>by
  rw [List.foldl_cons];have h0:=ht t (by simp)
  have hA':=alo_step hA h0.1 h0.2.1;refine alt_all hc L _ hA' ?_ fun u hu=>ht u (by simp [hu])
  obtain ⟨M,c⟩:=A;intro u hu
  by_cases hu2:u.kind=2
  ·obtain ⟨i,hi⟩:=List.mem_iff_getElem?.1 hu
   obtain ⟨s,hs,he⟩:=hA'.at_ i (hA'.cl i u hi hu2);rw [hi] at he;injection he with he;rw [he];exact hc s hs
  ·unfold altS at hu
   dsimp only at hu
   split at hu
   ·exact h u hu
   ·split at hu
    ·cases c with
     | none =>
      rcases List.mem_append.1 hu with hu | hu
      ·exact h u hu
      ·rw [List.mem_singleton.1 hu] at hu2
       exact absurd rfl hu2
     | some i =>
      dsimp only at hu
      rcases List.mem_or_eq_of_mem_set hu with hu | hu
      ·exact h u hu
      ·rw [hu] at hu2
       exact absurd rfl hu2
    ·split at hu
     ·exact h u hu
     ·rcases List.mem_append.1 hu with hu | hu
      ·exact h u hu
      ·rw [List.mem_singleton.1 hu]
       exact h0.2.2
theorem alt_fix {d:Nat} {L:List T} {c:Option Nat} (h:Alo L c) (hR:∀ t ∈ L,RT d t):∀ k,k≤L.length→(L.take k).foldl altS ([],none)=(L.take k,if ∃ i,c=some i∧i<k then c else none)
 | 0,_=>by
  rw [List.take_zero];rw [if_neg (by rintro ⟨i,-,hi⟩;omega)]
  rfl
 | k+1,hk=>by
  have hkl:k<L.length:=by omega
  obtain ⟨t,ht⟩:∃ t,L[k]?=some t:=⟨L[k],List.getElem?_eq_getElem hkl⟩;have hm:=List.mem_of_getElem? ht;rw [List.take_add_one,ht,Option.toList_some,List.foldl_append,alt_fix h hR k (by omega),List.foldl_cons,List.foldl_nil]
  have hno:=h.no t hm;unfold altS
  dsimp only
  rw [if_neg (by rw [hno];decide)]
  by_cases h2:t.kind=2
  ·have hc:=h.cl k t ht h2
   rw [if_pos h2,if_neg (by rintro ⟨i,h1,h3⟩;rw [hc] at h1;injection h1 with h1;omega)]
   dsimp only
   rw [if_pos ⟨k,hc,by omega⟩,hc,List.length_take,Nat.min_eq_left (by omega),← (cls_is (hR t hm) h2).1]
  ·rw [if_neg h2]
   have hnm:t ∉ L.take k:=fun hmem=>by
    obtain ⟨i,hi⟩:=List.mem_iff_getElem?.1 hmem;have hik:i<k:=by
     have:=(List.getElem?_eq_some_iff.1 hi).1;rw [List.length_take] at this;omega
    rw [List.getElem?_take_of_lt hik] at hi;have:=h.dup i k t hi ht;omega
   rw [if_neg (fun hh=>hnm (any_same.1 hh))]
   congr 1
   have:(∃ i,c=some i∧i<k)↔∃ i,c=some i∧i<k+1:=by
    constructor
    ·rintro ⟨i,h1,h3⟩
     exact ⟨i,h1,by omega⟩
    ·rintro ⟨i,h1,h3⟩
     refine ⟨i,h1,?_⟩
     rcases Nat.lt_or_ge i k with h4 | h4
     ·exact h4
     ·exfalso
      obtain ⟨s,-,hs⟩:=h.at_ i h1;rw [show i=k by omega,ht] at hs
      injection hs with hs;rw [hs] at h2;exact h2 rfl
   simp only [this]
theorem altF_fix {d:Nat} {L:List T} {c:Option Nat} (h:Alo L c) (hR:∀ t ∈ L,RT d t):altF L=(L,c):=by
 have:=alt_fix h hR L.length (Nat.le_refl _);rw [List.take_length] at this;unfold altF;rw [this]
 congr 1
 cases c with
 | none=>rw [if_neg (by rintro ⟨i,h1,-⟩;cases h1)]
 | some i =>
  obtain ⟨s,-,hs⟩:=h.at_ i rfl;rw [if_pos ⟨i,rfl,(List.getElem?_eq_some_iff.1 hs).1⟩]
theorem joinT_ge {k:Int} {L:List T} {e:T} (h:2≤L.length):joinT k L e=.nd k ST.none 0 0 L:=by
 match L,h with
 | a::b::l,_=>rfl
theorem join_cases (k:Int) (L:List T) (e:T):(L=[]∧joinT k L e=e)∨(∃ t,L=[t]∧joinT k L e=t)∨(2≤L.length∧joinT k L e=.nd k ST.none 0 0 L):=by
 match L with
 | []=>exact .inl ⟨rfl,rfl⟩
 | [t]=>exact .inr (.inl ⟨t,rfl,rfl⟩)
 | a::b::l=>exact .inr (.inr ⟨by simp,rfl⟩)
theorem unf_none {k:Int}:∀ {L:List T},(∀ t ∈ L,t.kind≠k)→unf k L=L
 | [],_=>rfl
 | t::L,h=>by
  rw [unf_cons,if_neg (h t (by simp)),unf_none fun u hu=>h u (by simp [hu])]
  rfl
theorem mem_unf {k:Int} {L:List T} {t:T} (h:t ∈ unf k L):(t ∈ L∧t.kind≠k)∨∃ u ∈ L,u.kind=k∧t ∈ u.subs:=by
 unfold unf at h;obtain ⟨u,hu,ht⟩:=List.mem_flatMap.1 h
 split at ht
 ·rename_i hk
  exact .inr ⟨u,hu,hk,ht⟩
 ·rename_i hk
  rw [List.mem_singleton.1 ht];exact .inl ⟨hu,hk⟩
end P10
namespace P10
open P07 P08 P09 Bytes
open Sets (ST)
structure SimOk (d:Nat) (t m:T):Prop where
 rt:RT d m
 smp:Smp m
 cnt:cnt m≤cnt t
 mat:∀ w,Mat m w↔Mat t w
theorem is_no {t:T} (h:isNo t=true):t.kind=2:=by
 unfold isNo at h
 simp only [Bool.and_eq_true,decide_eq_true_eq] at h
 exact h.1
theorem is_st {t:T}:isSt t=true↔t.kind=5∧t.mn=0∧t.mx=-1:=by
 unfold isSt;rw [decide_eq_true_eq]
theorem rep_rt {d:Nat} {a:T} (h:IS d 5 a) {mn mx:Int} (b0:0≤mn) (b1:mn≤20) (bx:mx=-1∨mn≤mx∧mx≤20):RT d (.nd 5 ST.none mn mx [a]):=by
 rw [RT];exact ⟨.inr (.inr (.inr ⟨rfl,rfl,rfl,b0,b1,bx⟩)),ST.none_ok,rl_iff.2 fun t ht=>by rw [List.mem_singleton.1 ht];exact h⟩
theorem mat_rep (a:T) (mn mx:Int) (w:List UInt8):Mat (.nd 5 ST.none mn mx [a]) w↔∃ n:Nat,mn≤n∧(mx<0∨(n:Int)≤mx)∧Pow (Mat a) n w:=by
 rw [mat_5];have e:∀ n w,Pow (MHd [a]) n w↔Pow (Mat a) n w:=fun n w=>Pow.congr (fun w=>mhd_cons a [] w) n w
 simp only [e]
theorem pow_no {P:List UInt8→Prop} (h:∀ w,¬ P w):∀ n w,Pow P n w→n=0
 | 0,_,_=>rfl
 | _+1,_,⟨u,_,_,h1,_⟩=>absurd h1 (h u)
theorem pow_eps {P:List UInt8→Prop} (h:∀ w,P w↔w=[]):∀ n w,Pow P n w→w=[]
 | 0,_,h0=>h0
 | n+1,w,⟨u,v,e,h1,h2⟩=>by
  rw [e,(h u).1 h1,pow_eps h n v h2]
  rfl
structure StarOk (d:Nat) (a r:T):Prop where
 what:r=epsT∨(∃ b,r=b∧IS d 5 b∧b.kind=5)∨∃ b,r=.nd 5 ST.none 0 (-1) [b]∧IS d 5 b
 rt:RT d r
 smp:Smp r
 cnt:cnt r≤1+cnt a
 mat:∀ w,Mat r w↔∃ n:Nat,Pow (Mat a) n w
theorem is_down {d:Nat} {a:T} {s:ST} {mn mx:Int} (h:IS d 5 (.nd 5 s mn mx [a])):IS d 5 a:=by
 unfold IS at h;rw [if_pos (show rnd 5 (T.nd 5 s mn mx [a]).kind=true from rfl)] at h
 obtain ⟨-,-,hl⟩:=h.2.bare;exact is_mono (rl_iff.1 hl a (by simp)) (by omega)
theorem star_ok:∀ (a:T) (d:Nat),IS d 5 a→Smp a→StarOk d a (starT a):=by
 intro a
 induction h:SizeOf.sizeOf a using Nat.strongRecOn generalizing a with
 | _ n ih =>
  subst h;intro d hI hS;have hr:=IS.rt (k:=5) hI;rw [starT_eq]
  by_cases h1:a.kind=1∨isNo a=true
  ·rw [if_pos h1]
   refine ⟨.inl rfl,epsT_rt d,epsT_smp,by rw [show cnt epsT=1 from by unfold epsT;rw [cnt,cntL]];omega,fun w=>?_⟩
   rw [mat_epsT]
   constructor
   ·exact fun h=>⟨0,h⟩
   ·rintro ⟨n,hn⟩
    rcases h1 with h1 | h1
    ·exact pow_eps (mat_kind1 h1) n w hn
    ·have:=pow_no (mat_no h1) n w hn
     subst this;exact hn
  rw [if_neg h1]
  by_cases h2:isSt a=true
  ·rw [if_pos h2]
   have hk:=is_st.1 h2;refine ⟨.inr (.inl ⟨a,rfl,hI,hk.1⟩),hr,hS,by omega,fun w=>?_⟩
   obtain ⟨b,mn,mx,rfl,b0,b1,bx,hb⟩:=rep_is hr hk.1;have e1:mn=0:=hk.2.1;have e2:mx=-1:=hk.2.2;subst e1 e2
   constructor
   ·exact fun h=>⟨1,(Pow.one w).2 h⟩
   ·rintro ⟨n,hn⟩
    rw [mat_rep]
    obtain ⟨m,hm⟩:=Pow.flat (Q:=Mat b) (fun w h=>by
     obtain ⟨n,-,-,hn⟩:=(mat_rep b _ _ w).1 h
     exact ⟨n,hn⟩) n w hn
    exact ⟨m,by omega,.inl (by omega),hm⟩
  rw [if_neg h2]
  by_cases h3:a.kind=5∧(a.mn=0∨a.mn=1)∧a.subs.length=1
  ·rw [if_pos h3]
   obtain ⟨b,mn,mx,rfl,b0,b1,bx,hb⟩:=rep_is hr h3.1;have e1:mn=0∨mn=1:=h3.2.1;have hsb:=(smp_nd _ _ _ _ _).1 hS;have hmx:=(hsb.2.2.2 rfl).1
   show StarOk d _ (starH [b])
   rw [starH];have hk:=ih (SizeOf.sizeOf b) (by simp;omega) b rfl d (is_down hI) ((smpL_iff _).1 hsb.1 b (by simp))
   refine ⟨hk.what,hk.rt,hk.smp,by have:=hk.cnt;rw [cnt,cntL,cntL];omega,fun w=>?_⟩
   rw [hk.mat]
   constructor
   ·rintro ⟨n,hn⟩
    exact ⟨n,Pow.mono (fun w h=>(mat_rep b mn mx w).2 ⟨1,by omega,by omega,(Pow.one w).2 h⟩) n w hn⟩
   ·rintro ⟨n,hn⟩
    exact Pow.flat (Q:=Mat b) (fun w h=>by
     obtain ⟨n,-,-,hn⟩:=(mat_rep b _ _ w).1 h
     exact ⟨n,hn⟩) n w hn
  ·rw [if_neg h3]
   refine ⟨.inr (.inr ⟨a,rfl,hI⟩),rep_rt hI (by decide) (by decide) (.inl rfl),?_,by rw [cnt,cntL,cntL];omega,fun w=>?_⟩
   ·rw [smp_nd,smpL_iff]
    refine ⟨fun t ht=>by rw [List.mem_singleton.1 ht];exact hS,fun h=>by omega,fun h=>by omega,fun _=>⟨by decide,fun t ht=>?_⟩⟩
    rw [List.mem_singleton.1 ht];refine ⟨fun h=>h1 (.inl h),?_,by decide,?_,fun _ _ hn=>h3 hn⟩
    ·cases e:isNo a with
     | false=>rfl
     | true=>exact absurd (.inr e) h1
    ·cases e:isSt a with
     | false=>rfl
     | true=>exact absurd e h2
   ·rw [mat_rep]
    constructor
    ·rintro ⟨n,-,-,hn⟩
     exact ⟨n,hn⟩
    ·rintro ⟨n,hn⟩
     exact ⟨n,by omega,.inl (by decide),hn⟩
structure RepOk (d:Nat) (a r:T) (mn mx:Int):Prop where
 what:r=epsT∨r=a∨(r.kind=5∧RT d r)
 rt:RT d r
 smp:Smp r
 cnt:cnt r≤1+cnt a
 mat:∀ w,Mat r w↔∃ n:Nat,mn≤n∧(mx<0∨(n:Int)≤mx)∧Pow (Mat a) n w
theorem repP_ok {d:Nat} {a:T} (hI:IS d 5 a) (hS:Smp a) {mn mx:Int} (b0:0≤mn) (b1:mn≤20) (bx:mx=-1∨mn≤mx∧mx≤20):RepOk d a (repP a mn mx) mn mx:=by
 have hr:=IS.rt (k:=5) hI;unfold repP
 by_cases h1:mx=0∨a.kind=1∨(isNo a=true∧mn=0)
 ·rw [if_pos h1]
  refine ⟨.inl rfl,epsT_rt d,epsT_smp,by rw [show P07.cnt epsT=1 from by unfold epsT;rw [P07.cnt,cntL]];omega,fun w=>?_⟩
  rw [mat_epsT];obtain ⟨q,hq⟩:∃ q:Nat,mn=q:=⟨mn.toNat,by omega⟩
  constructor
  ·rintro rfl
   rcases h1 with h1 | h1 | h1
   ·exact ⟨0,by omega,by omega,rfl⟩
   ·exact ⟨q,by omega,by omega,Pow.nil ((mat_kind1 h1 []).2 rfl) q⟩
   ·exact ⟨0,by omega,by omega,rfl⟩
  ·rintro ⟨n,hn1,hn2,hn⟩
   rcases h1 with h1 | h1 | h1
   ·have:n=0:=by omega
    subst this;exact hn
   ·exact pow_eps (mat_kind1 h1) n w hn
   ·have:=pow_no (mat_no h1.1) n w hn
    subst this;exact hn
 rw [if_neg h1]
 by_cases h2:isNo a=true∨(mn=1∧mx=1)∨isSt a=true
 ·rw [if_pos h2]
  refine ⟨.inr (.inl rfl),hr,hS,by omega,fun w=>?_⟩
  rcases h2 with h2 | h2 | h2
  ·constructor
   ·exact fun h=>absurd h (mat_no h2 w)
   ·rintro ⟨n,hn1,-,hn⟩
    have:=pow_no (mat_no h2) n w hn;exact absurd (.inr (.inr ⟨h2,by omega⟩)) h1
  ·constructor
   ·exact fun h=>⟨1,by omega,by omega,(Pow.one w).2 h⟩
   ·rintro ⟨n,hn1,hn2,hn⟩
    have:n=1:=by omega
    subst this;exact (Pow.one w).1 hn
  ·have hk:=is_st.1 h2
   obtain ⟨b,m,x,rfl,-,-,-,hb⟩:=rep_is hr hk.1;have e1:m=0:=hk.2.1;have e2:x=-1:=hk.2.2;subst e1 e2;have hnil:Mat (.nd 5 ST.none 0 (-1) [b]) []:=(mat_rep b _ _ []).2 ⟨0,by omega,.inl (by decide),rfl⟩
   constructor
   ·intro h
    obtain ⟨q,hq⟩:∃ q:Nat,mn=q:=⟨mn.toNat,by omega⟩
    rcases Nat.eq_zero_or_pos q with h0 | h0
    ·exact ⟨1,by omega,by omega,(Pow.one w).2 h⟩
    ·exact ⟨q,by omega,by omega,Pow.more hnil h0 ((Pow.one w).2 h)⟩
   ·rintro ⟨n,-,-,hn⟩
    obtain ⟨m,hm⟩:=Pow.flat (Q:=Mat b) (fun w h=>by
     obtain ⟨n,-,-,hn⟩:=(mat_rep b _ _ w).1 h
     exact ⟨n,hn⟩) n w hn
    exact (mat_rep b _ _ w).2 ⟨m,by omega,.inl (by decide),hm⟩
 rw [if_neg h2]
 by_cases h3:mn=0∧mx=-1
 ·rw [if_pos h3]
  have hk:=star_ok a d hI hS;refine ⟨?_,hk.rt,hk.smp,hk.cnt,fun w=>?_⟩
  ·rcases hk.what with h | ⟨b,h,h4,h5⟩ | ⟨b,h,h4⟩
   ·exact .inl h
   ·exact .inr (.inr ⟨by rw [h];exact h5,hk.rt⟩)
   ·exact .inr (.inr ⟨by rw [h];rfl,hk.rt⟩)
  ·rw [hk.mat,h3.1,h3.2]
   constructor
   ·rintro ⟨n,hn⟩
    exact ⟨n,by omega,.inl (by decide),hn⟩
   ·rintro ⟨n,-,-,hn⟩
    exact ⟨n,hn⟩
 ·rw [if_neg h3]
  refine ⟨.inr (.inr ⟨rfl,rep_rt hI b0 b1 bx⟩),rep_rt hI b0 b1 bx,?_,by rw [P07.cnt,cntL,cntL];omega,fun w=>mat_rep a mn mx w⟩
  rw [smp_nd,smpL_iff];refine ⟨fun t ht=>by rw [List.mem_singleton.1 ht];exact hS,fun h=>by omega,fun h=>by omega,fun _=>⟨fun h=>h1 (.inl h),fun t ht=>?_⟩⟩
  rw [List.mem_singleton.1 ht];refine ⟨fun h=>h1 (.inr (.inl h)),?_,fun h=>h2 (.inr (.inl h)),?_,fun h5 h6=>absurd ⟨h5,h6⟩ h3⟩
  ·cases e:isNo a with
   | false=>rfl
   | true=>exact absurd (.inl e) h2
  ·cases e:isSt a with
   | false=>rfl
   | true=>exact absurd (.inr (.inr e)) h2
theorem smp_subs {t:T} (h:Smp t):∀ u ∈ t.subs,Smp u:=by
 cases t with
 | nd k s mn mx l=>exact (smpL_iff l).1 ((smp_nd _ _ _ _ _).1 h).1
theorem smp_3 {t:T} (h:Smp t) (hk:t.kind=3):∀ u ∈ t.subs,u.kind≠3∧u.kind≠1∧isNo u=false:=by
 cases t with
 | nd k s mn mx l=>exact ((smp_nd _ _ _ _ _).1 h).2.1 hk
theorem smp_4 {t:T} (h:Smp t) (hk:t.kind=4):∃ c,Alo t.subs c:=by
 cases t with
 | nd k s mn mx l=>exact ((smp_nd _ _ _ _ _).1 h).2.2.1 hk
theorem many_rt {d:Nat} {k:Int} (hk:k=3∨k=4) {L:List T} (h2:2≤L.length) (h:∀ t ∈ L,IS d k t):RT d (.nd k ST.none 0 0 L):=by
 rw [RT];exact ⟨.inr (.inr (.inl ⟨hk,rfl,rfl,rfl,h2⟩)),ST.none_ok,rl_iff.2 h⟩
def In3 (d:Nat) (t:T):Prop:=RT d t∧(t.kind=3∨t.kind=1∨IS d 3 t)
theorem cat_ok {d:Nat} {L:List T} (h:∀ t ∈ L,In3 d t∧Smp t):RT d (catT L)∧Smp (catT L):=by
 unfold catT
 split
 ·exact ⟨noT_rt d,noT_smp⟩
 ·rename_i hn
  have hU:∀ t ∈ (unf 3 L).filter (fun t=>decide (t.kind≠1)),IS d 3 t∧Smp t∧t.kind≠3∧t.kind≠1∧isNo t=false:=fun t ht=>by
   obtain ⟨ht,h1⟩:=List.mem_filter.1 ht;have h1:t.kind≠1:=by simpa using h1
   have hno:isNo t=false:=by
    cases e:isNo t with
    | false=>rfl
    | true=>exact absurd (List.any_eq_true.2 ⟨t,ht,e⟩) hn
   rcases mem_unf ht with ⟨hm,hk⟩ | ⟨u,hu,hk,hm⟩
   ·have:=h t hm
    refine ⟨?_,this.2,hk,h1,hno⟩
    rcases this.1.2 with h3 | h3 | h3
    ·exact absurd h3 hk
    ·exact absurd h3 h1
    ·exact h3
   ·have:=h u hu
    have h3:=smp_3 this.2 hk t hm;refine ⟨?_,smp_subs this.2 t hm,h3.1,h1,hno⟩;have:=this.1.1.subs;rw [hk] at this;exact rl_iff.1 this t hm
  generalize (unf 3 L).filter (fun t=>decide (t.kind≠1))=M at hU
  rcases join_cases 3 M epsT with ⟨rfl,e⟩ | ⟨t,rfl,e⟩ | ⟨h2,e⟩
  ·rw [e]
   exact ⟨epsT_rt d,epsT_smp⟩
  ·rw [e]
   have:=hU t (by simp)
   exact ⟨IS.rt this.1,this.2.1⟩
  ·rw [e]
   refine ⟨many_rt (.inl rfl) h2 fun t ht=>(hU t ht).1,(smp_nd _ _ _ _ _).2 ⟨(smpL_iff M).2 fun t ht=>(hU t ht).2.1,fun _ t ht=>(hU t ht).2.2,fun h=>by omega,fun h=>by omega⟩⟩
theorem is_4 {d:Nat} {t:T} (h:RT d t) (hk:t.kind≠4):IS d 4 t:=by
 unfold IS;rw [if_neg]
 ·exact h
 ·unfold rnd
  simp [hk]
theorem alt_ok {d:Nat} {L:List T} (h:∀ t ∈ L,RT d t∧Smp t):RT d (altT L)∧Smp (altT L):=by
 have hU:∀ t ∈ unf 4 L,RT d t∧t.kind≠4∧IS d 4 t∧Smp t:=fun t ht=>by
  rcases mem_unf ht with ⟨hm,hk⟩ | ⟨u,hu,hk,hm⟩
  ·have:=h t hm
   exact ⟨this.1,hk,is_4 this.1 hk,this.2⟩
  ·have:=h u hu
   obtain ⟨c,hA⟩:=smp_4 this.2 hk;have h2:=this.1.subs;rw [hk] at h2;have h3:=rl_iff.1 h2 t hm;exact ⟨IS.rt h3,hA.four t hm,h3,smp_subs this.2 t hm⟩
 have hA:=alo_fold (unf 4 L) ([],none) alo_start fun t ht=>⟨(hU t ht).1,(hU t ht).2.1⟩
 have hP:=alt_all (P:=fun t=>IS d 4 t∧Smp t) (fun s hs=>⟨is_4 (class_RT hs d) (by show (2:Int)≠4;decide),clsT_smp s⟩) (unf 4 L) ([],none) alo_start (by simp) fun t ht=>⟨(hU t ht).1,(hU t ht).2.1,(hU t ht).2.2⟩
 unfold altT
 show RT d (joinT 4 ((unf 4 L).foldl altS ([],none)).1 noT)∧Smp (joinT 4 ((unf 4 L).foldl altS ([],none)).1 noT)
 generalize ((unf 4 L).foldl altS ([],none))=A at hA hP;obtain ⟨M,c⟩:=A
 dsimp only at hA hP ⊢
 rcases join_cases 4 M noT with ⟨rfl,e⟩ | ⟨t,rfl,e⟩ | ⟨h2,e⟩
 ·rw [e]
  exact ⟨noT_rt d,noT_smp⟩
 ·rw [e]
  have:=hP t (by simp)
  exact ⟨IS.rt this.1,this.2⟩
 ·rw [e]
  exact ⟨many_rt (.inr rfl) h2 fun t ht=>(hP t ht).1,(smp_nd _ _ _ _ _).2 ⟨(smpL_iff M).2 fun t ht=>(hP t ht).2,fun h=>by omega,fun _=>⟨c,hA⟩,fun h=>by omega⟩⟩
theorem mcat_congr {f:T→T}:∀ (L:List T),(∀ t ∈ L,∀ w,Mat (f t) w↔Mat t w)→∀ w,MCat (L.map f) w↔MCat L w
 | [],_,w=>Iff.rfl
 | t::L,h,w=>by
  rw [List.map_cons,mcat_cons,mcat_cons];have h1:=h t (by simp)
  have h2:=mcat_congr L fun u hu=>h u (by simp [hu])
  constructor
  ·rintro ⟨u,v,e,hu,hv⟩
   exact ⟨u,v,e,(h1 u).1 hu,(h2 v).1 hv⟩
  ·rintro ⟨u,v,e,hu,hv⟩
   exact ⟨u,v,e,(h1 u).2 hu,(h2 v).2 hv⟩
theorem malt_congr {f:T→T}:∀ (L:List T),(∀ t ∈ L,∀ w,Mat (f t) w↔Mat t w)→∀ w,MAlt (L.map f) w↔MAlt L w
 | [],_,w=>Iff.rfl
 | t::L,h,w=>by
  rw [List.map_cons,malt_cons,malt_cons,h t (by simp) w,malt_congr L (fun u hu=>h u (by simp [hu])) w]
theorem cntL_map {f:T→T}:∀ (L:List T),(∀ t ∈ L,cnt (f t)≤cnt t)→cntL (L.map f)≤cntL L
 | [],_=>Nat.le_refl _
 | t::L,h=>by
  have h1:=h t (by simp)
  have h2:=cntL_map L fun u hu=>h u (by simp [hu])
  rw [List.map_cons,cntL,cntL];omega
theorem sim_ok:∀ (t:T) (d:Nat),RT d t→SimOk d t (simT t)∧(IS d 3 t→In3 d (simT t)):=by
 intro t
 induction h:SizeOf.sizeOf t using Nat.strongRecOn generalizing t with
 | _ n ih0 =>
  subst h
  have ih:∀ u ∈ t.subs,∀ d,RT d u→SimOk d u (simT u)∧(IS d 3 u→In3 d (simT u)):=fun u hu d hR=>ih0 (SizeOf.sizeOf u) (by
   obtain ⟨i,hi⟩:=List.mem_iff_getElem?.1 hu
   exact sub_less hi) u rfl d hR
  clear ih0;intro d hR;have hsub:=hR.subs;have key:SimOk d t (simT t)∧(t.kind=5→(simT t).kind=1∨IS d 3 (simT t)∨(simT t).kind=3):=by
   rw [simT_eq]
   by_cases h3:t.kind=3
   ·rw [if_pos h3]
    have hk:∀ u ∈ t.subs,SimOk d u (simT u)∧In3 d (simT u):=fun u hu=>by
     rw [h3] at hsub;have hI:=rl_iff.1 hsub u hu;have:=ih u hu d (IS.rt hI);exact ⟨this.1,this.2 hI⟩
    have hc:=cat_ok (L:=t.subs.map simT) fun m hm=>by
     obtain ⟨u,hu,rfl⟩:=List.mem_map.1 hm;exact ⟨(hk u hu).2,(hk u hu).1.smp⟩
    refine ⟨⟨hc.1,hc.2,?_,fun w=>?_⟩,fun h=>by omega⟩
    ·have h1:=cnt_catT (t.subs.map simT)
     have h2:=cntL_map (f:=simT) t.subs fun u hu=>(hk u hu).1.cnt
     rw [cnt_eq t];omega
    ·rw [mat_catT,mcat_congr t.subs (fun u hu=>(hk u hu).1.mat),← mat_kind3 h3]
   rw [if_neg h3]
   by_cases h4:t.kind=4
   ·rw [if_pos h4]
    have hk:∀ u ∈ t.subs,SimOk d u (simT u):=fun u hu=>(ih u hu d (sub_right hsub u hu)).1
    have hc:=alt_ok (d:=d) (L:=t.subs.map simT) fun m hm=>by
     obtain ⟨u,hu,rfl⟩:=List.mem_map.1 hm;exact ⟨(hk u hu).rt,(hk u hu).smp⟩
    refine ⟨⟨hc.1,hc.2,?_,fun w=>?_⟩,fun h=>by omega⟩
    ·have h1:=cnt_altT (t.subs.map simT)
     have h2:=cntL_map (f:=simT) t.subs fun u hu=>(hk u hu).cnt
     rw [cnt_eq t];omega
    ·rw [mat_altT,malt_congr t.subs (fun u hu=>(hk u hu).mat),← mat_kind4 h4]
   rw [if_neg h4]
   by_cases h5:t.kind=5
   ·rw [if_pos h5]
    obtain ⟨a,mn,mx,rfl,b0,b1,bx,hI⟩:=rep_is hR h5
    show SimOk d (.nd 5 ST.none mn mx [a]) (simH mn mx [a])∧_
    rw [simH];have haI:IS d 5 (simT a)∧SimOk d a (simT a):=by
     have h1:=(ih a (by show a ∈ [a];simp) d (IS.rt hI)).1
     refine ⟨?_,h1⟩;unfold IS at hI ⊢
     by_cases hk2:a.kind=2
     ·have e:simT a=a:=by rw [simT_eq,if_neg (by omega),if_neg (by omega),if_neg (by omega)]
      rw [e];exact hI
     ·have hr:rnd 5 a.kind=true:=by unfold rnd;simp [hk2]
      rw [if_pos hr] at hI;have h2:=(ih a (by show a ∈ [a];simp) (d - 1) hI.2).1
      split
      ·exact ⟨hI.1,h2.rt⟩
      ·exact h1.rt
    have hk:=repP_ok haI.1 haI.2.smp b0 b1 bx;refine ⟨⟨hk.rt,hk.smp,?_,fun w=>?_⟩,fun _=>?_⟩
    ·have h1:=hk.cnt
     have h2:=haI.2.cnt;rw [cnt,cntL,cntL];omega
    ·rw [hk.mat,mat_rep]
     have e:∀ n w,Pow (Mat (simT a)) n w↔Pow (Mat a) n w:=fun n w=>Pow.congr haI.2.mat n w
     simp only [e]
    ·have hw:=hk.what
     show (repP (simT a) mn mx).kind=1∨IS d 3 (repP (simT a) mn mx)∨(repP (simT a) mn mx).kind=3
     generalize repP (simT a) mn mx=r at hw
     rcases hw with h | h | ⟨h,hr⟩
     ·left
      rw [h]
      rfl
     ·right
      left
      rw [h];have h1:=haI.1;unfold IS at h1 ⊢
      split
      ·rename_i hr
       have:rnd 5 (simT a).kind=true:=by
        unfold rnd at hr ⊢
        simp at hr ⊢
        omega
       rw [if_pos this] at h1;exact h1
      ·exact IS.rt haI.1
     ·right
      left
      unfold IS;rw [if_neg (by rw [h];unfold rnd;decide)]
      exact hr
   ·rw [if_neg h5]
    have hk:=kinds hR;have hs:Smp t:=by
     rcases hk with h | h | h | h | h
     ·rw [eps_is hR h]
      exact epsT_smp
     ·rw [(cls_is hR h).1]
      exact clsT_smp _
     ·exact absurd h h3
     ·exact absurd h h4
     ·exact absurd h h5
    exact ⟨⟨hR,hs,Nat.le_refl _,fun w=>Iff.rfl⟩,fun h=>absurd h h5⟩
  refine ⟨key.1,fun hI=>⟨key.1.rt,?_⟩⟩
  by_cases hk3:(simT t).kind=3
  ·exact .inl hk3
  by_cases hk1:(simT t).kind=1
  ·exact .inr (.inl hk1)
  right
  right
  unfold IS at hI
  by_cases hr:rnd 3 t.kind=true
  ·rw [if_pos hr] at hI
   have h2:SimOk (d - 1) t (simT t):=by
    have hsub:=hI.2.subs;have hk:=kinds hR
    rcases hk with h | h | h | h | h
    ·have e:simT t=t:=by rw [simT_eq,if_neg (by omega),if_neg (by omega),if_neg (by omega)]
     rw [e] at hk1;exact absurd h hk1
    ·rw [h] at hr
     exact absurd hr (by unfold rnd;decide)
    ·have hk:∀ u ∈ t.subs,SimOk (d - 1) u (simT u)∧In3 (d - 1) (simT u):=fun u hu=>by
      rw [h] at hsub;have hI:=rl_iff.1 hsub u hu;have:=ih u hu (d - 1) (IS.rt hI);exact ⟨this.1,this.2 hI⟩
     have hc:=cat_ok (L:=t.subs.map simT) fun m hm=>by
      obtain ⟨u,hu,rfl⟩:=List.mem_map.1 hm;exact ⟨(hk u hu).2,(hk u hu).1.smp⟩
     have e:simT t=catT (t.subs.map simT):=by rw [simT_eq,if_pos h]
     rw [← e] at hc;exact ⟨hc.1,hc.2,key.1.cnt,key.1.mat⟩
    ·have hc:=alt_ok (d:=d - 1) (L:=t.subs.map simT) fun m hm=>by
      obtain ⟨u,hu,rfl⟩:=List.mem_map.1 hm;have:=(ih u hu (d - 1) (sub_right hsub u hu)).1;exact ⟨this.rt,this.smp⟩
     have e:simT t=altT (t.subs.map simT):=by rw [simT_eq,if_neg (by omega),if_pos h]
     rw [← e] at hc;exact ⟨hc.1,hc.2,key.1.cnt,key.1.mat⟩
    ·rw [h] at hr
     exact absurd hr (by unfold rnd;decide)
   unfold IS
   split
   ·exact ⟨hI.1,h2.rt⟩
   ·exact key.1.rt
  ·by_cases h5:t.kind=5
   ·rcases key.2 h5 with h | h | h
    ·exact absurd h hk1
    ·exact h
    ·exact absurd h hk3
   ·have e:simT t=t:=by
     have hk:=kinds hR;unfold rnd at hr
     simp at hr
     rw [simT_eq,if_neg (by omega),if_neg (by omega),if_neg (by omega)]
    unfold IS;rw [e,if_neg hr];exact hR
end P10
namespace P08
open Go.RowKit Base Bytes P07
open Sets (ST)
theorem cright_step (n:Nat) (ih:∀ (t:T),SizeOf.sizeOf t<n→∀ (d:Nat) (op:Int),0≤op→op+d=13→∀ (bl o:Nat) (a:Option Addr) (c:Nat) (w:World),NodeP w bl o t a c→Lie w (fun _=>True) a t.subs→Calls Try.prog 42 #[.pointer (some ⟨bl,o,none⟩),.int .i64 op] w fun e w'=>e=.returned (.bool (rgt d t))∧Keep (fun _=>False) w w')
  (t:T) (hn:SizeOf.sizeOf t<n+1) (d:Nat) (op:Int) (ho:0≤op) (hop:op+d=13) (bl o:Nat) (a:Option Addr) (c:Nat) (w:World) (hP:NodeP w bl o t a c) (hL:Lie w (fun _=>True) a t.subs) :
  Calls Try.prog 42 #[.pointer (some ⟨bl,o,none⟩),.int .i64 op] w fun e w'=>e=.returned (.bool (rgt d t))∧Keep (fun _=>False) w w':=by
 have hlen:=hL.len
 match d,hop with
 | 0,hop =>
  have h1:12<op:=by omega
  rw [rgt_zero];clear ih hP hL hlen hop hn
  go_enter Try.func42,Try.ntmps42
  go_wp2_with fail;go_ret;exact ⟨rfl,Keep.refl _ _⟩
 | d+1,hop =>
  have h1:¬ 12<op:=by omega
  obtain ⟨B,hB⟩:∃ B,bareB t=B:=⟨_,rfl⟩;obtain ⟨D,hD⟩:∃ D,rgtL d t.kind t.subs=D:=⟨_,rfl⟩;rw [rgt_succ,hB,hD];have hF:=fields_any t bl o a c w hP;rw [hB] at hF;have H0:=hid (And.intro hP (And.intro hL (And.intro ih (And.intro hD hF))));clear hP hL ih hD hF hB
  go_enter Try.func42,Try.ntmps42
  go_wp2_with fail;refine H0.out.2.2.2.2.mono ?_;rintro e w1 ⟨rfl,q1⟩;have Q1:=hid q1
  cases B with
  | false =>
   clear q1;go_wp2_with fail;go_ret;exact ⟨rfl,Q1.out⟩
  | true =>
   have hP1:=H0.out.1.keepF q1;obtain ⟨c0,-,-,-,-,-,-,c7⟩:=hP1.eight;have HP1:=hid hP1;clear q1 hP1;go_wp2_with fail;clear c0 c7
   go_loopg [5,6,19] t.subs.length (fun gg s5 s6 i wr=>∃ k:Nat,i=.int .i64 k∧k+gg=t.subs.length∧rgtL d t.kind (t.subs.take k)=true∧Keep (fun _=>False) w1 wr)
   case atStart=>exact ⟨0,rfl,by omega,by rw [List.take_zero,rgtL],Keep.refl _ _⟩
   case round =>
    obtain ⟨k,rfl,hk,h0,hq⟩:=hrel;obtain ⟨c0,-,-,-,-,-,-,c7⟩:=(HP1.out.keepF hq).eight
    by_cases hlt:k<t.subs.length
    ·have hlt':(k:Int)<t.subs.length:=by omega
     obtain ⟨s,hs⟩:∃ s,t.subs[k]?=some s:=⟨t.subs[k],List.getElem?_eq_getElem hlt⟩;have LL:=hid (H0.out.2.1.keepF (Q1.out.trans hq));obtain ⟨b2,off,a1,e1,rfl,-,hbl,-,L1,C1⟩:=LL.out.get hs;have N1:NodeP wr b2 (off+k * 8) s a1 e1:=⟨hbl,C1⟩;obtain ⟨d0,-⟩:=N1.eight;have hsl:=sub_less hs;obtain ⟨r,hr⟩:∃ r,rnd t.kind s.kind=r:=⟨_,rfl⟩;obtain ⟨ans,hans⟩:∃ x,rgt (if r then d else d+1) s=x:=⟨_,rfl⟩
     have hcall:=fun (m:Nat)=>H0.out.2.2.1 s (by omega) (if r then d else d+1) (if r then op+1 else op) (by cases r <;> simp <;> omega) (by cases r <;> simp <;> omega) b2 (off+k * 8) a1 e1 (wr.drewN m) (N1.keepF ((Keep.refl _ _).drewN m)) (L1.keepF ((Keep.refl _ _).drewN m))
     rw [hans] at hcall;have HA:=hid (And.intro hr (And.intro hans (And.intro hs (And.intro hq (And.intro h0 hcall)))));have i0:(0:Int)≤k:=by omega
     have j1:IntKind.i64.wrap (op+1)=op+1:=by rw [IntKind.wrap_i64];omega
     clear hr hans hs hq h0 hcall N1 L1 C1;go_wp2_with fail
     go_quiet ((go_at_call 56;exact quiet_same (brk_is HA.out.1 _)))
     cases r
     all_goals
      go_wp2_with fail;refine (HA.out.2.2.2.2.2 _).mono ?_;rintro e w2 ⟨rfl,q2⟩;have HQ:=hid (HA.out.2.2.2.1.trans (((Keep.refl _ _).drewN nq).trans q2));clear q2
      cases ans
      ·have HD:D=false:=by
        rw [← H0.out.2.2.2.1];exact rgtL_not t.subs k s HA.out.2.2.1 (by rw [HA.out.1];exact HA.out.2.1)
       subst HD;go_wp2_with fail;go_ret;exact ⟨rfl,Q1.out.trans HQ.out⟩
      ·have HK:=hid (rgtL_take t.subs k s HA.out.2.2.1 HA.out.2.2.2.2.1 (by rw [HA.out.1];exact HA.out.2.1))
       go_wp2_with fail
       go_roundg (t.subs.length - (k+1))
       case measure=>omega
       case rel=>exact ⟨k+1,by go_num,by omega,HK.out,HQ.out⟩
    ·have hke:k=t.subs.length:=by omega
     subst hke;rw [List.take_length] at h0;have HD:D=true:=by rw [← H0.out.2.2.2.1];exact h0
     subst HD;have HQ:=hid hq;clear hq h0;go_wp2_with fail;go_ret;exact ⟨rfl,Q1.out.trans HQ.out⟩
theorem cright_all:∀ (n:Nat) (t:T),SizeOf.sizeOf t<n→∀ (d:Nat) (op:Int),0≤op→op+d=13→∀ (bl o:Nat) (a:Option Addr) (c:Nat) (w:World),NodeP w bl o t a c→Lie w (fun _=>True) a t.subs→Calls Try.prog 42 #[.pointer (some ⟨bl,o,none⟩),.int .i64 op] w fun e w'=>e=.returned (.bool (rgt d t))∧Keep (fun _=>False) w w'
 | 0,_,h=>absurd h (Nat.not_lt_zero _)
 | n+1,t,h=>fun d op ho hop bl o a c w hP hL=>cright_step n (cright_all n) t h d op ho hop bl o a c w hP hL
theorem cRight_any (t:T) (hs:SOk t) (a:Option Addr) (c:Nat) (w:World) (hL:Lie w (fun _=>True) a t.subs):Calls Try.prog 32 #[nodeV t a c] w fun e w'=>e=.returned (.bool (rightB t))∧Keep (fun _=>False) w w':=by
 have a0:=At.new w (ncells t a c) 27;have q:=(Keep.refl (fun _=>False) w).alloc (.cells (ncells t a c) 27)
 have hcall:=cright_all _ t (Nat.lt_succ_self _) 13 0 (by decide) (by decide) w.heap.size 0 a c _ (NodeP.of_at a0) (hL.keepF q)
 rw [rgt_right hs] at hcall;obtain ⟨r,hr⟩:∃ r,rightB t=r:=⟨_,rfl⟩;rw [hr] at hcall ⊢;have HQ:=hid (And.intro hcall q);clear hcall q hr a0
 go_enter Try.func32,Try.ntmps32
 go_wp2_with fail;refine HQ.out.1.mono ?_;rintro e w1 ⟨rfl,q1⟩;have HQ1:=hid (HQ.out.2.trans q1);clear q1
 go_wp2
 go_ret;exact ⟨rfl,HQ1.out⟩
end P08
namespace P10
open P07 P08 P09 Bytes
open Sets (ST)
theorem cat_first_iff {d:Nat}:∀ (l:List T),(∀ t ∈ l,RT d t∧noneB t=false∧(firstS t).Ok∧∀ b:UInt8,(firstS t).has b.toNat=true↔∃ w,Mat t (b::w))→∀ acc:ST,acc.Ok→(catF acc l).Ok∧∀ b:UInt8,(catF acc l).has b.toNat=true↔acc.has b.toNat=true∨∃ w,MCat l (b::w)
 | [],_,acc,ha=>by
  rw [catF];refine ⟨ha,fun b=>⟨.inl,?_⟩⟩
  rintro (h | ⟨w,hw⟩)
  ·exact h
  ·cases (mcat_nil _).1 hw
 | t::l,h,acc,ha=>by
  have h0:=h t (by simp)
  have hl:∀ u ∈ l,RT d u∧noneB u=false∧(firstS u).Ok∧∀ b:UInt8,(firstS u).has b.toNat=true↔∃ w,Mat u (b::w):=fun u hu=>h u (by simp [hu])
  have hsome:∃ w,MCat l w:=by
   clear h0 h
   induction l with
   | nil=>exact ⟨[],(mcat_nil []).2 rfl⟩
   | cons u l ih =>
    obtain ⟨v,hv⟩:=ih fun x hx=>hl x (by simp [hx])
    have hu:=hl u (by simp)
    obtain ⟨w,hw⟩:∃ w,Mat u w:=Classical.byContradiction fun hn=>by
     have:=(none_mat hu.1).2 fun w hw=>hn ⟨w,hw⟩
     rw [hu.2.1] at this
     cases this
    exact ⟨w++v,(mcat_cons u l _).2 ⟨w,v,rfl,hw,hv⟩⟩
  have hor:(acc.or (firstS t)).Ok:=ST.or_ok ha h0.2.2.1;have ho:∀ b:UInt8,(acc.or (firstS t)).has b.toNat=true↔acc.has b.toNat=true∨∃ w,Mat t (b::w):=fun b=>by
   rw [ST.has_or _ _ _ b.toNat_lt,Bool.or_eq_true,h0.2.2.2]
  rw [catF]
  split
  ·rename_i hn
   have hnil:=(null_mat h0.1).1 hn;have ih:=cat_first_iff l hl _ hor;refine ⟨ih.1,fun b=>?_⟩
   rw [ih.2,ho,or_assoc]
   constructor
   ·rintro (h | ⟨w,h⟩ | ⟨w,h⟩)
    ·exact .inl h
    ·obtain ⟨v,hv⟩:=hsome
     exact .inr ⟨w++v,(mcat_cons t l _).2 ⟨b::w,v,rfl,h,hv⟩⟩
    ·exact .inr ⟨w,(mcat_cons t l _).2 ⟨[],b::w,rfl,hnil,h⟩⟩
   ·rintro (h | ⟨w,h⟩)
    ·exact .inl h
    ·obtain ⟨u,v,e,hu,hv⟩:=(mcat_cons t l _).1 h
     cases u with
     | nil=>exact .inr (.inr ⟨w,by rw [show b::w=v from e];exact hv⟩)
     | cons c u =>
      injection e with e1 e2;subst e1;exact .inr (.inl ⟨u,hu⟩)
  ·rename_i hn
   refine ⟨hor,fun b=>?_⟩
   rw [ho]
   constructor
   ·rintro (h | ⟨w,h⟩)
    ·exact .inl h
    ·obtain ⟨v,hv⟩:=hsome
     exact .inr ⟨w++v,(mcat_cons t l _).2 ⟨b::w,v,rfl,h,hv⟩⟩
   ·rintro (h | ⟨w,h⟩)
    ·exact .inl h
    ·obtain ⟨u,v,e,hu,hv⟩:=(mcat_cons t l _).1 h
     cases u with
     | nil=>exact absurd ((null_mat h0.1).2 hu) hn
     | cons c u =>
      injection e with e1 e2;subst e1;exact .inr ⟨u,hu⟩
theorem alt_first_iff:∀ (l:List T),(∀ t ∈ l,(firstS t).Ok∧∀ b:UInt8,(firstS t).has b.toNat=true↔∃ w,Mat t (b::w))→∀ acc:ST,acc.Ok→(P09.altF acc l).Ok∧∀ b:UInt8,(P09.altF acc l).has b.toNat=true↔acc.has b.toNat=true∨∃ w,MAlt l (b::w)
 | [],_,acc,ha=>by
  rw [P09.altF];refine ⟨ha,fun b=>⟨.inl,?_⟩⟩
  rintro (h | ⟨w,hw⟩)
  ·exact h
  ·exact absurd hw (malt_nil _)
 | t::l,h,acc,ha=>by
  have h0:=h t (by simp)
  have ih:=alt_first_iff l (fun u hu=>h u (by simp [hu])) _ (ST.or_ok ha h0.1)
  rw [P09.altF];refine ⟨ih.1,fun b=>?_⟩
  rw [ih.2,ST.has_or _ _ _ b.toNat_lt,Bool.or_eq_true,h0.2,or_assoc]
  simp only [malt_cons,exists_or]
theorem first_mat:∀ (t:T) (d:Nat),RT d t→(firstS t).Ok∧∀ b:UInt8,(firstS t).has b.toNat=true↔∃ w,Mat t (b::w):=by
 intro t
 induction h:SizeOf.sizeOf t using Nat.strongRecOn generalizing t with
 | _ n ih0 =>
  subst h;intro d hR
  have ih:∀ u ∈ t.subs,(firstS u).Ok∧∀ b:UInt8,(firstS u).has b.toNat=true↔∃ w,Mat u (b::w):=fun u hu=>ih0 (SizeOf.sizeOf u) (by
   obtain ⟨i,hi⟩:=List.mem_iff_getElem?.1 hu
   exact sub_less hi) u rfl d (sub_right hR.subs u hu)
  clear ih0
  have hno:(ST.none).Ok∧((∀ w,¬ Mat t w)→∀ b:UInt8,ST.none.has b.toNat=true↔∃ w,Mat t (b::w)):=⟨ST.none_ok,fun h b=>by
   rw [ST.has_none]
   constructor
   ·intro h;cases h
   ·rintro ⟨w,hw⟩
    exact absurd hw (h _)⟩
  rw [firstS_eq]
  by_cases hn:noneB t=true
  ·rw [if_pos hn]
   exact ⟨hno.1,hno.2 ((none_mat hR).1 hn)⟩
  rw [if_neg hn];have hn:noneB t=false:=by simpa using hn
  by_cases h2:t.kind=2
  ·rw [if_pos h2]
   refine ⟨(cls_is hR h2).2,fun b=>?_⟩
   constructor
   ·exact fun h=>⟨[],(mat_kind2 h2 _).2 ⟨b,rfl,h⟩⟩
   ·rintro ⟨w,hw⟩
    obtain ⟨c,e,hc⟩:=(mat_kind2 h2 _).1 hw;injection e with e1 e2;rw [e1];exact hc
  rw [if_neg h2]
  by_cases h3:t.kind=3
  ·rw [if_pos h3]
   have hall:∀ u ∈ t.subs,noneB u=false:=fun u hu=>by
    cases e:noneB u with
    | false=>rfl
    | true =>
     obtain ⟨i,hi⟩:=List.mem_iff_getElem?.1 hu;rw [noneB_eq,if_neg h2,if_pos h3,anyN_get hi e] at hn
     cases hn
   have:=cat_first_iff (d:=d) t.subs (fun u hu=>⟨sub_right hR.subs u hu,hall u hu,ih u hu⟩) .none ST.none_ok
   refine ⟨this.1,fun b=>?_⟩
   rw [this.2,ST.has_none]
   constructor
   ·rintro (h | ⟨w,h⟩)
    ·cases h
    ·exact ⟨w,(mat_kind3 h3 _).2 h⟩
   ·rintro ⟨w,h⟩
    exact .inr ⟨w,(mat_kind3 h3 _).1 h⟩
  rw [if_neg h3]
  by_cases h4:t.kind=4
  ·rw [if_pos h4]
   have:=alt_first_iff t.subs ih .none ST.none_ok;refine ⟨this.1,fun b=>?_⟩
   rw [this.2,ST.has_none]
   constructor
   ·rintro (h | ⟨w,h⟩)
    ·cases h
    ·exact ⟨w,(mat_kind4 h4 _).2 h⟩
   ·rintro ⟨w,h⟩
    exact .inr ⟨w,(mat_kind4 h4 _).1 h⟩
  rw [if_neg h4]
  by_cases h5:t.kind=5
  ·obtain ⟨a,mn,mx,rfl,b0,b1,bx,hI⟩:=rep_is hR h5
   have ha:=ih a (by show a ∈ [a];simp)
   have hstart:∀ (n:Nat) (b:UInt8) (w:List UInt8),Pow (Mat a) n (b::w)→∃ w,Mat a (b::w):=fun n=>by
    induction n with
    | zero =>
     intro b w h
     cases h
    | succ n ihn =>
     rintro b w ⟨u,v,e,hu,hv⟩
     cases u with
     | nil=>exact ihn b w (by rw [show b::w=v from e];exact hv)
     | cons c u =>
      injection e with e1 e2;subst e1;exact ⟨u,hu⟩
   by_cases hm:mx=0
   ·rw [if_neg (by rintro ⟨-,h⟩;exact h hm)]
    refine ⟨ST.none_ok,fun b=>?_⟩
    rw [ST.has_none]
    constructor
    ·intro h;cases h
    ·rintro ⟨w,hw⟩
     obtain ⟨n,h6,h7,h8⟩:=(mat_rep a mn mx _).1 hw;have:n=0:=by omega
     subst this
     cases h8
   ·rw [if_pos (show (T.nd 5 ST.none mn mx [a]).kind=5∧(T.nd 5 ST.none mn mx [a]).mx≠0 from ⟨rfl,hm⟩)]
    show (headF [a]).Ok∧_
    rw [headF];refine ⟨ha.1,fun b=>?_⟩
    show (headF [a]).has b.toNat=true↔_
    rw [headF,ha.2]
    constructor
    ·rintro ⟨w,hw⟩
     obtain ⟨q,hq⟩:∃ q:Nat,mn=q:=⟨mn.toNat,by omega⟩
     have hpow:∀ n,∃ v,Pow (Mat a) n v:=fun n=>by
      induction n with
      | zero=>exact ⟨[],rfl⟩
      | succ n ihn =>
       obtain ⟨v,hv⟩:=ihn;exact ⟨(b::w)++v,b::w,v,rfl,hw,hv⟩
     obtain ⟨v,hv⟩:=hpow (q - 1);refine ⟨w++v,(mat_rep a mn mx _).2 ⟨(q - 1)+1,by omega,by omega,b::w,v,rfl,hw,hv⟩⟩
    ·rintro ⟨w,hw⟩
     obtain ⟨n,-,-,hn⟩:=(mat_rep a mn mx _).1 hw;exact hstart n b w hn
  ·rw [if_neg (fun h=>h5 h.1)]
   refine ⟨ST.none_ok,fun b=>?_⟩
   have hk:=kinds hR;rw [ST.has_none]
   constructor
   ·intro h;cases h
   ·rintro ⟨w,hw⟩
    cases (mat_kind1 (by omega) _).1 hw
theorem isNo_noT:isNo noT=true:=by
 show isNo (clsT ST.none)=true
 rw [isNo_cls,eqB_refl]
theorem isNo_epsT:isNo epsT=false:=rfl
theorem smp_no3 {m:T} (hS:Smp m) (hk:m.kind=3):m.subs.any isNo=false:=by
 cases e:m.subs.any isNo with
 | false=>rfl
 | true =>
  obtain ⟨t,ht,hn⟩:=List.any_eq_true.1 e;rw [(smp_3 hS hk t ht).2.2] at hn
  cases hn
theorem cat_only {d:Nat} {m:T} (hR:RT d m) (hS:Smp m) (pre post:List T) (h1:∀ t ∈ pre,t=epsT) (h2:∀ t ∈ post,t=epsT):catT (pre++m::post)=m:=by
 have hu:∀ L:List T,(∀ t ∈ L,t=epsT)→unf 3 L=L∧L.any isNo=false∧L.filter (fun t=>decide (t.kind≠1))=[]:=fun L h=>by
  refine ⟨unf_none fun t ht=>by rw [h t ht];decide,?_,?_⟩
  ·cases e:L.any isNo with
   | false=>rfl
   | true =>
    obtain ⟨t,ht,hn⟩:=List.any_eq_true.1 e;rw [h t ht] at hn
    cases hn
  ·rw [List.filter_eq_nil_iff]
   intro t ht;rw [h t ht]
   decide
 have hp:=hu pre h1;have hq:=hu post h2;have hunf:unf 3 (pre++m::post)=pre++((if m.kind=3 then m.subs else [m])++post):=by
  unfold unf at *;rw [List.flatMap_append,List.flatMap_cons,hp.1,hq.1]
 unfold catT;rw [hunf,List.any_append,List.any_append,hp.2.1,hq.2.1,Bool.false_or,Bool.or_false,List.filter_append,List.filter_append,hp.2.2,hq.2.2,List.nil_append,List.append_nil]
 by_cases h3:m.kind=3
 ·have hk:=many_is hR (.inl h3)
  rw [if_pos h3,smp_no3 hS h3,if_neg (by decide),List.filter_eq_self.2 fun t ht=>decide_eq_true (smp_3 hS h3 t ht).2.1,joinT_ge hk.2,← h3]
  exact hk.1.symm
 ·rw [if_neg h3,List.any_cons,List.any_nil,Bool.or_false]
  by_cases hn:isNo m=true
  ·rw [if_pos hn]
   exact (no_is hR hn).symm
  ·rw [if_neg hn]
   by_cases h1:m.kind=1
   ·rw [List.filter_cons_of_neg (by simp [h1]),List.filter_nil]
    exact (eps_is hR h1).symm
   ·rw [List.filter_cons_of_pos (by simp [h1]),List.filter_nil]
    rfl
theorem alt_one {d:Nat} {m:T} (hR:RT d m) (hS:Smp m):(altF (unf 4 [m])).1=(if m.kind=4 then m.subs else if isNo m=true then [] else [m])∧joinT 4 (altF (unf 4 [m])).1 noT=m∧(isNo m=false→∃ c,altF (unf 4 [m])=((if m.kind=4 then m.subs else [m]),c)∧Alo (if m.kind=4 then m.subs else [m]) c):=by
 have hu:unf 4 [m]=if m.kind=4 then m.subs else [m]:=by
  rw [unf_cons]
  show _++[]=_
  rw [List.append_nil]
 by_cases h4:m.kind=4
 ·obtain ⟨c,hA⟩:=smp_4 hS h4
  have hf:=altF_fix hA fun u hu=>sub_right hR.subs u hu
  have hk:=many_is hR (.inr h4);rw [if_pos h4] at hu ⊢;rw [hu,hf,joinT_ge hk.2,if_pos h4];refine ⟨rfl,by rw [← h4];exact hk.1.symm,fun _=>⟨c,rfl,hA⟩⟩
 ·rw [if_neg h4] at hu ⊢
  rw [hu,if_neg h4];unfold altF;rw [List.foldl_cons,List.foldl_nil]
  by_cases hn:isNo m=true
  ·rw [if_pos hn]
   unfold altS;rw [if_pos hn];refine ⟨rfl,(no_is hR hn).symm,fun h=>?_⟩
   rw [hn] at h
   cases h
  ·rw [if_neg hn]
   have hA:=alo_step alo_start hR h4;have e:(altS ([],none) m).1=[m]:=by
    unfold altS;rw [if_neg hn]
    by_cases h2:m.kind=2
    ·rw [if_pos h2]
     show []++[clsT m.set]=[m]
     rw [← (cls_is hR h2).1]
     rfl
    ·rw [if_neg h2,if_neg (by simp)]
     rfl
   rw [e] at hA ⊢;exact ⟨rfl,rfl,fun _=>⟨(altS ([],none) m).2,by rw [← e],hA⟩⟩
end P10
end Go.Proofs.Ytlmfbchgkjgljaa
