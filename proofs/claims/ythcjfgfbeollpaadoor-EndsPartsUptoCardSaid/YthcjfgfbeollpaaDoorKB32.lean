/- Layer 10 (simplify), plain. Part 1: put together simply, as the document says (P10.1). -/
import Derived.Test.YthcjfgfbeollpaaDoorKB31
import Derived.Test.YthcjfgfbeollpaaDoorKB29
import Derived.Test.YthcjfgfbeollpaaDoorKB28
import Derived.Test.YthcjfgfbeollpaaDoorKB21
set_option maxRecDepth 100000
set_option maxHeartbeats 32000000
open Go.Lib (hid)
namespace Go.Proofs.YthcjfgfbeollpaaDoor
namespace P10
open P07 P08 P09 Bytes
open Sets (ST)
mutual
def sameB:T→T→Bool
 | .nd k s m x l,.nd k' s' m' x' l'=>decide (k=k') && (eqB s s' && (decide (m=m') && (decide (x=x') && sameL l l')))
def sameL:List T→List T→Bool
 | [],[]=>true
 | a::l,b::m=>sameB a b && sameL l m
 | [],_::_=>false
 | _::_,[]=>false
end
mutual
theorem sameB_iff:∀ a b:T,sameB a b=true↔a=b
 | .nd k s m x l,.nd k' s' m' x' l'=>by
  rw [sameB]
  simp only [Bool.and_eq_true,decide_eq_true_eq,eqB_iff,sameL_iff l l',T.nd.injEq]
theorem sameL_iff:∀ a b:List T,sameL a b=true↔a=b
 | [],[]=>by rw [sameL];simp
 | a::l,b::m=>by
  rw [sameL]
  simp only [Bool.and_eq_true,sameB_iff a b,sameL_iff l m,List.cons.injEq]
 | [],_::_=>by rw [sameL];simp
 | _::_,[]=>by rw [sameL];simp
end
def isNo (t:T):Bool:=decide (t.kind=2) && eqB t.set ST.none
def noT:T:=clsT ST.none
def epsT:T:=.nd 1 ST.none 0 0 []
def unf (k:Int) (L:List T):List T:=L.flatMap fun t=>if t.kind=k then t.subs else [t]
def joinT (k:Int) (L:List T) (e:T):T :=
 match L with
 | []=>e
 | [t]=>t
 | a::b::l=>.nd k ST.none 0 0 (a::b::l)
def catT (L:List T):T:=if (unf 3 L).any isNo then noT else joinT 3 ((unf 3 L).filter fun t=>decide (t.kind≠1)) epsT
def altS (A:List T × Option Nat) (t:T):List T × Option Nat :=
 if isNo t=true then A
 else if t.kind=2 then (match A.2 with
  | none=>(A.1++[clsT t.set],some A.1.length)
  | some i=>(A.1.set i (clsT ((A.1.getD i noT).set.or t.set)),some i))
 else if A.1.any (sameB t)=true then A else (A.1++[t],A.2)
def altF (L:List T):List T × Option Nat:=L.foldl altS ([],none)
def altT (L:List T):T:=joinT 4 (altF (unf 4 L)).1 noT
def isSt (t:T):Bool:=decide (t.kind=5∧t.mn=0∧t.mx=-1)
mutual
def starT:T→T
 | .nd k s mn mx l=>if k=1∨isNo (.nd k s mn mx l)=true then epsT else if isSt (.nd k s mn mx l)=true then .nd k s mn mx l
  else if k=5∧(mn=0∨mn=1)∧l.length=1 then starH l else .nd 5 ST.none 0 (-1) [.nd k s mn mx l]
def starH:List T→T
 | []=>epsT
 | t::_=>starT t
end
def repP (t:T) (lo hi:Int):T :=
 if hi=0∨t.kind=1∨(isNo t=true∧lo=0) then epsT
 else if isNo t=true∨(lo=1∧hi=1)∨isSt t=true then t
 else if lo=0∧hi=-1 then starT t
 else .nd 5 ST.none lo hi [t]
mutual
def simT:T→T
 | .nd k s mn mx l=>if k=3 then catT (simL l) else if k=4 then altT (simL l) else if k=5 then simH mn mx l else .nd k s mn mx l
def simL:List T→List T
 | []=>[]
 | t::l=>simT t::simL l
def simH:Int→Int→List T→T
 | _,_,[]=>noT
 | mn,mx,t::_=>repP (simT t) mn mx
end
end P10
namespace P10
open P07 P08 P09 Bytes
open Sets (ST)
structure Alo (L:List T) (c:Option Nat):Prop where
 no:∀ t ∈ L,isNo t=false
 four:∀ t ∈ L,t.kind≠4
 dup:∀ (i j:Nat) (t:T),L[i]?=some t→L[j]?=some t→i=j
 cl:∀ (i:Nat) (t:T),L[i]?=some t→t.kind=2→c=some i
 at_:∀ i:Nat,c=some i→∃ s:ST,s.Ok∧L[i]?=some (clsT s)
def needs (t:T):Prop:=t.kind=5∧(t.mn=0∨t.mn=1)∧t.subs.length=1
mutual
def Smp:T→Prop
 | .nd k _ mn mx l=>SmpL l∧(k=3→∀ t ∈ l,t.kind≠3∧t.kind≠1∧isNo t=false)∧(k=4→∃ c,Alo l c)
  ∧ (k=5→mx≠0∧∀ t ∈ l,t.kind≠1∧isNo t=false∧¬ (mn=1∧mx=1)∧isSt t=false∧(mn=0→mx=-1→¬ needs t))
def SmpL:List T→Prop
 | []=>True
 | t::l=>Smp t∧SmpL l
end
theorem kinds {d:Nat} {t:T} (h:RT d t):t.kind=1∨t.kind=2∨t.kind=3∨t.kind=4∨t.kind=5:=by
 cases t with
 | nd k s mn mx l =>
  obtain ⟨hb,-,-⟩:=h.bare
  show k=1∨k=2∨k=3∨k=4∨k=5
  unfold Bare at hb;omega
theorem rep_is {d:Nat} {t:T} (h:RT d t) (hk:t.kind=5):∃ a mn mx,t=.nd 5 ST.none mn mx [a]∧0≤mn∧mn≤20∧(mx=-1∨mn≤mx∧mx≤20)∧IS d 5 a:=by
 cases t with
 | nd k s mn mx l =>
  have:k=5:=hk;subst this;obtain ⟨a,rfl,b0,b1,bx,ha⟩:=one_sub h rfl;obtain ⟨hb,-,-⟩:=h.bare;unfold Bare at hb;have hs:s=ST.none:=by
   rcases hb with h | h | h | h
   ·omega
   ·omega
   ·omega
   ·exact h.2.1
  rw [hs];exact ⟨a,mn,mx,rfl,b0,b1,bx,ha⟩
end P10
namespace P10
open P07 P08 P09 Bytes
open Sets (ST)
structure SimOk (d:Nat) (t m:T):Prop where
 rt:RT d m
 smp:Smp m
 cnt:cnt m≤cnt t
 mat:∀ w,Mat m w↔Mat t w
structure StarOk (d:Nat) (a r:T):Prop where
 what:r=epsT∨(∃ b,r=b∧IS d 5 b∧b.kind=5)∨∃ b,r=.nd 5 ST.none 0 (-1) [b]∧IS d 5 b
 rt:RT d r
 smp:Smp r
 cnt:cnt r≤1+cnt a
 mat:∀ w,Mat r w↔∃ n:Nat,Pow (Mat a) n w
structure RepOk (d:Nat) (a r:T) (mn mx:Int):Prop where
 what:r=epsT∨r=a∨(r.kind=5∧RT d r)
 rt:RT d r
 smp:Smp r
 cnt:cnt r≤1+cnt a
 mat:∀ w,Mat r w↔∃ n:Nat,mn≤n∧(mx<0∨(n:Int)≤mx)∧Pow (Mat a) n w
end P10
namespace P08
open Go.RowKit Base Bytes P07
open Sets (ST)
theorem cright_step (n:Nat) (ih:∀ (t:T),SizeOf.sizeOf t<n→∀ (d:Nat) (op:Int),0≤op→op+d=13→∀ (bl o:Nat) (a:Option Addr) (c:Nat) (w:World),NodeP w bl o t a c→Lie w (fun _=>True) a t.subs→Calls Tryd.prog 31 #[.pointer (some ⟨bl,o,none⟩),.int .i64 op] w fun e w'=>e=.returned (.bool (rgt d t))∧Keep (fun _=>False) w w')
  (t:T) (hn:SizeOf.sizeOf t<n+1) (d:Nat) (op:Int) (ho:0≤op) (hop:op+d=13) (bl o:Nat) (a:Option Addr) (c:Nat) (w:World) (hP:NodeP w bl o t a c) (hL:Lie w (fun _=>True) a t.subs) :
  Calls Tryd.prog 31 #[.pointer (some ⟨bl,o,none⟩),.int .i64 op] w fun e w'=>e=.returned (.bool (rgt d t))∧Keep (fun _=>False) w w':=by
 have hlen:=hL.len
 match d,hop with
 | 0,hop =>
  have h1:12<op:=by omega
  rw [rgt_zero];clear ih hP hL hlen hop hn
  go_enter Tryd.func31,Tryd.ntmps31
  go_wp2_with fail;go_ret;exact ⟨rfl,Keep.refl _ _⟩
 | d+1,hop =>
  have h1:¬ 12<op:=by omega
  obtain ⟨B,hB⟩:∃ B,bareB t=B:=⟨_,rfl⟩;obtain ⟨D,hD⟩:∃ D,rgtL d t.kind t.subs=D:=⟨_,rfl⟩;rw [rgt_succ,hB,hD];have hF:=fields_any t bl o a c w hP;rw [hB] at hF;have H0:=hid (And.intro hP (And.intro hL (And.intro ih (And.intro hD hF))));clear hP hL ih hD hF hB
  go_enter Tryd.func31,Tryd.ntmps31
  go_wp2_with fail;refine H0.out.2.2.2.2.mono ?_;rintro e w1 ⟨rfl,q1⟩;have Q1:=hid q1
  cases B with
  | false =>
   clear q1;go_wp2_with fail;go_ret;exact ⟨rfl,Q1.out⟩
  | true =>
   have hP1:=H0.out.1.keepF q1;obtain ⟨c0,-,-,-,-,-,-,c7⟩:=hP1.eight;have HP1:=hid hP1;clear q1 hP1;go_wp2_with fail;clear c0 c7
   go_loopg [5,6,19] t.subs.length (fun gg s5 s6 i wr=>∃ k:Nat,i=.int .i64 k∧k+gg=t.subs.length∧rgtL d t.kind (t.subs.take k)=true∧Keep (fun _=>False) w1 wr)
   case atStart=>exact ⟨0,rfl,by omega,by rw [List.take_zero,rgtL],Keep.refl _ _⟩
   case round =>
    obtain ⟨k,rfl,hk,h0,hq⟩:=hrel;obtain ⟨c0,-,-,-,-,-,-,c7⟩:=(HP1.out.keepF hq).eight
    by_cases hlt:k<t.subs.length
    ·have hlt':(k:Int)<t.subs.length:=by omega
     obtain ⟨s,hs⟩:∃ s,t.subs[k]?=some s:=⟨t.subs[k],List.getElem?_eq_getElem hlt⟩;have LL:=hid (H0.out.2.1.keepF (Q1.out.trans hq));obtain ⟨b2,off,a1,e1,rfl,-,hbl,-,L1,C1⟩:=LL.out.get hs;have N1:NodeP wr b2 (off+k * 8) s a1 e1:=⟨hbl,C1⟩;obtain ⟨d0,-⟩:=N1.eight;have hsl:=sub_less hs;obtain ⟨r,hr⟩:∃ r,rnd t.kind s.kind=r:=⟨_,rfl⟩;obtain ⟨ans,hans⟩:∃ x,rgt (if r then d else d+1) s=x:=⟨_,rfl⟩
     have hcall:=fun (m:Nat)=>H0.out.2.2.1 s (by omega) (if r then d else d+1) (if r then op+1 else op) (by cases r <;> simp <;> omega) (by cases r <;> simp <;> omega) b2 (off+k * 8) a1 e1 (wr.drewN m) (N1.keepF ((Keep.refl _ _).drewN m)) (L1.keepF ((Keep.refl _ _).drewN m))
     rw [hans] at hcall;have HA:=hid (And.intro hr (And.intro hans (And.intro hs (And.intro hq (And.intro h0 hcall)))));have i0:(0:Int)≤k:=by omega
     have j1:IntKind.i64.wrap (op+1)=op+1:=by rw [IntKind.wrap_i64];omega
     clear hr hans hs hq h0 hcall N1 L1 C1;go_wp2_with fail
     go_quiet ((go_at_call 39;exact quiet_same (brk_is HA.out.1 _)))
     cases r
     all_goals
      go_wp2_with fail;refine (HA.out.2.2.2.2.2 _).mono ?_;rintro e w2 ⟨rfl,q2⟩;have HQ:=hid (HA.out.2.2.2.1.trans (((Keep.refl _ _).drewN nq).trans q2));clear q2
      cases ans
      ·have HD:D=false:=by
        rw [← H0.out.2.2.2.1];exact rgtL_not t.subs k s HA.out.2.2.1 (by rw [HA.out.1];exact HA.out.2.1)
       subst HD;go_wp2_with fail;go_ret;exact ⟨rfl,Q1.out.trans HQ.out⟩
      ·have HK:=hid (rgtL_take t.subs k s HA.out.2.2.1 HA.out.2.2.2.2.1 (by rw [HA.out.1];exact HA.out.2.1))
       go_wp2_with fail
       go_roundg (t.subs.length - (k+1))
       case measure=>omega
       case rel=>exact ⟨k+1,by go_num,by omega,HK.out,HQ.out⟩
    ·have hke:k=t.subs.length:=by omega
     subst hke;rw [List.take_length] at h0;have HD:D=true:=by rw [← H0.out.2.2.2.1];exact h0
     subst HD;have HQ:=hid hq;clear hq h0;go_wp2_with fail;go_ret;exact ⟨rfl,Q1.out.trans HQ.out⟩
theorem cright_all:∀ (n:Nat) (t:T),SizeOf.sizeOf t<n→∀ (d:Nat) (op:Int),0≤op→op+d=13→∀ (bl o:Nat) (a:Option Addr) (c:Nat) (w:World),NodeP w bl o t a c→Lie w (fun _=>True) a t.subs→Calls Tryd.prog 31 #[.pointer (some ⟨bl,o,none⟩),.int .i64 op] w fun e w'=>e=.returned (.bool (rgt d t))∧Keep (fun _=>False) w w'
 | 0,_,h=>absurd h (Nat.not_lt_zero _)
 | n+1,t,h=>fun d op ho hop bl o a c w hP hL=>cright_step n (cright_all n) t h d op ho hop bl o a c w hP hL
theorem cRight_any (t:T) (hs:SOk t) (a:Option Addr) (c:Nat) (w:World) (hL:Lie w (fun _=>True) a t.subs):Calls Tryd.prog 23 #[nodeV t a c] w fun e w'=>e=.returned (.bool (rightB t))∧Keep (fun _=>False) w w':=by
 have a0:=At.new w (ncells t a c) 27;have q:=(Keep.refl (fun _=>False) w).alloc (.cells (ncells t a c) 27)
 have hcall:=cright_all _ t (Nat.lt_succ_self _) 13 0 (by decide) (by decide) w.heap.size 0 a c _ (NodeP.of_at a0) (hL.keepF q)
 rw [rgt_right hs] at hcall;obtain ⟨r,hr⟩:∃ r,rightB t=r:=⟨_,rfl⟩;rw [hr] at hcall ⊢;have HQ:=hid (And.intro hcall q);clear hcall q hr a0
 go_enter Tryd.func23,Tryd.ntmps23
 go_wp2_with fail;refine HQ.out.1.mono ?_;rintro e w1 ⟨rfl,q1⟩;have HQ1:=hid (HQ.out.2.trans q1);clear q1
 go_wp2
 go_ret;exact ⟨rfl,HQ1.out⟩
end P08
namespace P11
open P07 P08 P09 P10 Bytes
open Sets (ST)
open Classical in
noncomputable def msk (p:Nat→Prop):Nat→Nat
 | 0=>0
 | k+1=>msk p k ||| (if p k then 2 ^ k else 0)
theorem msk_bit (p:Nat→Prop) (j:Nat):∀ k,(msk p k).testBit j=true↔j<k∧p j
 | 0=>by
  rw [msk,Nat.zero_testBit]
  simp
 | k+1=>by
  rw [msk,Nat.testBit_or,Bool.or_eq_true,msk_bit p j k]
  by_cases hp:p k
  ·rw [if_pos hp,Nat.testBit_two_pow,decide_eq_true_eq]
   constructor
   ·rintro (h | h)
    ·exact ⟨by omega,h.2⟩
    ·subst h
     exact ⟨by omega,hp⟩
   ·rintro ⟨h1,h2⟩
    by_cases e:k=j
    ·exact .inr e
    ·exact .inl ⟨by omega,h2⟩
  ·rw [if_neg hp,Nat.zero_testBit]
   constructor
   ·rintro (h | h)
    ·exact ⟨by omega,h.2⟩
    ·cases h
   ·rintro ⟨h1,h2⟩
    refine .inl ⟨?_,h2⟩
    by_cases e:j=k
    ·subst e
     exact absurd h2 hp
    ·omega
theorem bit_ext {a b:Nat} (h:∀ j,a.testBit j=true↔b.testBit j=true):a=b:=Nat.eq_of_testBit_eq fun j=>Bool.eq_iff_iff.2 (h j)
def InT (s:List UInt8) (m:Nat):Prop:=∀ j,m.testBit j=true→j≤s.length
theorem InT.lt {s:List UInt8} {m:Nat} (h:InT s m) (hl:s.length≤60):m<2305843009213693952:=by
 rw [show (2305843009213693952:Nat)=2 ^ 61 from rfl]
 refine Nat.lt_pow_two_of_testBit m fun i hi=>?_
 cases e:m.testBit i with
 | false=>rfl
 | true =>
  have:=h i e;omega
theorem InT.zero (s:List UInt8):InT s 0:=fun j h=>by
 rw [Nat.zero_testBit] at h
 cases h
theorem InT.or {s:List UInt8} {a b:Nat} (h:InT s a) (k:InT s b):InT s (a ||| b):=fun j hj=>by
 rw [Nat.testBit_or,Bool.or_eq_true] at hj;exact hj.elim (h j) (k j)
def RchM (s:List UInt8) (P:List UInt8→Prop) (m:Nat) (j:Nat):Prop:=∃ i,m.testBit i=true∧i≤j∧j≤s.length∧P (seg s i j)
noncomputable def rch (s:List UInt8) (P:List UInt8→Prop) (m:Nat):Nat:=msk (RchM s P m) (s.length+1)
theorem rch_bit (s:List UInt8) (P:List UInt8→Prop) (m j:Nat):(rch s P m).testBit j=true↔RchM s P m j:=by
 unfold rch;rw [msk_bit];exact ⟨fun h=>h.2,fun h=>⟨by obtain ⟨_,_,_,h1,_⟩:=h;omega,h⟩⟩
theorem rch_in (s:List UInt8) (P:List UInt8→Prop) (m:Nat):InT s (rch s P m):=fun j h=>by
 obtain ⟨_,_,_,h1,_⟩:=(rch_bit s P m j).1 h;exact h1
theorem rch_congr {s:List UInt8} {P Q:List UInt8→Prop} (h:∀ w,P w↔Q w) (m:Nat):rch s P m=rch s Q m:=bit_ext fun j=>by
 rw [rch_bit,rch_bit]
 constructor
 ·rintro ⟨i,h1,h2,h3,h4⟩
  exact ⟨i,h1,h2,h3,(h _).1 h4⟩
 ·rintro ⟨i,h1,h2,h3,h4⟩
  exact ⟨i,h1,h2,h3,(h _).2 h4⟩
theorem rch_zero (s:List UInt8) (P:List UInt8→Prop):rch s P 0=0:=bit_ext fun j=>by
 rw [rch_bit]
 constructor
 ·rintro ⟨i,h1,-⟩
  rw [Nat.zero_testBit] at h1
  cases h1
 ·intro h
  rw [Nat.zero_testBit] at h
  cases h
theorem rch_seq (s:List UInt8) (P Q:List UInt8→Prop) (m:Nat):rch s (fun w=>∃ u v,w=u++v∧P u∧Q v) m=rch s Q (rch s P m):=bit_ext fun j=>by
 rw [rch_bit,rch_bit]
 constructor
 ·rintro ⟨i,h1,h2,h3,h4⟩
  obtain ⟨k,hk1,hk2,hu,hv⟩:=(seg_seq h2 h3 P Q).1 h4;exact ⟨k,(rch_bit s P m k).2 ⟨i,h1,hk1,by omega,hu⟩,hk2,h3,hv⟩
 ·rintro ⟨k,hk,hk2,h3,hv⟩
  obtain ⟨i,h1,hk1,-,hu⟩:=(rch_bit s P m k).1 hk;exact ⟨i,h1,by omega,h3,(seg_seq (by omega) h3 P Q).2 ⟨k,hk1,hk2,hu,hv⟩⟩
theorem rch_nil {s:List UInt8} {m:Nat} (h:InT s m):rch s (fun w=>w=[]) m=m:=bit_ext fun j=>by
 rw [rch_bit]
 constructor
 ·rintro ⟨i,h1,h2,h3,h4⟩
  have:=seg_length (s:=s) (i:=i) h3;rw [h4,List.length_nil] at this;rw [show j=i by omega]
  exact h1
 ·exact fun hj=>⟨j,hj,Nat.le_refl j,h j hj,seg_self s j⟩
theorem rch_alt (s:List UInt8) (P Q:List UInt8→Prop) (m:Nat):rch s (fun w=>P w∨Q w) m=rch s P m ||| rch s Q m:=bit_ext fun j=>by
 rw [Nat.testBit_or,Bool.or_eq_true,rch_bit,rch_bit,rch_bit]
 constructor
 ·rintro ⟨i,h1,h2,h3,h4 | h4⟩
  ·exact .inl ⟨i,h1,h2,h3,h4⟩
  ·exact .inr ⟨i,h1,h2,h3,h4⟩
 ·rintro (⟨i,h1,h2,h3,h4⟩ | ⟨i,h1,h2,h3,h4⟩)
  ·exact ⟨i,h1,h2,h3,.inl h4⟩
  ·exact ⟨i,h1,h2,h3,.inr h4⟩
theorem rch_no {s:List UInt8} {P:List UInt8→Prop} (h:∀ w,¬ P w) (m:Nat):rch s P m=0:=bit_ext fun j=>by
 rw [rch_bit,Nat.zero_testBit]
 constructor
 ·rintro ⟨i,_,_,_,h4⟩
  exact absurd h4 (h _)
 ·exact fun h=>by cases h
theorem rch_or (s:List UInt8) (P:List UInt8→Prop) (a b:Nat):rch s P (a ||| b)=rch s P a ||| rch s P b:=bit_ext fun j=>by
 rw [Nat.testBit_or,Bool.or_eq_true,rch_bit,rch_bit,rch_bit]
 constructor
 ·rintro ⟨i,h1,h2,h3,h4⟩
  rw [Nat.testBit_or,Bool.or_eq_true] at h1
  rcases h1 with h1 | h1
  ·exact .inl ⟨i,h1,h2,h3,h4⟩
  ·exact .inr ⟨i,h1,h2,h3,h4⟩
 ·rintro (⟨i,h1,h2,h3,h4⟩ | ⟨i,h1,h2,h3,h4⟩)
  ·exact ⟨i,by rw [Nat.testBit_or,h1];rfl,h2,h3,h4⟩
  ·exact ⟨i,by rw [Nat.testBit_or,h1,Bool.or_true],h2,h3,h4⟩
theorem rch_pow0 {s:List UInt8} {m:Nat} (P:List UInt8→Prop) (h:InT s m):rch s (Pow P 0) m=m:=(rch_congr (fun _=>Iff.rfl) m).trans (rch_nil h)
theorem rch_pow (s:List UInt8) (P:List UInt8→Prop) (k m:Nat):rch s (Pow P (k+1)) m=rch s P (rch s (Pow P k) m):=(rch_congr (fun w=>Pow.snoc k w) m).trans (rch_seq s (Pow P k) P m)
theorem rch_1 {s:List UInt8} {m:Nat} {t:T} (k:t.kind=1) (h:InT s m):rch s (Mat t) m=m:=by
 obtain ⟨k',st,mn,mx,l⟩:=t;have k:k'=1:=k;subst k;exact (rch_congr (fun w=>mat_1 st mn mx l w) m).trans (rch_nil h)
def OverM (s:List UInt8) (S:ST) (m m':Nat):Prop:=∀ j,m'.testBit j=true↔1≤j∧j≤s.length∧m.testBit (j - 1)=true∧S.has (s.getD (j - 1) 0).toNat=true
theorem rch_2 {s:List UInt8} {m:Nat} {t:T} (k:t.kind=2):OverM s t.set m (rch s (Mat t) m):=fun j=>by
 obtain ⟨k',st,mn,mx,l⟩:=t;have k:k'=2:=k;subst k;rw [rch_bit]
 constructor
 ·rintro ⟨i,h1,h2,h3,h4⟩
  obtain ⟨b,hb,hs⟩:=(mat_2 st mn mx l _).1 h4;have hl:=seg_length (s:=s) (i:=i) h3;rw [hb,List.length_singleton] at hl;obtain rfl:j=i+1:=by omega
  have he:=seg_one (s:=s) (i:=i) (by omega)
  rw [hb] at he;injection he with he _;rw [Nat.add_sub_cancel];exact ⟨by omega,h3,h1,by rw [← he];exact hs⟩
 ·rintro ⟨h1,h2,h3,h4⟩
  obtain ⟨i,rfl⟩:∃ i,j=i+1:=⟨j - 1,by omega⟩
  rw [Nat.add_sub_cancel] at h3 h4;exact ⟨i,h3,by omega,h2,(mat_2 st mn mx l _).2 ⟨s.getD i 0,seg_one (by omega),h4⟩⟩
noncomputable def rchC (s:List UInt8):List T→Nat→Nat
 | [],m=>m
 | t::l,m=>rchC s l (rch s (Mat t) m)
theorem rchC_at (s:List UInt8) {L:List T} {i:Nat} {t:T} (h:L[i]?=some t) (m:Nat):rchC s (L.take (i+1)) m=rch s (Mat t) (rchC s (L.take i) m):=by
 induction L generalizing i m with
 | nil=>simp at h
 | cons u L ih =>
  cases i with
  | zero =>
   simp at h
   subst h;rw [List.take_succ_cons,List.take_zero,List.take_zero]
   rfl
  | succ i =>
   rw [List.take_succ_cons,List.take_succ_cons];exact ih (by simpa using h) (rch s (Mat u) m)
theorem rchC_in {s:List UInt8}:∀ (L:List T) {m:Nat},InT s m→InT s (rchC s L m)
 | [],_,h=>h
 | t::L,m,_=>rchC_in L (rch_in s (Mat t) m)
theorem rchC_ok {s:List UInt8}:∀ (L:List T) {m:Nat},InT s m→rch s (MCat L) m=rchC s L m
 | [],m,h=>(rch_congr (fun w=>mcat_nil w) m).trans (rch_nil h)
 | t::L,m,h=>by
  rw [rch_congr (fun w=>mcat_cons t L w) m,rch_seq s (Mat t) (MCat L) m,rchC_ok L (rch_in s (Mat t) m)]
  rfl
theorem rch_3 {s:List UInt8} {m:Nat} {t:T} (k:t.kind=3) (h:InT s m):rch s (Mat t) m=rchC s t.subs m:=by
 obtain ⟨k',st,mn,mx,l⟩:=t;have k:k'=3:=k;subst k;exact (rch_congr (fun w=>mat_3 st mn mx l w) m).trans (rchC_ok l h)
noncomputable def rchA (s:List UInt8) (m:Nat):List T→Nat
 | []=>0
 | t::l=>rch s (Mat t) m ||| rchA s m l
theorem rchA_at (s:List UInt8) (m:Nat) {L:List T} {i:Nat} {t:T} (h:L[i]?=some t):rchA s m (L.take (i+1))=rchA s m (L.take i) ||| rch s (Mat t) m:=by
 induction L generalizing i with
 | nil=>simp at h
 | cons u L ih =>
  cases i with
  | zero =>
   simp at h
   subst h;rw [List.take_succ_cons,List.take_zero,List.take_zero]
   show rch s (Mat u) m ||| 0=0 ||| rch s (Mat u) m
   rw [Nat.or_zero,Nat.zero_or]
  | succ i =>
   rw [List.take_succ_cons,List.take_succ_cons]
   show rch s (Mat u) m ||| rchA s m (L.take (i+1))=(rch s (Mat u) m ||| rchA s m (L.take i)) ||| rch s (Mat t) m
   rw [ih (by simpa using h),Nat.or_assoc]
theorem rchA_in (s:List UInt8) (m:Nat):∀ L:List T,InT s (rchA s m L)
 | []=>InT.zero s
 | t::L=>(rch_in s (Mat t) m).or (rchA_in s m L)
theorem rchA_ok (s:List UInt8) (m:Nat):∀ L:List T,rch s (MAlt L) m=rchA s m L
 | []=>rch_no (fun w=>malt_nil w) m
 | t::L=>by
  rw [rch_congr (fun w=>malt_cons t L w) m,rch_alt s (Mat t) (MAlt L) m,rchA_ok s m L]
  rfl
theorem rch_4 {s:List UInt8} {m:Nat} {t:T} (k:t.kind=4):rch s (Mat t) m=rchA s m t.subs:=by
 obtain ⟨k',st,mn,mx,l⟩:=t;have k:k'=4:=k;subst k;exact (rch_congr (fun w=>mat_4 st mn mx l w) m).trans (rchA_ok s m l)
structure Bfs (s:List UInt8) (P:List UInt8→Prop) (m lo k al now:Nat):Prop where
 lok:lo≤k
 all:∀ j,al.testBit j=true↔∃ n,lo≤n∧n≤k∧RchM s (Pow P n) m j
 sub:∀ j,now.testBit j=true→al.testBit j=true
 old:∀ i j,al.testBit i=true→¬ now.testBit i=true→i≤j→j≤s.length→P (seg s i j)→al.testBit j=true
theorem Bfs.start (s:List UInt8) (P:List UInt8→Prop) (m lo:Nat):Bfs s P m lo lo (rch s (Pow P lo) m) (rch s (Pow P lo) m) :=
 ⟨Nat.le_refl _,fun j=>by
  rw [rch_bit]
  constructor
  ·exact fun h=>⟨lo,Nat.le_refl _,Nat.le_refl _,h⟩
  ·rintro ⟨n,h1,h2,h3⟩
   obtain rfl:n=lo:=by omega
   exact h3,fun _ h=>h,fun i j h1 h2 _ _ _=>absurd h1 h2⟩
theorem Bfs.in_to {s:List UInt8} {P:List UInt8→Prop} {m lo k al now:Nat} (h:Bfs s P m lo k al now):InT s al:=fun j hj=>by
 obtain ⟨n,_,_,i,_,_,h1,_⟩:=(h.all j).1 hj;exact h1
theorem Bfs.in_now {s:List UInt8} {P:List UInt8→Prop} {m lo k al now:Nat} (h:Bfs s P m lo k al now):InT s now:=fun j hj=>h.in_to j (h.sub j hj)
theorem pow_next {s:List UInt8} {P:List UInt8→Prop} {m n i j:Nat} (h:RchM s (Pow P n) m i) (h1:i≤j) (h2:j≤s.length) (h3:P (seg s i j)):RchM s (Pow P (n+1)) m j:=by
 have:=rch_pow s P n m;rw [← rch_bit,this,rch_bit];exact ⟨i,(rch_bit s (Pow P n) m i).2 h,h1,h2,h3⟩
theorem pow_last {s:List UInt8} {P:List UInt8→Prop} {m n j:Nat} (h:RchM s (Pow P (n+1)) m j):∃ i,RchM s (Pow P n) m i∧i≤j∧j≤s.length∧P (seg s i j):=by
 have:=rch_pow s P n m;rw [← rch_bit,this,rch_bit] at h;obtain ⟨i,h1,h2⟩:=h;exact ⟨i,(rch_bit s (Pow P n) m i).1 h1,h2⟩
theorem Bfs.step {s:List UInt8} {P:List UInt8→Prop} {m lo k al now now':Nat} (h:Bfs s P m lo k al now) (hn:∀ j,now'.testBit j=true↔(rch s P now).testBit j=true∧¬ al.testBit j=true):Bfs s P m lo (k+1) (al ||| now') now':=by
 have hor:∀ j,(al ||| now').testBit j=true↔al.testBit j=true∨now'.testBit j=true:=fun j=>by rw [Nat.testBit_or,Bool.or_eq_true]
 have hgo:∀ i j,al.testBit i=true→i≤j→j≤s.length→P (seg s i j)→(al ||| now').testBit j=true:=fun i j h1 h2 h3 h4=>by
  rw [hor]
  by_cases hi:now.testBit i=true
  ·by_cases ht:al.testBit j=true
   ·exact .inl ht
   ·exact .inr ((hn j).2 ⟨(rch_bit s P now j).2 ⟨i,hi,h2,h3,h4⟩,ht⟩)
  ·exact .inl (h.old i j h1 hi h2 h3 h4)
 have hl:=h.lok;refine ⟨by omega,fun j=>⟨fun hj=>?_,?_⟩,fun j hj=>(hor j).2 (.inr hj),fun i j h1 h2 h3 h4 h5=>?_⟩
 ·rcases (hor j).1 hj with hj | hj
  ·obtain ⟨n,a1,a2,a3⟩:=(h.all j).1 hj
   exact ⟨n,a1,by omega,a3⟩
  ·obtain ⟨i,b1,b2,b3,b4⟩:=(rch_bit s P now j).1 ((hn j).1 hj).1
   obtain ⟨n,a1,a2,a3⟩:=(h.all i).1 (h.sub i b1);exact ⟨n+1,by omega,by omega,pow_next a3 b2 b3 b4⟩
 ·rintro ⟨n,a1,a2,a3⟩
  by_cases e:n≤k
  ·exact (hor j).2 (.inl ((h.all j).2 ⟨n,a1,e,a3⟩))
  ·obtain rfl:n=k+1:=by omega
   obtain ⟨i,b1,b2,b3,b4⟩:=pow_last a3;exact hgo i j ((h.all i).2 ⟨k,by omega,Nat.le_refl _,b1⟩) b2 b3 b4
 ·have hi:al.testBit i=true:=((hor i).1 h1).resolve_right h2
  exact hgo i j hi h3 h4 h5
theorem Bfs.whole {s:List UInt8} {P:List UInt8→Prop} {m lo k al:Nat} (h:Bfs s P m lo k al 0) (n j:Nat) (hn:lo≤n) (hj:RchM s (Pow P n) m j):al.testBit j=true:=by
 induction n generalizing j with
 | zero=>exact (h.all j).2 ⟨0,hn,Nat.zero_le _,hj⟩
 | succ n ih =>
  by_cases e:lo≤n
  ·obtain ⟨i,b1,b2,b3,b4⟩:=pow_last hj
   exact h.old i j (ih i e b1) (by rw [Nat.zero_testBit];simp) b2 b3 b4
  ·have:=h.lok
   exact (h.all j).2 ⟨n+1,hn,by omega,hj⟩
theorem rch_5a {s:List UInt8} {m:Nat} {u:T} {l:List T} (st:ST) (mn mx:Int) (hm:0≤mn) (hx:mx=-1∨mn≤mx) (b:Bool) (hb:b=true↔Mat u []) {k al now lo:Nat} (hlo:lo=if b=true then 0 else mn.toNat)
  (h:Bfs s (Mat u) m lo k al now) (hkx:mx=-1∨(k:Int)≤mx) (he:now=0∨(k:Int)=mx):rch s (Mat (.nd 5 st mn mx (u::l))) m=al:=by
 refine bit_ext fun j=>?_
 rw [rch_bit];have hmat:RchM s (Mat (.nd 5 st mn mx (u::l))) m j↔∃ n:Nat,mn≤n∧(mx<0∨(n:Int)≤mx)∧RchM s (Pow (Mat u) n) m j:=by
  constructor
  ·rintro ⟨i,h1,h2,h3,h4⟩
   obtain ⟨n,a1,a2,a3⟩:=(mat_5 st mn mx _ _).1 h4;exact ⟨n,a1,a2,i,h1,h2,h3,(Pow.congr (fun w=>mhd_cons u l w) n _).1 a3⟩
  ·rintro ⟨n,a1,a2,i,h1,h2,h3,h4⟩
   exact ⟨i,h1,h2,h3,(mat_5 st mn mx _ _).2 ⟨n,a1,a2,(Pow.congr (fun w=>mhd_cons u l w) n _).2 h4⟩⟩
 rw [hmat];clear hmat;have hlok:=h.lok
 constructor
 ·rintro ⟨n,a1,a2,a3⟩
  have hlo:lo≤n:=by
   rw [hlo]
   split <;> omega
  rcases he with rfl | he
  ·exact h.whole n j hlo a3
  ·have hk:n≤k:=by
    clear a3 h;omega
   exact (h.all j).2 ⟨n,hlo,hk,a3⟩
 ·intro hj
  obtain ⟨n,a1,a2,a3⟩:=(h.all j).1 hj;have hmx:mx<0∨(n:Int)≤mx:=by
   clear a3 h;omega
  by_cases hbt:b=true
  ·have hnil:=hb.1 hbt
   by_cases hn:mn≤n
   ·exact ⟨n,hn,hmx,a3⟩
   ·obtain ⟨i,h1,h2,h3,h4⟩:=a3
    have b1:mn≤(mn.toNat:Int):=by omega
    have b2:mx<0∨(mn.toNat:Int)≤mx:=by
     clear h4 h;omega
    exact ⟨mn.toNat,b1,b2,i,h1,h2,h3,Pow.more hnil (by omega) h4⟩
  ·rw [if_neg hbt] at hlo
   have b1:mn≤(n:Int):=by
    clear a3 h;omega
   exact ⟨n,b1,hmx,a3⟩
theorem rch_5 {s:List UInt8} {m:Nat} {t u:T} {l:List T} (hk:t.kind=5) (hs:t.subs=u::l) (hm:0≤t.mn) (hx:t.mx=-1∨t.mn≤t.mx) (b:Bool) (hb:b=true↔Mat u []) {k al now lo:Nat} (hlo:lo=if b=true then 0 else t.mn.toNat)
  (h:Bfs s (Mat u) m lo k al now) (hkx:t.mx=-1∨(k:Int)≤t.mx) (he:now=0∨(k:Int)=t.mx):rch s (Mat t) m=al:=by
 obtain ⟨k',st,mn,mx,l'⟩:=t
 dsimp only [T.kind,T.subs,T.mn,T.mx] at *
 subst hk hs;exact rch_5a st mn mx hm hx b hb hlo h hkx he
def fre (s:List UInt8) (m:Nat):Nat:=(List.range (s.length+1)).countP fun j=>!m.testBit j
theorem fre_le (s:List UInt8) (m:Nat):fre s m≤s.length+1:=by
 unfold fre;exact Nat.le_trans List.countP_le_length (by simp)
theorem fre_or {s:List UInt8} {a b:Nat} (hb:InT s b) (h0:b≠0) (hd:∀ j,b.testBit j=true→¬ a.testBit j=true):fre s (a ||| b)<fre s a:=by
 obtain ⟨j,hj⟩:∃ j,b.testBit j=true:=Nat.exists_testBit_of_ne_zero h0;have h1:=hb j hj;have h2:=hd j hj;unfold fre;generalize hL:List.range (s.length+1)=L;have hmem:j ∈ L:=by rw [← hL,List.mem_range];omega
 clear hL;have hle:∀ L:List Nat,L.countP (fun j=>!(a ||| b).testBit j)≤L.countP (fun j=>!a.testBit j):=fun L =>
  List.countP_mono_left fun x _ hx=>by
   rw [Nat.testBit_or] at hx
   simp at hx ⊢
   exact hx.1
 induction L with
 | nil=>simp at hmem
 | cons x L ih =>
  rw [List.countP_cons,List.countP_cons]
  rcases List.mem_cons.1 hmem with rfl | hm
  ·have e1:(!(a ||| b).testBit j)=false:=by rw [Nat.testBit_or,hj];simp
   have e2:(!a.testBit j)=true:=by simpa using h2
   rw [e1,e2,if_neg (by decide),if_pos rfl]
   have:=hle L;omega
  ·have:=ih hm
   have h5:(if (!(a ||| b).testBit x)=true then 1 else 0)≤(if (!a.testBit x)=true then 1 else 0):=by
    rw [Nat.testBit_or]
    cases a.testBit x <;> cases b.testBit x <;> simp
   omega
def wout (x y:Nat):Nat:=x &&& (18446744073709551615 - y)
theorem wout_bit {x y:Nat} (hx:x<18446744073709551616) (hy:y<18446744073709551616) (j:Nat):(wout x y).testBit j=true↔x.testBit j=true∧¬ y.testBit j=true:=by
 unfold wout;rw [Nat.testBit_and,Bool.and_eq_true];have e:(18446744073709551615 - y).testBit j=(decide (j<64) && !y.testBit j):=by
  rw [show 18446744073709551615 - y=2 ^ 64 - (y+1) by omega]
  exact Nat.testBit_two_pow_sub_succ hy j
 rw [e]
 constructor
 ·rintro ⟨h1,h2⟩
  simp at h2
  exact ⟨h1,by simp [h2.2]⟩
 ·rintro ⟨h1,h2⟩
  have hj:j<64:=by
   refine Decidable.byContradiction fun hn=>?_
   rw [Nat.testBit_lt_two_pow (Nat.lt_of_lt_of_le hx (show 18446744073709551616≤2 ^ j from Nat.pow_le_pow_right (n:=2) (i:=64) (by omega) (by omega)))] at h1
   cases h1
  exact ⟨h1,by simp [hj,h2]⟩
end P11
namespace P11
open Go.RowKit Base Bytes P07 P08 P09
open Sets (ST)
def fewL (s:List UInt8) (t:T):Bool:=decide (sz t≤200) && (decide (s.length≤40) && (!rightB t || decide (wd t≤3000)))
theorem few11_any (t:T) (hs:SOk t) (hc:cnt t≤1000000000) (s:List UInt8) (a:Option Addr) (c:Nat) (w:World) (hL:Lie w (fun _=>True) a t.subs) :
  Calls Tryd.prog 5 #[nodeV t a c,.string ⟨s.toArray⟩] w fun e w'=>e=.returned (.bool (fewL s t))∧Keep (fun _=>False) w w':=by
 have hsz:=P07.size_str s;have HW:=hid (fun W (q:Keep (fun _=>False) w W)=>few_any t hc a c W (hL.keepF q))
 have HR:=hid (fun W (q:Keep (fun _=>False) w W)=>fright_any t hc a c W (hL.keepF q))
 have HD:=hid (fun (hr:rightB t=true) W (q:Keep (fun _=>False) w W)=>fwide_any t 12 ((rightB_iff hs).1 hr) a c W (hL.keepF q))
 have hEq:fewL s t=(decide (sz t≤200) && (decide (s.length≤40) && (!rightB t || decide (wd t≤3000)))):=rfl
 rw [hEq];obtain ⟨d0,d1,d2,d3,d4,d5,d6,d7⟩:=(Bx.new (c:=c) hL).eight;have B0:=hid (Bx.new (c:=c) hL);have QA:=hid ((Keep.refl (fun _=>False) w).alloc (.cells (ncells t a c) 27))
 generalize wd t=V at *;obtain ⟨z,hz⟩:∃ z,decide (sz t≤200)=z:=⟨_,rfl⟩;obtain ⟨r,hr⟩:∃ r,rightB t=r:=⟨_,rfl⟩;rw [hz] at HW ⊢;rw [hr] at HR HD ⊢;clear hL hs hEq hr hz hc
 go_enter Tryd.func5,Tryd.ntmps5
 go_upto_region 1 with fail;generalize (w.alloc (.cells (ncells t a c) 27))=W at *
 cases z with
 | false =>
  go_wp2_with fail;refine (HW.out _ QA.out).mono ?_;rintro e w1 ⟨rfl,q1⟩;have Q1:=hid (QA.out.trans q1);clear d0 d1 d2 d3 d4 d5 d6 d7 q1;go_wp2_with fail;go_ret;exact ⟨rfl,Q1.out⟩
 | true =>
  go_wp2_with fail;refine (HW.out _ QA.out).mono ?_;rintro e w1 ⟨rfl,q1⟩;have B1:=B0.out.keep q1;have Q1:=hid (QA.out.trans q1);clear d0 d1 d2 d3 d4 d5 d6 d7 q1;obtain ⟨d0,d1,d2,d3,d4,d5,d6,d7⟩:=B1.eight;have BB1:=hid B1;clear B1
  by_cases hl:s.length≤40
  ·have hl':(s.length:Int)≤40:=by omega
   have HL:=hid (decide_eq_true hl);clear hl;go_wp2_with fail;refine (HR.out _ Q1.out).mono ?_;rintro e w2 ⟨rfl,q2⟩;have B2:=BB1.out.keep q2;have Q2:=hid (Q1.out.trans q2);clear d0 d1 d2 d3 d4 d5 d6 d7 q2
   cases r with
   | false =>
    clear B2;go_wp2_with fail;go_ret;exact ⟨by rw [HL.out];rfl,Q2.out⟩
   | true =>
    obtain ⟨d0,d1,d2,d3,d4,d5,d6,d7⟩:=B2.eight;clear B2;go_wp2_with fail;refine (HD.out (by first | exact rfl | exact trivial) _ Q2.out).mono ?_
    rintro e w3 ⟨rfl,q3⟩;have Q3:=hid (Q2.out.trans q3);clear d0 d1 d2 d3 d4 d5 d6 d7 q3;go_wp2_with fail;go_ret;exact ⟨by rw [HL.out];rfl,Q3.out⟩
  ·have hl':¬ (s.length:Int)≤40:=by omega
   have HL:=hid (decide_eq_false hl);clear hl;go_wp2_with fail;go_ret;exact ⟨by rw [HL.out];rfl,Q1.out⟩
end P11
end Go.Proofs.YthcjfgfbeollpaaDoor
