/- Same of two expressions (layer 7): the document's own, by structure. -/
import Derived.Test.YthcjfgfbeollpaaDoorKB16
import Derived.Laws.StructEq
import Derived.Laws.Tables
import Derived.Deep.RegionHeld3
import Derived.Test.YthcjfgfbeollpaaDoorKB01
import Derived.Test.YthcjfgfbeollpaaDoorKB03
set_option maxRecDepth 100000
set_option maxHeartbeats 32000000
open Go.Lib (hid)
namespace Go.Proofs.YthcjfgfbeollpaaDoor
namespace Bytes
open Go.RowKit Base Sets
theorem eq_set4 (a0 a1 a2 a3 b0 b1 b2 b3:Int) (w:World):(Op.equalIn 10000 24 (.agg #[.int .u64 a0,.int .u64 a1,.int .u64 a2,.int .u64 a3]) (.agg #[.int .u64 b0,.int .u64 b1,.int .u64 b2,.int .u64 b3])).run Tryd.prog w=.ok (a0 == b0 && (a1 == b1 && (a2 == b2 && a3 == b3))) w:=by
 have u3:=Tryd.underlying22;have a3':=Tryd.isAgg22;have z3:=Tryd.sizeOf22;rw [show (10000:Nat)=9999+1 from rfl,Op.equalIn]
 simp only [Sem.run_bind,run_underlying Tryd.underlying24,Result.andThen_ok]
 simp only [Std.Legacy.Range.forIn_eq_forIn_range',Std.Legacy.Range.size,Nat.sub_zero,Nat.add_sub_cancel,Nat.div_one,List.range'_succ,List.range'_zero,List.forIn_cons,List.forIn_nil]
 go_simp
 by_cases h1:a0=b0 <;> by_cases h2:a1=b1 <;> by_cases h3:a2=b2 <;> by_cases h4:a3=b3 <;> simp [h1,h2,h3,h4]
def eqB (s t:ST):Bool:=(s.x0:Int) == t.x0 && ((s.x1:Int) == t.x1 && ((s.x2:Int) == t.x2 && (s.x3:Int) == t.x3))
theorem eqB_iff {s t:ST}:eqB s t=true↔s=t:=by
 obtain ⟨a0,a1,a2,a3⟩:=s;obtain ⟨b0,b1,b2,b3⟩:=t;unfold eqB
 simp only [Bool.and_eq_true,beq_iff_eq,ST.mk.injEq]
 omega
theorem eqB_refl (s:ST):eqB s s=true:=eqB_iff.2 rfl
theorem eqB_ne {s t:ST} (h:s≠t):eqB s t=false:=by
 cases e:eqB s t
 ·rfl
 ·exact absurd (eqB_iff.1 e) h
theorem eq_set (s t:ST) (w:World):(Op.equalIn 10000 24 (val s) (val t)).run Tryd.prog w=.ok (eqB s t) w:=eq_set4 _ _ _ _ _ _ _ _ w
end Bytes
namespace P07
open Go.RowKit Base IL Bytes
open Sets (ST)
theorem T.ext {a b:T} (h1:a.kind=b.kind) (h2:a.set=b.set) (h3:a.mn=b.mn) (h4:a.mx=b.mx) (h5:a.subs=b.subs):a=b:=by
 cases a
 cases b
 unfold T.kind T.set T.mn T.mx T.subs at *
 dsimp only at *
 subst h1 h2 h3 h4 h5
 rfl
theorem sub_less {a t:T} {i:Nat} (h:a.subs[i]?=some t):SizeOf.sizeOf t<SizeOf.sizeOf a:=by
 cases a with
 | nd k s m x l =>
  have h1:=List.sizeOf_lt_of_mem (List.mem_of_getElem? h);have e:(T.nd k s m x l).subs=l:=rfl;rw [e] at h1
  simp
  omega
theorem ncell {w:World} {bl o:Nat} {t:T} {a:Option Addr} {c:Nat} (h:∀ j v,(ncells t a c)[j]?=some v→w.cell? ⟨bl,o+j,none⟩=some v) :
  w.cell? ⟨bl,o,none⟩=some (.int .i64 t.kind)∧w.cell? ⟨bl,o+1,none⟩=some (.int .u64 t.set.x0)∧w.cell? ⟨bl,o+2,none⟩=some (.int .u64 t.set.x1)∧w.cell? ⟨bl,o+3,none⟩=some (.int .u64 t.set.x2)∧w.cell? ⟨bl,o+4,none⟩=some (.int .u64 t.set.x3)∧w.cell? ⟨bl,o+5,none⟩=some (.int .i64 t.mn)∧w.cell? ⟨bl,o+6,none⟩=some (.int .i64 t.mx)∧w.cell? ⟨bl,o+7,none⟩=some (.slice a t.subs.length c) :=
 ⟨h 0 _ rfl,h 1 _ rfl,h 2 _ rfl,h 3 _ rfl,h 4 _ rfl,h 5 _ rfl,h 6 _ rfl,h 7 _ rfl⟩
end P07
namespace P07
open Go.RowKit Base IL Bytes
mutual
def cnt:T→Nat
 | .nd _ _ _ _ l=>1+cntL l
def cntL:List T→Nat
 | []=>0
 | t::l=>cnt t+cntL l
end
mutual
def dep:T→Nat
 | .nd _ _ _ _ l=>depL l+1
def depL:List T→Nat
 | []=>0
 | t::l=>max (dep t) (depL l)
end
mutual
def sz:T→Nat
 | .nd _ _ _ _ l=>szL 1 l
def szL (k:Nat):List T→Nat
 | []=>k
 | t::l=>if k≤600 then szL (k+sz t) l else k
end
theorem cnt_eq (t:T):cnt t=1+cntL t.subs:=by cases t;rw [cnt];rfl
theorem sz_eq (t:T):sz t=szL 1 t.subs:=by cases t;rw [sz];rfl
theorem cntL_append:∀ (L M:List T),cntL (L++M)=cntL L+cntL M
 | [],M=>by rw [List.nil_append,cntL];omega
 | t::L,M=>by rw [List.cons_append,cntL,cntL,cntL_append L M];omega
theorem cntL_le {L:List T} {i:Nat} {t:T} (h:L[i]?=some t):cnt t≤cntL L:=by
 obtain ⟨M,N,rfl⟩:=List.append_of_mem (List.mem_of_getElem? h);rw [cntL_append,cntL];omega
end P07
namespace P07
open Go.RowKit Base IL Bytes
theorem szL_le:∀ (L:List T) (k:Nat),(∀ t ∈ L,sz t≤cnt t)→szL k L≤k+cntL L
 | [],k,_=>by rw [szL,cntL];omega
 | t::L,k,h=>by
  rw [szL,cntL];have h1:=h t (by simp)
  split
  ·have:=szL_le L (k+sz t) (fun x hx=>h x (by simp [hx]))
   omega
  ·omega
theorem sz_le_cnt:∀ n (t:T),SizeOf.sizeOf t<n→sz t≤cnt t
 | 0,_,h=>absurd h (Nat.not_lt_zero _)
 | n+1,t,h=>by
  rw [sz_eq,cnt_eq]
  exact szL_le _ _ (fun s hs=>by
   obtain ⟨i,hi⟩:=List.mem_iff_getElem?.1 hs
   exact sz_le_cnt n s (by have:=sub_less hi;omega))
theorem sz_cnt (t:T):sz t≤cnt t:=sz_le_cnt _ t (Nat.lt_succ_self _)
theorem szL_ge:∀ (L:List T) (k:Nat),k≤szL k L
 | [],k=>by rw [szL];omega
 | t::L,k=>by
  rw [szL]
  split
  ·have:=szL_ge L (k+sz t)
   omega
  ·omega
theorem szL_exact:∀ (L:List T) (k:Nat),(∀ t ∈ L,sz t≤600→sz t=cnt t)→szL k L≤600→szL k L=k+cntL L
 | [],k,_,_=>by rw [szL,cntL];omega
 | t::L,k,h,h6=>by
  rw [szL] at h6 ⊢;rw [cntL]
  split at h6
  ·rename_i hk
   rw [if_pos hk];have h1:=szL_ge L (k+sz t);have h2:=h t (by simp) (by omega)
   rw [szL_exact L (k+sz t) (fun x hx=>h x (by simp [hx])) h6]
   omega
  ·omega
theorem sz_exact:∀ n (t:T),SizeOf.sizeOf t<n→sz t≤600→sz t=cnt t
 | 0,_,h,_=>absurd h (Nat.not_lt_zero _)
 | n+1,t,h,h6=>by
  rw [sz_eq] at h6 ⊢;rw [cnt_eq]
  exact szL_exact _ _ (fun s hs=>by
   obtain ⟨i,hi⟩:=List.mem_iff_getElem?.1 hs
   exact sz_exact n s (by have:=sub_less hi;omega)) h6
theorem few_cnt {t:T} (h:sz t≤200):cnt t≤200:=by
 have:=sz_exact _ t (Nat.lt_succ_self _) (by omega)
 omega
theorem size_all:∀ (n:Nat) (t:T),SizeOf.sizeOf t<n→cnt t≤1000000000→∀ (a:Option Addr) (c:Nat) (w:World),Lie w (fun _=>True) a t.subs →
  Calls Tryd.prog 20 #[nodeV t a c] w fun e w'=>e=.returned (.int .i64 (sz t))∧Keep (fun _=>False) w w'
 | 0,_,h,_,_,_,_,_=>absurd h (Nat.not_lt_zero _)
 | n+1,t,h,hc,a,c,w,hL=>by
  have hlen:=hL.len;have a0:=At.new w (ncells t a c) 27;have q:=(Keep.refl (fun _=>False) w).alloc (.cells (ncells t a c) 27)
  have H0:=hid (And.intro a0 (And.intro q (And.intro hL (size_all n))));have hsc:=sz_cnt t;rw [cnt_eq] at hc hsc;rw [sz_eq] at hsc ⊢;obtain ⟨D,hD⟩:∃ D,szL 1 t.subs=D:=⟨_,rfl⟩;rw [hD] at hsc ⊢;have HD0:=hid hD;clear a0 q hL hD
  go_enter Tryd.func20,Tryd.ntmps20
  go_wp2_with fail;generalize (w.alloc (.cells (ncells t a c) 27))=W at *
  go_loopg [3,4] t.subs.length (fun gg m i wr=>∃ k s:Nat,i=.int .i64 k∧k+gg=t.subs.length∧m=.int .i64 s∧s≤1000000000∧szL s (t.subs.drop k)=D∧Keep (fun _=>False) W wr)
  case atStart=>exact ⟨0,1,rfl,by omega,rfl,by omega,by rw [List.drop_zero];exact HD0.out,Keep.refl _ _⟩
  case round =>
   obtain ⟨k,m,rfl,hk,rfl,hm,hE,hq⟩:=hrel;have A0:=H0.out.1.keep hq (fun h=>h)
   have c7:wr.cell? ⟨w.heap.size,7,none⟩=some (.slice a t.subs.length c):=A0.cell (o:=7) rfl
   by_cases hlt:k<t.subs.length
   ·have hlt':(k:Int)<t.subs.length:=by omega
    obtain ⟨s,hs⟩:∃ s,t.subs[k]?=some s:=⟨t.subs[k],List.getElem?_eq_getElem hlt⟩;have hdr:t.subs.drop k=s::t.subs.drop (k+1):=by
     have e:=List.getElem?_eq_some_iff.1 hs;rw [← e.2];exact List.drop_eq_getElem_cons hlt
    rw [hdr,szL] at hE
    by_cases h6:m≤600
    ·rw [if_pos h6] at hE
     have h6':(m:Int)≤600:=by omega
     obtain ⟨bl,off,a1,c1,rfl,-,-,-,L1,C1⟩:=(H0.out.2.2.1.keepF (H0.out.2.1.trans hq)).get hs;obtain ⟨d0,d1,d2,d3,d4,d5,d6,d7⟩:=ncell C1;have hsl:=sub_less hs;have hcl:=cntL_le hs;have hcall:=H0.out.2.2.2 s (by omega) (by omega) a1 c1 wr L1
     have hsz:=sz_cnt s;have hle:m+sz s≤1000000000:=by
      have:=szL_ge (t.subs.drop (k+1)) (m+sz s);omega
     have HQ:=hid (And.intro hq (And.intro hcall hE));clear hq hcall hs L1 C1 A0 hdr hE;generalize sz s=d at *;have i0:(0:Int)≤k:=by omega
     have w1:IntKind.i64.wrap ((m:Int)+d)=(m:Int)+d:=by rw [IntKind.wrap_i64];omega
     go_wp2_with fail;refine HQ.out.2.1.mono ?_;rintro e w2 ⟨rfl,q2⟩;have Q2:=hid q2;clear q2;go_wp2_with fail
     go_roundg (t.subs.length - (k+1))
     case measure=>omega
     case rel=>exact ⟨k+1,m+d,by go_num,by omega,by first | rfl | (congr 1),hle,HQ.out.2.2,HQ.out.1.trans Q2.out⟩
    ·rw [if_neg h6] at hE
     subst hE;have h6':¬ (m:Int)≤600:=by omega
     have HQ:=hid hq;clear hq A0 hs hdr;go_wp2_with fail;go_ret;exact ⟨rfl,H0.out.2.1.trans HQ.out⟩
   ·have hke:k=t.subs.length:=by omega
    subst hke;rw [List.drop_length,szL] at hE;subst hE;have HQ:=hid hq;clear hq A0;go_wp2_with fail;go_ret;exact ⟨rfl,H0.out.2.1.trans HQ.out⟩
theorem few_any (t:T) (hc:cnt t≤1000000000) (a:Option Addr) (c:Nat) (w:World) (hL:Lie w (fun _=>True) a t.subs) :
  Calls Tryd.prog 13 #[nodeV t a c] w fun e w'=>e=.returned (.bool (decide (sz t≤200)))∧Keep (fun _=>False) w w':=by
 have H:=hid (size_all _ t (Nat.lt_succ_self _) hc a c);have HL:=hid hL;clear hL
 by_cases h2:sz t≤200
 ·have h2':(sz t:Int)≤200:=by omega
  have he:=decide_eq_true h2;rw [he];clear he h2
  go_enter Tryd.func13,Tryd.ntmps13
  go_wp2_with fail;refine (H.out _ (by first | exact HL.out | exact HL.out.keepF ((Keep.refl _ _).alloc _))).mono ?_
  rintro e w2 ⟨rfl,q2⟩;have Q2:=hid q2;clear q2;go_wp2_with fail;go_ret;exact ⟨rfl,by first | exact Q2.out | exact ((Keep.refl (fun _=>False) w).alloc _).trans Q2.out⟩
 ·have h2':¬ (sz t:Int)≤200:=by omega
  have HF:=hid h2';have he:=decide_eq_false h2;rw [he];clear he h2
  go_enter Tryd.func13,Tryd.ntmps13
  go_wp2_with fail;refine (H.out _ (by first | exact HL.out | exact HL.out.keepF ((Keep.refl _ _).alloc _))).mono ?_
  rintro e w2 ⟨rfl,q2⟩;have Q2:=hid q2;clear q2;go_wp2_with fail;go_ret;exact ⟨by first | rfl | exact ret_bool (decide_eq_false (by have:=HF.out;omega)),by first | exact Q2.out | exact ((Keep.refl (fun _=>False) w).alloc _).trans Q2.out⟩
end P07
namespace P07
open Go.RowKit Base IL Bytes
open Sets (ST)
theorem one_range (l:List UInt8) (s:PS):0≤(one l s).1∧(one l s).1≤255:=by
 have hn:∀ s:PS,-1≤nxt l s∧nxt l s<256:=fun s=>nxt_range l s
 unfold one oneB
 split
 ·rename_i h
  have:=hn s;have h0:0≤nxt l s:=by
   by_cases h1:0≤nxt l s
   ·exact h1
   ·rw [plainI_no (by omega)] at h
    cases h
  dsimp only
  omega
 ·split
  ·unfold escP escB
   split
   ·unfold two
    have h1:=digit_range l s.adv.adv;have h2:=digit_range l (digit l s.adv.adv).2
    dsimp only
    omega
   ·split
    ·dsimp only
     omega
    ·split
     ·dsimp only
      omega
     ·split
      ·rename_i h
       have:=hn s.adv;have h0:0≤nxt l s.adv:=by
        by_cases h1:0≤nxt l s.adv
        ·exact h1
        ·rw [nxt_neg h1] at h
         exact absurd h (by decide)
       dsimp only
       omega
      ·dsimp only
       omega
  ·dsimp only
   omega
theorem upto_lt {lo hi:Int} (h0:0≤lo) (h1:hi≤255):∀ x ∈ upto lo hi,x<256:=fun x hx=>by
 obtain ⟨i,hi',rfl⟩:=List.mem_map.1 hx;have:=List.mem_range.1 hi';omega
@[reducible] def nzeros:Array Value:=#[.int .i64 0,.int .u64 0,.int .u64 0,.int .u64 0,.int .u64 0,.int .i64 0,.int .i64 0,.slice none 0 0]
end P07
namespace P07
open Go.RowKit Base IL Bytes RSet
open Sets (ST)
structure InGood (l:List UInt8) (RA:List Nat) (RS:PS) (f:Nat) (acc:List Nat) (lo hi:Int) (s:PS):Prop where
 eq:setP f (acc++upto lo hi) l s=(RA,RS)
 lt:∀ x ∈ acc,x<256
 pos:s.bad=none→s.pos≤l.length∧acc.length+256≤256 * s.pos∧l.length+2≤s.pos+f
 near:s.pos≤l.length∧acc.length+256≤256 * (l.length+1)
 lo:0≤lo∧lo≤255
 hi:0≤hi∧hi≤255
end P07
end Go.Proofs.YthcjfgfbeollpaaDoor
