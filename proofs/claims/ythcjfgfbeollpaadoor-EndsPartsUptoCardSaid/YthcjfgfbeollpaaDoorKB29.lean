/- The code's bracketed, timesRight, fieldsRight (layer 8). -/
import Derived.Test.YthcjfgfbeollpaaDoorKB28
import Derived.Test.YthcjfgfbeollpaaDoorKB27
set_option maxRecDepth 100000
set_option maxHeartbeats 32000000
open Go.Lib (hid)
namespace Go.Proofs.YthcjfgfbeollpaaDoor
namespace P08
open Go.RowKit Base Bytes P07
open Sets (ST)
structure NodeP (w:World) (bl o:Nat) (t:T) (a:Option Addr) (c:Nat):Prop where
 lt:bl<w.heap.size
 cs:∀ j v,(ncells t a c)[j]?=some v→w.cell? ⟨bl,o+j,none⟩=some v
theorem NodeP.keep {S:Nat→Prop} {w w':World} {bl o:Nat} {t:T} {a:Option Addr} {c:Nat} (h:NodeP w bl o t a c) (q:Keep S w w') (hS:¬ S bl):NodeP w' bl o t a c :=
 ⟨Nat.lt_of_lt_of_le h.lt q.size,fun j v hv=>(q.cell (a:=⟨bl,o+j,none⟩) h.lt hS).trans (h.cs j v hv)⟩
theorem NodeP.keepF {w w':World} {bl o:Nat} {t:T} {a:Option Addr} {c:Nat} (h:NodeP w bl o t a c) (q:Keep (fun _=>False) w w'):NodeP w' bl o t a c:=h.keep q (fun h=>h)
theorem NodeP.of_at {w:World} {b:Nat} {t:T} {a:Option Addr} {c:Nat} {ty:TypeId} (h:At w b ty (ncells t a c)):NodeP w b 0 t a c :=
 ⟨h.lt,fun j v hv=>by rw [Nat.zero_add];exact h.cell hv⟩
theorem NodeP.eight {w:World} {bl o:Nat} {t:T} {a:Option Addr} {c:Nat} (h:NodeP w bl o t a c) :
  w.cell? ⟨bl,o,none⟩=some (.int .i64 t.kind)∧w.cell? ⟨bl,o+1,none⟩=some (.int .u64 t.set.x0)∧w.cell? ⟨bl,o+2,none⟩=some (.int .u64 t.set.x1)∧w.cell? ⟨bl,o+3,none⟩=some (.int .u64 t.set.x2)∧w.cell? ⟨bl,o+4,none⟩=some (.int .u64 t.set.x3)∧w.cell? ⟨bl,o+5,none⟩=some (.int .i64 t.mn)∧w.cell? ⟨bl,o+6,none⟩=some (.int .i64 t.mx)∧w.cell? ⟨bl,o+7,none⟩=some (.slice a t.subs.length c) :=
 ⟨h.cs 0 _ rfl,h.cs 1 _ rfl,h.cs 2 _ rfl,h.cs 3 _ rfl,h.cs 4 _ rfl,h.cs 5 _ rfl,h.cs 6 _ rfl,h.cs 7 _ rfl⟩
theorem brk_is {k j:Int} {r:Bool} (hr:rnd k j=r) (w:World):Calls Tryd.prog 39 #[.int .i64 k,.int .i64 j] w fun e w'=>e=.returned (.bool r)∧w=w':=by
 subst hr
 go_enter Tryd.func39,Tryd.ntmps39
 go_wp2_with fail
 all_goals
  go_ret;refine ⟨Bytes.ret_bool ?_,rfl⟩;rw [Bool.eq_iff_iff];unfold rnd
  try simp_all
  try omega
def tmsB (lo hi:Int):Bool:=decide (0≤lo) && (decide (lo≤20) && (decide (hi=-1) || (decide (lo≤hi) && decide (hi≤20))))
theorem tms_is {lo hi:Int} {r:Bool} (hr:tmsB lo hi=r) (w:World):Calls Tryd.prog 48 #[.int .i64 lo,.int .i64 hi] w fun e w'=>e=.returned (.bool r)∧w=w':=by
 subst hr
 go_enter Tryd.func48,Tryd.ntmps48
 go_wp2_with fail
 all_goals
  go_ret;refine ⟨Bytes.ret_bool ?_,rfl⟩;rw [Bool.eq_iff_iff];unfold tmsB
  try simp_all
  try omega
theorem fields_any (t:T) (bl o:Nat) (a:Option Addr) (c:Nat) (w:World) (h:NodeP w bl o t a c):Calls Tryd.prog 38 #[.pointer (some ⟨bl,o,none⟩)] w fun e w'=>e=.returned (.bool (bareB t))∧Keep (fun _=>False) w w':=by
 obtain ⟨E,hE⟩:∃ E,eqB t.set ST.none=E:=⟨_,rfl⟩;have es:∀ W,(Op.equalIn 10000 24 (.agg #[.int .u64 (t.set.x0:Int),.int .u64 (t.set.x1:Int),.int .u64 (t.set.x2:Int),.int .u64 (t.set.x3:Int)]) (.agg #[.int .u64 0,.int .u64 0,.int .u64 0,.int .u64 0])).run Tryd.prog W=.ok E W:=fun W=>by
  rw [← hE];exact eq_set t.set ST.none W
 have HE:=hid hE;have HP:=hid h;have hk:(t.kind == 1)=true∨((t.kind == 1)=false∧(t.kind == 2)=true)∨True:=.inr (.inr trivial);obtain ⟨c0,c1,c2,c3,c4,c5,c6,c7⟩:=h.eight;clear hE h hk;obtain ⟨R,hR⟩:∃ R,tmsB t.mn t.mx=R:=⟨_,rfl⟩;have HR:=hid hR;clear hR;have hz:((t.mn == 0)=true∧(t.mx == 0)=true∧t.mn=0∧t.mx=0)∨((t.mn == 0)=true∧(t.mx == 0)=false∧¬ (t.mn=0∧t.mx=0))∨((t.mn == 0)=false∧¬ (t.mn=0∧t.mx=0)):=by
  by_cases h1:t.mn=0 <;> by_cases h2:t.mx=0 <;> simp [h1,h2]
 have q:∀ k,Keep (fun _=>False) w (w.drewN k):=fun k=>(Keep.refl _ w).drewN k
 have HQ:=hid q;clear q
 by_cases h5:t.kind=5
 ·have k1:(t.kind == 1)=false:=by simp [h5]
  have k2:(t.kind == 2)=false:=by simp [h5]
  have k3:(t.kind == 3)=false:=by simp [h5]
  have k4:(t.kind == 4)=false:=by simp [h5]
  have k5:(t.kind == 5)=true:=by simp [h5]
  have hb:bareB t=(E && (decide (t.subs.length=1) && R)):=by
   unfold bareB;rw [if_neg (by omega),if_neg (by omega),if_neg (by omega),if_pos h5,HE.out,← HR.out]
   rfl
  rw [hb];clear hb h5;have hl:(((t.subs.length:Int) == 1)=true∧t.subs.length=1)∨(((t.subs.length:Int) == 1)=false∧¬ t.subs.length=1):=by
   by_cases h1:t.subs.length=1
   ·exact .inl ⟨by simp [h1],h1⟩
   ·exact .inr ⟨by simp;omega,h1⟩
  rcases hz with ⟨z1,z2,-,-⟩ | ⟨z1,z2,-⟩ | ⟨z1,-⟩
  all_goals
   rcases hl with ⟨l1,l2⟩ | ⟨l1,l2⟩
  all_goals
   have HL:=hid l2;clear l2
   cases E <;> cases R
  all_goals
   go_enter Tryd.func38,Tryd.ntmps38
   go_wp2_with fail
   go_quiet (fail)
   go_wp2_with fail
   go_quiet ((go_at_call 48;exact quiet_same2 (tms_is HR.out _)))
   go_wp2_with fail;go_ret;exact ⟨Bytes.ret_bool (by simp [HL.out]),(HQ.out _).drewN _⟩
 ·have k5:(t.kind == 5)=false:=by simp [h5]
  have H5:=hid h5;clear h5
  rcases hz with ⟨z1,z2,z3,z4⟩ | ⟨z1,z2,z3⟩ | ⟨z1,z3⟩
  ·have HZ:=hid (And.intro z3 z4)
   clear z3 z4
   cases E
   all_goals
    go_enter Tryd.func38,Tryd.ntmps38
    go_wp2_with fail
    go_quiet (fail)
    go_wp2_with fail
    all_goals
     go_ret;refine ⟨Bytes.ret_bool ?_,HQ.out _⟩;have h5:=H5.out;have hz:=HZ.out;rw [Bool.eq_iff_iff];unfold bareB;rw [HE.out];clear es HE c0 c1 c2 c3 c4 c5 c6 c7
     try simp_all
     try omega
  ·have HZ:=hid z3
   clear z3
   cases E
   all_goals
    go_enter Tryd.func38,Tryd.ntmps38
    go_wp2_with fail
    go_quiet (fail)
    go_wp2_with fail
    all_goals
     go_ret;refine ⟨Bytes.ret_bool ?_,HQ.out _⟩;have h5:=H5.out;have hz:=HZ.out;rw [Bool.eq_iff_iff];unfold bareB;rw [HE.out];clear es HE c0 c1 c2 c3 c4 c5 c6 c7
     try simp_all
     try omega
  ·have HZ:=hid z3
   clear z3
   cases E
   all_goals
    go_enter Tryd.func38,Tryd.ntmps38
    go_wp2_with fail
    go_quiet (fail)
    go_wp2_with fail
    all_goals
     go_ret;refine ⟨Bytes.ret_bool ?_,HQ.out _⟩;have h5:=H5.out;have hz:=HZ.out;rw [Bool.eq_iff_iff];unfold bareB;rw [HE.out];clear es HE c0 c1 c2 c3 c4 c5 c6 c7
     try simp_all
     try omega
end P08
namespace P09
open P07 P08 Bytes
open Sets (ST)
def wstep (k mn mx:Int) (w:Int):Int:=if k=5∧mx=-1 then w * (mn+1)+1 else if k=5 then (w+2) * mx else w
mutual
def wd:T→Int
 | .nd k _ mn mx l=>wdL k mn mx 1 l
def wdL:Int→Int→Int→Int→List T→Int
 | _,_,_,acc,[]=>acc
 | k,mn,mx,acc,t::l=>wdL k mn mx (min (acc+wstep k mn mx (wd t)) 1073741824) l
end
theorem wd_eq (t:T):wd t=wdL t.kind t.mn t.mx 1 t.subs:=by
 cases t
 rw [wd]
 rfl
theorem wdL_append (k mn mx:Int):∀ (L:List T) (acc:Int) (t:T),wdL k mn mx acc (L++[t])=min (wdL k mn mx acc L+wstep k mn mx (wd t)) 1073741824
 | [],acc,t=>by rw [List.nil_append,wdL,wdL,wdL]
 | s::L,acc,t=>by rw [List.cons_append,wdL,wdL,wdL_append k mn mx L]
theorem wstep_ge {k mn mx w:Int} (hw:0≤w) (hmn:0≤mn) (hmx:-1≤mx):0≤wstep k mn mx w:=by
 unfold wstep
 split
 ·have:=Int.mul_nonneg hw (show (0:Int)≤mn+1 by omega)
  omega
 ·rename_i h
  split
  ·rename_i h5
   have:mx≠-1:=fun e=>h ⟨h5,e⟩
   exact Int.mul_nonneg (by omega) (by omega)
  ·exact hw
theorem wstep_le {k mn mx w:Int} (h0:0≤w) (hw:w≤1073741824) (hmn:0≤mn) (h20:mn≤20) (hx20:mx≤20):wstep k mn mx w≤30000000000:=by
 unfold wstep
 split
 ·have:=Int.mul_le_mul_of_nonneg_left (show mn+1≤21 by omega) h0
  omega
 ·split
  ·have:=Int.mul_le_mul_of_nonneg_left hx20 (show (0:Int)≤w+2 by omega)
   omega
  ·omega
mutual
def noneB:T→Bool
 | .nd k s mn _ l=>if k=2 then eqB s ST.none else if k=3 then anyN l else if k=4 then allN l else if k=5 then decide (0<mn) && headN l else false
def anyN:List T→Bool
 | []=>false
 | t::l=>noneB t || anyN l
def allN:List T→Bool
 | []=>true
 | t::l=>noneB t && allN l
def headN:List T→Bool
 | []=>false
 | t::_=>noneB t
end
theorem noneB_eq (t:T):noneB t=if t.kind=2 then eqB t.set ST.none else if t.kind=3 then anyN t.subs else if t.kind=4 then allN t.subs else if t.kind=5 then decide (0<t.mn) && headN t.subs else false:=by
 cases t
 rw [noneB]
 rfl
end P09
namespace P08
open P07
open Sets (ST)
mutual
theorem RT_sok:∀ (t:T) (d:Nat),RT d t→SOk t
 | .nd k s mn mx l,d,h=>by
  have:=h.bare;rw [SOk];exact ⟨this.2.1,RL_sok l d k this.2.2⟩
theorem RL_sok:∀ (l:List T) (d:Nat) (k:Int),RL d k l→SOkL l
 | [],d,k,h=>by rw [SOkL];trivial
 | t::l,d,k,h=>by
  obtain ⟨h1,h2⟩:=RL_cons h;rw [SOkL];exact ⟨RT_sok t d (IS.rt (k:=k) h1),RL_sok l d k h2⟩
end
theorem RL_get {d:Nat} {k:Int}:∀ {L:List T} {i:Nat} {s:T},RL d k L→L[i]?=some s→RT d s:=fun hR h=>sub_right hR _ (List.mem_of_getElem? h)
theorem RT.subs {d:Nat} {t:T} (h:RT d t):RL d t.kind t.subs:=by
 cases t
 exact h.bare.2.2
end P08
namespace P09
open P07 P08 Bytes
open Sets (ST)
mutual
def leastI:T→Int
 | .nd k s mn mx l=>if noneB (.nd k s mn mx l)=true then -1 else if k=2 then 1 else if k=3 then sumLe 0 l else if k=4 then minLe (-1) l else if k=5∧0<mn then mn * headLe l else 0
def sumLe:Int→List T→Int
 | acc,[]=>acc
 | acc,t::l=>sumLe (acc+leastI t) l
def minLe:Int→List T→Int
 | acc,[]=>acc
 | acc,t::l=>minLe (if 0≤leastI t∧(acc<0∨leastI t<acc) then leastI t else acc) l
def headLe:List T→Int
 | []=>0
 | t::_=>leastI t
end
mutual
def mostI:T→Int
 | .nd k s mn mx l=>if noneB (.nd k s mn mx l)=true then -1 else if k=2 then 1 else if k=3∨k=4 then mostL k 0 l else if k=5 then (if headN l=true∨mx=0 then 0 else if headM l=0 then 0 else if headM l<0∨mx<0 then -1 else headM l * mx) else 0
def mostL:Int→Int→List T→Int
 | _,acc,[]=>acc
 | k,acc,t::l=>if noneB t=true then mostL k acc l else if mostI t<0 then -1 else mostL k (if k=3 then acc+mostI t else max acc (mostI t)) l
def headM:List T→Int
 | []=>0
 | t::_=>mostI t
end
theorem leastI_eq (t:T):leastI t=if noneB t=true then -1 else if t.kind=2 then 1 else if t.kind=3 then sumLe 0 t.subs else if t.kind=4 then minLe (-1) t.subs else if t.kind=5∧0<t.mn then t.mn * headLe t.subs else 0:=by
 cases t
 rw [leastI]
 rfl
theorem mostI_eq (t:T):mostI t=if noneB t=true then -1 else if t.kind=2 then 1 else if t.kind=3∨t.kind=4 then mostL t.kind 0 t.subs else if t.kind=5 then (if headN t.subs=true∨t.mx=0 then 0 else if headM t.subs=0 then 0 else if headM t.subs<0∨t.mx<0 then -1 else headM t.subs * t.mx) else 0:=by
 cases t
 rw [mostI]
 rfl
def bnd (d n:Nat):Nat:=10 * 20 ^ d * n
theorem bnd_mono {d e n m:Nat} (h:d≤e) (h2:n≤m):bnd d n≤bnd e m:=by
 unfold bnd;exact Nat.mul_le_mul (Nat.mul_le_mul (Nat.le_refl 10) (Nat.pow_le_pow_right (by decide) h)) h2
theorem bnd_add (d n m:Nat):bnd d n+bnd d m=bnd d (n+m):=by
 unfold bnd;rw [Nat.mul_add]
theorem bnd_ge (d n:Nat):10 * n≤bnd d n:=by
 unfold bnd;have h:1≤20 ^ d:=Nat.pos_of_ne_zero (by simp)
 have:=Nat.mul_le_mul_right n (Nat.mul_le_mul_left 10 h);omega
theorem bnd_succ (d n:Nat):20 * bnd d n=bnd (d+1) n:=by
 unfold bnd;rw [Nat.pow_succ];rw [← Nat.mul_assoc,← Nat.mul_assoc,← Nat.mul_assoc]
 congr 1
 omega
theorem rep_bnd {d:Nat} {a:T} (h:if rnd 5 a.kind then 1≤d∧RT (d - 1) a else RT d a) {m x:Int} (h0:0≤m) (hm:∀ e,RT e a→m≤bnd e (cnt a)) (h1:a.kind=2→m≤1) (hx:x≤20):m * x≤bnd d (cnt a+1):=by
 have h20:m * x≤m * 20:=Int.mul_le_mul_of_nonneg_left hx h0
 cases e:rnd 5 a.kind with
 | true =>
  rw [e,if_pos rfl] at h;obtain ⟨f,rfl⟩:∃ f,d=f+1:=⟨d - 1,by omega⟩
  have h2:=hm f h.2;have h3:=bnd_succ f (cnt a);have h4:=bnd_mono (Nat.le_refl (f+1)) (show cnt a≤cnt a+1 by omega)
  omega
 | false =>
  have hk:a.kind=2:=by unfold rnd at e;simp at e;exact e
  have h2:=h1 hk;have h3:=bnd_ge d (cnt a+1);have h4:1≤cnt a:=by rw [cnt_eq];omega
  omega
theorem cnt_pos (t:T):1≤cnt t:=by rw [cnt_eq];omega
theorem one_sub {k:Int} {s:ST} {mn mx:Int} {l:List T} {d:Nat} (h:RT d (.nd k s mn mx l)) (hk:k=5):∃ a,l=[a]∧0≤mn∧mn≤20∧(mx=-1∨mn≤mx∧mx≤20)∧(if rnd 5 a.kind then 1≤d∧RT (d - 1) a else RT d a):=by
 obtain ⟨hb,-,hl⟩:=h.bare;subst hk;unfold Bare at hb;have hb5:l.length=1∧0≤mn∧mn≤20∧(mx=-1∨mn≤mx∧mx≤20):=by omega
 match l,hb5.1,hl with
 | [a],_,hl=>exact ⟨a,rfl,hb5.2.1,hb5.2.2.1,hb5.2.2.2,(RL_cons hl).1⟩
mutual
theorem least_bnd:∀ (t:T) (d:Nat),RT d t→(noneB t=true→leastI t=-1)∧(noneB t=false→0≤leastI t)∧leastI t≤bnd d (cnt t)
 | .nd k s mn mx l,d,h=>by
  obtain ⟨hb,-,hl⟩:=h.bare;have hg:=bnd_ge d (1+cntL l);have hm:=bnd_mono (Nat.le_refl d) (show cntL l≤1+cntL l by omega)
  rw [leastI,cnt]
  cases hn:noneB (.nd k s mn mx l) with
  | true =>
   rw [if_pos rfl];exact ⟨fun _=>rfl,(fun h=>by cases h),by omega⟩
  | false =>
   rw [if_neg (by decide)]
   refine ⟨(fun h=>by cases h),fun _=>?_,?_⟩
   all_goals
    rw [noneB] at hn
    by_cases h2:k=2
    ·rw [if_pos h2]
     omega
    ·rw [if_neg h2] at hn ⊢
     by_cases h3:k=3
     ·rw [if_pos h3] at hn ⊢
      have:=sum_bnd l d k hl hn 0 (by omega)
      omega
     ·rw [if_neg h3] at hn ⊢
      by_cases h4:k=4
      ·rw [if_pos h4] at hn ⊢
       have:=min_bnd l d k hl (-1) (by omega) (bnd d (cntL l)) (by omega) (fun n hn=>bnd_mono (Nat.le_refl d) hn)
       have h1:=this.2.1 (.inr hn);omega
      ·rw [if_neg h4] at hn ⊢
       by_cases h5:k=5∧0<mn
       ·rw [if_pos h5]
        rw [if_pos h5.1] at hn;obtain ⟨a,rfl,b0,b1,-,ha⟩:=one_sub h h5.1;rw [headLe];rw [headN,decide_eq_true h5.2,Bool.true_and] at hn;have h1:=fun e he=>least_bnd a e he
        have hra:RT d a:=IS.rt (k:=5) ha;have h0:=(h1 d hra).2.1 hn;have h9:=rep_bnd ha h0 (fun e he=>(h1 e he).2.2) (fun hk=>by rw [leastI_eq,hn,if_neg (by decide),if_pos hk];omega) b1
        have ec:1+cntL [a]=cnt a+1:=by rw [cntL,cntL];omega
        try rw [ec]
        rw [Int.mul_comm];have h10:=Int.mul_nonneg h0 b0;omega
       ·rw [if_neg h5]
        omega
theorem sum_bnd:∀ (l:List T) (d:Nat) (k:Int),RL d k l→anyN l=false→∀ acc:Int,0≤acc→acc≤sumLe acc l∧sumLe acc l≤acc+bnd d (cntL l)
 | [],d,k,_,_,acc,h0=>by rw [sumLe];omega
 | t::l,d,k,h,hn,acc,h0=>by
  obtain ⟨h1,h2⟩:=RL_cons h;rw [anyN,Bool.or_eq_false_iff] at hn;rw [sumLe,cntL];have h3:=least_bnd t d (IS.rt (k:=k) h1);have h4:=h3.2.1 hn.1;have h5:=sum_bnd l d k h2 hn.2 (acc+leastI t) (by omega)
  have h6:=bnd_add d (cnt t) (cntL l);omega
theorem min_bnd:∀ (l:List T) (d:Nat) (k:Int),RL d k l→∀ acc:Int,-1≤acc→∀ B:Nat,acc≤B→(∀ n,n≤cntL l→bnd d n≤B)→-1≤minLe acc l∧(0≤acc∨allN l=false→0≤minLe acc l)∧minLe acc l≤B
 | [],d,k,_,acc,h0,B,hB,_=>by
  rw [minLe,allN];refine ⟨h0,fun h=>?_,hB⟩
  rcases h with h | h
  ·exact h
  ·cases h
 | t::l,d,k,h,acc,h0,B,hB,hn=>by
  obtain ⟨h1,h2⟩:=RL_cons h;rw [minLe,allN];have h3:=least_bnd t d (IS.rt (k:=k) h1);have h4:=hn (cnt t) (by rw [cntL];omega)
  have h5:=min_bnd l d k h2 (if 0≤leastI t∧(acc<0∨leastI t<acc) then leastI t else acc) (by split <;> omega) B (by split <;> omega) (fun n h=>hn n (by rw [cntL];omega))
  refine ⟨h5.1,fun h=>h5.2.1 ?_,h5.2.2⟩
  rcases h with h | h
  ·left
   split <;> omega
  ·cases e:noneB t with
   | true =>
    rw [e,Bool.true_and] at h;exact .inr h
   | false =>
    left
    have:=h3.2.1 e
    split <;> omega
end
mutual
theorem most_bnd:∀ (t:T) (d:Nat),RT d t→-1≤mostI t∧mostI t≤bnd d (cnt t)
 | .nd k s mn mx l,d,h=>by
  obtain ⟨hb,-,hl⟩:=h.bare;have hg:=bnd_ge d (1+cntL l);have hm:=bnd_mono (Nat.le_refl d) (show cntL l≤1+cntL l by omega)
  rw [mostI,cnt]
  split
  ·omega
  ·split
   ·omega
   ·split
    ·have:=mostL_bnd l d k hl 0 (by omega)
     omega
    ·split
     ·rename_i h5
      obtain ⟨a,rfl,b0,b1,bx,ha⟩:=one_sub h h5;have ec:1+cntL [a]=cnt a+1:=by rw [cntL,cntL];omega
      rw [headM,headN,ec];rw [ec] at hg;have h1:=fun e he=>most_bnd a e he
      split
      ·omega
      ·split
       ·omega
       ·split
        ·omega
        ·rename_i hx
         have h0:0≤mostI a:=by omega
         have h9:=rep_bnd ha h0 (fun e he=>(h1 e he).2) (fun hk=>by rw [mostI_eq];split <;> first | omega | (rw [if_pos hk];omega)) (show mx≤20 by omega)
         have h10:=Int.mul_nonneg h0 (show 0≤mx by omega)
         omega
     ·omega
theorem mostL_bnd:∀ (l:List T) (d:Nat) (k:Int),RL d k l→∀ acc:Int,0≤acc→-1≤mostL k acc l∧mostL k acc l≤acc+bnd d (cntL l)
 | [],d,k,_,acc,h0=>by rw [mostL];omega
 | t::l,d,k,h,acc,h0=>by
  obtain ⟨h1,h2⟩:=RL_cons h;rw [mostL,cntL];have h3:=most_bnd t d (IS.rt (k:=k) h1);have h6:=bnd_add d (cnt t) (cntL l)
  split
  ·have:=mostL_bnd l d k h2 acc h0
   omega
  ·split
   ·omega
   ·obtain ⟨X,hX⟩:∃ X,(if k=3 then acc+mostI t else max acc (mostI t))=X:=⟨_,rfl⟩
    rw [hX];have hx:0≤X∧X≤acc+mostI t:=by
     rw [← hX]
     split <;> omega
    have:=mostL_bnd l d k h2 X hx.1;omega
end
end P09
namespace P09
open Go.RowKit Base Bytes P07 P08
open Sets (ST)
structure Bx (W:World) (n:Nat) (t:T) (a:Option Addr) (c:Nat):Prop where
 cell:At W n 27 (ncells t a c)
 lie:Lie W (fun _=>True) a t.subs
theorem Bx.keep {W W':World} {n:Nat} {t:T} {a:Option Addr} {c:Nat} (h:Bx W n t a c) (q:Keep (fun _=>False) W W'):Bx W' n t a c:=⟨h.cell.keep q (fun h=>h),h.lie.keepF q⟩
theorem Bx.new {W:World} {t:T} {a:Option Addr} {c:Nat} (hL:Lie W (fun _=>True) a t.subs):Bx (W.alloc (.cells (ncells t a c) 27)) W.heap.size t a c :=
 ⟨At.new W _ _,hL.keepF ((Keep.refl (fun _=>False) W).alloc _)⟩
theorem Bx.eight {W:World} {n:Nat} {t:T} {a:Option Addr} {c:Nat} (h:Bx W n t a c) :
  W.cell? ⟨n,0,none⟩=some (.int .i64 t.kind)∧W.cell? ⟨n,1,none⟩=some (.int .u64 t.set.x0)∧W.cell? ⟨n,2,none⟩=some (.int .u64 t.set.x1)∧W.cell? ⟨n,3,none⟩=some (.int .u64 t.set.x2)∧W.cell? ⟨n,4,none⟩=some (.int .u64 t.set.x3)∧W.cell? ⟨n,5,none⟩=some (.int .i64 t.mn)∧W.cell? ⟨n,6,none⟩=some (.int .i64 t.mx)∧W.cell? ⟨n,7,none⟩=some (.slice a t.subs.length c) :=
 ⟨h.cell.cell (o:=0) rfl,h.cell.cell (o:=1) rfl,h.cell.cell (o:=2) rfl,h.cell.cell (o:=3) rfl,h.cell.cell (o:=4) rfl,h.cell.cell (o:=5) rfl,h.cell.cell (o:=6) rfl,h.cell.cell (o:=7) rfl⟩
theorem Bx.sub {W:World} {n:Nat} {t:T} {a:Option Addr} {c:Nat} (h:Bx W n t a c) {k:Nat} {s:T} (hs:t.subs[k]?=some s) :
  ∃ bl off a1 e1,a=some ⟨bl,off,none⟩∧Lie W (fun _=>True) a1 s.subs∧W.cell? ⟨bl,off+k * 8,none⟩=some (.int .i64 s.kind)∧W.cell? ⟨bl,off+k * 8+1,none⟩=some (.int .u64 s.set.x0)∧W.cell? ⟨bl,off+k * 8+2,none⟩=some (.int .u64 s.set.x1)∧W.cell? ⟨bl,off+k * 8+3,none⟩=some (.int .u64 s.set.x2)∧W.cell? ⟨bl,off+k * 8+4,none⟩=some (.int .u64 s.set.x3)∧W.cell? ⟨bl,off+k * 8+5,none⟩=some (.int .i64 s.mn)∧W.cell? ⟨bl,off+k * 8+6,none⟩=some (.int .i64 s.mx)∧W.cell? ⟨bl,off+k * 8+7,none⟩=some (.slice a1 s.subs.length e1):=by
 obtain ⟨bl,off,a1,e1,rfl,-,hbl,-,L1,C1⟩:=h.lie.get hs;exact ⟨bl,off,a1,e1,rfl,L1,(show NodeP W bl (off+k * 8) s a1 e1 from ⟨hbl,C1⟩).eight⟩
theorem Bx.first {W:World} {n:Nat} {t:T} {a:Option Addr} {c:Nat} (h:Bx W n t a c) {s:T} (hs:t.subs[0]?=some s) :
  ∃ bl off a1 e1,a=some ⟨bl,off,none⟩∧Lie W (fun _=>True) a1 s.subs∧W.cell? ⟨bl,off,none⟩=some (.int .i64 s.kind)∧W.cell? ⟨bl,off+1,none⟩=some (.int .u64 s.set.x0)∧W.cell? ⟨bl,off+2,none⟩=some (.int .u64 s.set.x1)∧W.cell? ⟨bl,off+3,none⟩=some (.int .u64 s.set.x2)∧W.cell? ⟨bl,off+4,none⟩=some (.int .u64 s.set.x3)∧W.cell? ⟨bl,off+5,none⟩=some (.int .i64 s.mn)∧W.cell? ⟨bl,off+6,none⟩=some (.int .i64 s.mx)∧W.cell? ⟨bl,off+7,none⟩=some (.slice a1 s.subs.length e1):=by
 obtain ⟨bl,off,a1,e1,h1,h2,h3⟩:=h.sub hs;rw [Nat.zero_mul,Nat.add_zero] at h3;exact ⟨bl,off,a1,e1,h1,h2,h3⟩
end P09
namespace P09
open Go.RowKit Base Bytes P07 P08
open Sets (ST)
theorem sub_RT {d:Nat} {t:T} (h:RT d t) {i:Nat} {s:T} (hs:t.subs[i]?=some s):RT d s:=RL_get h.subs hs
theorem kind5_one {d:Nat} {t:T} (h:RT d t) (hk:t.kind=5):∃ s,t.subs=[s]∧0≤t.mn∧t.mn≤20∧(t.mx=-1∨t.mn≤t.mx∧t.mx≤20)∧(if rnd 5 s.kind then 1≤d∧RT (d - 1) s else RT d s):=by
 cases t
 exact one_sub h hk
end P09
namespace P09
open Go.RowKit Base Bytes P07 P08
open Sets (ST)
theorem times_bare {d:Nat} {t:T} (h:RT d t):0≤t.mn∧t.mn≤20∧-1≤t.mx∧t.mx≤20:=by
 cases t
 have hb:=h.bare.1;unfold Bare at hb
 show 0≤_∧_≤20∧-1≤_∧_≤20
 dsimp only [T.mn,T.mx]
 omega
mutual
theorem wd_bnd:∀ (t:T) (d:Nat),RT d t→0≤wd t∧wd t≤1073741824
 | .nd k s mn mx l,d,h=>by
  have hm:=times_bare h;rw [wd];exact wdL_bnd l d k h.bare.2.2 mn mx hm.1 hm.2.2.1 1 (by omega) (by omega)
theorem wdL_bnd:∀ (l:List T) (d:Nat) (k:Int),RL d k l→∀ mn mx:Int,0≤mn→-1≤mx→∀ acc:Int,0≤acc→acc≤1073741824→0≤wdL k mn mx acc l∧wdL k mn mx acc l≤1073741824
 | [],d,k,_,mn,mx,_,_,acc,h0,h1=>by rw [wdL];exact ⟨h0,h1⟩
 | t::l,d,k,h,mn,mx,hm,hx,acc,h0,h1=>by
  obtain ⟨ha,hb⟩:=RL_cons h;rw [wdL];have h3:=wd_bnd t d (IS.rt (k:=k) ha);have h4:=wstep_ge (k:=k) h3.1 hm hx;exact wdL_bnd l d k hb mn mx hm hx _ (by omega) (by omega)
end
theorem wdL_take {k mn mx acc:Int} {L:List T} {i:Nat} {s:T} (h:L[i]?=some s):wdL k mn mx acc (L.take (i+1))=min (wdL k mn mx acc (L.take i)+wstep k mn mx (wd s)) 1073741824:=by
 rw [List.take_add_one,h];exact wdL_append k mn mx _ acc s
theorem RL_take {d:Nat} {k:Int}:∀ (L:List T) (i:Nat),RL d k L→RL d k (L.take i)
 | [],i,h=>by rw [List.take_nil];exact h
 | t::L,0,h=>by rw [List.take_zero,RL];trivial
 | t::L,i+1,h=>by
  obtain ⟨h1,h2⟩:=RL_cons h;rw [List.take_succ_cons,RL];exact ⟨h1,RL_take L i h2⟩
theorem fwide_all:∀ (n:Nat) (t:T),SizeOf.sizeOf t<n→∀ (d:Nat),RT d t→∀ (a:Option Addr) (c:Nat) (w:World),Lie w (fun _=>True) a t.subs →
  Calls Tryd.prog 14 #[nodeV t a c] w fun e w'=>e=.returned (.int .i64 (wd t))∧Keep (fun _=>False) w w'
 | 0,_,h,_,_,_,_,_,_=>absurd h (Nat.not_lt_zero _)
 | n+1,t,h,d,hR,a,c,w,hL=>by
  have hlen:=hL.len;have H0:=hid (And.intro ((Keep.refl (fun _=>False) w).alloc (.cells (ncells t a c) 27)) (And.intro (Bx.new (c:=c) hL) (fwide_all n)))
  have hsub:=fun (s:T) (i:Nat) (h:t.subs[i]?=some s)=>sub_RT hR h
  have e:=wd_eq t;obtain ⟨A,hA⟩:∃ A,wd t=A:=⟨_,rfl⟩;rw [hA] at e ⊢;obtain ⟨m0,m1,x0,x1⟩:=times_bare hR;have hpre:=fun i=>wdL_bnd (t.subs.take i) d t.kind (RL_take t.subs i hR.subs) t.mn t.mx m0 x0 1 (by omega) (by omega)
  have HE:=hid (And.intro e (And.intro hsub hpre));have HN:=hid h;clear hL e hA h hsub hR hpre;have hcase:((t.kind == 5)=true∧(t.mx == -1)=true∧t.kind=5∧t.mx=-1)∨((t.kind == 5)=true∧(t.mx == -1)=false∧t.kind=5∧t.mx≠-1)∨((t.kind == 5)=false∧t.kind≠5):=by
   by_cases h5:t.kind=5
   ·by_cases hx:t.mx=-1
    ·exact .inl ⟨by simp [h5],by simp [hx],h5,hx⟩
    ·exact .inr (.inl ⟨by simp [h5],by simp [hx],h5,hx⟩)
   ·exact .inr (.inr ⟨by simp [h5],h5⟩)
  go_enter Tryd.func14,Tryd.ntmps14
  go_upto_region 1 with fail;generalize (w.alloc (.cells (ncells t a c) 27))=W at *;generalize w.heap.size=n0 at *;go_wp2_with fail
  go_loopg [3,4,5] t.subs.length (fun gg m i s5 wr=>∃ (k:Nat) (M:Int),i=.int .i64 k∧k+gg=t.subs.length∧m=.int .i64 M∧M=wdL t.kind t.mn t.mx 1 (t.subs.take k)∧Keep (fun _=>False) W wr)
  case atStart=>exact ⟨0,1,rfl,by omega,rfl,by rw [List.take_zero,wdL],Keep.refl _ _⟩
  case round =>
   obtain ⟨k,M,rfl,hk,rfl,hM,hq⟩:=hrel;have B1:=H0.out.2.1.keep hq;obtain ⟨c0,-,-,-,-,c5,c6,c7⟩:=B1.eight;have hMb:=HE.out.2.2 k;rw [← hM] at hMb
   by_cases hlt:k<t.subs.length
   ·have hlt':(k:Int)<t.subs.length:=by omega
    have i0:(0:Int)≤k:=by omega
    obtain ⟨s,hs⟩:∃ s,t.subs[k]?=some s:=⟨t.subs[k],List.getElem?_eq_getElem hlt⟩;obtain ⟨bl,off,a1,e1,rfl,L1,d0,d1,d2,d3,d4,d5,d6,d7⟩:=B1.sub hs;have hsl:=sub_less hs;have ht:_=_:=wdL_take (k:=t.kind) (mn:=t.mn) (mx:=t.mx) (acc:=1) hs;rw [← hM] at ht;have hwb:=wd_bnd s d (HE.out.2.1 s k hs);have hcall:=H0.out.2.2 s (by have:=HN.out;omega) d (HE.out.2.1 s k hs) a1 e1 wr L1
    obtain ⟨V,hV⟩:∃ V,wd s=V:=⟨_,rfl⟩;rw [hV] at hcall ht hwb;have HQ:=hid (And.intro hq (And.intro hcall hM));have HT:=hid ht;clear hq hcall ht hM B1 hs hV;go_wp2_with fail;refine HQ.out.2.1.mono ?_;rintro e w2 ⟨rfl,q2⟩;have Q2:=hid (HQ.out.1.trans q2);obtain ⟨c0,-,-,-,-,c5,c6,c7⟩:=(H0.out.2.1.keep Q2.out).eight;clear q2 d0 d1 d2 d3 d4 d5 d6 d7;have hM0:=hMb.1;have hM1:=hMb.2;have hV0:=hwb.1;have hV1:=hwb.2;clear hMb hwb
    rcases hcase with ⟨b5,bx,k5,kx⟩ | ⟨b5,bx,k5,kx⟩ | ⟨b5,k5⟩
    ·have hst:wstep t.kind t.mn t.mx V=V * (t.mn+1)+1:=by unfold wstep;rw [if_pos ⟨k5,kx⟩]
     have hle:=wstep_le (k:=t.kind) (mx:=t.mx) hV0 hV1 m0 m1 x1;have hge:=wstep_ge (k:=t.kind) hV0 m0 x0;rw [hst] at hle hge;have HS:=hid hst;obtain ⟨P,hP⟩:∃ P,V * (t.mn+1)=P:=⟨_,rfl⟩;rw [hP] at hle hge;have hw1:IntKind.i64.wrap (V * (t.mn+1))=P:=by rw [hP,IntKind.wrap_i64];omega
     have HPP:=hid hP;clear k5 kx hst hP;go_wp2_with fail
     go_roundg (t.subs.length - (k+1))
     case measure=>omega
     case rel=>exact ⟨k+1,_,by go_num,by omega,rfl,by rw [HT.out,HS.out,HPP.out],Q2.out⟩
    ·have hst:wstep t.kind t.mn t.mx V=(V+2) * t.mx:=by unfold wstep;rw [if_neg (fun h=>kx h.2),if_pos k5]
     have hle:=wstep_le (k:=t.kind) (mx:=t.mx) hV0 hV1 m0 m1 x1;have hge:=wstep_ge (k:=t.kind) hV0 m0 x0;rw [hst] at hle hge;have HS:=hid hst;obtain ⟨P,hP⟩:∃ P,(V+2) * t.mx=P:=⟨_,rfl⟩;rw [hP] at hle hge;have hw1:IntKind.i64.wrap ((V+2) * t.mx)=P:=by rw [hP,IntKind.wrap_i64];omega
     have HPP:=hid hP;clear k5 kx hst hP;go_wp2_with fail
     go_roundg (t.subs.length - (k+1))
     case measure=>omega
     case rel=>exact ⟨k+1,_,by go_num,by omega,rfl,by rw [HT.out,HS.out,HPP.out],Q2.out⟩
    ·have hst:wstep t.kind t.mn t.mx V=V:=by unfold wstep;rw [if_neg (fun h=>k5 h.1),if_neg k5]
     have HS:=hid hst;clear k5 hst;go_wp2_with fail
     go_roundg (t.subs.length - (k+1))
     case measure=>omega
     case rel=>exact ⟨k+1,_,by go_num,by omega,rfl,by rw [HT.out,HS.out],Q2.out⟩
   ·have hke:k=t.subs.length:=by omega
    subst hke;rw [List.take_length] at hM;have HQ:=hid (And.intro hq hM);clear hq hM B1;go_wp2_with fail;go_ret;exact ⟨by rw [HE.out.1,HQ.out.2];rfl,H0.out.1.trans HQ.out.1⟩
theorem fwide_any (t:T) (d:Nat) (hR:RT d t) (a:Option Addr) (c:Nat) (w:World) (hL:Lie w (fun _=>True) a t.subs):Calls Tryd.prog 14 #[nodeV t a c] w fun e w'=>e=.returned (.int .i64 (wd t))∧Keep (fun _=>False) w w' :=
 fwide_all _ t (Nat.lt_succ_self _) d hR a c w hL
end P09
end Go.Proofs.YthcjfgfbeollpaaDoor
