/- The document's open and Right (layer 8). -/
import Derived.Test.YthcjfgfbeollpaaDoorKB27
set_option maxRecDepth 100000
set_option maxHeartbeats 32000000
open Go.Lib (hid)
namespace Go.Proofs.YthcjfgfbeollpaaDoor
namespace P08
open Go.RowKit Base Bytes P07
open Sets (ST)
theorem opnL_neg (k:Int):∀ (L:List T) (m:Int) (i:Nat) (s:T),L[i]?=some s→opn s<0→opnL k m L=-1
 | [],m,i,s,h,_=>by simp at h
 | t::L,m,0,s,h,hs=>by
  simp at h
  subst h;rw [opnL,if_pos hs]
 | t::L,m,i+1,s,h,hs=>by
  rw [opnL]
  split
  ·rfl
  ·exact opnL_neg k L _ i s (by simpa using h) hs
theorem opn_bare {t:T} (h:bareB t=true):opn t=opnL t.kind 0 t.subs:=by
 cases t with
 | nd k s mn mx l=>rw [opn,if_pos h];rfl
theorem opn_not {t:T} (h:bareB t=false):opn t=-1:=by
 cases t with
 | nd k s mn mx l=>rw [opn,if_neg (by rw [h];decide)]
theorem opnL_pre (k:Int) (L:List T) (i:Nat) {s:T} (hs:L[i]?=some s) (h:0≤opnL k 0 (L.take i)) (h2:0≤opn s):opnL k 0 (L.take (i+1))=max (opnL k 0 (L.take i)) (if rnd k s.kind then opn s+1 else opn s):=by
 rw [List.take_add_one,hs]
 show opnL k 0 (L.take i++[s])=_
 rw [opnL_append k _ 0 s (by omega),if_neg (by omega),if_neg (by omega)]
theorem ncells_keep {w w':World} {bl o:Nat} {t:T} {a:Option Addr} {c:Nat} (h:∀ j v,(ncells t a c)[j]?=some v→w.cell? ⟨bl,o+j,none⟩=some v) (q:Keep (fun _=>False) w w') (hb:bl<w.heap.size) :
  ∀ j v,(ncells t a c)[j]?=some v→w'.cell? ⟨bl,o+j,none⟩=some v:=fun j v hv=>(q.cell (a:=⟨bl,o+j,none⟩) hb (fun h=>h)).trans (h j v hv)
theorem fopen_all:∀ (n:Nat) (t:T),SizeOf.sizeOf t<n→cnt t≤1000000000→∀ (a:Option Addr) (c:Nat) (w:World),Lie w (fun _=>True) a t.subs →
  Calls Tryd.prog 15 #[nodeV t a c] w fun e w'=>e=.returned (.int .i64 (opn t))∧Keep (fun _=>False) w w'
 | 0,_,h,_,_,_,_,_=>absurd h (Nat.not_lt_zero _)
 | n+1,t,h,hc,a,c,w,hL=>by
  have hlen:=hL.len;have a0:=At.new w (ncells t a c) 27;have q:=(Keep.refl (fun _=>False) w).alloc (.cells (ncells t a c) 27)
  have H0:=hid (And.intro a0 (And.intro q (And.intro hL (fopen_all n))));rw [cnt_eq] at hc;have hbl:∀ k,opnL t.kind 0 (t.subs.take k)≤1000000001:=fun k=>by
   have h0:=opnL_le (t.subs.take k) t.kind 0;have h2:=cntL_append (t.subs.take k) (t.subs.drop k);rw [List.take_append_drop] at h2;omega
  have HD:=hid hbl;clear q hL hbl;have c0:=a0;clear a0
  go_enter Tryd.func15,Tryd.ntmps15
  go_wp2_with fail;have c7':(w.alloc (.cells (ncells t a c) 27)).cell? ⟨w.heap.size,7,none⟩=some (.slice a t.subs.length c):=c0.cell (o:=7) rfl;generalize (w.alloc (.cells (ncells t a c) 27))=W at *;refine (fbare_any t a c W).mono ?_;rintro e w1 ⟨rfl,q1⟩;have C0:=c0.keep q1 (fun h=>h)
  have Q1:=hid (H0.out.2.1.trans q1)
  cases hb:bareB t with
  | false =>
   have ho:=opn_not hb;have HO:=hid ho;clear ho hb
   go_wp2
   go_ret;exact ⟨by rw [HO.out];rfl,Q1.out⟩
  | true =>
   obtain ⟨D,hD⟩:∃ D,opnL t.kind 0 t.subs=D:=⟨_,rfl⟩;have HO:=hid (And.intro (opn_bare hb) hD);clear hb hD c7' c0;go_wp2_with fail
   go_loopg [3,4] t.subs.length (fun gg m i wr=>∃ k:Nat,i=.int .i64 k∧k+gg=t.subs.length∧m=.int .i64 (opnL t.kind 0 (t.subs.take k))∧0≤opnL t.kind 0 (t.subs.take k)∧Keep (fun _=>False) w1 wr)
   case atStart=>exact ⟨0,rfl,by omega,by rw [List.take_zero,opnL],by rw [List.take_zero,opnL];exact Int.le_refl 0,Keep.refl _ _⟩
   case round =>
    obtain ⟨k,rfl,hk,rfl,h0,hq⟩:=hrel;have A0:=C0.keep hq (fun h=>h)
    have c0:wr.cell? ⟨w.heap.size,0,none⟩=some (.int .i64 t.kind):=A0.cell (o:=0) rfl;have c1:wr.cell? ⟨w.heap.size,1,none⟩=some (.int .u64 t.set.x0):=A0.cell (o:=1) rfl;have c2:wr.cell? ⟨w.heap.size,2,none⟩=some (.int .u64 t.set.x1):=A0.cell (o:=2) rfl;have c3:wr.cell? ⟨w.heap.size,3,none⟩=some (.int .u64 t.set.x2):=A0.cell (o:=3) rfl;have c4:wr.cell? ⟨w.heap.size,4,none⟩=some (.int .u64 t.set.x3):=A0.cell (o:=4) rfl;have c5:wr.cell? ⟨w.heap.size,5,none⟩=some (.int .i64 t.mn):=A0.cell (o:=5) rfl;have c6:wr.cell? ⟨w.heap.size,6,none⟩=some (.int .i64 t.mx):=A0.cell (o:=6) rfl;have c7:wr.cell? ⟨w.heap.size,7,none⟩=some (.slice a t.subs.length c):=A0.cell (o:=7) rfl;have hm:=HD.out k
    by_cases hlt:k<t.subs.length
    ·have hlt':(k:Int)<t.subs.length:=by omega
     obtain ⟨s,hs⟩:∃ s,t.subs[k]?=some s:=⟨t.subs[k],List.getElem?_eq_getElem hlt⟩;have LL:=hid (H0.out.2.2.1.keepF (Q1.out.trans hq));obtain ⟨bl,off,a1,e1,rfl,-,hbl,-,L1,C1⟩:=LL.out.get hs;obtain ⟨d0,d1,d2,d3,d4,d5,d6,d7⟩:=ncell C1;have hsl:=sub_less hs;have hcl:=cntL_le hs;have hcall:=H0.out.2.2.2 s (by omega) (by omega) a1 e1 wr L1
     have hds:opn s≤1000000000:=by
      have:=opn_le s;omega
     have hpre:0≤opn s→_:=opnL_pre t.kind t.subs k hs h0;have hneg:=opnL_neg t.kind t.subs 0 k s hs;have HQ:=hid (And.intro hq (And.intro hcall (And.intro hpre (And.intro hneg (And.intro hs (And.intro C1 hbl))))));clear hq hcall hpre hneg hs L1 C1 A0 hbl;have i0:(0:Int)≤k:=by omega
     obtain ⟨x,hx⟩:∃ x,opn s=x:=⟨_,rfl⟩;obtain ⟨m,hmm⟩:∃ m,opnL t.kind 0 (t.subs.take k)=m:=⟨_,rfl⟩;rw [hx] at hds;rw [hmm] at hm h0;have HX:=hid (And.intro hx hmm);rw [hmm];clear hx hmm;go_wp2_with fail;refine HQ.out.2.1.mono ?_;rintro e w2 ⟨rfl,q2⟩;rw [HX.out.1];have QQ:=hid (And.intro (HQ.out.1.trans q2) q2)
     by_cases hx:x<0
     ·have hneg:=HQ.out.2.2.2.1
      rw [HX.out.1] at hneg;have hD:D=-1:=HO.out.2.symm.trans (hneg hx);have HD1:=hid (And.intro hD QQ.out.1);clear hD hneg q2
      go_wp2
      go_ret;exact ⟨by rw [HO.out.1,HO.out.2,HD1.out.1];rfl,Q1.out.trans HD1.out.2⟩
     ·have A0:=C0.keep QQ.out.1 (fun h=>h)
      have C2:=ncells_keep HQ.out.2.2.2.2.2.1 q2 HQ.out.2.2.2.2.2.2;have hS:∀ w',Keep (fun _=>False) w2 w'→Keep (fun _=>False) w2 w'∧w'.cell? ⟨w.heap.size,0,none⟩=some (.int .i64 t.kind)∧w'.cell? ⟨w.heap.size,1,none⟩=some (.int .u64 t.set.x0)∧w'.cell? ⟨w.heap.size,2,none⟩=some (.int .u64 t.set.x1)∧w'.cell? ⟨w.heap.size,3,none⟩=some (.int .u64 t.set.x2)∧w'.cell? ⟨w.heap.size,4,none⟩=some (.int .u64 t.set.x3)∧w'.cell? ⟨w.heap.size,5,none⟩=some (.int .i64 t.mn)∧w'.cell? ⟨w.heap.size,6,none⟩=some (.int .i64 t.mx)∧w'.cell? ⟨w.heap.size,7,none⟩=some (.slice (some ⟨bl,off,none⟩) t.subs.length c)∧w'.cell? ⟨bl,off+k * 8,none⟩=some (.int .i64 s.kind)∧w'.cell? ⟨bl,off+k * 8+1,none⟩=some (.int .u64 s.set.x0)∧w'.cell? ⟨bl,off+k * 8+2,none⟩=some (.int .u64 s.set.x1)∧w'.cell? ⟨bl,off+k * 8+3,none⟩=some (.int .u64 s.set.x2)∧w'.cell? ⟨bl,off+k * 8+4,none⟩=some (.int .u64 s.set.x3)∧w'.cell? ⟨bl,off+k * 8+5,none⟩=some (.int .i64 s.mn)∧w'.cell? ⟨bl,off+k * 8+6,none⟩=some (.int .i64 s.mx)∧w'.cell? ⟨bl,off+k * 8+7,none⟩=some (.slice a1 s.subs.length e1):=fun w' q'=>by
       have e1:=fun j v h=>(q'.cell (a:=⟨bl,off+k * 8+j,none⟩) (World.block_lt_of_cell? w2 _ (C2 j v h)) (fun h=>h)).trans (C2 j v h)
       have e0:=A0.keep q' (fun h=>h)
       exact ⟨q',e0.cell (o:=0) rfl,e0.cell (o:=1) rfl,e0.cell (o:=2) rfl,e0.cell (o:=3) rfl,e0.cell (o:=4) rfl,e0.cell (o:=5) rfl,e0.cell (o:=6) rfl,e0.cell (o:=7) rfl,e1 0 _ rfl,e1 1 _ rfl,e1 2 _ rfl,e1 3 _ rfl,e1 4 _ rfl,e1 5 _ rfl,e1 6 _ rfl,e1 7 _ rfl⟩
      have HS:=hid hS;have hst:=HQ.out.2.2.1;rw [HX.out.1,HX.out.2] at hst;have HP:=hid (And.intro (hst (by omega)) HQ.out.2.2.2.2.1)
      have hx0:0≤x:=by omega
      have HR:=hid (fun W'=>fround_any t s (some ⟨bl,off,none⟩) c a1 e1 W')
      obtain ⟨r,hr⟩:∃ r,rnd t.kind s.kind=r:=⟨_,rfl⟩;rw [hr] at HP HR;clear hst A0 q2 d0 d1 d2 d3 d4 d5 d6 d7 C2 hS hr;go_wp2_with fail
      go_region_held3 (fun w'=>Keep (fun _=>False) w2 w'∧w'.cell? ⟨w.heap.size,0,none⟩=some (.int .i64 t.kind)∧w'.cell? ⟨w.heap.size,1,none⟩=some (.int .u64 t.set.x0)∧w'.cell? ⟨w.heap.size,2,none⟩=some (.int .u64 t.set.x1)∧w'.cell? ⟨w.heap.size,3,none⟩=some (.int .u64 t.set.x2)∧w'.cell? ⟨w.heap.size,4,none⟩=some (.int .u64 t.set.x3)∧w'.cell? ⟨w.heap.size,5,none⟩=some (.int .i64 t.mn)∧w'.cell? ⟨w.heap.size,6,none⟩=some (.int .i64 t.mx)∧w'.cell? ⟨w.heap.size,7,none⟩=some (.slice (some ⟨bl,off,none⟩) t.subs.length c)∧w'.cell? ⟨bl,off+k * 8,none⟩=some (.int .i64 s.kind)∧w'.cell? ⟨bl,off+k * 8+1,none⟩=some (.int .u64 s.set.x0)∧w'.cell? ⟨bl,off+k * 8+2,none⟩=some (.int .u64 s.set.x1)∧w'.cell? ⟨bl,off+k * 8+3,none⟩=some (.int .u64 s.set.x2)∧w'.cell? ⟨bl,off+k * 8+4,none⟩=some (.int .u64 s.set.x3)∧w'.cell? ⟨bl,off+k * 8+5,none⟩=some (.int .i64 s.mn)∧w'.cell? ⟨bl,off+k * 8+6,none⟩=some (.int .i64 s.mx)∧w'.cell? ⟨bl,off+k * 8+7,none⟩=some (.slice a1 s.subs.length e1)) (first | exact HS.out _ ((Keep.refl _ _).drew) | exact HS.out _ (Keep.trans (And.left (by assumption)) q)) (first
       | (go_at_call 22;refine (HR.out _).mono ?_;rintro e w2 ⟨rfl,q⟩))
      all_goals
       rename_i hh
       have HK:=hid (QQ.out.1.trans hh.1);clear hh;have j1:IntKind.i64.wrap (x+1)=x+1:=by rw [IntKind.wrap_i64];omega
       cases r
       ·have em:opnL t.kind 0 (t.subs.take (k+1))=max m (x):=by rw [HP.out.1,if_neg (by decide)]
        have EM:=hid em;clear em;go_wp2_with fail
        go_roundg (t.subs.length - (k+1))
        case measure=>omega
        case rel=>exact ⟨k+1,by go_num,by omega,by rw [EM.out],by rw [EM.out];omega,HK.out⟩
       ·have em:opnL t.kind 0 (t.subs.take (k+1))=max m (x+1):=by rw [HP.out.1,if_pos rfl]
        have EM:=hid em;clear em;go_wp2_with fail
        go_roundg (t.subs.length - (k+1))
        case measure=>omega
        case rel=>exact ⟨k+1,by go_num,by omega,by rw [EM.out],by rw [EM.out];omega,HK.out⟩
    ·have hke:k=t.subs.length:=by omega
     subst hke;rw [List.take_length,HO.out.2] at hm h0 ⊢;have HQ:=hid hq;clear hq A0;go_wp2_with fail;go_ret;exact ⟨by rw [HO.out.1,HO.out.2];rfl,Q1.out.trans HQ.out⟩
end P08
namespace P08
open Go.RowKit Base Bytes P07
open Sets (ST)
theorem fright_any (t:T) (hc:cnt t≤1000000000) (a:Option Addr) (c:Nat) (w:World) (hL:Lie w (fun _=>True) a t.subs):Calls Tryd.prog 6 #[nodeV t a c] w fun e w'=>e=.returned (.bool (rightB t))∧Keep (fun _=>False) w w':=by
 have hO:=fun w' (q:Keep (fun _=>False) w w')=>fopen_all _ t (Nat.lt_succ_self _) hc a c w' (hL.keepF q)
 have HO:=hid hO;have q0:=(Keep.refl (fun _=>False) w).alloc (.cells (ncells t a c) 27)
 have HQ0:=hid q0;obtain ⟨x,hx⟩:∃ x,opn t=x:=⟨_,rfl⟩;have hr:rightB t=(decide (0≤x) && decide (x≤12)):=by rw [← hx];rfl
 rw [hx] at HO;rw [hr];clear hO hr hx q0
 go_enter Tryd.func6,Tryd.ntmps6
 go_wp2_with fail;refine (HO.out _ (by first | exact HQ0.out | exact Keep.refl _ _)).mono ?_
 rintro e w1 ⟨rfl,q1⟩;have HQ:=hid q1;clear q1
 by_cases h1:0≤x <;> by_cases h2:x≤12
 all_goals
  have b1:=h1;have b2:=h2
  go_wp2
  all_goals
   go_ret;refine ⟨?_,by first | exact HQ0.out.trans HQ.out | exact HQ.out⟩
   all_goals (first | rfl | simp [b1,b2])
end P08
namespace P08
open P07
open Sets (ST)
mutual
def rgt:Nat→T→Bool
 | d,.nd k s mn mx l=>if d=0 then false else bareB (.nd k s mn mx l) && rgtL (d - 1) k l
def rgtL:Nat→Int→List T→Bool
 | _,_,[]=>true
 | d,k,t::l=>rgt (if rnd k t.kind then d else d+1) t && rgtL d k l
end
theorem rgt_zero (t:T):rgt 0 t=false:=by
 cases t
 rw [rgt,if_pos rfl]
theorem rgt_succ (d:Nat) (t:T):rgt (d+1) t=(bareB t && rgtL d t.kind t.subs):=by
 cases t
 rw [rgt,if_neg (by omega)]
 rfl
mutual
theorem rgt_iff:∀ (t:T) (d:Nat),SOk t→(rgt (d+1) t=true↔RT d t)
 | .nd k s mn mx l,d,h=>by
  rw [SOk] at h;rw [rgt,if_neg (by omega),RT,Bool.and_eq_true,bareB_iff,Nat.add_sub_cancel,rgtL_iff l d k h.2]
  exact ⟨fun h1=>⟨h1.1,h.1,h1.2⟩,fun h1=>⟨h1.1,h1.2.2⟩⟩
theorem rgtL_iff:∀ (l:List T) (d:Nat) (k:Int),SOkL l→(rgtL d k l=true↔RL d k l)
 | [],d,k,_=>by
  rw [rgtL,RL]
  simp
 | t::l,d,k,h=>by
  obtain ⟨h1,h2⟩:=SOk_cons h;rw [rgtL,RL,Bool.and_eq_true,rgtL_iff l d k h2];refine and_congr ?_ Iff.rfl
  cases rnd k t.kind with
  | true =>
   rw [if_pos rfl,if_pos rfl]
   cases d with
   | zero =>
    rw [rgt_zero]
    simp
   | succ e =>
    rw [rgt_iff t e h1]
    simp
  | false =>
   rw [if_neg (by decide),if_neg (by decide)]
   exact rgt_iff t d h1
end
theorem rgt_right {t:T} (h:SOk t):rgt 13 t=rightB t:=by
 have h1:=rgt_iff t 12 h;have h2:=rightB_iff h
 cases e:rgt 13 t with
 | true=>exact ((h2.2 (h1.1 e))).symm
 | false =>
  cases e2:rightB t with
  | true=>rw [h1.2 (h2.1 e2)] at e;cases e
  | false=>rfl
theorem rgtL_get {d:Nat} {k:Int}:∀ (L:List T) (i:Nat) (s:T),L[i]?=some s→rgtL d k L=true→rgt (if rnd k s.kind then d else d+1) s=true
 | [],i,s,h,_=>by simp at h
 | t::L,0,s,h,hr=>by
  simp at h
  subst h;rw [rgtL,Bool.and_eq_true] at hr;exact hr.1
 | t::L,i+1,s,h,hr=>by
  rw [rgtL,Bool.and_eq_true] at hr;exact rgtL_get L i s (by simpa using h) hr.2
theorem rgtL_not {d:Nat} {k:Int} (L:List T) (i:Nat) (s:T) (h:L[i]?=some s) (hr:rgt (if rnd k s.kind then d else d+1) s=false):rgtL d k L=false:=by
 cases e:rgtL d k L with
 | false=>rfl
 | true =>
  rw [rgtL_get L i s h e] at hr
  cases hr
theorem rgtL_take {d:Nat} {k:Int} (L:List T) (i:Nat) (s:T) (h:L[i]?=some s) (h0:rgtL d k (L.take i)=true) (hr:rgt (if rnd k s.kind then d else d+1) s=true):rgtL d k (L.take (i+1))=true:=by
 have key:∀ M:List T,rgtL d k M=true→rgtL d k (M++[s])=true:=fun M=>by
  induction M with
  | nil =>
   intro _;rw [List.nil_append,rgtL,rgtL,hr]
   rfl
  | cons t M ih =>
   intro hM;rw [rgtL,Bool.and_eq_true] at hM;rw [List.cons_append,rgtL,hM.1,ih hM.2]
   rfl
 rw [List.take_add_one,h];exact key _ h0
end P08
end Go.Proofs.YthcjfgfbeollpaaDoor
