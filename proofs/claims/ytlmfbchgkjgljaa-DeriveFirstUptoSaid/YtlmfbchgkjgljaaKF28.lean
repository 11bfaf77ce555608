/- The document's Lengths (layer 9), of right expressions: all but repetitions. -/
import Derived.Test.YtlmfbchgkjgljaaKF25
import Derived.Test.YtlmfbchgkjgljaaKF24
import Derived.Test.YtlmfbchgkjgljaaKF23
import Derived.Test.YtlmfbchgkjgljaaKF19
set_option maxRecDepth 100000
set_option maxHeartbeats 32000000
open Go.Lib (hid)
namespace Go.Proofs.Ytlmfbchgkjgljaa
namespace P09
open Go.RowKit Base Bytes P07 P08
open Sets (ST)
def IsLens (m:Nat) (t:T) (w:World) (e:Ending) (w':World):Prop:=∃ g,e=.returned (.slice (some ⟨g,0,none⟩) (m+1) (m+1))∧w.heap.size≤g∧At w' g 4 (bcells (lens m t))∧Keep (fun _=>False) w w'
def LensOk (t:T):Prop:=∀ (d:Nat),RT d t→∀ (m:Nat),m≤12→∀ (a:Option Addr) (c:Nat) (w:World),Lie w (fun _=>True) a t.subs→Calls Try.prog 39 #[nodeV t a c,.int .i64 (m:Int)] w (IsLens m t w)
theorem noB_get {m k:Nat} (h:k<m+1):(noB m)[k]?=some false:=by simp [noB,h]
theorem lie_under {w:World} {ok:Nat→Prop} {a:Option Addr} {L:List T} (h:Lie w ok a L):Lie w (fun k=>k<w.heap.size) a L:=by
 induction h with
 | nil a=>exact .nil a
 | cons bl off L A C hL hb hok hC hc _ ih=>exact .cons bl off L A C hL hb hb hC hc ih
structure Bz (W:World) (n:Nat) (t:T) (a:Option Addr) (c:Nat):Prop where
 cell:At W n 27 (ncells t a c)
 lie:Lie W (fun k=>k<n) a t.subs
theorem Bz.keep {S:Nat→Prop} {W W':World} {n:Nat} {t:T} {a:Option Addr} {c:Nat} (h:Bz W n t a c) (q:Keep S W W') (hS:∀ b,b≤n→¬ S b):Bz W' n t a c:=⟨h.cell.keep q (hS n (Nat.le_refl n)),h.lie.keep q (fun b hb=>hS b (by omega))⟩
theorem Bz.box {W:World} {n:Nat} {t:T} {a:Option Addr} {c:Nat} (h:Bz W n t a c):Bx W n t a c:=⟨h.cell,h.lie.mono (fun _ _=>trivial)⟩
theorem Bz.new {W:World} {t:T} {a:Option Addr} {c:Nat} (hL:Lie W (fun _=>True) a t.subs):Bz (W.alloc (.cells (ncells t a c) 27)) W.heap.size t a c :=
 ⟨At.new W _ _,(lie_under hL).keepF ((Keep.refl (fun _=>False) W).alloc _)⟩
theorem flens_low (n:Nat) (ih:∀ t:T,SizeOf.sizeOf t<n→LensOk t) (t:T) (h:SizeOf.sizeOf t<n+1) (hk:¬ t.kind=5):LensOk t:=fun d hR m hm a c w hL=>by
  have HK:=hid hk;clear hk;have hlen:=hL.len;have hmk:=make_bools (m+1) (by omega) (w.alloc (.cells (ncells t a c) 27))
  have c0:=At.new (w.alloc (.cells (ncells t a c) 27)) (bcells (noB m)) 4;rw [show ((m+1:Nat):Int)=(m:Int)+1 from by omega,show List.replicate (m+1) false=noB m from rfl] at hmk
  rw [show (w.alloc (.cells (ncells t a c) 27)).heap.size=w.heap.size+1 from by simp] at hmk c0
  have qb:=(Keep.refl (fun _=>False) (w.alloc (.cells (ncells t a c) 27))).alloc (.cells (bcells (noB m)) 4)
  have H0:=hid (And.intro (((Keep.refl (fun _=>False) w).alloc (.cells (ncells t a c) 27)).trans qb) (And.intro ((Bz.new (c:=c) hL).keep qb (fun _ _ h=>h)) (And.intro (ih) c0)))
  have hsub:=fun (s:T) (i:Nat) (h:t.subs[i]?=some s)=>sub_RT hR h
  have e:=lens_eq m t;obtain ⟨A,hA⟩:∃ A,lens m t=A:=⟨_,rfl⟩;rw [hA] at e;obtain ⟨n0,hn0⟩:∃ n0,w.heap.size=n0:=⟨_,rfl⟩;have hIs:IsLens m t w=fun e w'=>∃ g,e=.returned (.slice (some ⟨g,0,none⟩) (m+1) (m+1))∧n0≤g∧At w' g 4 (bcells A)∧Keep (fun _=>False) w w':=by rw [← hA,← hn0];rfl
  rw [hIs];have hw:∀ b,n0≤b→¬ b<w.heap.size:=fun b hb=>by omega
  have h5:=fun hk=>kind5_one hR hk
  have HE:=hid (And.intro hsub (And.intro h5 hw));have HN:=hid h;have HA:=hid e;clear hL e hA h hsub h5 hR c0 qb hIs hw
  go_enter Try.func39,Try.ntmps39
  go_upto_region 2 with fail;clear hmk;generalize ((w.alloc (.cells (ncells t a c) 27)).alloc (.cells (bcells (noB m)) 4))=W at *;rw [hn0] at H0
  try rw [hn0]
  clear hn0;have R0:=hid H0.out.2.2.2;have hm0:(0:Int)≤m:=by omega
  have z0:=R0.out.cell (bcells_get (noB_get (m:=m) (k:=0) (by omega)))
  have f0:=R0.out.frozen 0;obtain ⟨c0,c1,c2,c3,c4,c5,c6,c7⟩:=H0.out.2.1.box.eight;have hstep:∀ (s:T) (k:Nat),t.subs[k]?=some s→SizeOf.sizeOf s<n:=fun s k hs=>by have:=sub_less hs;have:=HN.out;omega
  have HST:=hid hstep;clear hstep
  by_cases k1:t.kind=1
  ·have hA:=HA.out
   rw [if_pos k1] at hA;have b1:(t.kind == 1)=true:=by simp [k1]
   have HF:=hid hA;clear k1 hA;go_wp2_with fail;go_ret;exact ⟨n0+1,rfl,by omega,by rw [HF.out,oneB0,← bcells_set];exact R0.out.set 0 (.bool true),H0.out.1.setCell (p:=⟨n0+1,0,none⟩) (fun h=>HE.out.2.2 (n0+1) (by omega) h) (.bool true)⟩
  have b1:(t.kind == 1)=false:=by simp [k1]
  by_cases k2:t.kind=2
  ·have hA:=HA.out
   rw [if_neg k1,if_pos k2] at hA;have b2:(t.kind == 2)=true:=by simp [k2]
   obtain ⟨E,hE⟩:∃ E,eqB t.set ST.none=E:=⟨_,rfl⟩;have es:∀ W,(Op.equalIn 10000 24 (.agg #[.int .u64 (t.set.x0:Int),.int .u64 (t.set.x1:Int),.int .u64 (t.set.x2:Int),.int .u64 (t.set.x3:Int)]) (.agg #[.int .u64 0,.int .u64 0,.int .u64 0,.int .u64 0])).run Try.prog W=.ok E W:=fun W=>by
    rw [← hE];exact eq_set t.set ST.none W
   rw [hE] at hA;clear k1 k2 hE
   by_cases h1:1≤m
   ·have h1':(1:Int)≤m:=by omega
    rw [if_pos h1] at hA;have HF:=hid hA;have z1:=R0.out.cell (bcells_get (noB_get (m:=m) (k:=1) (by omega)))
    have f1:=R0.out.frozen 1;clear hA
    cases E
    ·go_wp2_with fail
     go_ret;exact ⟨n0+1,rfl,by omega,by rw [HF.out,← bcells_set];exact R0.out.set 1 (.bool true),H0.out.1.setCell (p:=⟨n0+1,1,none⟩) (fun h=>HE.out.2.2 (n0+1) (by omega) h) (.bool true)⟩
    ·go_wp2_with fail
     go_ret;exact ⟨n0+1,rfl,by omega,by rw [HF.out,← bcells_set];exact R0.out.set 1 (.bool false),H0.out.1.setCell (p:=⟨n0+1,1,none⟩) (fun h=>HE.out.2.2 (n0+1) (by omega) h) (.bool false)⟩
   ·have h1':¬ (1:Int)≤m:=by omega
    rw [if_neg h1] at hA;have HF:=hid hA;clear hA es;go_wp2_with fail;go_ret;exact ⟨n0+1,rfl,by omega,by rw [HF.out];exact R0.out,H0.out.1⟩
  have b2:(t.kind == 2)=false:=by simp [k2]
  by_cases k3:t.kind=3
  ·have hA:=HA.out
   rw [if_neg k1,if_neg k2,if_pos k3] at hA;have HF:=hid hA;have b3:(t.kind == 3)=true:=by simp [k3]
   have b4:(t.kind == 4)=false:=by simp [k3]
   have b5:(t.kind == 5)=false:=by simp [k3]
   have hq:=(Keep.refl (fun b=>b=n0+1) W).setCell (p:=⟨n0+1,0,none⟩) (fun _=>rfl) (.bool true)
   have R1:=hid (show At (W.setCell ⟨n0+1,0,none⟩ (.bool true)) (n0+1) 4 (bcells (oneB0 m)) from by rw [oneB0,← bcells_set];exact R0.out.set 0 (.bool true))
   have K1:=hid (show Keep (fun _=>False) w (W.setCell ⟨n0+1,0,none⟩ (.bool true)) from H0.out.1.setCell (p:=⟨n0+1,0,none⟩) (fun h=>HE.out.2.2 (n0+1) (by omega) h) (.bool true))
   have B1:=hid (H0.out.2.1.keep hq (fun b hb h=>by omega))
   clear k1 k2 k3 hA hq;go_upto_region 10 with fail
   change Code.wp _ _ _ _ (W.setCell ⟨n0+1,0,none⟩ (.bool true))
   generalize (W.setCell ⟨n0+1,0,none⟩ (.bool true))=W1 at *;clear z0 f0 c0 c1 c2 c3 c4 c5 c6 c7;go_wp2_with fail
   go_loopg [5,6] t.subs.length (fun gg u5 i wr=>∃ (k g:Nat),i=.int .i64 k∧k+gg=t.subs.length∧u5=.slice (some ⟨g,0,none⟩) (m+1) (m+1)∧n0<g∧At wr g 4 (bcells (catB m (oneB0 m) (t.subs.take k)))∧Keep (fun _=>False) W1 wr)
   case atStart=>exact ⟨0,n0+1,rfl,by omega,rfl,by omega,by rw [List.take_zero,catB];exact R1.out,Keep.refl _ _⟩
   case round =>
    obtain ⟨k,g,rfl,hk,rfl,hg,hrow,hq⟩:=hrel;have B2:=(B1.out.keep hq (fun _ _ h=>h)).box
    obtain ⟨-,-,-,-,-,-,-,c7⟩:=B2.eight
    by_cases hlt:k<t.subs.length
    ·have hlt':(k:Int)<t.subs.length:=by omega
     have i0:(0:Int)≤k:=by omega
     obtain ⟨s,hs⟩:∃ s,t.subs[k]?=some s:=⟨t.subs[k],List.getElem?_eq_getElem hlt⟩;obtain ⟨bl,off,a1,e1,rfl,L1,d0,d1,d2,d3,d4,d5,d6,d7⟩:=B2.sub hs;have ht:=catB_take (m:=m) (acc:=oneB0 m) hs;have hcall:=H0.out.2.2.1 s (HST.out s k hs) d (HE.out.1 s k hs) m hm a1 e1 wr L1;have hl1:(catB m (oneB0 m) (t.subs.take k)).length=m+1:=by rw [catB_length,oneB0_length]
     have hl2:=lens_length m s;have hgn:g<wr.heap.size:=hrow.lt;unfold IsLens at hcall;have HQ:=hid (And.intro hq (And.intro hcall (And.intro ht (And.intro hrow (And.intro hl1 hl2)))));clear hq hcall ht hrow B2 hs hl1 hl2 L1;go_wp2_with fail;refine HQ.out.2.1.mono ?_;rintro e w2 ⟨g2,rfl,hg2,hr2,q2⟩;have Q2:=hid (And.intro (HQ.out.1.trans q2) (And.intro (HQ.out.2.2.2.1.keep q2 (fun h=>h)) hr2))
     have hw2:wr.heap.size≤w2.heap.size:=q2.size;clear q2 hr2 c7 d0 d1 d2 d3 d4 d5 d6 d7;go_wp2_with fail;refine (fjoin_any _ _ (m+1) HQ.out.2.2.2.2.1 HQ.out.2.2.2.2.2 (by omega) g g2 w2 Q2.out.2.1 Q2.out.2.2).mono ?_
     rintro e w3 ⟨g3,rfl,hg3,hr3,q3⟩;rw [← HQ.out.2.2.1] at hr3;have Q3:=hid (And.intro (Q2.out.1.trans q3) hr3);have hg4:n0<g3:=by omega
     clear q3 hr3;go_wp2_with fail
     go_roundg (t.subs.length - (k+1))
     case measure=>omega
     case rel=>exact ⟨k+1,g3,by go_num,by omega,rfl,hg4,Q3.out.2,Q3.out.1⟩
    ·have hke:k=t.subs.length:=by omega
     subst hke;rw [List.take_length,← HF.out] at hrow;have HQ:=hid (And.intro hq hrow);clear hq hrow B2;go_wp2_with fail;go_ret;exact ⟨g,rfl,by omega,HQ.out.2,K1.out.trans HQ.out.1⟩
  have b3:(t.kind == 3)=false:=by simp [k3]
  by_cases k4:t.kind=4
  ·have hA:=HA.out
   rw [if_neg k1,if_neg k2,if_neg k3,if_pos k4] at hA;have HF:=hid hA;have b4:(t.kind == 4)=true:=by simp [k4]
   have b5:(t.kind == 5)=false:=by simp [k4]
   clear k1 k2 k3 k4 hA;go_wp2_with fail;clear z0 f0 c0 c1 c2 c3 c4 c5 c6 c7
   go_loopg [7,8,9] t.subs.length (fun gg i s8 s9 wr=>∃ (k:Nat),i=.int .i64 k∧k+gg=t.subs.length∧At wr (n0+1) 4 (bcells (altB m (noB m) (t.subs.take k)))∧Keep (fun b=>b=n0+1) W wr)
   case atStart=>exact ⟨0,rfl,by omega,by rw [List.take_zero,altB];exact R0.out,Keep.refl _ _⟩
   case round =>
    obtain ⟨k,rfl,hk,hrow,hq⟩:=hrel;have B2:=(H0.out.2.1.keep hq (fun b hb h=>by omega)).box
    obtain ⟨-,-,-,-,-,-,-,c7⟩:=B2.eight
    by_cases hlt:k<t.subs.length
    ·have hlt':(k:Int)<t.subs.length:=by omega
     have i0:(0:Int)≤k:=by omega
     obtain ⟨s,hs⟩:∃ s,t.subs[k]?=some s:=⟨t.subs[k],List.getElem?_eq_getElem hlt⟩;obtain ⟨bl,off,a1,e1,rfl,L1,d0,d1,d2,d3,d4,d5,d6,d7⟩:=B2.sub hs;have ht:=altB_take (m:=m) (acc:=noB m) hs;have hcall:=H0.out.2.2.1 s (HST.out s k hs) d (HE.out.1 s k hs) m hm a1 e1 wr L1;obtain ⟨X,hX⟩:∃ X,altB m (noB m) (t.subs.take k)=X:=⟨_,rfl⟩;have hl1:X.length=m+1:=by rw [← hX,altB_length,noB_length]
     have hl2:=lens_length m s;unfold IsLens at hcall;obtain ⟨Y,hY⟩:∃ Y,lens m s=Y:=⟨_,rfl⟩;rw [hX] at ht hrow;rw [hY] at ht hcall hl2;have hgn:n0+1<wr.heap.size:=hrow.lt;have HQ:=hid (And.intro hq (And.intro hcall (And.intro ht (And.intro hrow (And.intro hl1 hl2)))));clear hq hcall ht hrow B2 hs hl1 hl2 L1 hX hY;go_wp2_with fail;refine HQ.out.2.1.mono ?_;rintro e w2 ⟨g2,rfl,hg2,hr2,q2⟩;have Q2:=hid (And.intro (HQ.out.1.trans (q2.mono (fun _ h=>h.elim))) (And.intro (HQ.out.2.2.2.1.keep q2 (fun h=>h)) hr2))
     clear q2 hr2 c7 d0 d1 d2 d3 d4 d5 d6 d7;go_wp2_with fail
     go_loopg [9] (m+1) (fun gg s9 wx=>∃ j:Nat,s9=.int .i64 j∧j+gg=m+1∧At wx (n0+1) 4 (bcells (OP X Y j))∧Keep (fun b=>b=n0+1) w2 wx)
     case atStart=>exact ⟨0,rfl,by omega,by rw [OP_start];exact Q2.out.2.1,Keep.refl _ _⟩
     case round =>
      obtain ⟨j,rfl,hj,hrow,hq⟩:=hrel;have j0:(0:Int)≤j:=by omega
      by_cases hin:j≤m
      ·have hin':(j:Int)≤m:=by omega
       have e0:=hrow.cell (bcells_get (OP_at X Y (i:=j) (by rw [HQ.out.2.2.2.2.1];omega)))
       have f0:=hrow.frozen j;have e2:=(Q2.out.2.2.keep hq (by omega)).cell (bcells_get (getD_get (L:=Y) (k:=j) (by rw [HQ.out.2.2.2.2.2];omega)))
       have hset:=hrow.set j (.bool (X.getD j false || Y.getD j false))
       rw [bcells_set,← OP_step X Y (i:=j) (by rw [HQ.out.2.2.2.2.1];omega)] at hset
       have hqs:=hq.setCell (p:=⟨n0+1,j,none⟩) (fun _=>rfl) (.bool (X.getD j false || Y.getD j false))
       obtain ⟨x,hx⟩:∃ x,X.getD j false=x:=⟨_,rfl⟩;obtain ⟨y,hy⟩:∃ y,Y.getD j false=y:=⟨_,rfl⟩;rw [hx,hy] at hset hqs;rw [hx] at e0;rw [hy] at e2;have HS:=hid (And.intro hset hqs);clear hset hqs hx hy hrow hq
       cases x <;> cases y
       all_goals
        go_wp2_with fail
        go_roundg (m+1 - (j+1))
        case measure=>omega
        case rel=>exact ⟨j+1,by go_num,by omega,HS.out.1,HS.out.2⟩
      ·have hin':¬ (j:Int)≤m:=by omega
       have hjm:j=m+1:=by omega
       have ho:OP X Y j=altB m (noB m) (t.subs.take (k+1)):=by
        rw [HQ.out.2.2.1];unfold orB;rw [HQ.out.2.2.2.2.1,hjm]
       rw [ho] at hrow;have HS:=hid (And.intro hrow (Q2.out.1.trans hq));clear hrow hq ho;go_wp2_with fail
       go_roundg (t.subs.length - (k+1))
       case measure=>omega
       case rel=>exact ⟨k+1,by go_num,by omega,HS.out.1,HS.out.2⟩
    ·have hke:k=t.subs.length:=by omega
     subst hke;rw [List.take_length,← HF.out] at hrow;have HQ:=hid (And.intro hq hrow);clear hq hrow B2;go_wp2_with fail;go_ret;exact ⟨n0+1,rfl,by omega,HQ.out.2,H0.out.1.next HQ.out.1 (fun b hb hl=>HE.out.2.2 b (by omega) hl)⟩
  have b4:(t.kind == 4)=false:=by simp [k4]
  have k5:¬ t.kind=5:=HK.out;have b5:(t.kind == 5)=false:=by simp [k5]
  have hA:=HA.out;rw [if_neg k1,if_neg k2,if_neg k3,if_neg k4,if_neg k5] at hA;have HF:=hid hA;clear k1 k2 k3 k4 k5 hA;go_wp2_with fail;go_ret;exact ⟨n0+1,rfl,by omega,by rw [HF.out];exact R0.out,H0.out.1⟩
end P09
namespace P09
open Go.RowKit Base Bytes P07 P08
open Sets (ST)
theorem flens_five (n:Nat) (ih:∀ t:T,SizeOf.sizeOf t<n→LensOk t) (t:T) (h:SizeOf.sizeOf t<n+1) (hk:t.kind=5):LensOk t:=fun d hR m hm a c w hL=>by
  have HK:=hid hk;clear hk;have hlen:=hL.len;have hmk:=make_bools (m+1) (by omega) (w.alloc (.cells (ncells t a c) 27))
  have c0:=At.new (w.alloc (.cells (ncells t a c) 27)) (bcells (noB m)) 4;rw [show ((m+1:Nat):Int)=(m:Int)+1 from by omega,show List.replicate (m+1) false=noB m from rfl] at hmk
  rw [show (w.alloc (.cells (ncells t a c) 27)).heap.size=w.heap.size+1 from by simp] at hmk c0
  have qb:=(Keep.refl (fun _=>False) (w.alloc (.cells (ncells t a c) 27))).alloc (.cells (bcells (noB m)) 4)
  have H0:=hid (And.intro (((Keep.refl (fun _=>False) w).alloc (.cells (ncells t a c) 27)).trans qb) (And.intro ((Bz.new (c:=c) hL).keep qb (fun _ _ h=>h)) (And.intro (ih) c0)))
  have hsub:=fun (s:T) (i:Nat) (h:t.subs[i]?=some s)=>sub_RT hR h
  have e:=lens_eq m t;obtain ⟨A,hA⟩:∃ A,lens m t=A:=⟨_,rfl⟩;rw [hA] at e;obtain ⟨n0,hn0⟩:∃ n0,w.heap.size=n0:=⟨_,rfl⟩;have hIs:IsLens m t w=fun e w'=>∃ g,e=.returned (.slice (some ⟨g,0,none⟩) (m+1) (m+1))∧n0≤g∧At w' g 4 (bcells A)∧Keep (fun _=>False) w w':=by rw [← hA,← hn0];rfl
  rw [hIs];have hw:∀ b,n0≤b→¬ b<w.heap.size:=fun b hb=>by omega
  have h5:=fun hk=>kind5_one hR hk
  have HE:=hid (And.intro hsub (And.intro h5 hw));have HN:=hid h;have HA:=hid e;clear hL e hA h hsub h5 hR c0 qb hIs hw
  go_enter Try.func39,Try.ntmps39
  go_upto_region 2 with fail;clear hmk;generalize ((w.alloc (.cells (ncells t a c) 27)).alloc (.cells (bcells (noB m)) 4))=W at *;rw [hn0] at H0
  try rw [hn0]
  clear hn0;have R0:=hid H0.out.2.2.2;have hm0:(0:Int)≤m:=by omega
  have z0:=R0.out.cell (bcells_get (noB_get (m:=m) (k:=0) (by omega)))
  have f0:=R0.out.frozen 0;obtain ⟨c0,c1,c2,c3,c4,c5,c6,c7⟩:=H0.out.2.1.box.eight;have hstep:∀ (s:T) (k:Nat),t.subs[k]?=some s→SizeOf.sizeOf s<n:=fun s k hs=>by have:=sub_less hs;have:=HN.out;omega
  have HST:=hid hstep;clear hstep;have k5:t.kind=5:=HK.out;have k1:¬ t.kind=1:=by omega
  have k2:¬ t.kind=2:=by omega
  have k3:¬ t.kind=3:=by omega
  have k4:¬ t.kind=4:=by omega
  have b1:(t.kind == 1)=false:=by simp [k1]
  have b2:(t.kind == 2)=false:=by simp [k2]
  have b3:(t.kind == 3)=false:=by simp [k3]
  have b4:(t.kind == 4)=false:=by simp [k4]
  ·have hA:=HA.out
   rw [if_neg k1,if_neg k2,if_neg k3,if_neg k4,if_pos k5] at hA;obtain ⟨s,hsub,m0,m1,hxx,-⟩:=HE.out.2.1 k5;have hs:t.subs[0]?=some s:=by rw [hsub];rfl
   have hl1:t.subs.length=1:=by rw [hsub];rfl
   rw [show headB m t.subs=lens m s from by rw [hsub,headB]] at hA
   have hcall:=fun a1 e1 W L=>H0.out.2.2.1 s (HST.out s 0 hs) d (HE.out.1 s 0 hs) m hm a1 e1 W L
   unfold IsLens at hcall;have hl2:=lens_length m s;obtain ⟨Y,hY⟩:∃ Y,lens m s=Y:=⟨_,rfl⟩;rw [hY] at hA hcall hl2;unfold repB at hA;have hLN:lastN m t.mn t.mx=if t.mx<0 then t.mn+m else t.mx:=rfl
   obtain ⟨NL,hNL⟩:∃ NL,(lastN m t.mn t.mx+1).toNat=NL:=⟨_,rfl⟩;rw [hNL] at hA;have hN1:t.mx<0→(NL:Int)=t.mn+m+1:=fun h=>by rw [if_pos h] at hLN;omega
   have hN2:¬ t.mx<0→(NL:Int)=t.mx+1:=fun h=>by rw [if_neg h] at hLN;omega
   have hNb:(NL:Int)≤40:=by
    by_cases h:t.mx<0
    ·have:=hN1 h
     omega
    ·have:=hN2 h
     omega
   have b5:(t.kind == 5)=true:=by simp [k5]
   have HQ:=hid (And.intro hA (And.intro hcall (And.intro hs (And.intro hl2 (And.intro hN1 hN2)))));have hgW:n0+1<W.heap.size:=R0.out.lt;have hmx:-1≤t.mx∧t.mx≤20:=by omega
   rw [hl1] at c7;clear k1 k2 k3 k4 k5 hA hcall hs hsub hl2 hY hLN hNL hN1 hN2 hxx z0 f0 c1 c2 c3 c4;obtain ⟨bl,off,a1,e1,rfl,L1,d0,d1,d2,d3,d4,d5,d6,d7⟩:=H0.out.2.1.box.first HQ.out.2.2.1;have HL1:=hid L1;clear L1;go_wp2_with fail;refine (HQ.out.2.1 a1 e1 W HL1.out).mono ?_;rintro e w2 ⟨g2,rfl,hg2,hr2,q2⟩;have hmk:=make_bools (m+1) (by omega) w2
   rw [show ((m+1:Nat):Int)=(m:Int)+1 from by omega,show List.replicate (m+1) false=noB m from rfl] at hmk
   have qn:=(Keep.refl (fun _=>False) w2).alloc (.cells (bcells (noB m)) 4)
   have q3:=q2.trans qn;have hw2:W.heap.size≤w2.heap.size:=q2.size;have hg2lt:g2<w2.heap.size:=hr2.lt;have H3:=hid (And.intro (At.new w2 (bcells (noB m)) 4) (And.intro (R0.out.keep q3 (fun h=>h)) (And.intro (hr2.keep qn (fun h=>h)) (And.intro (H0.out.2.1.keep q3 (fun _ _ h=>h)) (H0.out.1.trans q3)))))
   clear q2 hr2 qn q3 c0 c5 c6 c7 d0 d1 d2 d3 d4 d5 d6 d7;go_upto_region 26 with fail;clear hmk;generalize (w2.alloc (.cells (bcells (noB m)) 4))=W3 at *;generalize w2.heap.size=gN at *;have z0:=H3.out.1.cell (bcells_get (noB_get (m:=m) (k:=0) (by omega)))
   have f0:=H3.out.1.frozen 0;have hq:=(Keep.refl (fun b=>b=gN) W3).setCell (p:=⟨gN,0,none⟩) (fun _=>rfl) (.bool true)
   have H4:=hid (And.intro (show At (W3.setCell ⟨gN,0,none⟩ (.bool true)) gN 4 (bcells (oneB0 m)) from by rw [oneB0,← bcells_set];exact H3.out.1.set 0 (.bool true)) (And.intro (H3.out.2.1.keep hq (by omega)) (And.intro (H3.out.2.2.1.keep hq (by omega)) (And.intro (H3.out.2.2.2.1.keep hq (fun b hb h=>by omega)) (H3.out.2.2.2.2.setCell (p:=⟨gN,0,none⟩) (fun h=>HE.out.2.2 gN (by omega) h) (.bool true))))))
   clear hq;go_upto_region 27 with fail
   change Code.wp _ _ _ _ (W3.setCell ⟨gN,0,none⟩ (.bool true))
   generalize (W3.setCell ⟨gN,0,none⟩ (.bool true))=W4 at *;clear z0 f0;obtain ⟨-,-,-,-,-,c5,c6,-⟩:=H4.out.2.2.2.1.box.eight;have hcs:(t.mx<0∧(NL:Int)=t.mn+m+1)∨(¬ t.mx<0∧(NL:Int)=t.mx+1):=by
    by_cases h:t.mx<0
    ·exact .inl ⟨h,HQ.out.2.2.2.2.1 (by omega)⟩
    ·exact .inr ⟨h,HQ.out.2.2.2.2.2 (by omega)⟩
   go_upto_if 104 with fail
   go_cut [12] from 104 to 108 (fun x12 wx=>x12=.int .i64 ((NL:Int) - 1)∧wx=W4)
   case first =>
    rcases hcs with ⟨hx,hN⟩ | ⟨hx,hN⟩
    ·have hv:t.mn+m=(NL:Int) - 1:=by omega
     have HV:=hid hv;clear hv hN;go_wp2_with fail
     go_meet
     case rel=>exact ⟨by rw [HV.out],rfl⟩
    ·have hv:t.mx=(NL:Int) - 1:=by omega
     have HV:=hid hv;clear hv hN;go_wp2_with fail
     go_meet
     case rel=>exact ⟨by rw [HV.out],rfl⟩
   case rest =>
   obtain ⟨rfl,hwc⟩:=hcut;have hwc':=hwc.symm;subst hwc';clear hcs c6 hwc;go_wp2_with fail
   go_loopg [11,13,14] NL (fun gg u11 i s14 wr=>∃ (k g:Nat),i=.int .i64 k∧k+gg=NL∧u11=.slice (some ⟨g,0,none⟩) (m+1) (m+1)∧n0+1<g∧At wr g 4 (bcells (repS m t.mn Y k).2)∧At wr (n0+1) 4 (bcells (repS m t.mn Y k).1)∧Keep (fun b=>b=n0+1) W4 wr)
   case atStart=>exact ⟨0,gN,rfl,by omega,rfl,by omega,H4.out.1,H4.out.2.1,Keep.refl _ _⟩
   case round =>
    obtain ⟨k,g,rfl,hk,rfl,hg,hnow,hrow,hq⟩:=hrel
    by_cases hlt:k<NL
    ·have i0:(0:Int)≤k:=by omega
     obtain ⟨-,-,-,-,-,c5,-,-⟩:=(H4.out.2.2.2.1.keep hq (fun b hb h=>by omega)).box.eight
     have hlen1:=repS_length m t.mn Y k;have hst:repS m t.mn Y (k+1)=((if t.mn≤k then orB (repS m t.mn Y k).1 (repS m t.mn Y k).2 else (repS m t.mn Y k).1),joinB (repS m t.mn Y k).2 Y):=by rw [repS]
     obtain ⟨⟨X,Z⟩,hXZ⟩:∃ P,repS m t.mn Y k=P:=⟨_,rfl⟩;rw [hXZ] at hst hnow hrow hlen1
     dsimp only at hst hnow hrow hlen1
     have hglt:g<wr.heap.size:=hnow.lt;have hry:=H4.out.2.2.1.keep hq (by omega)
     have HS:=hid (And.intro hst (And.intro hnow (And.intro hrow (And.intro hlen1 (And.intro hq hry)))));clear hst hnow hrow hlen1 hq hXZ hry
     by_cases hmk:t.mn≤k
     ·have hst:=HS.out.1
      rw [if_pos hmk] at hst;have HT:=hid hst;clear hst;go_wp2_with fail
      go_loopg [14] (m+1) (fun gg s14 wx=>∃ j:Nat,s14=.int .i64 j∧j+gg=m+1∧At wx (n0+1) 4 (bcells (OP X Z j))∧Keep (fun b=>b=n0+1) wr wx)
      case atStart=>exact ⟨0,rfl,by omega,by rw [OP_start];exact HS.out.2.2.1,Keep.refl _ _⟩
      case round =>
       obtain ⟨j,rfl,hj,hrow,hq⟩:=hrel;have j0:(0:Int)≤j:=by omega
       by_cases hin:j≤m
       ·have hin':(j:Int)≤m:=by omega
        have e0:=hrow.cell (bcells_get (OP_at X Z (i:=j) (by rw [HS.out.2.2.2.1.1];omega)))
        have f0:=hrow.frozen j;have e2:=(HS.out.2.1.keep hq (by omega)).cell (bcells_get (getD_get (L:=Z) (k:=j) (by rw [HS.out.2.2.2.1.2];omega)))
        have hset:=hrow.set j (.bool (X.getD j false || Z.getD j false))
        rw [bcells_set,← OP_step X Z (i:=j) (by rw [HS.out.2.2.2.1.1];omega)] at hset
        have hqs:=hq.setCell (p:=⟨n0+1,j,none⟩) (fun _=>rfl) (.bool (X.getD j false || Z.getD j false))
        obtain ⟨x,hx'⟩:∃ x,X.getD j false=x:=⟨_,rfl⟩;obtain ⟨y,hy'⟩:∃ y,Z.getD j false=y:=⟨_,rfl⟩;rw [hx',hy'] at hset hqs;rw [hx'] at e0;rw [hy'] at e2;have HSS:=hid (And.intro hset hqs);clear hset hqs hx' hy' hrow hq c5
        cases x <;> cases y
        all_goals
         go_wp2_with fail
         go_roundg (m+1 - (j+1))
         case measure=>omega
         case rel=>exact ⟨j+1,by go_num,by omega,HSS.out.1,HSS.out.2⟩
       ·have hin':¬ (j:Int)≤m:=by omega
        have hjm:j=m+1:=by omega
        have ho:OP X Z j=orB X Z:=by
         unfold orB;rw [HS.out.2.2.2.1.1,hjm]
        rw [ho] at hrow;have hj:=fjoin_any Z Y (m+1) HS.out.2.2.2.1.2 HQ.out.2.2.2.1 (by omega) g g2 wr (HS.out.2.1.keep hq (by omega)) (HS.out.2.2.2.2.2.keep hq (by omega))
        have hwx:n0+1<wr.heap.size:=hrow.lt;have HSS:=hid (And.intro hrow (And.intro (HS.out.2.2.2.2.1.trans hq) hj));clear hrow hq ho hj c5;go_wp2_with fail;refine HSS.out.2.2.mono ?_;rintro e w5 ⟨g3,rfl,hg3,hr3,q5⟩;have H5:=hid (And.intro hr3 (And.intro (HSS.out.1.keep q5 (fun h=>h)) (HSS.out.2.1.trans (q5.mono (fun _ h=>h.elim)))))
        have hg5:n0+1<g3:=by omega
        clear hr3 q5;go_wp2_with fail
        go_roundg (NL - (k+1))
        case measure=>omega
        case rel=>exact ⟨k+1,g3,by go_num,by omega,rfl,hg5,by rw [HT.out];exact H5.out.1,by rw [HT.out];exact H5.out.2.1,H5.out.2.2⟩
     ·have hst:=HS.out.1
      rw [if_neg hmk] at hst;have HT:=hid hst;have hmk':(k:Int)<t.mn:=by omega
      have hj:=fjoin_any Z Y (m+1) HS.out.2.2.2.1.2 HQ.out.2.2.2.1 (by omega) g g2 wr HS.out.2.1 HS.out.2.2.2.2.2
      have HSS:=hid hj;clear hst hj;go_wp2_with fail;refine HSS.out.mono ?_;rintro e w5 ⟨g3,rfl,hg3,hr3,q5⟩;have H5:=hid (And.intro hr3 (And.intro (HS.out.2.2.1.keep q5 (fun h=>h)) (HS.out.2.2.2.2.1.trans (q5.mono (fun _ h=>h.elim)))))
      have hg5:n0+1<g3:=by omega
      clear hr3 q5;go_wp2_with fail
      go_roundg (NL - (k+1))
      case measure=>omega
      case rel=>exact ⟨k+1,g3,by go_num,by omega,rfl,hg5,by rw [HT.out];exact H5.out.1,by rw [HT.out];exact H5.out.2.1,H5.out.2.2⟩
    ·have hke:k=NL:=by omega
     subst hke;rw [← HQ.out.1] at hrow;have HS:=hid (And.intro hrow hq);clear hrow hq hnow;go_wp2_with fail;go_ret;exact ⟨n0+1,rfl,by omega,HS.out.1,H4.out.2.2.2.2.next HS.out.2 (fun b hb hl=>HE.out.2.2 b (by omega) hl)⟩
theorem flens_all:∀ (n:Nat) (t:T),SizeOf.sizeOf t<n→LensOk t
 | 0,_,h=>absurd h (Nat.not_lt_zero _)
 | n+1,t,h=>by
  by_cases hk:t.kind=5
  ·exact flens_five n (flens_all n) t h hk
  ·exact flens_low n (flens_all n) t h hk
end P09
namespace P12
open Go.RowKit Base Bytes P07 P08 P09
open Sets (ST)
def fewD (s:List UInt8) (t:T):Bool:=decide (sz t≤200) && (decide (s.length≤16) && (!rightB t || decide (cnt t≤60)))
theorem few12_any (t:T) (_hs:SOk t) (hc:cnt t≤1000000000) (s:List UInt8) (a:Option Addr) (c:Nat) (w:World) (hL:Lie w (fun _=>True) a t.subs) :
  Calls Try.prog 5 #[nodeV t a c,.string ⟨s.toArray⟩] w fun e w'=>e=.returned (.bool (fewD s t))∧Keep (fun _=>False) w w':=by
 have hsz:=P07.size_str s;have HW:=hid (fun W (q:Keep (fun _=>False) w W)=>few_any t hc a c W (hL.keepF q))
 have HR:=hid (fun W (q:Keep (fun _=>False) w W)=>fright_any t hc a c W (hL.keepF q))
 have HD:=hid (fun (_:rightB t=true) W (q:Keep (fun _=>False) w W)=>fsize_any t hc a c W (hL.keepF q))
 have hEq:fewD s t=(decide (sz t≤200) && (decide (s.length≤16) && (!rightB t || decide (cnt t≤60)))):=rfl
 rw [hEq];obtain ⟨d0,d1,d2,d3,d4,d5,d6,d7⟩:=(Bx.new (c:=c) hL).eight;have B0:=hid (Bx.new (c:=c) hL);have QA:=hid ((Keep.refl (fun _=>False) w).alloc (.cells (ncells t a c) 27))
 obtain ⟨V,hV⟩:∃ V,cnt t=V:=⟨_,rfl⟩;rw [hV] at HD ⊢;obtain ⟨z,hz⟩:∃ z,decide (sz t≤200)=z:=⟨_,rfl⟩;obtain ⟨r,hr⟩:∃ r,rightB t=r:=⟨_,rfl⟩;rw [hz] at HW ⊢;rw [hr] at HR HD ⊢;clear hL hEq hr hz hc hV
 go_enter Try.func5,Try.ntmps5
 go_upto_region 1 with fail;generalize (w.alloc (.cells (ncells t a c) 27))=W at *
 cases z with
 | false =>
  go_wp2_with fail;refine (HW.out _ QA.out).mono ?_;rintro e w1 ⟨rfl,q1⟩;have Q1:=hid (QA.out.trans q1);clear d0 d1 d2 d3 d4 d5 d6 d7 q1;go_wp2_with fail;go_ret;exact ⟨rfl,Q1.out⟩
 | true =>
  go_wp2_with fail;refine (HW.out _ QA.out).mono ?_;rintro e w1 ⟨rfl,q1⟩;have B1:=B0.out.keep q1;have Q1:=hid (QA.out.trans q1);clear d0 d1 d2 d3 d4 d5 d6 d7 q1;obtain ⟨d0,d1,d2,d3,d4,d5,d6,d7⟩:=B1.eight;have BB1:=hid B1;clear B1
  by_cases hl:s.length≤16
  ·have hl':(s.length:Int)≤16:=by omega
   have HL:=hid (decide_eq_true hl);clear hl;go_wp2_with fail;refine (HR.out _ Q1.out).mono ?_;rintro e w2 ⟨rfl,q2⟩;have B2:=BB1.out.keep q2;have Q2:=hid (Q1.out.trans q2);clear d0 d1 d2 d3 d4 d5 d6 d7 q2
   cases r with
   | false =>
    clear B2;go_wp2_with fail;go_ret;exact ⟨by rw [HL.out];rfl,Q2.out⟩
   | true =>
    obtain ⟨d0,d1,d2,d3,d4,d5,d6,d7⟩:=B2.eight;clear B2;go_wp2_with fail;refine (HD.out (by first | exact rfl | exact trivial) _ Q2.out).mono ?_
    rintro e w3 ⟨rfl,q3⟩;have Q3:=hid (Q2.out.trans q3);clear d0 d1 d2 d3 d4 d5 d6 d7 q3;go_wp2_with fail;go_ret;exact ⟨by rw [HL.out,show decide (V≤60)=decide ((V:Int)≤60) from decide_eq_decide.2 (by omega)];rfl,Q3.out⟩
  ·have hl':¬ (s.length:Int)≤16:=by omega
   have HL:=hid (decide_eq_false hl);clear hl;go_wp2_with fail;go_ret;exact ⟨by rw [HL.out];rfl,Q1.out⟩
end P12
end Go.Proofs.Ytlmfbchgkjgljaa
