/- Layer 12: DeriveTells. -/
import Derived.Test.YtlmfbchgkjgljaaGreatKY53
import Derived.Test.YtlmfbchgkjgljaaGreatKY26
import Derived.Test.YtlmfbchgkjgljaaGreatKY51
import Derived.Test.YtlmfbchgkjgljaaGreatKY42
import Derived.Test.YtlmfbchgkjgljaaGreatKY08
import Derived.Test.YtlmfbchgkjgljaaGreatRows
import Derived.JoinedCond
set_option maxRecDepth 100000
set_option maxHeartbeats 32000000
open Go.Lib (hid)
namespace Go.Proofs.YtlmfbchgkjgljaaGreat
namespace P12
open Go.RowKit Base Bytes P07 P08 P09 P10
open Sets (ST)
theorem law_tells (t:T) (a:Option Addr) (c:Nat) (w:World) (hta:Lie w (fun _=>True) a t.subs) (hcl:t.subs.length≤c) (ht:cnt t≤1000000000) (hst:SOk t) (s:List UInt8) (b:Nat) (hb:b<256) :
  Calls Tryz.prog 3 #[nodeV t a c,.string ⟨s.toArray⟩,.int .u8 (b:Int)] w fun e w'=>e=.returned (.bool true)∧Keep (fun _=>False) w w':=by
 have hsz:=P07.size_str s;have HBB:=hid hb;have hb0:(0:Int)≤b:=by omega
 have hb1:(b:Int)≤255:=by omega
 have hcw:IntKind.i64.wrap (b:Int)=b:=by rw [IntKind.wrap_i64];omega
 clear hb;have H0:=hid (And.intro (Nd.new hcl hta) ((Keep.refl (fun _=>False) w).alloc (.cells (ncells t a c) 27)))
 have HH:=hid (And.intro ht hst);clear hta hcl hst ht
 go_enter Tryz.func3,Tryz.ntmps3
 go_upto_region 1 with fail;generalize (w.alloc (.cells (ncells t a c) 27))=W0 at *;generalize w.heap.size=n1 at *;go_wp2_with fail;refine (awake12 W0).mono ?_;rintro e w1 ⟨rfl,q1⟩;have B1:=hid (And.intro (H0.out.1.keep q1) (H0.out.2.trans q1));clear q1;obtain ⟨d0,d1,d2,d3,d4,d5,d6,d7⟩:=(cells8 B1.out.1.cell).1;go_wp2_with fail;refine (few12_any t HH.out.2 HH.out.1 s a c w1 B1.out.1.lie).mono ?_;rintro e w2 ⟨rfl,q2⟩;have B2:=hid (And.intro (B1.out.1.keep q2) (B1.out.2.trans q2));clear q2 d0 d1 d2 d3 d4 d5 d6 d7;obtain ⟨d0,d1,d2,d3,d4,d5,d6,d7⟩:=(cells8 B2.out.1.cell).1
 cases hf:fewD s t with
 | false =>
  clear d0 d1 d2 d3 d4 d5 d6 d7;go_wp2_with fail;refine (awake12 _).mono ?_;rintro e w99 ⟨rfl,q99⟩;have Q99:=hid (B2.out.2.trans q99);clear q99;go_wp2_with fail;go_ret;exact ⟨rfl,Q99.out⟩
 | true =>
  unfold fewD at hf
  simp only [Bool.and_eq_true,decide_eq_true_eq,Bool.or_eq_true,Bool.not_eq_true'] at hf
  have HF:=hid hf;clear hf;have HRi:=hid (fun W hL=>fright_any t HH.out.1 a c W hL)
  cases hr:rightB t with
  | false =>
   have hnR:¬ RT 12 t:=fun h=>by
    rw [(rightB_iff HH.out.2).2 h] at hr
    cases hr
   have HBy:=hid (cby_wrong b t HH.out.2 hnR a c (fun _=>True) w2 B2.out.1.lie)
   have HWo:=hid (fun W hL=>cword_wrong s t HH.out.2 hnR a c (fun _=>True) W hL)
   rw [hr] at HRi;clear hnR hr;go_wp2_with fail;refine (HBy.out).mono ?_;rintro e w30 ⟨⟨v,rfl,xa,xc,rfl,hle,hlie⟩,q0⟩;have qq:=q0.alloc (.cells (ncells zT xa xc) 27);have I3:=hid (And.intro (B2.out.1.keep qq) (And.intro (Nd.new hle hlie) (B2.out.2.trans qq)));clear hle hlie q0 qq d0 d1 d2 d3 d4 d5 d6 d7;go_upto_region 4 with fail
   change Code.wp _ _ _ _ (w30.alloc (.cells (ncells zT xa xc) 27))
   generalize (w30.alloc (.cells (ncells zT xa xc) 27))=w3 at *;generalize w30.heap.size=n2 at *;obtain ⟨d0,d1,d2,d3,d4,d5,d6,d7⟩:=(cells8 (I3.out.1).cell).1;go_wp2_with fail;refine (HWo.out w3 I3.out.1.lie).mono ?_;rintro e w40 ⟨⟨v,rfl,ya,yc,rfl,hle,hlie⟩,q0⟩;have qq:=q0.alloc (.cells (ncells zT ya yc) 27);have I4:=hid (And.intro (I3.out.1.keep qq) (And.intro (I3.out.2.1.keep qq) (And.intro (Nd.new hle hlie) (I3.out.2.2.trans qq))));clear hle hlie q0 qq d0 d1 d2 d3 d4 d5 d6 d7;go_upto_region 5 with fail
   change Code.wp _ _ _ _ (w40.alloc (.cells (ncells zT ya yc) 27))
   generalize (w40.alloc (.cells (ncells zT ya yc) 27))=w4 at *;generalize w40.heap.size=n3 at *;obtain ⟨d0,d1,d2,d3,d4,d5,d6,d7⟩:=(cells8 (I4.out.1).cell).1;go_wp2_with fail;refine (HRi.out w4 I4.out.1.lie).mono ?_;rintro e w5 ⟨rfl,q5⟩;have I5:=hid (And.intro (I4.out.2.1.keep q5) (And.intro (I4.out.2.2.1.keep q5) (I4.out.2.2.2.trans q5)));clear q5 d0 d1 d2 d3 d4 d5 d6 d7;obtain ⟨d0,d1,d2,d3,d4,d5,d6,d7⟩:=(cells8 I5.out.1.cell).1;have HSa:=hid (same_yes12 zT xa xc none 0 w5 I5.out.1.lie (.nil _));go_wp2_with fail;refine HSa.out.mono ?_;rintro e w6 ⟨rfl,q6⟩;have I6:=hid (And.intro (I5.out.2.1.keep q6) (I5.out.2.2.trans q6));clear q6 d0 d1 d2 d3 d4 d5 d6 d7;obtain ⟨d0,d1,d2,d3,d4,d5,d6,d7⟩:=(cells8 I6.out.1.cell).1;have HSb:=hid (same_yes12 zT ya yc none 0 w6 I6.out.1.lie (.nil _));go_wp2_with fail;refine HSb.out.mono ?_;rintro e w7 ⟨rfl,q7⟩;have I7:=hid (I6.out.2.trans q7);clear q7 d0 d1 d2 d3 d4 d5 d6 d7;go_wp2_with fail;go_ret;exact ⟨rfl,I7.out⟩
  | true =>
   have hR:RT 12 t:=(rightB_iff HH.out.2).1 hr;have hc60:cnt t≤60:=by
    rcases HF.out.2.2 with h | h
    ·rw [hr] at h;cases h
    ·exact h
   have hrg:=reg_by hR hc60;have HBy:=hid (cby_right b HBB.out t hR hc60 a c (fun _=>True) w2 B2.out.1.lie B2.out.1.le)
   have HSi:=hid (fun W (hL:Lie W (fun _=>True) a t.subs)=>fsimple_any t 12 hR (by omega) a c (fun _=>True) W hL B2.out.1.le)
   have HFb:=hid (fun xa xc W (hL:Lie W (fun _=>True) xa (simT t).subs) hc=>fby_any (simT t) hrg.1 (by have:=hrg.2.1;omega) b HBB.out xa xc (fun _=>True) W hL hc)
   rw [hr] at HRi;obtain ⟨X,hX⟩:∃ X,byT b (simT t)=X:=⟨_,rfl⟩;rw [hX] at HBy HFb;have HA:=hid (And.intro hR hc60);clear hrg hX hr hR hc60
   cases ho:wordG (simT t) s with
   | none =>
    have HWo:=hid (fun W (hL:Lie W (fun _=>True) a t.subs)=>(show Calls Tryz.prog 10 #[nodeV t a c,str s] W (Gives2 W (fun _=>True) zT 11) from cword_right s (by have:=HF.out.2.1;omega) t HA.out.1 (by have:=HA.out.2;omega) (none) ho a c (fun _=>True) W hL B2.out.1.le))
    have HFw:=hid (fun W (hL:Lie W (fun _=>True) a t.subs)=>(show Calls Tryz.prog 13 #[nodeV t a c,str s] W (GivesB W (fun _=>True) zT false) from fword_any t HA.out.1 (by have:=HA.out.2;omega) s (by have:=HF.out.2.1;omega) (none) ho a c (fun _=>True) W hL B2.out.1.le))
    clear ho;generalize simT t=M at *;go_wp2_with fail;refine (HBy.out).mono ?_;rintro e w30 ⟨⟨v,rfl,xa,xc,rfl,hle,hlie⟩,q0⟩;have qq:=q0.alloc (.cells (ncells X xa xc) 27);have I3:=hid (And.intro (B2.out.1.keep qq) (And.intro (Nd.new hle hlie) (B2.out.2.trans qq)));clear hle hlie q0 qq d0 d1 d2 d3 d4 d5 d6 d7;go_upto_region 4 with fail
    change Code.wp _ _ _ _ (w30.alloc (.cells (ncells X xa xc) 27))
    generalize (w30.alloc (.cells (ncells X xa xc) 27))=w3 at *;generalize w30.heap.size=n2 at *;obtain ⟨d0,d1,d2,d3,d4,d5,d6,d7⟩:=(cells8 (I3.out.1).cell).1;go_wp2_with fail;refine (HWo.out w3 I3.out.1.lie).mono ?_;rintro e w40 ⟨⟨v,rfl,ya,yc,rfl,hle,hlie⟩,q0⟩;have qq:=q0.alloc (.cells (ncells zT ya yc) 27);have I4:=hid (And.intro (I3.out.1.keep qq) (And.intro (I3.out.2.1.keep qq) (And.intro (Nd.new hle hlie) (I3.out.2.2.trans qq))));clear hle hlie q0 qq d0 d1 d2 d3 d4 d5 d6 d7;go_upto_region 5 with fail
    change Code.wp _ _ _ _ (w40.alloc (.cells (ncells zT ya yc) 27))
    generalize (w40.alloc (.cells (ncells zT ya yc) 27))=w4 at *;generalize w40.heap.size=n3 at *;obtain ⟨d0,d1,d2,d3,d4,d5,d6,d7⟩:=(cells8 (I4.out.1).cell).1;go_wp2_with fail;refine (HRi.out w4 I4.out.1.lie).mono ?_;rintro e w5 ⟨rfl,q5⟩;have I5:=hid (And.intro (I4.out.1.keep q5) (And.intro (I4.out.2.1.keep q5) (And.intro (I4.out.2.2.1.keep q5) (I4.out.2.2.2.trans q5))));clear q5 d0 d1 d2 d3 d4 d5 d6 d7;obtain ⟨d0,d1,d2,d3,d4,d5,d6,d7⟩:=(cells8 I5.out.1.cell).1;go_wp2_with fail;refine (HFw.out w5 I5.out.1.lie).mono ?_;rintro e w60 ⟨⟨v,rfl,za,zc,rfl,hle,hlie⟩,q0⟩;have qq:=q0.alloc (.cells (ncells zT za zc) 27);have I6:=hid (And.intro (I5.out.1.keep qq) (And.intro (I5.out.2.1.keep qq) (And.intro (I5.out.2.2.1.keep qq) (And.intro (Nd.new hle hlie) (I5.out.2.2.2.trans qq)))));clear hle hlie q0 qq d0 d1 d2 d3 d4 d5 d6 d7;go_upto_region 8 with fail
    change Code.wp _ _ _ _ (w60.alloc (.cells (ncells zT za zc) 27))
    generalize (w60.alloc (.cells (ncells zT za zc) 27))=w6 at *;generalize w60.heap.size=n4 at *;have hs:∀ W',Keep (fun _=>False) w6 W'→(fun w'=>Keep (fun _=>False) w6 w'∧w'.cell? ⟨n1,0,none⟩=some (.int .i64 t.kind)∧w'.cell? ⟨n1,1,none⟩=some (.int .u64 t.set.x0)∧w'.cell? ⟨n1,2,none⟩=some (.int .u64 t.set.x1)∧w'.cell? ⟨n1,3,none⟩=some (.int .u64 t.set.x2)∧w'.cell? ⟨n1,4,none⟩=some (.int .u64 t.set.x3)∧w'.cell? ⟨n1,5,none⟩=some (.int .i64 t.mn)∧w'.cell? ⟨n1,6,none⟩=some (.int .i64 t.mx)∧w'.cell? ⟨n1,7,none⟩=some (.slice a t.subs.length c)∧w'.cell? ⟨n2,0,none⟩=some (.int .i64 X.kind)∧w'.cell? ⟨n2,1,none⟩=some (.int .u64 X.set.x0)∧w'.cell? ⟨n2,2,none⟩=some (.int .u64 X.set.x1)∧w'.cell? ⟨n2,3,none⟩=some (.int .u64 X.set.x2)∧w'.cell? ⟨n2,4,none⟩=some (.int .u64 X.set.x3)∧w'.cell? ⟨n2,5,none⟩=some (.int .i64 X.mn)∧w'.cell? ⟨n2,6,none⟩=some (.int .i64 X.mx)∧w'.cell? ⟨n2,7,none⟩=some (.slice xa X.subs.length xc)∧w'.cell? ⟨n3,0,none⟩=some (.int .i64 zT.kind)∧w'.cell? ⟨n3,1,none⟩=some (.int .u64 zT.set.x0)∧w'.cell? ⟨n3,2,none⟩=some (.int .u64 zT.set.x1)∧w'.cell? ⟨n3,3,none⟩=some (.int .u64 zT.set.x2)∧w'.cell? ⟨n3,4,none⟩=some (.int .u64 zT.set.x3)∧w'.cell? ⟨n3,5,none⟩=some (.int .i64 zT.mn)∧w'.cell? ⟨n3,6,none⟩=some (.int .i64 zT.mx)∧w'.cell? ⟨n3,7,none⟩=some (.slice ya zT.subs.length yc)∧w'.cell? ⟨n4,0,none⟩=some (.int .i64 zT.kind)∧w'.cell? ⟨n4,1,none⟩=some (.int .u64 zT.set.x0)∧w'.cell? ⟨n4,2,none⟩=some (.int .u64 zT.set.x1)∧w'.cell? ⟨n4,3,none⟩=some (.int .u64 zT.set.x2)∧w'.cell? ⟨n4,4,none⟩=some (.int .u64 zT.set.x3)∧w'.cell? ⟨n4,5,none⟩=some (.int .i64 zT.mn)∧w'.cell? ⟨n4,6,none⟩=some (.int .i64 zT.mx)∧w'.cell? ⟨n4,7,none⟩=some (.slice za zT.subs.length zc)) W':=fun W' q=>by
     obtain ⟨s00,s01,s02,s03,s04,s05,s06,s07⟩:=(cells8 (I6.out.1.cell.keep q (fun h=>h))).1
     obtain ⟨s10,s11,s12,s13,s14,s15,s16,s17⟩:=(cells8 (I6.out.2.1.cell.keep q (fun h=>h))).1
     obtain ⟨s20,s21,s22,s23,s24,s25,s26,s27⟩:=(cells8 (I6.out.2.2.1.cell.keep q (fun h=>h))).1
     obtain ⟨s30,s31,s32,s33,s34,s35,s36,s37⟩:=(cells8 (I6.out.2.2.2.1.cell.keep q (fun h=>h))).1
     exact ⟨q,s00,s01,s02,s03,s04,s05,s06,s07,s10,s11,s12,s13,s14,s15,s16,s17,s20,s21,s22,s23,s24,s25,s26,s27,s30,s31,s32,s33,s34,s35,s36,s37⟩
    have HS:=hid hs;clear hs;have HL:=hid (And.intro I6.out.1.lie (And.intro I6.out.2.1.lie (And.intro I6.out.2.2.1.lie I6.out.2.2.2.1.lie)));refine wp_region_noPanic ?_;refine wp_region_held_drew (S:=(fun w'=>Keep (fun _=>False) w6 w'∧w'.cell? ⟨n1,0,none⟩=some (.int .i64 t.kind)∧w'.cell? ⟨n1,1,none⟩=some (.int .u64 t.set.x0)∧w'.cell? ⟨n1,2,none⟩=some (.int .u64 t.set.x1)∧w'.cell? ⟨n1,3,none⟩=some (.int .u64 t.set.x2)∧w'.cell? ⟨n1,4,none⟩=some (.int .u64 t.set.x3)∧w'.cell? ⟨n1,5,none⟩=some (.int .i64 t.mn)∧w'.cell? ⟨n1,6,none⟩=some (.int .i64 t.mx)∧w'.cell? ⟨n1,7,none⟩=some (.slice a t.subs.length c)∧w'.cell? ⟨n2,0,none⟩=some (.int .i64 X.kind)∧w'.cell? ⟨n2,1,none⟩=some (.int .u64 X.set.x0)∧w'.cell? ⟨n2,2,none⟩=some (.int .u64 X.set.x1)∧w'.cell? ⟨n2,3,none⟩=some (.int .u64 X.set.x2)∧w'.cell? ⟨n2,4,none⟩=some (.int .u64 X.set.x3)∧w'.cell? ⟨n2,5,none⟩=some (.int .i64 X.mn)∧w'.cell? ⟨n2,6,none⟩=some (.int .i64 X.mx)∧w'.cell? ⟨n2,7,none⟩=some (.slice xa X.subs.length xc)∧w'.cell? ⟨n3,0,none⟩=some (.int .i64 zT.kind)∧w'.cell? ⟨n3,1,none⟩=some (.int .u64 zT.set.x0)∧w'.cell? ⟨n3,2,none⟩=some (.int .u64 zT.set.x1)∧w'.cell? ⟨n3,3,none⟩=some (.int .u64 zT.set.x2)∧w'.cell? ⟨n3,4,none⟩=some (.int .u64 zT.set.x3)∧w'.cell? ⟨n3,5,none⟩=some (.int .i64 zT.mn)∧w'.cell? ⟨n3,6,none⟩=some (.int .i64 zT.mx)∧w'.cell? ⟨n3,7,none⟩=some (.slice ya zT.subs.length yc)∧w'.cell? ⟨n4,0,none⟩=some (.int .i64 zT.kind)∧w'.cell? ⟨n4,1,none⟩=some (.int .u64 zT.set.x0)∧w'.cell? ⟨n4,2,none⟩=some (.int .u64 zT.set.x1)∧w'.cell? ⟨n4,3,none⟩=some (.int .u64 zT.set.x2)∧w'.cell? ⟨n4,4,none⟩=some (.int .u64 zT.set.x3)∧w'.cell? ⟨n4,5,none⟩=some (.int .i64 zT.mn)∧w'.cell? ⟨n4,6,none⟩=some (.int .i64 zT.mx)∧w'.cell? ⟨n4,7,none⟩=some (.slice za zT.subs.length zc))) (by kernel_rfl) ?_ (fun hHeld=>?_)
    ·exact HS.out _ ((Keep.refl _ _).drew)
    refine wpAnyH_take (i:=0) (oi:=⟨_,_,_,_,_,_⟩) (v:=?_) rfl (by kernel_rfl) (by kernel_rfl) (by kernel_rfl) (fun _ _ _ h=>h) (Or.inl ⟨by rfl,?_⟩) (by assumption) ?_
    rotate_left 1
    ·(intro w hSw;(try dsimp only at hSw);go_simp;first | done | with_reducible rfl)
    try simp only [Act.put,List.setIfInBounds_toArray,List.set_cons_zero,List.set_cons_succ]
    refine wpAnyH_take (i:=1) (oi:=⟨_,_,_,_,_,_⟩) (v:=?_) rfl (by kernel_rfl) (by kernel_rfl) (by kernel_rfl) (fun _ _ _ h=>h) (Or.inl ⟨by rfl,?_⟩) (by assumption) ?_
    rotate_left 1
    ·(intro w hSw;(try dsimp only at hSw);go_simp;first | done | with_reducible rfl)
    try simp only [Act.put,List.setIfInBounds_toArray,List.set_cons_zero,List.set_cons_succ]
    refine wpAnyH_take (i:=2) (oi:=⟨_,_,_,_,_,_⟩) (v:=?_) rfl (by kernel_rfl) (by kernel_rfl) (by kernel_rfl) (fun _ _ _ h=>h) (Or.inl ⟨by rfl,?_⟩) (by assumption) ?_
    rotate_left 1
    ·(intro w hSw;(try dsimp only at hSw);go_simp;first | done | with_reducible rfl)
    try simp only [Act.put,List.setIfInBounds_toArray,List.set_cons_zero,List.set_cons_succ]
    refine wpAnyH_take (i:=3) (oi:=⟨_,_,_,_,_,_⟩) (v:=?_) rfl (by kernel_rfl) (by kernel_rfl) (by kernel_rfl) (fun _ _ _ h=>h) (Or.inl ⟨by rfl,?_⟩) (by assumption) ?_
    rotate_left 1
    ·(intro w hSw;(try dsimp only at hSw);go_simp;first | done | with_reducible rfl)
    try simp only [Act.put,List.setIfInBounds_toArray,List.set_cons_zero,List.set_cons_succ]
    refine wpAnyH_take (i:=4) (oi:=⟨_,_,_,_,_,_⟩) (v:=?_) rfl (by kernel_rfl) (by kernel_rfl) (by kernel_rfl) (fun _ _ _ h=>h) (Or.inl ⟨by rfl,?_⟩) (by assumption) ?_
    rotate_left 1
    ·(intro w hSw;(try dsimp only at hSw);go_simp;first | done | with_reducible rfl)
    try simp only [Act.put,List.setIfInBounds_toArray,List.set_cons_zero,List.set_cons_succ]
    refine wpAnyH_take (i:=6) (oi:=⟨_,_,_,_,_,_⟩) (v:=?_) rfl (by kernel_rfl) (by kernel_rfl) (by kernel_rfl) (fun _ _ _ h=>h) (Or.inl ⟨by rfl,?_⟩) (by assumption) ?_
    rotate_left 1
    ·(intro w hSw;(try dsimp only at hSw);go_simp;first | done | with_reducible rfl)
    try simp only [Act.put,List.setIfInBounds_toArray,List.set_cons_zero,List.set_cons_succ]
    refine wpAnyH_take (i:=7) (oi:=⟨_,_,_,_,_,_⟩) (v:=?_) rfl (by kernel_rfl) (by kernel_rfl) (by kernel_rfl) (fun _ _ _ h=>h) (Or.inl ⟨by rfl,?_⟩) (by assumption) ?_
    rotate_left 1
    ·(intro w hSw;(try dsimp only at hSw);go_simp;first | done | with_reducible rfl)
    try simp only [Act.put,List.setIfInBounds_toArray,List.set_cons_zero,List.set_cons_succ]
    refine wpAnyH_ready (rs:=[5]) (by kernel_rfl) (by simp) ?_
    refine AllReadyH.cons (o:=⟨_,_,_,_,_,_⟩) rfl (fun K hK=>?_) AllReadyH.nil
    go_simp
    (go_at_call 15;refine (HSi.out _ (HL.out.1.keepF (And.left hHeld))).mono ?_;rintro e w7 ⟨⟨v,rfl,pa,pc,rfl,hle1,hL1⟩,q⟩)
    refine hK.out _ _ ?_ (fun hHeld'=>?_)
    ·exact HS.out _ (Keep.trans (And.left hHeld) q)
    clear hK K hHeld;have hHeld:=hHeld';clear hHeld'
    try simp only [Act.put,List.setIfInBounds_toArray,List.set_cons_zero,List.set_cons_succ]
    refine wpAnyH_ready (rs:=[8]) (by kernel_rfl) (by simp) ?_
    refine AllReadyH.cons (o:=⟨_,_,_,_,_,_⟩) rfl (fun K hK=>?_) AllReadyH.nil
    go_simp
    (go_at_call 14;refine (HFb.out _ _ _ (hL1.mono fun _ _=>trivial) hle1).mono ?_;rintro e w8 ⟨⟨v,rfl,ra,rc,rfl,hle2,hL2⟩,q⟩)
    refine hK.out _ _ ?_ (fun hHeld'=>?_)
    ·exact HS.out _ (Keep.trans (And.left hHeld) q)
    clear hK K hHeld;have hHeld:=hHeld';clear hHeld'
    try simp only [Act.put,List.setIfInBounds_toArray,List.set_cons_zero,List.set_cons_succ]
    refine wpAnyH_ready (rs:=[9]) (by kernel_rfl) (by simp) ?_
    refine AllReadyH.cons (o:=⟨_,_,_,_,_,_⟩) rfl (fun K hK=>?_) AllReadyH.nil
    go_simp
    (go_at_call 12;refine (same_yes12 X xa xc _ _ _ (HL.out.2.1.keepF (And.left hHeld)) (hL2.mono fun _ _=>trivial)).mono ?_;rintro e w9 ⟨rfl,q⟩)
    refine hK.out _ _ ?_ (fun hHeld'=>?_)
    ·exact HS.out _ (Keep.trans (And.left hHeld) q)
    clear hK K hHeld;have hHeld:=hHeld';clear hHeld'
    try simp only [Act.put,List.setIfInBounds_toArray,List.set_cons_zero,List.set_cons_succ]
    refine wpAnyH_take (i:=10) (oi:=⟨_,_,_,_,_,_⟩) (v:=?_) rfl (by kernel_rfl) (by kernel_rfl) (by kernel_rfl) (fun _ _ _ h=>h) (Or.inl ⟨by rfl,?_⟩) (by assumption) ?_
    rotate_left 1
    ·(intro w hSw;(try dsimp only at hSw);go_simp;first | done | with_reducible rfl)
    try simp only [Act.put,List.setIfInBounds_toArray,List.set_cons_zero,List.set_cons_succ]
    refine wpAnyH_take (i:=11) (oi:=⟨_,_,_,_,_,_⟩) (v:=?_) rfl (by kernel_rfl) (by kernel_rfl) (by kernel_rfl) (fun _ _ _ h=>h) (Or.inl ⟨by rfl,?_⟩) (by assumption) ?_
    rotate_left 1
    ·(intro w hSw;(try dsimp only at hSw);go_simp;first | done | with_reducible rfl)
    try simp only [Act.put,List.setIfInBounds_toArray,List.set_cons_zero,List.set_cons_succ]
    refine wpAnyH_take (i:=12) (oi:=⟨_,_,_,_,_,_⟩) (v:=?_) rfl (by kernel_rfl) (by kernel_rfl) (by kernel_rfl) (fun _ _ _ h=>h) (Or.inl ⟨by rfl,?_⟩) (by assumption) ?_
    rotate_left 1
    ·(intro w hSw;(try dsimp only at hSw);go_simp;first | done | with_reducible rfl)
    try simp only [Act.put,List.setIfInBounds_toArray,List.set_cons_zero,List.set_cons_succ]
    refine wpAnyH_take (i:=13) (oi:=⟨_,_,_,_,_,_⟩) (v:=?_) rfl (by kernel_rfl) (by kernel_rfl) (by kernel_rfl) (fun _ _ _ h=>h) (Or.inl ⟨by rfl,?_⟩) (by assumption) ?_
    rotate_left 1
    ·(intro w hSw;(try dsimp only at hSw);go_simp;first | done | with_reducible rfl)
    try simp only [Act.put,List.setIfInBounds_toArray,List.set_cons_zero,List.set_cons_succ]
    refine wpAnyH_ready (rs:=[14]) (by kernel_rfl) (by simp) ?_
    refine AllReadyH.cons (o:=⟨_,_,_,_,_,_⟩) rfl (fun K hK=>?_) AllReadyH.nil
    go_simp
    (go_at_call 12;refine (same_yes12 zT ya yc za zc _ (HL.out.2.2.1.keepF (And.left hHeld)) (HL.out.2.2.2.keepF (And.left hHeld))).mono ?_;rintro e w10 ⟨rfl,q⟩)
    refine hK.out _ _ ?_ (fun hHeld'=>?_)
    ·exact HS.out _ (Keep.trans (And.left hHeld) q)
    clear hK K hHeld;have hHeld:=hHeld';clear hHeld'
    try simp only [Act.put,List.setIfInBounds_toArray,List.set_cons_zero,List.set_cons_succ]
    refine wpAnyH_take (i:=15) (oi:=⟨_,_,_,_,_,_⟩) (v:=?_) rfl (by kernel_rfl) (by kernel_rfl) (by kernel_rfl) (fun _ _ _ h=>h) (Or.inl ⟨by rfl,?_⟩) (by assumption) ?_
    rotate_left 1
    ·(intro w hSw;(try dsimp only at hSw);go_simp;first | done | with_reducible rfl)
    try simp only [Act.put,List.setIfInBounds_toArray,List.set_cons_zero,List.set_cons_succ]
    refine wpAnyH_take (i:=16) (oi:=⟨_,_,_,_,_,_⟩) (v:=?_) rfl (by kernel_rfl) (by kernel_rfl) (by kernel_rfl) (fun _ _ _ h=>h) (Or.inl ⟨by rfl,?_⟩) (by assumption) ?_
    rotate_left 1
    ·(intro w hSw;(try dsimp only at hSw);go_simp;first | done | with_reducible rfl)
    try simp only [Act.put,List.setIfInBounds_toArray,List.set_cons_zero,List.set_cons_succ]
    refine wpAnyH_take (i:=17) (oi:=⟨_,_,_,_,_,_⟩) (v:=?_) rfl (by kernel_rfl) (by kernel_rfl) (by kernel_rfl) (fun _ _ _ h=>h) (Or.inl ⟨by rfl,?_⟩) (by assumption) ?_
    rotate_left 1
    ·(intro w hSw;(try dsimp only at hSw);go_simp;first | done | with_reducible rfl)
    try simp only [Act.put,List.setIfInBounds_toArray,List.set_cons_zero,List.set_cons_succ]
    refine wpAnyH_take (i:=18) (oi:=⟨_,_,_,_,_,_⟩) (v:=?_) rfl (by kernel_rfl) (by kernel_rfl) (by kernel_rfl) (fun _ _ _ h=>h) (Or.inl ⟨by rfl,?_⟩) (by assumption) ?_
    rotate_left 1
    ·(intro w hSw;(try dsimp only at hSw);go_simp;first | done | with_reducible rfl)
    try simp only [Act.put,List.setIfInBounds_toArray,List.set_cons_zero,List.set_cons_succ]
    refine wpAnyH_take (i:=19) (oi:=⟨_,_,_,_,_,_⟩) (v:=?_) rfl (by kernel_rfl) (by kernel_rfl) (by kernel_rfl) (fun _ _ _ h=>h) (Or.inl ⟨by rfl,?_⟩) (by assumption) ?_
    rotate_left 1
    ·(intro w hSw;(try dsimp only at hSw);go_simp;first | done | with_reducible rfl)
    try simp only [Act.put,List.setIfInBounds_toArray,List.set_cons_zero,List.set_cons_succ]
    refine wpAnyH_take (i:=20) (oi:=⟨_,_,_,_,_,_⟩) (v:=?_) rfl (by kernel_rfl) (by kernel_rfl) (by kernel_rfl) (fun _ _ _ h=>h) (Or.inl ⟨by rfl,?_⟩) (by assumption) ?_
    rotate_left 1
    ·(intro w hSw;(try dsimp only at hSw);go_simp;first | done | with_reducible rfl)
    try simp only [Act.put,List.setIfInBounds_toArray,List.set_cons_zero,List.set_cons_succ]
    refine wpAnyH_take (i:=21) (oi:=⟨_,_,_,_,_,_⟩) (v:=?_) rfl (by kernel_rfl) (by kernel_rfl) (by kernel_rfl) (fun _ _ _ h=>h) (Or.inl ⟨by rfl,?_⟩) (by assumption) ?_
    rotate_left 1
    ·(intro w hSw;(try dsimp only at hSw);go_simp;first | done | with_reducible rfl)
    try simp only [Act.put,List.setIfInBounds_toArray,List.set_cons_zero,List.set_cons_succ]
    refine wpAnyH_take (i:=22) (oi:=⟨_,_,_,_,_,_⟩) (v:=?_) rfl (by kernel_rfl) (by kernel_rfl) (by kernel_rfl) (fun _ _ _ h=>h) (Or.inl ⟨by rfl,?_⟩) (by assumption) ?_
    rotate_left 1
    ·(intro w hSw;(try dsimp only at hSw);go_simp;first | done | with_reducible rfl)
    try simp only [Act.put,List.setIfInBounds_toArray,List.set_cons_zero,List.set_cons_succ]
    refine wpAnyH_take (i:=23) (oi:=⟨_,_,_,_,_,_⟩) (v:=?_) rfl (by kernel_rfl) (by kernel_rfl) (by kernel_rfl) (fun _ _ _ h=>h) (Or.inl ⟨by rfl,?_⟩) (by assumption) ?_
    rotate_left 1
    ·(intro w hSw;(try dsimp only at hSw);go_simp;first | done | with_reducible rfl)
    try simp only [Act.put,List.setIfInBounds_toArray,List.set_cons_zero,List.set_cons_succ]
    refine wpAnyH_take (i:=24) (oi:=⟨_,_,_,_,_,_⟩) (v:=?_) rfl (by kernel_rfl) (by kernel_rfl) (by kernel_rfl) (fun _ _ _ h=>h) (Or.inl ⟨by rfl,?_⟩) (by assumption) ?_
    rotate_left 1
    ·(intro w hSw;(try dsimp only at hSw);go_simp;first | done | with_reducible rfl)
    try simp only [Act.put,List.setIfInBounds_toArray,List.set_cons_zero,List.set_cons_succ]
    refine wpAnyH_take (i:=25) (oi:=⟨_,_,_,_,_,_⟩) (v:=?_) rfl (by kernel_rfl) (by kernel_rfl) (by kernel_rfl) (fun _ _ _ h=>h) (Or.inl ⟨by rfl,?_⟩) (by assumption) ?_
    rotate_left 1
    ·(intro w hSw;(try dsimp only at hSw);go_simp;first | done | with_reducible rfl)
    try simp only [Act.put,List.setIfInBounds_toArray,List.set_cons_zero,List.set_cons_succ]
    refine wpAnyH_take (i:=26) (oi:=⟨_,_,_,_,_,_⟩) (v:=?_) rfl (by kernel_rfl) (by kernel_rfl) (by kernel_rfl) (fun _ _ _ h=>h) (Or.inl ⟨by rfl,?_⟩) (by assumption) ?_
    rotate_left 1
    ·(intro w hSw;(try dsimp only at hSw);go_simp;first | done | with_reducible rfl)
    try simp only [Act.put,List.setIfInBounds_toArray,List.set_cons_zero,List.set_cons_succ]
    refine wpAnyH_take (i:=27) (oi:=⟨_,_,_,_,_,_⟩) (v:=?_) rfl (by kernel_rfl) (by kernel_rfl) (by kernel_rfl) (fun _ _ _ h=>h) (Or.inl ⟨by rfl,?_⟩) (by assumption) ?_
    rotate_left 1
    ·(intro w hSw;(try dsimp only at hSw);go_simp;first | done | with_reducible rfl)
    try simp only [Act.put,List.setIfInBounds_toArray,List.set_cons_zero,List.set_cons_succ]
    refine wpAnyH_take (i:=28) (oi:=⟨_,_,_,_,_,_⟩) (v:=?_) rfl (by kernel_rfl) (by kernel_rfl) (by kernel_rfl) (fun _ _ _ h=>h) (Or.inl ⟨by rfl,?_⟩) (by assumption) ?_
    rotate_left 1
    ·(intro w hSw;(try dsimp only at hSw);go_simp;first | done | with_reducible rfl)
    try simp only [Act.put,List.setIfInBounds_toArray,List.set_cons_zero,List.set_cons_succ]
    refine wpAnyH_take (i:=29) (oi:=⟨_,_,_,_,_,_⟩) (v:=?_) rfl (by kernel_rfl) (by kernel_rfl) (by kernel_rfl) (fun _ _ _ h=>h) (Or.inl ⟨by rfl,?_⟩) (by assumption) ?_
    rotate_left 1
    ·(intro w hSw;(try dsimp only at hSw);go_simp;first | done | with_reducible rfl)
    try simp only [Act.put,List.setIfInBounds_toArray]
    refine wpAnyH_done (by kernel_rfl) ?_ _
    refine NoPanic.normal ?_;have HZ:=hid (I6.out.2.2.2.2.trans (And.left hHeld));clear hHeld;go_wp2_with fail;go_ret;exact ⟨rfl,HZ.out⟩
   | some u =>
    have HWo:=hid (fun W (hL:Lie W (fun _=>True) a t.subs)=>(show Calls Tryz.prog 10 #[nodeV t a c,str s] W (Gives2 W (fun _=>True) u 0) from cword_right s (by have:=HF.out.2.1;omega) t HA.out.1 (by have:=HA.out.2;omega) (some u) ho a c (fun _=>True) W hL B2.out.1.le))
    have HFw:=hid (fun W (hL:Lie W (fun _=>True) a t.subs)=>(show Calls Tryz.prog 13 #[nodeV t a c,str s] W (GivesB W (fun _=>True) u true) from fword_any t HA.out.1 (by have:=HA.out.2;omega) s (by have:=HF.out.2.1;omega) (some u) ho a c (fun _=>True) W hL B2.out.1.le))
    clear ho;generalize simT t=M at *;go_wp2_with fail;refine (HBy.out).mono ?_;rintro e w30 ⟨⟨v,rfl,xa,xc,rfl,hle,hlie⟩,q0⟩;have qq:=q0.alloc (.cells (ncells X xa xc) 27);have I3:=hid (And.intro (B2.out.1.keep qq) (And.intro (Nd.new hle hlie) (B2.out.2.trans qq)));clear hle hlie q0 qq d0 d1 d2 d3 d4 d5 d6 d7;go_upto_region 4 with fail
    change Code.wp _ _ _ _ (w30.alloc (.cells (ncells X xa xc) 27))
    generalize (w30.alloc (.cells (ncells X xa xc) 27))=w3 at *;generalize w30.heap.size=n2 at *;obtain ⟨d0,d1,d2,d3,d4,d5,d6,d7⟩:=(cells8 (I3.out.1).cell).1;go_wp2_with fail;refine (HWo.out w3 I3.out.1.lie).mono ?_;rintro e w40 ⟨⟨v,rfl,ya,yc,rfl,hle,hlie⟩,q0⟩;have qq:=q0.alloc (.cells (ncells u ya yc) 27);have I4:=hid (And.intro (I3.out.1.keep qq) (And.intro (I3.out.2.1.keep qq) (And.intro (Nd.new hle hlie) (I3.out.2.2.trans qq))));clear hle hlie q0 qq d0 d1 d2 d3 d4 d5 d6 d7;go_upto_region 5 with fail
    change Code.wp _ _ _ _ (w40.alloc (.cells (ncells u ya yc) 27))
    generalize (w40.alloc (.cells (ncells u ya yc) 27))=w4 at *;generalize w40.heap.size=n3 at *;obtain ⟨d0,d1,d2,d3,d4,d5,d6,d7⟩:=(cells8 (I4.out.1).cell).1;go_wp2_with fail;refine (HRi.out w4 I4.out.1.lie).mono ?_;rintro e w5 ⟨rfl,q5⟩;have I5:=hid (And.intro (I4.out.1.keep q5) (And.intro (I4.out.2.1.keep q5) (And.intro (I4.out.2.2.1.keep q5) (I4.out.2.2.2.trans q5))));clear q5 d0 d1 d2 d3 d4 d5 d6 d7;obtain ⟨d0,d1,d2,d3,d4,d5,d6,d7⟩:=(cells8 I5.out.1.cell).1;go_wp2_with fail;refine (HFw.out w5 I5.out.1.lie).mono ?_;rintro e w60 ⟨⟨v,rfl,za,zc,rfl,hle,hlie⟩,q0⟩;have qq:=q0.alloc (.cells (ncells u za zc) 27);have I6:=hid (And.intro (I5.out.1.keep qq) (And.intro (I5.out.2.1.keep qq) (And.intro (I5.out.2.2.1.keep qq) (And.intro (Nd.new hle hlie) (I5.out.2.2.2.trans qq)))));clear hle hlie q0 qq d0 d1 d2 d3 d4 d5 d6 d7;go_upto_region 8 with fail
    change Code.wp _ _ _ _ (w60.alloc (.cells (ncells u za zc) 27))
    generalize (w60.alloc (.cells (ncells u za zc) 27))=w6 at *;generalize w60.heap.size=n4 at *;have hs:∀ W',Keep (fun _=>False) w6 W'→(fun w'=>Keep (fun _=>False) w6 w'∧w'.cell? ⟨n1,0,none⟩=some (.int .i64 t.kind)∧w'.cell? ⟨n1,1,none⟩=some (.int .u64 t.set.x0)∧w'.cell? ⟨n1,2,none⟩=some (.int .u64 t.set.x1)∧w'.cell? ⟨n1,3,none⟩=some (.int .u64 t.set.x2)∧w'.cell? ⟨n1,4,none⟩=some (.int .u64 t.set.x3)∧w'.cell? ⟨n1,5,none⟩=some (.int .i64 t.mn)∧w'.cell? ⟨n1,6,none⟩=some (.int .i64 t.mx)∧w'.cell? ⟨n1,7,none⟩=some (.slice a t.subs.length c)∧w'.cell? ⟨n2,0,none⟩=some (.int .i64 X.kind)∧w'.cell? ⟨n2,1,none⟩=some (.int .u64 X.set.x0)∧w'.cell? ⟨n2,2,none⟩=some (.int .u64 X.set.x1)∧w'.cell? ⟨n2,3,none⟩=some (.int .u64 X.set.x2)∧w'.cell? ⟨n2,4,none⟩=some (.int .u64 X.set.x3)∧w'.cell? ⟨n2,5,none⟩=some (.int .i64 X.mn)∧w'.cell? ⟨n2,6,none⟩=some (.int .i64 X.mx)∧w'.cell? ⟨n2,7,none⟩=some (.slice xa X.subs.length xc)∧w'.cell? ⟨n3,0,none⟩=some (.int .i64 u.kind)∧w'.cell? ⟨n3,1,none⟩=some (.int .u64 u.set.x0)∧w'.cell? ⟨n3,2,none⟩=some (.int .u64 u.set.x1)∧w'.cell? ⟨n3,3,none⟩=some (.int .u64 u.set.x2)∧w'.cell? ⟨n3,4,none⟩=some (.int .u64 u.set.x3)∧w'.cell? ⟨n3,5,none⟩=some (.int .i64 u.mn)∧w'.cell? ⟨n3,6,none⟩=some (.int .i64 u.mx)∧w'.cell? ⟨n3,7,none⟩=some (.slice ya u.subs.length yc)∧w'.cell? ⟨n4,0,none⟩=some (.int .i64 u.kind)∧w'.cell? ⟨n4,1,none⟩=some (.int .u64 u.set.x0)∧w'.cell? ⟨n4,2,none⟩=some (.int .u64 u.set.x1)∧w'.cell? ⟨n4,3,none⟩=some (.int .u64 u.set.x2)∧w'.cell? ⟨n4,4,none⟩=some (.int .u64 u.set.x3)∧w'.cell? ⟨n4,5,none⟩=some (.int .i64 u.mn)∧w'.cell? ⟨n4,6,none⟩=some (.int .i64 u.mx)∧w'.cell? ⟨n4,7,none⟩=some (.slice za u.subs.length zc)) W':=fun W' q=>by
     obtain ⟨s00,s01,s02,s03,s04,s05,s06,s07⟩:=(cells8 (I6.out.1.cell.keep q (fun h=>h))).1
     obtain ⟨s10,s11,s12,s13,s14,s15,s16,s17⟩:=(cells8 (I6.out.2.1.cell.keep q (fun h=>h))).1
     obtain ⟨s20,s21,s22,s23,s24,s25,s26,s27⟩:=(cells8 (I6.out.2.2.1.cell.keep q (fun h=>h))).1
     obtain ⟨s30,s31,s32,s33,s34,s35,s36,s37⟩:=(cells8 (I6.out.2.2.2.1.cell.keep q (fun h=>h))).1
     exact ⟨q,s00,s01,s02,s03,s04,s05,s06,s07,s10,s11,s12,s13,s14,s15,s16,s17,s20,s21,s22,s23,s24,s25,s26,s27,s30,s31,s32,s33,s34,s35,s36,s37⟩
    have HS:=hid hs;clear hs;have HL:=hid (And.intro I6.out.1.lie (And.intro I6.out.2.1.lie (And.intro I6.out.2.2.1.lie I6.out.2.2.2.1.lie)));refine wp_region_noPanic ?_;refine wp_region_held_drew (S:=(fun w'=>Keep (fun _=>False) w6 w'∧w'.cell? ⟨n1,0,none⟩=some (.int .i64 t.kind)∧w'.cell? ⟨n1,1,none⟩=some (.int .u64 t.set.x0)∧w'.cell? ⟨n1,2,none⟩=some (.int .u64 t.set.x1)∧w'.cell? ⟨n1,3,none⟩=some (.int .u64 t.set.x2)∧w'.cell? ⟨n1,4,none⟩=some (.int .u64 t.set.x3)∧w'.cell? ⟨n1,5,none⟩=some (.int .i64 t.mn)∧w'.cell? ⟨n1,6,none⟩=some (.int .i64 t.mx)∧w'.cell? ⟨n1,7,none⟩=some (.slice a t.subs.length c)∧w'.cell? ⟨n2,0,none⟩=some (.int .i64 X.kind)∧w'.cell? ⟨n2,1,none⟩=some (.int .u64 X.set.x0)∧w'.cell? ⟨n2,2,none⟩=some (.int .u64 X.set.x1)∧w'.cell? ⟨n2,3,none⟩=some (.int .u64 X.set.x2)∧w'.cell? ⟨n2,4,none⟩=some (.int .u64 X.set.x3)∧w'.cell? ⟨n2,5,none⟩=some (.int .i64 X.mn)∧w'.cell? ⟨n2,6,none⟩=some (.int .i64 X.mx)∧w'.cell? ⟨n2,7,none⟩=some (.slice xa X.subs.length xc)∧w'.cell? ⟨n3,0,none⟩=some (.int .i64 u.kind)∧w'.cell? ⟨n3,1,none⟩=some (.int .u64 u.set.x0)∧w'.cell? ⟨n3,2,none⟩=some (.int .u64 u.set.x1)∧w'.cell? ⟨n3,3,none⟩=some (.int .u64 u.set.x2)∧w'.cell? ⟨n3,4,none⟩=some (.int .u64 u.set.x3)∧w'.cell? ⟨n3,5,none⟩=some (.int .i64 u.mn)∧w'.cell? ⟨n3,6,none⟩=some (.int .i64 u.mx)∧w'.cell? ⟨n3,7,none⟩=some (.slice ya u.subs.length yc)∧w'.cell? ⟨n4,0,none⟩=some (.int .i64 u.kind)∧w'.cell? ⟨n4,1,none⟩=some (.int .u64 u.set.x0)∧w'.cell? ⟨n4,2,none⟩=some (.int .u64 u.set.x1)∧w'.cell? ⟨n4,3,none⟩=some (.int .u64 u.set.x2)∧w'.cell? ⟨n4,4,none⟩=some (.int .u64 u.set.x3)∧w'.cell? ⟨n4,5,none⟩=some (.int .i64 u.mn)∧w'.cell? ⟨n4,6,none⟩=some (.int .i64 u.mx)∧w'.cell? ⟨n4,7,none⟩=some (.slice za u.subs.length zc))) (by kernel_rfl) ?_ (fun hHeld=>?_)
    ·exact HS.out _ ((Keep.refl _ _).drew)
    refine wpAnyH_take (i:=0) (oi:=⟨_,_,_,_,_,_⟩) (v:=?_) rfl (by kernel_rfl) (by kernel_rfl) (by kernel_rfl) (fun _ _ _ h=>h) (Or.inl ⟨by rfl,?_⟩) (by assumption) ?_
    rotate_left 1
    ·(intro w hSw;(try dsimp only at hSw);go_simp;first | done | with_reducible rfl)
    try simp only [Act.put,List.setIfInBounds_toArray,List.set_cons_zero,List.set_cons_succ]
    refine wpAnyH_take (i:=1) (oi:=⟨_,_,_,_,_,_⟩) (v:=?_) rfl (by kernel_rfl) (by kernel_rfl) (by kernel_rfl) (fun _ _ _ h=>h) (Or.inl ⟨by rfl,?_⟩) (by assumption) ?_
    rotate_left 1
    ·(intro w hSw;(try dsimp only at hSw);go_simp;first | done | with_reducible rfl)
    try simp only [Act.put,List.setIfInBounds_toArray,List.set_cons_zero,List.set_cons_succ]
    refine wpAnyH_take (i:=2) (oi:=⟨_,_,_,_,_,_⟩) (v:=?_) rfl (by kernel_rfl) (by kernel_rfl) (by kernel_rfl) (fun _ _ _ h=>h) (Or.inl ⟨by rfl,?_⟩) (by assumption) ?_
    rotate_left 1
    ·(intro w hSw;(try dsimp only at hSw);go_simp;first | done | with_reducible rfl)
    try simp only [Act.put,List.setIfInBounds_toArray,List.set_cons_zero,List.set_cons_succ]
    refine wpAnyH_take (i:=3) (oi:=⟨_,_,_,_,_,_⟩) (v:=?_) rfl (by kernel_rfl) (by kernel_rfl) (by kernel_rfl) (fun _ _ _ h=>h) (Or.inl ⟨by rfl,?_⟩) (by assumption) ?_
    rotate_left 1
    ·(intro w hSw;(try dsimp only at hSw);go_simp;first | done | with_reducible rfl)
    try simp only [Act.put,List.setIfInBounds_toArray,List.set_cons_zero,List.set_cons_succ]
    refine wpAnyH_take (i:=4) (oi:=⟨_,_,_,_,_,_⟩) (v:=?_) rfl (by kernel_rfl) (by kernel_rfl) (by kernel_rfl) (fun _ _ _ h=>h) (Or.inl ⟨by rfl,?_⟩) (by assumption) ?_
    rotate_left 1
    ·(intro w hSw;(try dsimp only at hSw);go_simp;first | done | with_reducible rfl)
    try simp only [Act.put,List.setIfInBounds_toArray,List.set_cons_zero,List.set_cons_succ]
    refine wpAnyH_take (i:=6) (oi:=⟨_,_,_,_,_,_⟩) (v:=?_) rfl (by kernel_rfl) (by kernel_rfl) (by kernel_rfl) (fun _ _ _ h=>h) (Or.inl ⟨by rfl,?_⟩) (by assumption) ?_
    rotate_left 1
    ·(intro w hSw;(try dsimp only at hSw);go_simp;first | done | with_reducible rfl)
    try simp only [Act.put,List.setIfInBounds_toArray,List.set_cons_zero,List.set_cons_succ]
    refine wpAnyH_take (i:=7) (oi:=⟨_,_,_,_,_,_⟩) (v:=?_) rfl (by kernel_rfl) (by kernel_rfl) (by kernel_rfl) (fun _ _ _ h=>h) (Or.inl ⟨by rfl,?_⟩) (by assumption) ?_
    rotate_left 1
    ·(intro w hSw;(try dsimp only at hSw);go_simp;first | done | with_reducible rfl)
    try simp only [Act.put,List.setIfInBounds_toArray,List.set_cons_zero,List.set_cons_succ]
    refine wpAnyH_ready (rs:=[5]) (by kernel_rfl) (by simp) ?_
    refine AllReadyH.cons (o:=⟨_,_,_,_,_,_⟩) rfl (fun K hK=>?_) AllReadyH.nil
    go_simp
    (go_at_call 15;refine (HSi.out _ (HL.out.1.keepF (And.left hHeld))).mono ?_;rintro e w7 ⟨⟨v,rfl,pa,pc,rfl,hle1,hL1⟩,q⟩)
    refine hK.out _ _ ?_ (fun hHeld'=>?_)
    ·exact HS.out _ (Keep.trans (And.left hHeld) q)
    clear hK K hHeld;have hHeld:=hHeld';clear hHeld'
    try simp only [Act.put,List.setIfInBounds_toArray,List.set_cons_zero,List.set_cons_succ]
    refine wpAnyH_ready (rs:=[8]) (by kernel_rfl) (by simp) ?_
    refine AllReadyH.cons (o:=⟨_,_,_,_,_,_⟩) rfl (fun K hK=>?_) AllReadyH.nil
    go_simp
    (go_at_call 14;refine (HFb.out _ _ _ (hL1.mono fun _ _=>trivial) hle1).mono ?_;rintro e w8 ⟨⟨v,rfl,ra,rc,rfl,hle2,hL2⟩,q⟩)
    refine hK.out _ _ ?_ (fun hHeld'=>?_)
    ·exact HS.out _ (Keep.trans (And.left hHeld) q)
    clear hK K hHeld;have hHeld:=hHeld';clear hHeld'
    try simp only [Act.put,List.setIfInBounds_toArray,List.set_cons_zero,List.set_cons_succ]
    refine wpAnyH_ready (rs:=[9]) (by kernel_rfl) (by simp) ?_
    refine AllReadyH.cons (o:=⟨_,_,_,_,_,_⟩) rfl (fun K hK=>?_) AllReadyH.nil
    go_simp
    (go_at_call 12;refine (same_yes12 X xa xc _ _ _ (HL.out.2.1.keepF (And.left hHeld)) (hL2.mono fun _ _=>trivial)).mono ?_;rintro e w9 ⟨rfl,q⟩)
    refine hK.out _ _ ?_ (fun hHeld'=>?_)
    ·exact HS.out _ (Keep.trans (And.left hHeld) q)
    clear hK K hHeld;have hHeld:=hHeld';clear hHeld'
    try simp only [Act.put,List.setIfInBounds_toArray,List.set_cons_zero,List.set_cons_succ]
    refine wpAnyH_take (i:=10) (oi:=⟨_,_,_,_,_,_⟩) (v:=?_) rfl (by kernel_rfl) (by kernel_rfl) (by kernel_rfl) (fun _ _ _ h=>h) (Or.inl ⟨by rfl,?_⟩) (by assumption) ?_
    rotate_left 1
    ·(intro w hSw;(try dsimp only at hSw);go_simp;first | done | with_reducible rfl)
    try simp only [Act.put,List.setIfInBounds_toArray,List.set_cons_zero,List.set_cons_succ]
    refine wpAnyH_take (i:=11) (oi:=⟨_,_,_,_,_,_⟩) (v:=?_) rfl (by kernel_rfl) (by kernel_rfl) (by kernel_rfl) (fun _ _ _ h=>h) (Or.inl ⟨by rfl,?_⟩) (by assumption) ?_
    rotate_left 1
    ·(intro w hSw;(try dsimp only at hSw);go_simp;first | done | with_reducible rfl)
    try simp only [Act.put,List.setIfInBounds_toArray,List.set_cons_zero,List.set_cons_succ]
    refine wpAnyH_take (i:=12) (oi:=⟨_,_,_,_,_,_⟩) (v:=?_) rfl (by kernel_rfl) (by kernel_rfl) (by kernel_rfl) (fun _ _ _ h=>h) (Or.inl ⟨by rfl,?_⟩) (by assumption) ?_
    rotate_left 1
    ·(intro w hSw;(try dsimp only at hSw);go_simp;first | done | with_reducible rfl)
    try simp only [Act.put,List.setIfInBounds_toArray,List.set_cons_zero,List.set_cons_succ]
    refine wpAnyH_take (i:=13) (oi:=⟨_,_,_,_,_,_⟩) (v:=?_) rfl (by kernel_rfl) (by kernel_rfl) (by kernel_rfl) (fun _ _ _ h=>h) (Or.inl ⟨by rfl,?_⟩) (by assumption) ?_
    rotate_left 1
    ·(intro w hSw;(try dsimp only at hSw);go_simp;first | done | with_reducible rfl)
    try simp only [Act.put,List.setIfInBounds_toArray,List.set_cons_zero,List.set_cons_succ]
    refine wpAnyH_ready (rs:=[14]) (by kernel_rfl) (by simp) ?_
    refine AllReadyH.cons (o:=⟨_,_,_,_,_,_⟩) rfl (fun K hK=>?_) AllReadyH.nil
    go_simp
    (go_at_call 12;refine (same_yes12 u ya yc za zc _ (HL.out.2.2.1.keepF (And.left hHeld)) (HL.out.2.2.2.keepF (And.left hHeld))).mono ?_;rintro e w10 ⟨rfl,q⟩)
    refine hK.out _ _ ?_ (fun hHeld'=>?_)
    ·exact HS.out _ (Keep.trans (And.left hHeld) q)
    clear hK K hHeld;have hHeld:=hHeld';clear hHeld'
    try simp only [Act.put,List.setIfInBounds_toArray,List.set_cons_zero,List.set_cons_succ]
    refine wpAnyH_take (i:=15) (oi:=⟨_,_,_,_,_,_⟩) (v:=?_) rfl (by kernel_rfl) (by kernel_rfl) (by kernel_rfl) (fun _ _ _ h=>h) (Or.inl ⟨by rfl,?_⟩) (by assumption) ?_
    rotate_left 1
    ·(intro w hSw;(try dsimp only at hSw);go_simp;first | done | with_reducible rfl)
    try simp only [Act.put,List.setIfInBounds_toArray,List.set_cons_zero,List.set_cons_succ]
    refine wpAnyH_take (i:=16) (oi:=⟨_,_,_,_,_,_⟩) (v:=?_) rfl (by kernel_rfl) (by kernel_rfl) (by kernel_rfl) (fun _ _ _ h=>h) (Or.inl ⟨by rfl,?_⟩) (by assumption) ?_
    rotate_left 1
    ·(intro w hSw;(try dsimp only at hSw);go_simp;first | done | with_reducible rfl)
    try simp only [Act.put,List.setIfInBounds_toArray,List.set_cons_zero,List.set_cons_succ]
    refine wpAnyH_take (i:=17) (oi:=⟨_,_,_,_,_,_⟩) (v:=?_) rfl (by kernel_rfl) (by kernel_rfl) (by kernel_rfl) (fun _ _ _ h=>h) (Or.inl ⟨by rfl,?_⟩) (by assumption) ?_
    rotate_left 1
    ·(intro w hSw;(try dsimp only at hSw);go_simp;first | done | with_reducible rfl)
    try simp only [Act.put,List.setIfInBounds_toArray,List.set_cons_zero,List.set_cons_succ]
    refine wpAnyH_take (i:=18) (oi:=⟨_,_,_,_,_,_⟩) (v:=?_) rfl (by kernel_rfl) (by kernel_rfl) (by kernel_rfl) (fun _ _ _ h=>h) (Or.inl ⟨by rfl,?_⟩) (by assumption) ?_
    rotate_left 1
    ·(intro w hSw;(try dsimp only at hSw);go_simp;first | done | with_reducible rfl)
    try simp only [Act.put,List.setIfInBounds_toArray,List.set_cons_zero,List.set_cons_succ]
    refine wpAnyH_take (i:=19) (oi:=⟨_,_,_,_,_,_⟩) (v:=?_) rfl (by kernel_rfl) (by kernel_rfl) (by kernel_rfl) (fun _ _ _ h=>h) (Or.inl ⟨by rfl,?_⟩) (by assumption) ?_
    rotate_left 1
    ·(intro w hSw;(try dsimp only at hSw);go_simp;first | done | with_reducible rfl)
    try simp only [Act.put,List.setIfInBounds_toArray,List.set_cons_zero,List.set_cons_succ]
    refine wpAnyH_take (i:=20) (oi:=⟨_,_,_,_,_,_⟩) (v:=?_) rfl (by kernel_rfl) (by kernel_rfl) (by kernel_rfl) (fun _ _ _ h=>h) (Or.inl ⟨by rfl,?_⟩) (by assumption) ?_
    rotate_left 1
    ·(intro w hSw;(try dsimp only at hSw);go_simp;first | done | with_reducible rfl)
    try simp only [Act.put,List.setIfInBounds_toArray,List.set_cons_zero,List.set_cons_succ]
    refine wpAnyH_take (i:=21) (oi:=⟨_,_,_,_,_,_⟩) (v:=?_) rfl (by kernel_rfl) (by kernel_rfl) (by kernel_rfl) (fun _ _ _ h=>h) (Or.inl ⟨by rfl,?_⟩) (by assumption) ?_
    rotate_left 1
    ·(intro w hSw;(try dsimp only at hSw);go_simp;first | done | with_reducible rfl)
    try simp only [Act.put,List.setIfInBounds_toArray,List.set_cons_zero,List.set_cons_succ]
    refine wpAnyH_take (i:=22) (oi:=⟨_,_,_,_,_,_⟩) (v:=?_) rfl (by kernel_rfl) (by kernel_rfl) (by kernel_rfl) (fun _ _ _ h=>h) (Or.inl ⟨by rfl,?_⟩) (by assumption) ?_
    rotate_left 1
    ·(intro w hSw;(try dsimp only at hSw);go_simp;first | done | with_reducible rfl)
    try simp only [Act.put,List.setIfInBounds_toArray,List.set_cons_zero,List.set_cons_succ]
    refine wpAnyH_take (i:=23) (oi:=⟨_,_,_,_,_,_⟩) (v:=?_) rfl (by kernel_rfl) (by kernel_rfl) (by kernel_rfl) (fun _ _ _ h=>h) (Or.inl ⟨by rfl,?_⟩) (by assumption) ?_
    rotate_left 1
    ·(intro w hSw;(try dsimp only at hSw);go_simp;first | done | with_reducible rfl)
    try simp only [Act.put,List.setIfInBounds_toArray,List.set_cons_zero,List.set_cons_succ]
    refine wpAnyH_take (i:=24) (oi:=⟨_,_,_,_,_,_⟩) (v:=?_) rfl (by kernel_rfl) (by kernel_rfl) (by kernel_rfl) (fun _ _ _ h=>h) (Or.inl ⟨by rfl,?_⟩) (by assumption) ?_
    rotate_left 1
    ·(intro w hSw;(try dsimp only at hSw);go_simp;first | done | with_reducible rfl)
    try simp only [Act.put,List.setIfInBounds_toArray,List.set_cons_zero,List.set_cons_succ]
    refine wpAnyH_take (i:=25) (oi:=⟨_,_,_,_,_,_⟩) (v:=undef) rfl (by kernel_rfl) (by kernel_rfl) (by kernel_rfl) (fun _ _ _ h=>h) (Or.inr ⟨by rfl,rfl⟩) (by assumption) ?_
    try simp only [Act.put,List.setIfInBounds_toArray,List.set_cons_zero,List.set_cons_succ]
    refine wpAnyH_take (i:=26) (oi:=⟨_,_,_,_,_,_⟩) (v:=undef) rfl (by kernel_rfl) (by kernel_rfl) (by kernel_rfl) (fun _ _ _ h=>h) (Or.inr ⟨by rfl,rfl⟩) (by assumption) ?_
    try simp only [Act.put,List.setIfInBounds_toArray,List.set_cons_zero,List.set_cons_succ]
    refine wpAnyH_take (i:=27) (oi:=⟨_,_,_,_,_,_⟩) (v:=?_) rfl (by kernel_rfl) (by kernel_rfl) (by kernel_rfl) (fun _ _ _ h=>h) (Or.inl ⟨by rfl,?_⟩) (by assumption) ?_
    rotate_left 1
    ·(intro w hSw;(try dsimp only at hSw);go_simp;first | done | with_reducible rfl)
    try simp only [Act.put,List.setIfInBounds_toArray,List.set_cons_zero,List.set_cons_succ]
    refine wpAnyH_take (i:=28) (oi:=⟨_,_,_,_,_,_⟩) (v:=?_) rfl (by kernel_rfl) (by kernel_rfl) (by kernel_rfl) (fun _ _ _ h=>h) (Or.inl ⟨by rfl,?_⟩) (by assumption) ?_
    rotate_left 1
    ·(intro w hSw;(try dsimp only at hSw);go_simp;first | done | with_reducible rfl)
    try simp only [Act.put,List.setIfInBounds_toArray,List.set_cons_zero,List.set_cons_succ]
    refine wpAnyH_take (i:=29) (oi:=⟨_,_,_,_,_,_⟩) (v:=?_) rfl (by kernel_rfl) (by kernel_rfl) (by kernel_rfl) (fun _ _ _ h=>h) (Or.inl ⟨by rfl,?_⟩) (by assumption) ?_
    rotate_left 1
    ·(intro w hSw;(try dsimp only at hSw);go_simp;first | done | with_reducible rfl)
    try simp only [Act.put,List.setIfInBounds_toArray]
    refine wpAnyH_done (by kernel_rfl) ?_ _
    refine NoPanic.normal ?_;have HZ:=hid (I6.out.2.2.2.2.trans (And.left hHeld));clear hHeld;go_wp2_with fail;go_ret;exact ⟨rfl,HZ.out⟩
end P12
namespace DeriveTells
open Go.RowKit Base P08 P11 P12
open Go.ChangeShapes Go.WideShapes Go.ChangeAt
theorem walk {H:Type} {enc:TypeId × Value→H} (v0 v1 v2:Value) {d0 d1 d2:DataW H} {p0 p1 p2:List MemPlace} (W:World)
  (k0:Value.okWide Tryz.prog W .any 0 27 v0) (k1:Value.okWide Tryz.prog W .any 0 9 v1) (k2:Value.okWide Tryz.prog W .any 0 5 v2)
  (h0:DataW.Trod enc Tryz.prog W 0 (fun _=>true) true 27 v0 d0 p0) (h1:DataW.Trod enc Tryz.prog W 0 (fun _=>true) true 9 v1 d1 p1) (h2:DataW.Trod enc Tryz.prog W 0 (fun _=>true) true 5 v2 d2 p2)
  (hk:Rows.uptoSmall H [d0,d1,d2]=true) :
  Calls Tryz.prog 3 #[v0,v1,v2] W fun e w'=>e=.returned (.bool true)∧Below W.heap.size W w':=by
 have hb:=of_decide_eq_true hk;obtain ⟨t0,a0,c0,rfl,hc0,hL0,hn0,hs0⟩:=node_arg k0 h0;obtain ⟨l1,rfl,rfl,-⟩:=str_arg11 k1 h1;obtain ⟨b2,rfl,hb2⟩:=Go.Proofs.YtlmfbchgkjgljaaGreat.Tied.byte_arg k2 h2
 simp only [Rows.uptoBulkAll,Rows.uptoBulk] at hb
 exact (law_tells t0 a0 c0 W hL0 hc0 (by omega) hs0 l1 b2 hb2).mono fun e w' ⟨he,q⟩=>⟨he,q.below (Nat.le_refl _) (fun _ _ h=>h)⟩
end DeriveTells
namespace DeriveTells
open Go.ChangeShapes Go.WideShapes Go.ChangeAt Go.RowKit
set_option linter.unusedVariables false
theorem own:ownKnob Tryz.prog.godebug=none:=by kernel_rfl
theorem laidOut:laidOutB Tryz.prog=true:=by kernel_rfl
theorem contract (H:Type) (enc:TypeId × Value→H) (W:World) (base:Nat) (args:Array Value) (ds gs:List (DataW H)) (before:List MemPlace)
  (hval0:∀ (j:Nat) t v,Tryz.f3.params[j]?=some t→args[j]?=some v→Value.okWide Tryz.prog W .any base t v)
  (hW:DataW.Whole enc Tryz.prog Tryz.f3.params.toList Rows.deriveTellsSpec.vars false W args.toList ds gs before) (hk:Rows.uptoSmall H (ds++gs)=true) :
  Calls Tryz.prog 3 args W fun e W'=>∃ v,e=.returned v∧Rows.deriveTellsSpec.post enc Tryz.prog Tryz.f3 false true false false W args v W':=by
 have hval:∀ (j:Nat) t v,Tryz.f3.params[j]?=some t→args[j]?=some v→Value.okWide Tryz.prog W .any base t v:=hval0;have hW':=hW;obtain ⟨p,q,hA0,hV,rfl,hfz,hnd⟩:=hW;have hA:DataW.TrodAll enc Tryz.prog W 0 (fun _=>true) true Tryz.f3.params.toList args.toList ds p:=hA0
 rw [Tryz.params3] at hA hval;obtain ⟨v0,vs0,d0,ds0,p0,q0,hargs,rfl,rfl,h0,r0⟩:=trodAll_cons hA;obtain ⟨v1,vs1,d1,ds1,p1,q1,rfl,rfl,rfl,h1,r1⟩:=trodAll_cons r0;obtain ⟨v2,vs2,d2,ds2,p2,q2,rfl,rfl,rfl,h2,r2⟩:=trodAll_cons r1;obtain ⟨rfl,rfl,rfl⟩:=trodAll_nil r2;obtain rfl:args=#[v0,v1,v2]:=by cases args;simp_all
 obtain ⟨rfl,rfl⟩:=trodVars_none hV;have lt0:∀ x ∈ p0,x.block<W.heap.size:=by obtain ⟨m,hm⟩:=h0;exact DataW.trod_lt m _ _ _ hm
 have lt1:∀ x ∈ p1,x.block<W.heap.size:=by obtain ⟨m,hm⟩:=h1;exact DataW.trod_lt m _ _ _ hm
 have lt2:∀ x ∈ p2,x.block<W.heap.size:=by obtain ⟨m,hm⟩:=h2;exact DataW.trod_lt m _ _ _ hm
 have hk1:Rows.uptoSmall H [d0,d1,d2]=true:=hk;refine (walk v0 v1 v2 W (hval 0 27 v0 rfl rfl) (hval 1 9 v1 rfl rfl) (hval 2 5 v2 rfl rfl) h0 h1 h2 hk1).mono fun e W' ⟨he,bel⟩=>?_
 subst he;exact ⟨_,rfl,_,_,_,[],_,[],hW',trodAll_mk1 (shut_bool Tryz.underlying4 _),(trodAll_cons_mk (Below.trod laidOut (by kernel_rfl) (of_decide_eq_true (by kernel_rfl)) h0 bel lt0) (trodAll_cons_mk (Below.trod laidOut (by kernel_rfl) (of_decide_eq_true (by kernel_rfl)) h1 bel lt1) (trodAll_cons_mk (Below.trod laidOut (by kernel_rfl) (of_decide_eq_true (by kernel_rfl)) h2 bel lt2) trodAll_mk0))),rfl,bel.frame _,fun h=>by cases h⟩
theorem lifted (os:Os) (started:os.Started) (H:Type) (enc:TypeId × Value→H) (F:Stop.Interp) :
  ReturnsInHanded {} Tryz.checked os 3 .any ((Rows.OpenSpec.upto Rows.deriveTellsSpec).pre6 enc Tryz.prog Tryz.f3 Rows.deriveTellsUptoRow.domain false) (((Rows.OpenSpec.upto Rows.deriveTellsSpec).at F).post enc Tryz.prog Tryz.f3 false true false false):=by
 refine returnsInHanded_of_cond (C:=Tryz.checked) (s:=Rows.OpenSpec.upto Rows.deriveTellsSpec) (k:=Rows.uptoSmall) rfl own started (by kernel_rfl) Tryz.func3
  (OpenSpec.witness (enc:=enc) (C:=Tryz.checked) (s:=Rows.OpenSpec.upto Rows.deriveTellsSpec) (k:=Rows.uptoSmall) rfl false ⟨#[],#[.agg #[.int .i64 0,.int .u64 0,.int .u64 0,.int .u64 0,.int .u64 0,.int .i64 0,.int .i64 0,.slice none 0 0],.string ⟨#[]⟩,.int .u8 0],[]⟩ 8 (by kernel_rfl) (by kernel_rfl) (by kernel_rfl)
   (x:=([.agg [.lit (.int .i64 0),.agg [.lit (.int .u64 0),.lit (.int .u64 0),.lit (.int .u64 0),.lit (.int .u64 0)],.lit (.int .i64 0),.lit (.int .i64 0),.nil],.lit (.string []),.lit (.int .u8 0)],[],[])) (by kernel_rfl) rfl (by kernel_rfl)) ?_
 intro W base args ds gs before hval hW _ hk _;exact contract H enc W base args ds gs before hval hW hk
theorem over:Rows.deriveTellsUptoRow.holds Tryz.pinned (Rows.OpenSpec.upto Rows.deriveTellsSpec) :=
 OpenClaim.holds_of_cond 3 Tryz.f3 rfl rfl rfl rfl rfl rfl rfl ⟨rfl,rfl,rfl,rfl,rfl⟩ rfl rfl rfl rfl rfl (by kernel_rfl) Tryz.func3 (by kernel_rfl)
  (of_decide_eq_true (by kernel_rfl)) (by unfold Func.isWrapper;first | (rw [if_pos (by decide +kernel)];kernel_rfl) | (rw [if_neg (by decide +kernel)];exact ⟨rfl,rfl⟩))
  (fun os started H enc _ F=>lifted os started H enc F)
theorem proved:Rows.DeriveTellsUptoSaid:=over
#print axioms proved
end DeriveTells
end Go.Proofs.YtlmfbchgkjgljaaGreat
