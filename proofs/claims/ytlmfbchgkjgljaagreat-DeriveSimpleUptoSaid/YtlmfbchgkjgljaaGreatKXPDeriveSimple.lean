/- Layer 12: DeriveSimple. -/
import Derived.Test.YtlmfbchgkjgljaaGreatKX53
import Derived.Test.YtlmfbchgkjgljaaGreatKX26
import Derived.Test.YtlmfbchgkjgljaaGreatKX50
import Derived.Test.YtlmfbchgkjgljaaGreatKX25
import Derived.Test.YtlmfbchgkjgljaaGreatKX30
import Derived.Test.YtlmfbchgkjgljaaGreatKX51
import Derived.Test.YtlmfbchgkjgljaaGreatKX41
import Derived.Test.YtlmfbchgkjgljaaGreatKX08
import Derived.Test.YtlmfbchgkjgljaaGreatRows
import Derived.JoinedCond
set_option maxRecDepth 100000
set_option maxHeartbeats 32000000
open Go.Lib (hid)
namespace Go.Proofs.YtlmfbchgkjgljaaGreat
namespace P12
open Go.RowKit Base Bytes P07 P08 P09 P10
open Sets (ST)
theorem alt2_sok {t u:T} (ht:SOk t) (hu:SOk u):SOk (alt2 t u):=by
 unfold alt2;rw [SOk,SOkL,SOkL,SOkL];exact ⟨ST.none_ok,ht,hu,trivial⟩
theorem alt2_cnt (t u:T):cnt (alt2 t u)=1+(cnt t+cnt u):=by
 unfold alt2;rw [cnt,cntL,cntL,cntL];omega
theorem law_simple (t u:T) (a:Option Addr) (c:Nat) (ua:Option Addr) (uc:Nat) (w:World) (hta:Lie w (fun _=>True) a t.subs) (hcl:t.subs.length≤c) (ht:cnt t≤400000000) (hst:SOk t) (hua:Lie w (fun _=>True) ua u.subs) (hul:u.subs.length≤uc) (hu:cnt u≤400000000) (hsu:SOk u) (b:Nat) (hb:b<256) :
  Calls Tryz.prog 6 #[nodeV t a c,nodeV u ua uc,.int .u8 (b:Int)] w fun e w'=>e=.returned (.bool true)∧Keep (fun _=>False) w w':=by
 have q1:=(Keep.refl (fun _=>False) w).alloc (.cells (ncells t a c) 27)
 have q2:=(Keep.refl (fun _=>False) (w.alloc (.cells (ncells t a c) 27))).alloc (.cells (ncells u ua uc) 27)
 have N1:=(Nd.new (W:=w) hcl hta).keep q2;have N2:=Nd.new (W:=w.alloc (.cells (ncells t a c) 27)) hul (hua.keepF q1);rw [show (w.alloc (.cells (ncells t a c) 27)).heap.size=w.heap.size+1 from by simp] at N2
 have H00:=hid (And.intro N1 (And.intro N2 (q1.trans q2)));have hsa:=alt2_sok hst hsu;have hca:=alt2_cnt t u;have HH:=hid (And.intro (show cnt (alt2 t u)≤1000000000 by omega) (And.intro hsa (And.intro hca hb)))
 have hb0:(0:Int)≤b:=by omega
 have hb1:(b:Int)≤255:=by omega
 clear q1 q2 N1 N2 hta hcl ht hst hua hul hu hsu hsa hca hb
 go_enter Tryz.func6,Tryz.ntmps6
 go_upto_region 1 with fail;generalize ((w.alloc (.cells (ncells t a c) 27)).alloc (.cells (ncells u ua uc) 27))=W00 at *;generalize w.heap.size=n1 at *;obtain ⟨d0,d1,d2,d3,d4,d5,d6,d7⟩:=(cells8 H00.out.1.cell).1;obtain ⟨e0,e1,e2,e3,e4,e5,e6,e7⟩:=(cells8 H00.out.2.1.cell).1;go_upto_region 2 with fail;clear d0 d1 d2 d3 d4 d5 d6 d7 e0 e1 e2 e3 e4 e5 e6 e7
 change Code.wp _ _ _ _ ((W00.alloc (.cells (ncells t a c++ncells u ua uc) 27)).alloc (.cells (ncells (alt2 t u) (some ⟨W00.heap.size,0,none⟩) 2) 27))
 have l1:=lie_two (W:=W00) H00.out.1.lie H00.out.2.1.lie H00.out.1.le H00.out.2.1.le;have q3:=(Keep.refl (fun _=>False) W00).alloc (.cells (ncells t a c++ncells u ua uc) 27)
 have N7:=Nd.new (W:=W00.alloc (.cells (ncells t a c++ncells u ua uc) 27)) (t:=alt2 t u) (c:=2) (Nat.le_refl 2) l1;rw [show (W00.alloc (.cells (ncells t a c++ncells u ua uc) 27)).heap.size=W00.heap.size+1 from by simp] at N7
 have q4:=q3.alloc (.cells (ncells (alt2 t u) (some ⟨W00.heap.size,0,none⟩) 2) 27);have H0:=hid (And.intro (H00.out.1.keep q4) (And.intro (H00.out.2.1.keep q4) (And.intro N7 (H00.out.2.2.trans q4))));clear l1 q3 N7 q4 H00;generalize ((W00.alloc (.cells (ncells t a c++ncells u ua uc) 27)).alloc (.cells (ncells (alt2 t u) (some ⟨W00.heap.size,0,none⟩) 2) 27))=W0 at *;generalize W00.heap.size=g0 at *;go_wp2_with fail;refine (awake12 W0).mono ?_;rintro e w1 ⟨rfl,q1⟩;have B1:=hid (And.intro (H0.out.1.keep q1) (And.intro (H0.out.2.1.keep q1) (And.intro (H0.out.2.2.1.keep q1) (H0.out.2.2.2.trans q1))));clear q1;obtain ⟨d0,d1,d2,d3,d4,d5,d6,d7⟩:=(cells8 B1.out.2.2.1.cell).1;go_wp2_with fail;refine (few12_any (alt2 t u) HH.out.2.1 HH.out.1 [] (some ⟨g0,0,none⟩) 2 w1 B1.out.2.2.1.lie).mono ?_;rintro e w2 ⟨rfl,q2⟩;have B2:=hid (And.intro (B1.out.1.keep q2) (And.intro (B1.out.2.1.keep q2) (And.intro (B1.out.2.2.1.keep q2) (B1.out.2.2.2.trans q2))));clear q2 d0 d1 d2 d3 d4 d5 d6 d7;obtain ⟨d0,d1,d2,d3,d4,d5,d6,d7⟩:=(cells8 B2.out.2.2.1.cell).1
 cases hf:fewD [] (alt2 t u) with
 | false =>
  clear d0 d1 d2 d3 d4 d5 d6 d7;go_wp2_with fail;refine (awake12 _).mono ?_;rintro e w99 ⟨rfl,q99⟩;have Q99:=hid (B2.out.2.2.2.trans q99);clear q99;go_wp2_with fail;go_ret;exact ⟨rfl,Q99.out⟩
 | true =>
  unfold fewD at hf
  simp only [Bool.and_eq_true,decide_eq_true_eq,Bool.or_eq_true,Bool.not_eq_true'] at hf
  have HF:=hid hf;clear hf;have HRi:=hid (fright_any (alt2 t u) HH.out.1 (some ⟨g0,0,none⟩) 2 w2 B2.out.2.2.1.lie)
  cases hr:rightB (alt2 t u) with
  | false =>
   rw [hr] at HRi;clear hr;go_wp2_with fail;refine HRi.out.mono ?_;rintro e w3 ⟨rfl,q3⟩;have B3:=hid (B2.out.2.2.2.trans q3);clear q3;clear d0 d1 d2 d3 d4 d5 d6 d7;go_wp2_with fail;refine (awake12 _).mono ?_;rintro e w99 ⟨rfl,q99⟩;have Q99:=hid (B3.out.trans q99);clear q99;go_wp2_with fail;go_ret;exact ⟨rfl,Q99.out⟩
  | true =>
   have hR:RT 12 (alt2 t u):=(rightB_iff HH.out.2.1).1 hr;have hc60:cnt (alt2 t u)≤60:=by
    rcases HF.out.2.2 with h | h
    ·rw [hr] at h;cases h
    ·exact h
   have hct:cnt t≤60∧cnt u≤60:=by have:=HH.out.2.2.1;omega
   obtain ⟨hRt,hRu⟩:=alt2_sub hR;have hM:=(sim_ok t 12 hRt).1;have hbn:(UInt8.ofNat b).toNat=b:=UInt8.toNat_ofNat_of_lt' (by simpa using HH.out.2.2.2)
   have hla:=left_alt hR (UInt8.ofNat b);rw [hbn] at hla;have hls:=left_sim hRt b;have hX:=by_small b hRt hct.1;have hW:=by_small b hRu hct.2;have hrX:=(by_rs b _ (sim_rs hRt)).1;have hrW:=(by_rs b _ (sim_rs hRu)).1;have hrZ:=(by_rs b _ (sim_rs hR)).1;have hcZ:=by_small b hR hc60;have HBx:=hid (fun W (hL:Lie W (fun _=>True) a t.subs)=>cby_right b HH.out.2.2.2 t hRt hct.1 a c (fun _=>True) W hL B2.out.1.le)
   have HSi:=hid (fun W (hL:Lie W (fun _=>True) a t.subs)=>fsimple_any t 12 hRt (by omega) a c (fun _=>True) W hL B2.out.1.le)
   have HBy:=hid (fun ma mc W (hL:Lie W (fun _=>True) ma (simT t).subs) hc=>cby_right b HH.out.2.2.2 (simT t) hM.rt (by have:=hM.cnt;omega) ma mc (fun _=>True) W hL hc)
   rw [hls] at HBy;have HBz:=hid (fun W (hL:Lie W (fun _=>True) (some ⟨g0,0,none⟩) (alt2 t u).subs)=>cby_right b HH.out.2.2.2 (alt2 t u) hR hc60 (some ⟨g0,0,none⟩) 2 (fun _=>True) W hL (Nat.le_refl 2))
   have HBw:=hid (fun W (hL:Lie W (fun _=>True) ua u.subs)=>cby_right b HH.out.2.2.2 u hRu hct.2 ua uc (fun _=>True) W hL B2.out.2.1.le)
   rw [hr] at HRi;generalize byT b (simT t)=X at *;generalize byT b (simT u)=V at *;generalize byT b (simT (alt2 t u))=Z at *;generalize simT t=M at *;obtain ⟨dA,hA⟩:=alt2_rt hrX hrW;have hcA:cnt (alt2 X V)≤8100:=by rw [alt2_cnt];omega
   obtain ⟨dX,hX1,-⟩:=hrX;obtain ⟨dW,hW1,-⟩:=hrW;obtain ⟨dZ,hZ1,-⟩:=hrZ;have g1:=fun xa xc W (hL:Lie W (fun _=>True) xa Z.subs)=>fnone_any Z dZ hZ1 xa xc W hL
   have g2:=fun xa xc W (hL:Lie W (fun _=>True) xa X.subs)=>fnone_any X dX hX1 xa xc W hL
   have g3:=fun xa xc W (hL:Lie W (fun _=>True) xa V.subs)=>fnone_any V dW hW1 xa xc W hL
   have g4:=fun xa xc W (hL:Lie W (fun _=>True) xa Z.subs)=>fnull_any Z dZ hZ1 xa xc W hL
   have g5:=fun xa xc W (hL:Lie W (fun _=>True) xa X.subs)=>fnull_any X dX hX1 xa xc W hL
   have g6:=fun xa xc W (hL:Lie W (fun _=>True) xa V.subs)=>fnull_any V dW hW1 xa xc W hL
   have g7:=fun xa xc W (hL:Lie W (fun _=>True) xa Z.subs)=>ffirst_all _ Z (Nat.lt_succ_self _) (by omega) dZ hZ1 xa xc W hL
   have g8:=fun xa xc W (hL:Lie W (fun _=>True) xa [X,V])=>ffirst_all _ (alt2 X V) (Nat.lt_succ_self _) hcA dA hA xa xc W hL
   rw [hla.1] at g1;rw [hla.2.1] at g4;rw [hla.2.2] at g7;generalize noneB X=NX at *;generalize noneB V=NV at *;generalize nullB X=UX at *;generalize nullB V=UV at *;generalize firstS (alt2 X V)=FF at *;have hes:∀ W,(Op.equalIn 10000 24 (val FF) (val FF)).run Tryz.prog W=.ok true W:=fun W=>by rw [eq_set,eqB_refl]
   have G1:=hid g1;have G2:=hid g2;have G3:=hid g3;have G4:=hid g4;have G5:=hid g5;have G6:=hid g6;have G7:=hid g7;have G8:=hid g8;clear g1 g2 g3 g4 g5 g6 g7 g8 hr hR hc60 hct hRt hRu hM hbn hla hls hX hW hA hcA hX1 hW1 hZ1 hcZ;go_wp2_with fail;refine HRi.out.mono ?_;rintro e w3 ⟨rfl,q3⟩;have B3:=hid (And.intro (B2.out.1.keep q3) (And.intro (B2.out.2.1.keep q3) (And.intro (B2.out.2.2.1.keep q3) (B2.out.2.2.2.trans q3))));clear q3 d0 d1 d2 d3 d4 d5 d6 d7;obtain ⟨d0,d1,d2,d3,d4,d5,d6,d7⟩:=(cells8 B3.out.1.cell).1;go_wp2_with fail;refine (HBx.out w3 B3.out.1.lie).mono ?_;rintro e w40 ⟨⟨v,rfl,xa,xc,rfl,hle,hlie⟩,q0⟩;have qq:=q0.alloc (.cells (ncells X xa xc) 27);have I4:=hid (And.intro (B3.out.1.keep qq) (And.intro (B3.out.2.1.keep qq) (And.intro (B3.out.2.2.1.keep qq) (And.intro (Nd.new hle hlie) (B3.out.2.2.2.trans qq)))));clear hle hlie q0 qq d0 d1 d2 d3 d4 d5 d6 d7;go_upto_region 5 with fail
   change Code.wp _ _ _ _ (w40.alloc (.cells (ncells X xa xc) 27))
   generalize (w40.alloc (.cells (ncells X xa xc) 27))=w4 at *;generalize w40.heap.size=nx at *;obtain ⟨d0,d1,d2,d3,d4,d5,d6,d7⟩:=(cells8 (I4.out.1).cell).1;go_wp2_with fail;refine (HSi.out w4 I4.out.1.lie).mono ?_;rintro e w50 ⟨⟨v,rfl,ma,mc,rfl,hle,hlie⟩,q0⟩;have G:=hid (HBy.out ma mc w50 (hlie.mono fun _ _=>trivial) hle)
   have I5:=hid (And.intro (I4.out.2.1.keep q0) (And.intro (I4.out.2.2.1.keep q0) (And.intro (I4.out.2.2.2.1.keep q0) (I4.out.2.2.2.2.trans q0))));clear hle hlie q0 d0 d1 d2 d3 d4 d5 d6 d7;obtain ⟨d0,d1,d2,d3,d4,d5,d6,d7⟩:=(cells8 I5.out.1.cell).1;go_wp2_with fail;refine (G.out).mono ?_;rintro e w50 ⟨⟨v,rfl,ya,yc,rfl,hle,hlie⟩,q0⟩;have qq:=q0.alloc (.cells (ncells X ya yc) 27);have I6:=hid (And.intro (I5.out.1.keep qq) (And.intro (I5.out.2.1.keep qq) (And.intro (I5.out.2.2.1.keep qq) (And.intro (Nd.new hle hlie) (I5.out.2.2.2.trans qq)))));clear hle hlie q0 qq d0 d1 d2 d3 d4 d5 d6 d7;go_upto_region 6 with fail
   change Code.wp _ _ _ _ (w50.alloc (.cells (ncells X ya yc) 27))
   generalize (w50.alloc (.cells (ncells X ya yc) 27))=w5 at *;generalize w50.heap.size=ny at *;obtain ⟨d0,d1,d2,d3,d4,d5,d6,d7⟩:=(cells8 (I6.out.2.1).cell).1;go_wp2_with fail;refine (HBz.out w5 I6.out.2.1.lie).mono ?_;rintro e w60 ⟨⟨v,rfl,za,zc,rfl,hle,hlie⟩,q0⟩;have qq:=q0.alloc (.cells (ncells Z za zc) 27);have I7:=hid (And.intro (I6.out.1.keep qq) (And.intro (I6.out.2.2.1.keep qq) (And.intro (I6.out.2.2.2.1.keep qq) (And.intro (Nd.new hle hlie) (I6.out.2.2.2.2.trans qq)))));clear hle hlie q0 qq d0 d1 d2 d3 d4 d5 d6 d7;go_upto_region 7 with fail
   change Code.wp _ _ _ _ (w60.alloc (.cells (ncells Z za zc) 27))
   generalize (w60.alloc (.cells (ncells Z za zc) 27))=w6 at *;generalize w60.heap.size=nz at *;obtain ⟨d0,d1,d2,d3,d4,d5,d6,d7⟩:=(cells8 (I7.out.1).cell).1;go_wp2_with fail;refine (HBw.out w6 I7.out.1.lie).mono ?_;rintro e w70 ⟨⟨v,rfl,va,vc,rfl,hle,hlie⟩,q0⟩;have qq:=q0.alloc (.cells (ncells V va vc) 27);have I8:=hid (And.intro (I7.out.2.1.keep qq) (And.intro (I7.out.2.2.1.keep qq) (And.intro (I7.out.2.2.2.1.keep qq) (And.intro (Nd.new hle hlie) (I7.out.2.2.2.2.trans qq)))));clear hle hlie q0 qq d0 d1 d2 d3 d4 d5 d6 d7;go_upto_region 8 with fail
   change Code.wp _ _ _ _ (w70.alloc (.cells (ncells V va vc) 27))
   generalize (w70.alloc (.cells (ncells V va vc) 27))=w7 at *;generalize w70.heap.size=nv at *;obtain ⟨d0,d1,d2,d3,d4,d5,d6,d7⟩:=(cells8 (I8.out.1).cell).1;obtain ⟨y0,y1,y2,y3,y4,y5,y6,y7⟩:=(cells8 I8.out.2.1.cell).1;have HSx:=hid (same_yes12 X xa xc ya yc w7 I8.out.1.lie I8.out.2.1.lie);go_wp2_with fail;refine HSx.out.mono ?_;rintro e w8 ⟨rfl,q8⟩;have I9:=hid (And.intro (I8.out.1.keep q8) (And.intro (I8.out.2.2.1.keep q8) (And.intro (I8.out.2.2.2.1.keep q8) (I8.out.2.2.2.2.trans q8))));clear q8 d0 d1 d2 d3 d4 d5 d6 d7 y0 y1 y2 y3 y4 y5 y6 y7;go_upto_region 10 with fail;have HL:=hid (And.intro I9.out.1.lie (And.intro I9.out.2.1.lie I9.out.2.2.1.lie));have hs:∀ W',Keep (fun _=>False) w8 W'→(fun w'=>Keep (fun _=>False) w8 w'∧w'.cell? ⟨nx,0,none⟩=some (.int .i64 X.kind)∧w'.cell? ⟨nx,1,none⟩=some (.int .u64 X.set.x0)∧w'.cell? ⟨nx,2,none⟩=some (.int .u64 X.set.x1)∧w'.cell? ⟨nx,3,none⟩=some (.int .u64 X.set.x2)∧w'.cell? ⟨nx,4,none⟩=some (.int .u64 X.set.x3)∧w'.cell? ⟨nx,5,none⟩=some (.int .i64 X.mn)∧w'.cell? ⟨nx,6,none⟩=some (.int .i64 X.mx)∧w'.cell? ⟨nx,7,none⟩=some (.slice xa X.subs.length xc)∧w'.cell? ⟨nz,0,none⟩=some (.int .i64 Z.kind)∧w'.cell? ⟨nz,1,none⟩=some (.int .u64 Z.set.x0)∧w'.cell? ⟨nz,2,none⟩=some (.int .u64 Z.set.x1)∧w'.cell? ⟨nz,3,none⟩=some (.int .u64 Z.set.x2)∧w'.cell? ⟨nz,4,none⟩=some (.int .u64 Z.set.x3)∧w'.cell? ⟨nz,5,none⟩=some (.int .i64 Z.mn)∧w'.cell? ⟨nz,6,none⟩=some (.int .i64 Z.mx)∧w'.cell? ⟨nz,7,none⟩=some (.slice za Z.subs.length zc)∧w'.cell? ⟨nv,0,none⟩=some (.int .i64 V.kind)∧w'.cell? ⟨nv,1,none⟩=some (.int .u64 V.set.x0)∧w'.cell? ⟨nv,2,none⟩=some (.int .u64 V.set.x1)∧w'.cell? ⟨nv,3,none⟩=some (.int .u64 V.set.x2)∧w'.cell? ⟨nv,4,none⟩=some (.int .u64 V.set.x3)∧w'.cell? ⟨nv,5,none⟩=some (.int .i64 V.mn)∧w'.cell? ⟨nv,6,none⟩=some (.int .i64 V.mx)∧w'.cell? ⟨nv,7,none⟩=some (.slice va V.subs.length vc)) W':=fun W' q=>by
    obtain ⟨s00,s01,s02,s03,s04,s05,s06,s07⟩:=(cells8 (I9.out.1.cell.keep q (fun h=>h))).1
    obtain ⟨s10,s11,s12,s13,s14,s15,s16,s17⟩:=(cells8 (I9.out.2.1.cell.keep q (fun h=>h))).1
    obtain ⟨s20,s21,s22,s23,s24,s25,s26,s27⟩:=(cells8 (I9.out.2.2.1.cell.keep q (fun h=>h))).1
    exact ⟨q,s00,s01,s02,s03,s04,s05,s06,s07,s10,s11,s12,s13,s14,s15,s16,s17,s20,s21,s22,s23,s24,s25,s26,s27⟩
   have HS:=hid hs;clear hs
   cases NX
   ·simp only [Bool.false_and] at G1
    cases UX
    ·simp only [Bool.false_or] at G4
     refine wp_region_noPanic ?_;refine wp_region_held_drew (S:=(fun w'=>Keep (fun _=>False) w8 w'∧w'.cell? ⟨nx,0,none⟩=some (.int .i64 X.kind)∧w'.cell? ⟨nx,1,none⟩=some (.int .u64 X.set.x0)∧w'.cell? ⟨nx,2,none⟩=some (.int .u64 X.set.x1)∧w'.cell? ⟨nx,3,none⟩=some (.int .u64 X.set.x2)∧w'.cell? ⟨nx,4,none⟩=some (.int .u64 X.set.x3)∧w'.cell? ⟨nx,5,none⟩=some (.int .i64 X.mn)∧w'.cell? ⟨nx,6,none⟩=some (.int .i64 X.mx)∧w'.cell? ⟨nx,7,none⟩=some (.slice xa X.subs.length xc)∧w'.cell? ⟨nz,0,none⟩=some (.int .i64 Z.kind)∧w'.cell? ⟨nz,1,none⟩=some (.int .u64 Z.set.x0)∧w'.cell? ⟨nz,2,none⟩=some (.int .u64 Z.set.x1)∧w'.cell? ⟨nz,3,none⟩=some (.int .u64 Z.set.x2)∧w'.cell? ⟨nz,4,none⟩=some (.int .u64 Z.set.x3)∧w'.cell? ⟨nz,5,none⟩=some (.int .i64 Z.mn)∧w'.cell? ⟨nz,6,none⟩=some (.int .i64 Z.mx)∧w'.cell? ⟨nz,7,none⟩=some (.slice za Z.subs.length zc)∧w'.cell? ⟨nv,0,none⟩=some (.int .i64 V.kind)∧w'.cell? ⟨nv,1,none⟩=some (.int .u64 V.set.x0)∧w'.cell? ⟨nv,2,none⟩=some (.int .u64 V.set.x1)∧w'.cell? ⟨nv,3,none⟩=some (.int .u64 V.set.x2)∧w'.cell? ⟨nv,4,none⟩=some (.int .u64 V.set.x3)∧w'.cell? ⟨nv,5,none⟩=some (.int .i64 V.mn)∧w'.cell? ⟨nv,6,none⟩=some (.int .i64 V.mx)∧w'.cell? ⟨nv,7,none⟩=some (.slice va V.subs.length vc))) (by kernel_rfl) ?_ (fun hHeld=>?_)
     ·exact HS.out _ ((Keep.refl _ _).drew)
     refine wpAnyH_take (i:=0) (oi:=⟨_,_,_,_,_,_⟩) (v:=?_) rfl (by kernel_rfl) (by kernel_rfl) (by kernel_rfl) (fun _ _ _ h=>h) (Or.inl ⟨by rfl,?_⟩) (by assumption) ?_
     rotate_left 1
     ·(intro w hSw;(try dsimp only at hSw);go_simp;first | done | with_reducible rfl)
     try simp only [Act.put,List.setIfInBounds_toArray,List.set_cons_zero,List.set_cons_succ]
     refine wpAnyH_take (i:=2) (oi:=⟨_,_,_,_,_,_⟩) (v:=?_) rfl (by kernel_rfl) (by kernel_rfl) (by kernel_rfl) (fun _ _ _ h=>h) (Or.inl ⟨by rfl,?_⟩) (by assumption) ?_
     rotate_left 1
     ·(intro w hSw;(try dsimp only at hSw);go_simp;first | done | with_reducible rfl)
     try simp only [Act.put,List.setIfInBounds_toArray,List.set_cons_zero,List.set_cons_succ]
     refine wpAnyH_ready (rs:=[1]) (by kernel_rfl) (by simp) ?_
     refine (AllReadyH.cons (o:=⟨_,_,_,_,_,_⟩) rfl (fun K hK=>?_) AllReadyH.nil)
     go_simp
     (go_at_call 19;refine (G1.out _ _ _ (HL.out.2.1.keepF (And.left hHeld))).mono ?_;rintro e wk ⟨rfl,q⟩)
     refine hK.out _ _ ?_ (fun hHeld'=>?_)
     ·exact HS.out _ (Keep.trans (And.left hHeld) q)
     clear hK K hHeld;have hHeld:=hHeld';clear hHeld'
     try simp only [Act.put,List.setIfInBounds_toArray,List.set_cons_zero,List.set_cons_succ]
     refine wpAnyH_ready (rs:=[3]) (by kernel_rfl) (by simp) ?_
     refine (AllReadyH.cons (o:=⟨_,_,_,_,_,_⟩) rfl (fun K hK=>?_) AllReadyH.nil)
     go_simp
     (go_at_call 19;refine (G2.out _ _ _ (HL.out.1.keepF (And.left hHeld))).mono ?_;rintro e wk ⟨rfl,q⟩)
     refine hK.out _ _ ?_ (fun hHeld'=>?_)
     ·exact HS.out _ (Keep.trans (And.left hHeld) q)
     clear hK K hHeld;have hHeld:=hHeld';clear hHeld'
     try simp only [Act.put,List.setIfInBounds_toArray,List.set_cons_zero,List.set_cons_succ]
     refine wpAnyH_take (i:=4) (oi:=⟨_,_,_,_,_,_⟩) (v:=?_) rfl (by kernel_rfl) (by kernel_rfl) (by kernel_rfl) (fun _ _ _ h=>h) (Or.inl ⟨by rfl,?_⟩) (by assumption) ?_
     rotate_left 1
     ·(intro w hSw;(try dsimp only at hSw);go_simp;first | done | with_reducible rfl)
     try simp only [Act.put,List.setIfInBounds_toArray,List.set_cons_zero,List.set_cons_succ]
     refine wpAnyH_take (i:=5) (oi:=⟨_,_,_,_,_,_⟩) (v:=undef) rfl (by kernel_rfl) (by kernel_rfl) (by kernel_rfl) (fun _ _ _ h=>h) (Or.inr ⟨by rfl,rfl⟩) (by assumption) ?_
     try simp only [Act.put,List.setIfInBounds_toArray,List.set_cons_zero,List.set_cons_succ]
     refine wpAnyH_take (i:=6) (oi:=⟨_,_,_,_,_,_⟩) (v:=undef) rfl (by kernel_rfl) (by kernel_rfl) (by kernel_rfl) (fun _ _ _ h=>h) (Or.inr ⟨by rfl,rfl⟩) (by assumption) ?_
     try simp only [Act.put,List.setIfInBounds_toArray,List.set_cons_zero,List.set_cons_succ]
     refine wpAnyH_take (i:=7) (oi:=⟨_,_,_,_,_,_⟩) (v:=?_) rfl (by kernel_rfl) (by kernel_rfl) (by kernel_rfl) (fun _ _ _ h=>h) (Or.inl ⟨by rfl,?_⟩) (by assumption) ?_
     rotate_left 1
     ·(intro w hSw;(try dsimp only at hSw);go_simp;first | done | with_reducible rfl)
     try simp only [Act.put,List.setIfInBounds_toArray,List.set_cons_zero,List.set_cons_succ]
     refine wpAnyH_take (i:=8) (oi:=⟨_,_,_,_,_,_⟩) (v:=?_) rfl (by kernel_rfl) (by kernel_rfl) (by kernel_rfl) (fun _ _ _ h=>h) (Or.inl ⟨by rfl,?_⟩) (by assumption) ?_
     rotate_left 1
     ·(intro w hSw;(try dsimp only at hSw);go_simp;first | done | with_reducible rfl)
     try simp only [Act.put,List.setIfInBounds_toArray,List.set_cons_zero,List.set_cons_succ]
     refine wpAnyH_take (i:=9) (oi:=⟨_,_,_,_,_,_⟩) (v:=?_) rfl (by kernel_rfl) (by kernel_rfl) (by kernel_rfl) (fun _ _ _ h=>h) (Or.inl ⟨by rfl,?_⟩) (by assumption) ?_
     rotate_left 1
     ·(intro w hSw;(try dsimp only at hSw);go_simp;first | done | with_reducible rfl)
     try simp only [Act.put,List.setIfInBounds_toArray,List.set_cons_zero,List.set_cons_succ]
     refine wpAnyH_take (i:=10) (oi:=⟨_,_,_,_,_,_⟩) (v:=?_) rfl (by kernel_rfl) (by kernel_rfl) (by kernel_rfl) (fun _ _ _ h=>h) (Or.inl ⟨by rfl,?_⟩) (by assumption) ?_
     rotate_left 1
     ·(intro w hSw;(try dsimp only at hSw);go_simp;first | done | with_reducible rfl)
     try simp only [Act.put,List.setIfInBounds_toArray,List.set_cons_zero,List.set_cons_succ]
     refine wpAnyH_take (i:=12) (oi:=⟨_,_,_,_,_,_⟩) (v:=?_) rfl (by kernel_rfl) (by kernel_rfl) (by kernel_rfl) (fun _ _ _ h=>h) (Or.inl ⟨by rfl,?_⟩) (by assumption) ?_
     rotate_left 1
     ·(intro w hSw;(try dsimp only at hSw);go_simp;first | done | with_reducible rfl)
     try simp only [Act.put,List.setIfInBounds_toArray,List.set_cons_zero,List.set_cons_succ]
     refine wpAnyH_ready (rs:=[11]) (by kernel_rfl) (by simp) ?_
     refine (AllReadyH.cons (o:=⟨_,_,_,_,_,_⟩) rfl (fun K hK=>?_) AllReadyH.nil)
     go_simp
     (go_at_call 20;refine (G4.out _ _ _ (HL.out.2.1.keepF (And.left hHeld))).mono ?_;rintro e wk ⟨rfl,q⟩)
     refine hK.out _ _ ?_ (fun hHeld'=>?_)
     ·exact HS.out _ (Keep.trans (And.left hHeld) q)
     clear hK K hHeld;have hHeld:=hHeld';clear hHeld'
     try simp only [Act.put,List.setIfInBounds_toArray,List.set_cons_zero,List.set_cons_succ]
     refine wpAnyH_ready (rs:=[13]) (by kernel_rfl) (by simp) ?_
     refine (AllReadyH.cons (o:=⟨_,_,_,_,_,_⟩) rfl (fun K hK=>?_) AllReadyH.nil)
     go_simp
     (go_at_call 20;refine (G5.out _ _ _ (HL.out.1.keepF (And.left hHeld))).mono ?_;rintro e wk ⟨rfl,q⟩)
     refine hK.out _ _ ?_ (fun hHeld'=>?_)
     ·exact HS.out _ (Keep.trans (And.left hHeld) q)
     clear hK K hHeld;have hHeld:=hHeld';clear hHeld'
     try simp only [Act.put,List.setIfInBounds_toArray,List.set_cons_zero,List.set_cons_succ]
     refine wpAnyH_take (i:=14) (oi:=⟨_,_,_,_,_,_⟩) (v:=?_) rfl (by kernel_rfl) (by kernel_rfl) (by kernel_rfl) (fun _ _ _ h=>h) (Or.inl ⟨by rfl,?_⟩) (by assumption) ?_
     rotate_left 1
     ·(intro w hSw;(try dsimp only at hSw);go_simp;first | done | with_reducible rfl)
     try simp only [Act.put,List.setIfInBounds_toArray,List.set_cons_zero,List.set_cons_succ]
     refine wpAnyH_take (i:=15) (oi:=⟨_,_,_,_,_,_⟩) (v:=?_) rfl (by kernel_rfl) (by kernel_rfl) (by kernel_rfl) (fun _ _ _ h=>h) (Or.inl ⟨by rfl,?_⟩) (by assumption) ?_
     rotate_left 1
     ·(intro w hSw;(try dsimp only at hSw);go_simp;first | done | with_reducible rfl)
     try simp only [Act.put,List.setIfInBounds_toArray,List.set_cons_zero,List.set_cons_succ]
     refine wpAnyH_ready (rs:=[16]) (by kernel_rfl) (by simp) ?_
     refine (AllReadyH.cons (o:=⟨_,_,_,_,_,_⟩) rfl (fun K hK=>?_) AllReadyH.nil)
     go_simp
     (go_at_call 20;refine (G6.out _ _ _ (HL.out.2.2.keepF (And.left hHeld))).mono ?_;rintro e wk ⟨rfl,q⟩)
     refine hK.out _ _ ?_ (fun hHeld'=>?_)
     ·exact HS.out _ (Keep.trans (And.left hHeld) q)
     clear hK K hHeld;have hHeld:=hHeld';clear hHeld'
     try simp only [Act.put,List.setIfInBounds_toArray,List.set_cons_zero,List.set_cons_succ]
     refine wpAnyH_take (i:=17) (oi:=⟨_,_,_,_,_,_⟩) (v:=?_) rfl (by kernel_rfl) (by kernel_rfl) (by kernel_rfl) (fun _ _ _ h=>h) (Or.inl ⟨by rfl,?_⟩) (by assumption) ?_
     rotate_left 1
     ·(intro w hSw;(try dsimp only at hSw);go_simp;first | done | with_reducible rfl)
     try simp only [Act.put,List.setIfInBounds_toArray,List.set_cons_zero,List.set_cons_succ]
     refine wpAnyH_take (i:=18) (oi:=⟨_,_,_,_,_,_⟩) (v:=?_) rfl (by kernel_rfl) (by kernel_rfl) (by kernel_rfl) (fun _ _ _ h=>h) (Or.inl ⟨by rfl,?_⟩) (by assumption) ?_
     rotate_left 1
     ·(intro w hSw;(try dsimp only at hSw);go_simp;first | done | with_reducible rfl)
     try simp only [Act.put,List.setIfInBounds_toArray,List.set_cons_zero,List.set_cons_succ]
     refine wpAnyH_take (i:=19) (oi:=⟨_,_,_,_,_,_⟩) (v:=?_) rfl (by kernel_rfl) (by kernel_rfl) (by kernel_rfl) (fun _ _ _ h=>h) (Or.inl ⟨by rfl,?_⟩) (by assumption) ?_
     rotate_left 1
     ·(intro w hSw;(try dsimp only at hSw);go_simp;first | done | with_reducible rfl)
     try simp only [Act.put,List.setIfInBounds_toArray,List.set_cons_zero,List.set_cons_succ]
     refine wpAnyH_take (i:=20) (oi:=⟨_,_,_,_,_,_⟩) (v:=?_) rfl (by kernel_rfl) (by kernel_rfl) (by kernel_rfl) (fun _ _ _ h=>h) (Or.inl ⟨by rfl,?_⟩) (by assumption) ?_
     rotate_left 1
     ·(intro w hSw;(try dsimp only at hSw);go_simp;first | done | with_reducible rfl)
     try simp only [Act.put,List.setIfInBounds_toArray,List.set_cons_zero,List.set_cons_succ]
     refine wpAnyH_take (i:=21) (oi:=⟨_,_,_,_,_,_⟩) (v:=?_) rfl (by kernel_rfl) (by kernel_rfl) (by kernel_rfl) (fun _ _ _ h=>h) (Or.inl ⟨by rfl,?_⟩) (by assumption) ?_
     rotate_left 1
     ·(intro w hSw;(try dsimp only at hSw);go_simp;first | done | with_reducible rfl)
     try simp only [Act.put,List.setIfInBounds_toArray,List.set_cons_zero,List.set_cons_succ]
     refine wpAnyH_take (i:=23) (oi:=⟨_,_,_,_,_,_⟩) (v:=?_) rfl (by kernel_rfl) (by kernel_rfl) (by kernel_rfl) (fun _ _ _ h=>h) (Or.inl ⟨by rfl,?_⟩) (by assumption) ?_
     rotate_left 1
     ·(intro w hSw;(try dsimp only at hSw);go_simp;first | done | with_reducible rfl)
     try simp only [Act.put,List.setIfInBounds_toArray,List.set_cons_zero,List.set_cons_succ]
     refine wpAnyH_take (i:=24) (oi:=⟨_,_,_,_,_,_⟩) (v:=?_) rfl (by kernel_rfl) (by kernel_rfl) (by kernel_rfl) (fun _ _ _ h=>h) (Or.inl ⟨by rfl,?_⟩) (by assumption) ?_
     rotate_left 1
     ·(intro w hSw;(try dsimp only at hSw);go_simp;first | done | with_reducible rfl)
     try simp only [Act.put,List.setIfInBounds_toArray,List.set_cons_zero,List.set_cons_succ]
     refine wpAnyH_ready (rs:=[22,25]) (by kernel_rfl) (by simp) ?_
     refine (AllReadyH.cons (o:=⟨_,_,_,_,_,_⟩) rfl (fun K hK=>?_) (AllReadyH.cons (o:=⟨_,_,_,_,_,_⟩) rfl (fun K hK=>?_) AllReadyH.nil))
     go_simp
     (go_at_call 21;refine (G7.out _ _ _ (HL.out.2.1.keepF (And.left hHeld))).mono ?_;rintro e wk ⟨rfl,q⟩)
     refine hK.out _ _ ?_ (fun hHeld'=>?_)
     ·exact HS.out _ (Keep.trans (And.left hHeld) q)
     clear hK K hHeld;have hHeld:=hHeld';clear hHeld'
     try simp only [Act.put,List.setIfInBounds_toArray,List.set_cons_zero,List.set_cons_succ]
     refine wpAnyH_ready (rs:=[25]) (by kernel_rfl) (by simp) ?_
     refine (AllReadyH.cons (o:=⟨_,_,_,_,_,_⟩) rfl (fun K hK=>?_) AllReadyH.nil)
     go_simp;have hLT:=two_lie (t:=X) (u:=V) (a:=xa) (b:=va) (c:=xc) (d:=vc) (W:=_) (HL.out.1.keepF (And.left hHeld)) (HL.out.2.2.keepF (And.left hHeld)) I9.out.1.le I9.out.2.2.1.le;refine hK.out _ _ ?_ (fun hHeld'=>?_)
     ·exact HS.out _ ((And.left hHeld).alloc _)
     clear hK K hHeld;have hHeld:=hHeld';clear hHeld'
     try simp only [Act.put,List.setIfInBounds_toArray,List.set_cons_zero,List.set_cons_succ]
     refine wpAnyH_take (i:=26) (oi:=⟨_,_,_,_,_,_⟩) (v:=?_) rfl (by kernel_rfl) (by kernel_rfl) (by kernel_rfl) (fun _ _ _ h=>h) (Or.inl ⟨by rfl,?_⟩) (by assumption) ?_
     rotate_left 1
     ·(intro w hSw;(try dsimp only at hSw);go_simp;first | done | with_reducible rfl)
     try simp only [Act.put,List.setIfInBounds_toArray,List.set_cons_zero,List.set_cons_succ]
     refine wpAnyH_ready (rs:=[27]) (by kernel_rfl) (by simp) ?_
     refine (AllReadyH.cons (o:=⟨_,_,_,_,_,_⟩) rfl (fun K hK=>?_) AllReadyH.nil)
     go_simp
     (go_at_call 21;refine (G8.out _ _ _ hLT).mono ?_;rintro e wk ⟨rfl,q⟩)
     clear hLT;refine hK.out _ _ ?_ (fun hHeld'=>?_)
     ·exact HS.out _ (Keep.trans (And.left hHeld) q)
     clear hK K hHeld;have hHeld:=hHeld';clear hHeld'
     try simp only [Act.put,List.setIfInBounds_toArray,List.set_cons_zero,List.set_cons_succ]
     refine wpAnyH_take (i:=28) (oi:=⟨_,_,_,_,_,_⟩) (v:=?_) rfl (by kernel_rfl) (by kernel_rfl) (by kernel_rfl) (fun _ _ _ h=>h) (Or.inl ⟨by rfl,?_⟩) (by assumption) ?_
     rotate_left 1
     ·(intro w hSw;(try dsimp only at hSw);go_simp;first | done | with_reducible rfl)
     try simp only [Act.put,List.setIfInBounds_toArray,List.set_cons_zero,List.set_cons_succ]
     refine wpAnyH_take (i:=29) (oi:=⟨_,_,_,_,_,_⟩) (v:=?_) rfl (by kernel_rfl) (by kernel_rfl) (by kernel_rfl) (fun _ _ _ h=>h) (Or.inl ⟨by rfl,?_⟩) (by assumption) ?_
     rotate_left 1
     ·(intro w hSw;(try dsimp only at hSw);go_simp;first | done | with_reducible rfl)
     try simp only [Act.put,List.setIfInBounds_toArray,List.set_cons_zero,List.set_cons_succ]
     refine wpAnyH_take (i:=30) (oi:=⟨_,_,_,_,_,_⟩) (v:=?_) rfl (by kernel_rfl) (by kernel_rfl) (by kernel_rfl) (fun _ _ _ h=>h) (Or.inl ⟨by rfl,?_⟩) (by assumption) ?_
     rotate_left 1
     ·(intro w hSw;(try dsimp only at hSw);go_simp;first | done | with_reducible rfl)
     try simp only [Act.put,List.setIfInBounds_toArray,List.set_cons_zero,List.set_cons_succ]
     refine wpAnyH_done (by kernel_rfl) ?_ _
     refine NoPanic.normal ?_;rotate_left 1;go_simp;have hLT:=two_lie (t:=X) (u:=V) (a:=xa) (b:=va) (c:=xc) (d:=vc) (W:=_) (HL.out.1.keepF (And.left hHeld)) (HL.out.2.2.keepF (And.left hHeld)) I9.out.1.le I9.out.2.2.1.le;refine hK.out _ _ ?_ (fun hHeld'=>?_)
     ·exact HS.out _ ((And.left hHeld).alloc _)
     clear hK K hHeld;have hHeld:=hHeld';clear hHeld'
     try simp only [Act.put,List.setIfInBounds_toArray,List.set_cons_zero,List.set_cons_succ]
     refine wpAnyH_take (i:=26) (oi:=⟨_,_,_,_,_,_⟩) (v:=?_) rfl (by kernel_rfl) (by kernel_rfl) (by kernel_rfl) (fun _ _ _ h=>h) (Or.inl ⟨by rfl,?_⟩) (by assumption) ?_
     rotate_left 1
     ·(intro w hSw;(try dsimp only at hSw);go_simp;first | done | with_reducible rfl)
     try simp only [Act.put,List.setIfInBounds_toArray,List.set_cons_zero,List.set_cons_succ]
     refine wpAnyH_ready (rs:=[22]) (by kernel_rfl) (by simp) ?_
     refine (AllReadyH.cons (o:=⟨_,_,_,_,_,_⟩) rfl (fun K hK=>?_) AllReadyH.nil)
     go_simp
     (go_at_call 21;refine (G7.out _ _ _ (HL.out.2.1.keepF (And.left hHeld))).mono ?_;rintro e wk ⟨rfl,q⟩)
     have hLT:=hLT.keepF q;refine hK.out _ _ ?_ (fun hHeld'=>?_)
     ·exact HS.out _ (Keep.trans (And.left hHeld) q)
     clear hK K hHeld;have hHeld:=hHeld';clear hHeld'
     try simp only [Act.put,List.setIfInBounds_toArray,List.set_cons_zero,List.set_cons_succ]
     refine wpAnyH_ready (rs:=[27]) (by kernel_rfl) (by simp) ?_
     refine (AllReadyH.cons (o:=⟨_,_,_,_,_,_⟩) rfl (fun K hK=>?_) AllReadyH.nil)
     go_simp
     (go_at_call 21;refine (G8.out _ _ _ hLT).mono ?_;rintro e wk ⟨rfl,q⟩)
     clear hLT;refine hK.out _ _ ?_ (fun hHeld'=>?_)
     ·exact HS.out _ (Keep.trans (And.left hHeld) q)
     clear hK K hHeld;have hHeld:=hHeld';clear hHeld'
     try simp only [Act.put,List.setIfInBounds_toArray,List.set_cons_zero,List.set_cons_succ]
     refine wpAnyH_take (i:=28) (oi:=⟨_,_,_,_,_,_⟩) (v:=?_) rfl (by kernel_rfl) (by kernel_rfl) (by kernel_rfl) (fun _ _ _ h=>h) (Or.inl ⟨by rfl,?_⟩) (by assumption) ?_
     rotate_left 1
     ·(intro w hSw;(try dsimp only at hSw);go_simp;first | done | with_reducible rfl)
     try simp only [Act.put,List.setIfInBounds_toArray,List.set_cons_zero,List.set_cons_succ]
     refine wpAnyH_take (i:=29) (oi:=⟨_,_,_,_,_,_⟩) (v:=?_) rfl (by kernel_rfl) (by kernel_rfl) (by kernel_rfl) (fun _ _ _ h=>h) (Or.inl ⟨by rfl,?_⟩) (by assumption) ?_
     rotate_left 1
     ·(intro w hSw;(try dsimp only at hSw);go_simp;first | done | with_reducible rfl)
     try simp only [Act.put,List.setIfInBounds_toArray,List.set_cons_zero,List.set_cons_succ]
     refine wpAnyH_take (i:=30) (oi:=⟨_,_,_,_,_,_⟩) (v:=?_) rfl (by kernel_rfl) (by kernel_rfl) (by kernel_rfl) (fun _ _ _ h=>h) (Or.inl ⟨by rfl,?_⟩) (by assumption) ?_
     rotate_left 1
     ·(intro w hSw;(try dsimp only at hSw);go_simp;first | done | with_reducible rfl)
     try simp only [Act.put,List.setIfInBounds_toArray,List.set_cons_zero,List.set_cons_succ]
     refine wpAnyH_done (by kernel_rfl) ?_ _
     refine NoPanic.normal ?_;rotate_left 1
     all_goals
      have HZ:=hid (I9.out.2.2.2.trans (And.left hHeld));clear hHeld;go_wp2_with fail;go_ret;exact ⟨rfl,HZ.out⟩
    ·simp only [Bool.true_or] at G4
     refine wp_region_noPanic ?_;refine wp_region_held_drew (S:=(fun w'=>Keep (fun _=>False) w8 w'∧w'.cell? ⟨nx,0,none⟩=some (.int .i64 X.kind)∧w'.cell? ⟨nx,1,none⟩=some (.int .u64 X.set.x0)∧w'.cell? ⟨nx,2,none⟩=some (.int .u64 X.set.x1)∧w'.cell? ⟨nx,3,none⟩=some (.int .u64 X.set.x2)∧w'.cell? ⟨nx,4,none⟩=some (.int .u64 X.set.x3)∧w'.cell? ⟨nx,5,none⟩=some (.int .i64 X.mn)∧w'.cell? ⟨nx,6,none⟩=some (.int .i64 X.mx)∧w'.cell? ⟨nx,7,none⟩=some (.slice xa X.subs.length xc)∧w'.cell? ⟨nz,0,none⟩=some (.int .i64 Z.kind)∧w'.cell? ⟨nz,1,none⟩=some (.int .u64 Z.set.x0)∧w'.cell? ⟨nz,2,none⟩=some (.int .u64 Z.set.x1)∧w'.cell? ⟨nz,3,none⟩=some (.int .u64 Z.set.x2)∧w'.cell? ⟨nz,4,none⟩=some (.int .u64 Z.set.x3)∧w'.cell? ⟨nz,5,none⟩=some (.int .i64 Z.mn)∧w'.cell? ⟨nz,6,none⟩=some (.int .i64 Z.mx)∧w'.cell? ⟨nz,7,none⟩=some (.slice za Z.subs.length zc)∧w'.cell? ⟨nv,0,none⟩=some (.int .i64 V.kind)∧w'.cell? ⟨nv,1,none⟩=some (.int .u64 V.set.x0)∧w'.cell? ⟨nv,2,none⟩=some (.int .u64 V.set.x1)∧w'.cell? ⟨nv,3,none⟩=some (.int .u64 V.set.x2)∧w'.cell? ⟨nv,4,none⟩=some (.int .u64 V.set.x3)∧w'.cell? ⟨nv,5,none⟩=some (.int .i64 V.mn)∧w'.cell? ⟨nv,6,none⟩=some (.int .i64 V.mx)∧w'.cell? ⟨nv,7,none⟩=some (.slice va V.subs.length vc))) (by kernel_rfl) ?_ (fun hHeld=>?_)
     ·exact HS.out _ ((Keep.refl _ _).drew)
     refine wpAnyH_take (i:=0) (oi:=⟨_,_,_,_,_,_⟩) (v:=?_) rfl (by kernel_rfl) (by kernel_rfl) (by kernel_rfl) (fun _ _ _ h=>h) (Or.inl ⟨by rfl,?_⟩) (by assumption) ?_
     rotate_left 1
     ·(intro w hSw;(try dsimp only at hSw);go_simp;first | done | with_reducible rfl)
     try simp only [Act.put,List.setIfInBounds_toArray,List.set_cons_zero,List.set_cons_succ]
     refine wpAnyH_take (i:=2) (oi:=⟨_,_,_,_,_,_⟩) (v:=?_) rfl (by kernel_rfl) (by kernel_rfl) (by kernel_rfl) (fun _ _ _ h=>h) (Or.inl ⟨by rfl,?_⟩) (by assumption) ?_
     rotate_left 1
     ·(intro w hSw;(try dsimp only at hSw);go_simp;first | done | with_reducible rfl)
     try simp only [Act.put,List.setIfInBounds_toArray,List.set_cons_zero,List.set_cons_succ]
     refine wpAnyH_ready (rs:=[1]) (by kernel_rfl) (by simp) ?_
     refine (AllReadyH.cons (o:=⟨_,_,_,_,_,_⟩) rfl (fun K hK=>?_) AllReadyH.nil)
     go_simp
     (go_at_call 19;refine (G1.out _ _ _ (HL.out.2.1.keepF (And.left hHeld))).mono ?_;rintro e wk ⟨rfl,q⟩)
     refine hK.out _ _ ?_ (fun hHeld'=>?_)
     ·exact HS.out _ (Keep.trans (And.left hHeld) q)
     clear hK K hHeld;have hHeld:=hHeld';clear hHeld'
     try simp only [Act.put,List.setIfInBounds_toArray,List.set_cons_zero,List.set_cons_succ]
     refine wpAnyH_ready (rs:=[3]) (by kernel_rfl) (by simp) ?_
     refine (AllReadyH.cons (o:=⟨_,_,_,_,_,_⟩) rfl (fun K hK=>?_) AllReadyH.nil)
     go_simp
     (go_at_call 19;refine (G2.out _ _ _ (HL.out.1.keepF (And.left hHeld))).mono ?_;rintro e wk ⟨rfl,q⟩)
     refine hK.out _ _ ?_ (fun hHeld'=>?_)
     ·exact HS.out _ (Keep.trans (And.left hHeld) q)
     clear hK K hHeld;have hHeld:=hHeld';clear hHeld'
     try simp only [Act.put,List.setIfInBounds_toArray,List.set_cons_zero,List.set_cons_succ]
     refine wpAnyH_take (i:=4) (oi:=⟨_,_,_,_,_,_⟩) (v:=?_) rfl (by kernel_rfl) (by kernel_rfl) (by kernel_rfl) (fun _ _ _ h=>h) (Or.inl ⟨by rfl,?_⟩) (by assumption) ?_
     rotate_left 1
     ·(intro w hSw;(try dsimp only at hSw);go_simp;first | done | with_reducible rfl)
     try simp only [Act.put,List.setIfInBounds_toArray,List.set_cons_zero,List.set_cons_succ]
     refine wpAnyH_take (i:=5) (oi:=⟨_,_,_,_,_,_⟩) (v:=undef) rfl (by kernel_rfl) (by kernel_rfl) (by kernel_rfl) (fun _ _ _ h=>h) (Or.inr ⟨by rfl,rfl⟩) (by assumption) ?_
     try simp only [Act.put,List.setIfInBounds_toArray,List.set_cons_zero,List.set_cons_succ]
     refine wpAnyH_take (i:=6) (oi:=⟨_,_,_,_,_,_⟩) (v:=undef) rfl (by kernel_rfl) (by kernel_rfl) (by kernel_rfl) (fun _ _ _ h=>h) (Or.inr ⟨by rfl,rfl⟩) (by assumption) ?_
     try simp only [Act.put,List.setIfInBounds_toArray,List.set_cons_zero,List.set_cons_succ]
     refine wpAnyH_take (i:=7) (oi:=⟨_,_,_,_,_,_⟩) (v:=?_) rfl (by kernel_rfl) (by kernel_rfl) (by kernel_rfl) (fun _ _ _ h=>h) (Or.inl ⟨by rfl,?_⟩) (by assumption) ?_
     rotate_left 1
     ·(intro w hSw;(try dsimp only at hSw);go_simp;first | done | with_reducible rfl)
     try simp only [Act.put,List.setIfInBounds_toArray,List.set_cons_zero,List.set_cons_succ]
     refine wpAnyH_take (i:=8) (oi:=⟨_,_,_,_,_,_⟩) (v:=?_) rfl (by kernel_rfl) (by kernel_rfl) (by kernel_rfl) (fun _ _ _ h=>h) (Or.inl ⟨by rfl,?_⟩) (by assumption) ?_
     rotate_left 1
     ·(intro w hSw;(try dsimp only at hSw);go_simp;first | done | with_reducible rfl)
     try simp only [Act.put,List.setIfInBounds_toArray,List.set_cons_zero,List.set_cons_succ]
     refine wpAnyH_take (i:=9) (oi:=⟨_,_,_,_,_,_⟩) (v:=?_) rfl (by kernel_rfl) (by kernel_rfl) (by kernel_rfl) (fun _ _ _ h=>h) (Or.inl ⟨by rfl,?_⟩) (by assumption) ?_
     rotate_left 1
     ·(intro w hSw;(try dsimp only at hSw);go_simp;first | done | with_reducible rfl)
     try simp only [Act.put,List.setIfInBounds_toArray,List.set_cons_zero,List.set_cons_succ]
     refine wpAnyH_take (i:=10) (oi:=⟨_,_,_,_,_,_⟩) (v:=?_) rfl (by kernel_rfl) (by kernel_rfl) (by kernel_rfl) (fun _ _ _ h=>h) (Or.inl ⟨by rfl,?_⟩) (by assumption) ?_
     rotate_left 1
     ·(intro w hSw;(try dsimp only at hSw);go_simp;first | done | with_reducible rfl)
     try simp only [Act.put,List.setIfInBounds_toArray,List.set_cons_zero,List.set_cons_succ]
     refine wpAnyH_take (i:=12) (oi:=⟨_,_,_,_,_,_⟩) (v:=?_) rfl (by kernel_rfl) (by kernel_rfl) (by kernel_rfl) (fun _ _ _ h=>h) (Or.inl ⟨by rfl,?_⟩) (by assumption) ?_
     rotate_left 1
     ·(intro w hSw;(try dsimp only at hSw);go_simp;first | done | with_reducible rfl)
     try simp only [Act.put,List.setIfInBounds_toArray,List.set_cons_zero,List.set_cons_succ]
     refine wpAnyH_ready (rs:=[11]) (by kernel_rfl) (by simp) ?_
     refine (AllReadyH.cons (o:=⟨_,_,_,_,_,_⟩) rfl (fun K hK=>?_) AllReadyH.nil)
     go_simp
     (go_at_call 20;refine (G4.out _ _ _ (HL.out.2.1.keepF (And.left hHeld))).mono ?_;rintro e wk ⟨rfl,q⟩)
     refine hK.out _ _ ?_ (fun hHeld'=>?_)
     ·exact HS.out _ (Keep.trans (And.left hHeld) q)
     clear hK K hHeld;have hHeld:=hHeld';clear hHeld'
     try simp only [Act.put,List.setIfInBounds_toArray,List.set_cons_zero,List.set_cons_succ]
     refine wpAnyH_ready (rs:=[13]) (by kernel_rfl) (by simp) ?_
     refine (AllReadyH.cons (o:=⟨_,_,_,_,_,_⟩) rfl (fun K hK=>?_) AllReadyH.nil)
     go_simp
     (go_at_call 20;refine (G5.out _ _ _ (HL.out.1.keepF (And.left hHeld))).mono ?_;rintro e wk ⟨rfl,q⟩)
     refine hK.out _ _ ?_ (fun hHeld'=>?_)
     ·exact HS.out _ (Keep.trans (And.left hHeld) q)
     clear hK K hHeld;have hHeld:=hHeld';clear hHeld'
     try simp only [Act.put,List.setIfInBounds_toArray,List.set_cons_zero,List.set_cons_succ]
     refine wpAnyH_take (i:=14) (oi:=⟨_,_,_,_,_,_⟩) (v:=?_) rfl (by kernel_rfl) (by kernel_rfl) (by kernel_rfl) (fun _ _ _ h=>h) (Or.inl ⟨by rfl,?_⟩) (by assumption) ?_
     rotate_left 1
     ·(intro w hSw;(try dsimp only at hSw);go_simp;first | done | with_reducible rfl)
     try simp only [Act.put,List.setIfInBounds_toArray,List.set_cons_zero,List.set_cons_succ]
     refine wpAnyH_take (i:=15) (oi:=⟨_,_,_,_,_,_⟩) (v:=undef) rfl (by kernel_rfl) (by kernel_rfl) (by kernel_rfl) (fun _ _ _ h=>h) (Or.inr ⟨by rfl,rfl⟩) (by assumption) ?_
     try simp only [Act.put,List.setIfInBounds_toArray,List.set_cons_zero,List.set_cons_succ]
     refine wpAnyH_take (i:=16) (oi:=⟨_,_,_,_,_,_⟩) (v:=undef) rfl (by kernel_rfl) (by kernel_rfl) (by kernel_rfl) (fun _ _ _ h=>h) (Or.inr ⟨by rfl,rfl⟩) (by assumption) ?_
     try simp only [Act.put,List.setIfInBounds_toArray,List.set_cons_zero,List.set_cons_succ]
     refine wpAnyH_take (i:=17) (oi:=⟨_,_,_,_,_,_⟩) (v:=?_) rfl (by kernel_rfl) (by kernel_rfl) (by kernel_rfl) (fun _ _ _ h=>h) (Or.inl ⟨by rfl,?_⟩) (by assumption) ?_
     rotate_left 1
     ·(intro w hSw;(try dsimp only at hSw);go_simp;first | done | with_reducible rfl)
     try simp only [Act.put,List.setIfInBounds_toArray,List.set_cons_zero,List.set_cons_succ]
     refine wpAnyH_take (i:=18) (oi:=⟨_,_,_,_,_,_⟩) (v:=?_) rfl (by kernel_rfl) (by kernel_rfl) (by kernel_rfl) (fun _ _ _ h=>h) (Or.inl ⟨by rfl,?_⟩) (by assumption) ?_
     rotate_left 1
     ·(intro w hSw;(try dsimp only at hSw);go_simp;first | done | with_reducible rfl)
     try simp only [Act.put,List.setIfInBounds_toArray,List.set_cons_zero,List.set_cons_succ]
     refine wpAnyH_take (i:=19) (oi:=⟨_,_,_,_,_,_⟩) (v:=?_) rfl (by kernel_rfl) (by kernel_rfl) (by kernel_rfl) (fun _ _ _ h=>h) (Or.inl ⟨by rfl,?_⟩) (by assumption) ?_
     rotate_left 1
     ·(intro w hSw;(try dsimp only at hSw);go_simp;first | done | with_reducible rfl)
     try simp only [Act.put,List.setIfInBounds_toArray,List.set_cons_zero,List.set_cons_succ]
     refine wpAnyH_take (i:=20) (oi:=⟨_,_,_,_,_,_⟩) (v:=?_) rfl (by kernel_rfl) (by kernel_rfl) (by kernel_rfl) (fun _ _ _ h=>h) (Or.inl ⟨by rfl,?_⟩) (by assumption) ?_
     rotate_left 1
     ·(intro w hSw;(try dsimp only at hSw);go_simp;first | done | with_reducible rfl)
     try simp only [Act.put,List.setIfInBounds_toArray,List.set_cons_zero,List.set_cons_succ]
     refine wpAnyH_take (i:=21) (oi:=⟨_,_,_,_,_,_⟩) (v:=?_) rfl (by kernel_rfl) (by kernel_rfl) (by kernel_rfl) (fun _ _ _ h=>h) (Or.inl ⟨by rfl,?_⟩) (by assumption) ?_
     rotate_left 1
     ·(intro w hSw;(try dsimp only at hSw);go_simp;first | done | with_reducible rfl)
     try simp only [Act.put,List.setIfInBounds_toArray,List.set_cons_zero,List.set_cons_succ]
     refine wpAnyH_take (i:=23) (oi:=⟨_,_,_,_,_,_⟩) (v:=?_) rfl (by kernel_rfl) (by kernel_rfl) (by kernel_rfl) (fun _ _ _ h=>h) (Or.inl ⟨by rfl,?_⟩) (by assumption) ?_
     rotate_left 1
     ·(intro w hSw;(try dsimp only at hSw);go_simp;first | done | with_reducible rfl)
     try simp only [Act.put,List.setIfInBounds_toArray,List.set_cons_zero,List.set_cons_succ]
     refine wpAnyH_take (i:=24) (oi:=⟨_,_,_,_,_,_⟩) (v:=?_) rfl (by kernel_rfl) (by kernel_rfl) (by kernel_rfl) (fun _ _ _ h=>h) (Or.inl ⟨by rfl,?_⟩) (by assumption) ?_
     rotate_left 1
     ·(intro w hSw;(try dsimp only at hSw);go_simp;first | done | with_reducible rfl)
     try simp only [Act.put,List.setIfInBounds_toArray,List.set_cons_zero,List.set_cons_succ]
     refine wpAnyH_ready (rs:=[22,25]) (by kernel_rfl) (by simp) ?_
     refine (AllReadyH.cons (o:=⟨_,_,_,_,_,_⟩) rfl (fun K hK=>?_) (AllReadyH.cons (o:=⟨_,_,_,_,_,_⟩) rfl (fun K hK=>?_) AllReadyH.nil))
     go_simp
     (go_at_call 21;refine (G7.out _ _ _ (HL.out.2.1.keepF (And.left hHeld))).mono ?_;rintro e wk ⟨rfl,q⟩)
     refine hK.out _ _ ?_ (fun hHeld'=>?_)
     ·exact HS.out _ (Keep.trans (And.left hHeld) q)
     clear hK K hHeld;have hHeld:=hHeld';clear hHeld'
     try simp only [Act.put,List.setIfInBounds_toArray,List.set_cons_zero,List.set_cons_succ]
     refine wpAnyH_ready (rs:=[25]) (by kernel_rfl) (by simp) ?_
     refine (AllReadyH.cons (o:=⟨_,_,_,_,_,_⟩) rfl (fun K hK=>?_) AllReadyH.nil)
     go_simp;have hLT:=two_lie (t:=X) (u:=V) (a:=xa) (b:=va) (c:=xc) (d:=vc) (W:=_) (HL.out.1.keepF (And.left hHeld)) (HL.out.2.2.keepF (And.left hHeld)) I9.out.1.le I9.out.2.2.1.le;refine hK.out _ _ ?_ (fun hHeld'=>?_)
     ·exact HS.out _ ((And.left hHeld).alloc _)
     clear hK K hHeld;have hHeld:=hHeld';clear hHeld'
     try simp only [Act.put,List.setIfInBounds_toArray,List.set_cons_zero,List.set_cons_succ]
     refine wpAnyH_take (i:=26) (oi:=⟨_,_,_,_,_,_⟩) (v:=?_) rfl (by kernel_rfl) (by kernel_rfl) (by kernel_rfl) (fun _ _ _ h=>h) (Or.inl ⟨by rfl,?_⟩) (by assumption) ?_
     rotate_left 1
     ·(intro w hSw;(try dsimp only at hSw);go_simp;first | done | with_reducible rfl)
     try simp only [Act.put,List.setIfInBounds_toArray,List.set_cons_zero,List.set_cons_succ]
     refine wpAnyH_ready (rs:=[27]) (by kernel_rfl) (by simp) ?_
     refine (AllReadyH.cons (o:=⟨_,_,_,_,_,_⟩) rfl (fun K hK=>?_) AllReadyH.nil)
     go_simp
     (go_at_call 21;refine (G8.out _ _ _ hLT).mono ?_;rintro e wk ⟨rfl,q⟩)
     clear hLT;refine hK.out _ _ ?_ (fun hHeld'=>?_)
     ·exact HS.out _ (Keep.trans (And.left hHeld) q)
     clear hK K hHeld;have hHeld:=hHeld';clear hHeld'
     try simp only [Act.put,List.setIfInBounds_toArray,List.set_cons_zero,List.set_cons_succ]
     refine wpAnyH_take (i:=28) (oi:=⟨_,_,_,_,_,_⟩) (v:=?_) rfl (by kernel_rfl) (by kernel_rfl) (by kernel_rfl) (fun _ _ _ h=>h) (Or.inl ⟨by rfl,?_⟩) (by assumption) ?_
     rotate_left 1
     ·(intro w hSw;(try dsimp only at hSw);go_simp;first | done | with_reducible rfl)
     try simp only [Act.put,List.setIfInBounds_toArray,List.set_cons_zero,List.set_cons_succ]
     refine wpAnyH_take (i:=29) (oi:=⟨_,_,_,_,_,_⟩) (v:=?_) rfl (by kernel_rfl) (by kernel_rfl) (by kernel_rfl) (fun _ _ _ h=>h) (Or.inl ⟨by rfl,?_⟩) (by assumption) ?_
     rotate_left 1
     ·(intro w hSw;(try dsimp only at hSw);go_simp;first | done | with_reducible rfl)
     try simp only [Act.put,List.setIfInBounds_toArray,List.set_cons_zero,List.set_cons_succ]
     refine wpAnyH_take (i:=30) (oi:=⟨_,_,_,_,_,_⟩) (v:=?_) rfl (by kernel_rfl) (by kernel_rfl) (by kernel_rfl) (fun _ _ _ h=>h) (Or.inl ⟨by rfl,?_⟩) (by assumption) ?_
     rotate_left 1
     ·(intro w hSw;(try dsimp only at hSw);go_simp;first | done | with_reducible rfl)
     try simp only [Act.put,List.setIfInBounds_toArray,List.set_cons_zero,List.set_cons_succ]
     refine wpAnyH_done (by kernel_rfl) ?_ _
     refine NoPanic.normal ?_;rotate_left 1;go_simp;have hLT:=two_lie (t:=X) (u:=V) (a:=xa) (b:=va) (c:=xc) (d:=vc) (W:=_) (HL.out.1.keepF (And.left hHeld)) (HL.out.2.2.keepF (And.left hHeld)) I9.out.1.le I9.out.2.2.1.le;refine hK.out _ _ ?_ (fun hHeld'=>?_)
     ·exact HS.out _ ((And.left hHeld).alloc _)
     clear hK K hHeld;have hHeld:=hHeld';clear hHeld'
     try simp only [Act.put,List.setIfInBounds_toArray,List.set_cons_zero,List.set_cons_succ]
     refine wpAnyH_take (i:=26) (oi:=⟨_,_,_,_,_,_⟩) (v:=?_) rfl (by kernel_rfl) (by kernel_rfl) (by kernel_rfl) (fun _ _ _ h=>h) (Or.inl ⟨by rfl,?_⟩) (by assumption) ?_
     rotate_left 1
     ·(intro w hSw;(try dsimp only at hSw);go_simp;first | done | with_reducible rfl)
     try simp only [Act.put,List.setIfInBounds_toArray,List.set_cons_zero,List.set_cons_succ]
     refine wpAnyH_ready (rs:=[22]) (by kernel_rfl) (by simp) ?_
     refine (AllReadyH.cons (o:=⟨_,_,_,_,_,_⟩) rfl (fun K hK=>?_) AllReadyH.nil)
     go_simp
     (go_at_call 21;refine (G7.out _ _ _ (HL.out.2.1.keepF (And.left hHeld))).mono ?_;rintro e wk ⟨rfl,q⟩)
     have hLT:=hLT.keepF q;refine hK.out _ _ ?_ (fun hHeld'=>?_)
     ·exact HS.out _ (Keep.trans (And.left hHeld) q)
     clear hK K hHeld;have hHeld:=hHeld';clear hHeld'
     try simp only [Act.put,List.setIfInBounds_toArray,List.set_cons_zero,List.set_cons_succ]
     refine wpAnyH_ready (rs:=[27]) (by kernel_rfl) (by simp) ?_
     refine (AllReadyH.cons (o:=⟨_,_,_,_,_,_⟩) rfl (fun K hK=>?_) AllReadyH.nil)
     go_simp
     (go_at_call 21;refine (G8.out _ _ _ hLT).mono ?_;rintro e wk ⟨rfl,q⟩)
     clear hLT;refine hK.out _ _ ?_ (fun hHeld'=>?_)
     ·exact HS.out _ (Keep.trans (And.left hHeld) q)
     clear hK K hHeld;have hHeld:=hHeld';clear hHeld'
     try simp only [Act.put,List.setIfInBounds_toArray,List.set_cons_zero,List.set_cons_succ]
     refine wpAnyH_take (i:=28) (oi:=⟨_,_,_,_,_,_⟩) (v:=?_) rfl (by kernel_rfl) (by kernel_rfl) (by kernel_rfl) (fun _ _ _ h=>h) (Or.inl ⟨by rfl,?_⟩) (by assumption) ?_
     rotate_left 1
     ·(intro w hSw;(try dsimp only at hSw);go_simp;first | done | with_reducible rfl)
     try simp only [Act.put,List.setIfInBounds_toArray,List.set_cons_zero,List.set_cons_succ]
     refine wpAnyH_take (i:=29) (oi:=⟨_,_,_,_,_,_⟩) (v:=?_) rfl (by kernel_rfl) (by kernel_rfl) (by kernel_rfl) (fun _ _ _ h=>h) (Or.inl ⟨by rfl,?_⟩) (by assumption) ?_
     rotate_left 1
     ·(intro w hSw;(try dsimp only at hSw);go_simp;first | done | with_reducible rfl)
     try simp only [Act.put,List.setIfInBounds_toArray,List.set_cons_zero,List.set_cons_succ]
     refine wpAnyH_take (i:=30) (oi:=⟨_,_,_,_,_,_⟩) (v:=?_) rfl (by kernel_rfl) (by kernel_rfl) (by kernel_rfl) (fun _ _ _ h=>h) (Or.inl ⟨by rfl,?_⟩) (by assumption) ?_
     rotate_left 1
     ·(intro w hSw;(try dsimp only at hSw);go_simp;first | done | with_reducible rfl)
     try simp only [Act.put,List.setIfInBounds_toArray,List.set_cons_zero,List.set_cons_succ]
     refine wpAnyH_done (by kernel_rfl) ?_ _
     refine NoPanic.normal ?_;rotate_left 1
     all_goals
      have HZ:=hid (I9.out.2.2.2.trans (And.left hHeld));clear hHeld;go_wp2_with fail;go_ret;exact ⟨rfl,HZ.out⟩
   ·simp only [Bool.true_and] at G1
    cases UX
    ·simp only [Bool.false_or] at G4
     refine wp_region_noPanic ?_;refine wp_region_held_drew (S:=(fun w'=>Keep (fun _=>False) w8 w'∧w'.cell? ⟨nx,0,none⟩=some (.int .i64 X.kind)∧w'.cell? ⟨nx,1,none⟩=some (.int .u64 X.set.x0)∧w'.cell? ⟨nx,2,none⟩=some (.int .u64 X.set.x1)∧w'.cell? ⟨nx,3,none⟩=some (.int .u64 X.set.x2)∧w'.cell? ⟨nx,4,none⟩=some (.int .u64 X.set.x3)∧w'.cell? ⟨nx,5,none⟩=some (.int .i64 X.mn)∧w'.cell? ⟨nx,6,none⟩=some (.int .i64 X.mx)∧w'.cell? ⟨nx,7,none⟩=some (.slice xa X.subs.length xc)∧w'.cell? ⟨nz,0,none⟩=some (.int .i64 Z.kind)∧w'.cell? ⟨nz,1,none⟩=some (.int .u64 Z.set.x0)∧w'.cell? ⟨nz,2,none⟩=some (.int .u64 Z.set.x1)∧w'.cell? ⟨nz,3,none⟩=some (.int .u64 Z.set.x2)∧w'.cell? ⟨nz,4,none⟩=some (.int .u64 Z.set.x3)∧w'.cell? ⟨nz,5,none⟩=some (.int .i64 Z.mn)∧w'.cell? ⟨nz,6,none⟩=some (.int .i64 Z.mx)∧w'.cell? ⟨nz,7,none⟩=some (.slice za Z.subs.length zc)∧w'.cell? ⟨nv,0,none⟩=some (.int .i64 V.kind)∧w'.cell? ⟨nv,1,none⟩=some (.int .u64 V.set.x0)∧w'.cell? ⟨nv,2,none⟩=some (.int .u64 V.set.x1)∧w'.cell? ⟨nv,3,none⟩=some (.int .u64 V.set.x2)∧w'.cell? ⟨nv,4,none⟩=some (.int .u64 V.set.x3)∧w'.cell? ⟨nv,5,none⟩=some (.int .i64 V.mn)∧w'.cell? ⟨nv,6,none⟩=some (.int .i64 V.mx)∧w'.cell? ⟨nv,7,none⟩=some (.slice va V.subs.length vc))) (by kernel_rfl) ?_ (fun hHeld=>?_)
     ·exact HS.out _ ((Keep.refl _ _).drew)
     refine wpAnyH_take (i:=0) (oi:=⟨_,_,_,_,_,_⟩) (v:=?_) rfl (by kernel_rfl) (by kernel_rfl) (by kernel_rfl) (fun _ _ _ h=>h) (Or.inl ⟨by rfl,?_⟩) (by assumption) ?_
     rotate_left 1
     ·(intro w hSw;(try dsimp only at hSw);go_simp;first | done | with_reducible rfl)
     try simp only [Act.put,List.setIfInBounds_toArray,List.set_cons_zero,List.set_cons_succ]
     refine wpAnyH_take (i:=2) (oi:=⟨_,_,_,_,_,_⟩) (v:=?_) rfl (by kernel_rfl) (by kernel_rfl) (by kernel_rfl) (fun _ _ _ h=>h) (Or.inl ⟨by rfl,?_⟩) (by assumption) ?_
     rotate_left 1
     ·(intro w hSw;(try dsimp only at hSw);go_simp;first | done | with_reducible rfl)
     try simp only [Act.put,List.setIfInBounds_toArray,List.set_cons_zero,List.set_cons_succ]
     refine wpAnyH_ready (rs:=[1]) (by kernel_rfl) (by simp) ?_
     refine (AllReadyH.cons (o:=⟨_,_,_,_,_,_⟩) rfl (fun K hK=>?_) AllReadyH.nil)
     go_simp
     (go_at_call 19;refine (G1.out _ _ _ (HL.out.2.1.keepF (And.left hHeld))).mono ?_;rintro e wk ⟨rfl,q⟩)
     refine hK.out _ _ ?_ (fun hHeld'=>?_)
     ·exact HS.out _ (Keep.trans (And.left hHeld) q)
     clear hK K hHeld;have hHeld:=hHeld';clear hHeld'
     try simp only [Act.put,List.setIfInBounds_toArray,List.set_cons_zero,List.set_cons_succ]
     refine wpAnyH_ready (rs:=[3]) (by kernel_rfl) (by simp) ?_
     refine (AllReadyH.cons (o:=⟨_,_,_,_,_,_⟩) rfl (fun K hK=>?_) AllReadyH.nil)
     go_simp
     (go_at_call 19;refine (G2.out _ _ _ (HL.out.1.keepF (And.left hHeld))).mono ?_;rintro e wk ⟨rfl,q⟩)
     refine hK.out _ _ ?_ (fun hHeld'=>?_)
     ·exact HS.out _ (Keep.trans (And.left hHeld) q)
     clear hK K hHeld;have hHeld:=hHeld';clear hHeld'
     try simp only [Act.put,List.setIfInBounds_toArray,List.set_cons_zero,List.set_cons_succ]
     refine wpAnyH_take (i:=4) (oi:=⟨_,_,_,_,_,_⟩) (v:=?_) rfl (by kernel_rfl) (by kernel_rfl) (by kernel_rfl) (fun _ _ _ h=>h) (Or.inl ⟨by rfl,?_⟩) (by assumption) ?_
     rotate_left 1
     ·(intro w hSw;(try dsimp only at hSw);go_simp;first | done | with_reducible rfl)
     try simp only [Act.put,List.setIfInBounds_toArray,List.set_cons_zero,List.set_cons_succ]
     refine wpAnyH_take (i:=5) (oi:=⟨_,_,_,_,_,_⟩) (v:=?_) rfl (by kernel_rfl) (by kernel_rfl) (by kernel_rfl) (fun _ _ _ h=>h) (Or.inl ⟨by rfl,?_⟩) (by assumption) ?_
     rotate_left 1
     ·(intro w hSw;(try dsimp only at hSw);go_simp;first | done | with_reducible rfl)
     try simp only [Act.put,List.setIfInBounds_toArray,List.set_cons_zero,List.set_cons_succ]
     refine wpAnyH_ready (rs:=[6]) (by kernel_rfl) (by simp) ?_
     refine (AllReadyH.cons (o:=⟨_,_,_,_,_,_⟩) rfl (fun K hK=>?_) AllReadyH.nil)
     go_simp
     (go_at_call 19;refine (G3.out _ _ _ (HL.out.2.2.keepF (And.left hHeld))).mono ?_;rintro e wk ⟨rfl,q⟩)
     refine hK.out _ _ ?_ (fun hHeld'=>?_)
     ·exact HS.out _ (Keep.trans (And.left hHeld) q)
     clear hK K hHeld;have hHeld:=hHeld';clear hHeld'
     try simp only [Act.put,List.setIfInBounds_toArray,List.set_cons_zero,List.set_cons_succ]
     refine wpAnyH_take (i:=7) (oi:=⟨_,_,_,_,_,_⟩) (v:=?_) rfl (by kernel_rfl) (by kernel_rfl) (by kernel_rfl) (fun _ _ _ h=>h) (Or.inl ⟨by rfl,?_⟩) (by assumption) ?_
     rotate_left 1
     ·(intro w hSw;(try dsimp only at hSw);go_simp;first | done | with_reducible rfl)
     try simp only [Act.put,List.setIfInBounds_toArray,List.set_cons_zero,List.set_cons_succ]
     refine wpAnyH_take (i:=8) (oi:=⟨_,_,_,_,_,_⟩) (v:=?_) rfl (by kernel_rfl) (by kernel_rfl) (by kernel_rfl) (fun _ _ _ h=>h) (Or.inl ⟨by rfl,?_⟩) (by assumption) ?_
     rotate_left 1
     ·(intro w hSw;(try dsimp only at hSw);go_simp;first | done | with_reducible rfl)
     try simp only [Act.put,List.setIfInBounds_toArray,List.set_cons_zero,List.set_cons_succ]
     refine wpAnyH_take (i:=9) (oi:=⟨_,_,_,_,_,_⟩) (v:=?_) rfl (by kernel_rfl) (by kernel_rfl) (by kernel_rfl) (fun _ _ _ h=>h) (Or.inl ⟨by rfl,?_⟩) (by assumption) ?_
     rotate_left 1
     ·(intro w hSw;(try dsimp only at hSw);go_simp;first | done | with_reducible rfl)
     try simp only [Act.put,List.setIfInBounds_toArray,List.set_cons_zero,List.set_cons_succ]
     refine wpAnyH_take (i:=10) (oi:=⟨_,_,_,_,_,_⟩) (v:=?_) rfl (by kernel_rfl) (by kernel_rfl) (by kernel_rfl) (fun _ _ _ h=>h) (Or.inl ⟨by rfl,?_⟩) (by assumption) ?_
     rotate_left 1
     ·(intro w hSw;(try dsimp only at hSw);go_simp;first | done | with_reducible rfl)
     try simp only [Act.put,List.setIfInBounds_toArray,List.set_cons_zero,List.set_cons_succ]
     refine wpAnyH_take (i:=12) (oi:=⟨_,_,_,_,_,_⟩) (v:=?_) rfl (by kernel_rfl) (by kernel_rfl) (by kernel_rfl) (fun _ _ _ h=>h) (Or.inl ⟨by rfl,?_⟩) (by assumption) ?_
     rotate_left 1
     ·(intro w hSw;(try dsimp only at hSw);go_simp;first | done | with_reducible rfl)
     try simp only [Act.put,List.setIfInBounds_toArray,List.set_cons_zero,List.set_cons_succ]
     refine wpAnyH_ready (rs:=[11]) (by kernel_rfl) (by simp) ?_
     refine (AllReadyH.cons (o:=⟨_,_,_,_,_,_⟩) rfl (fun K hK=>?_) AllReadyH.nil)
     go_simp
     (go_at_call 20;refine (G4.out _ _ _ (HL.out.2.1.keepF (And.left hHeld))).mono ?_;rintro e wk ⟨rfl,q⟩)
     refine hK.out _ _ ?_ (fun hHeld'=>?_)
     ·exact HS.out _ (Keep.trans (And.left hHeld) q)
     clear hK K hHeld;have hHeld:=hHeld';clear hHeld'
     try simp only [Act.put,List.setIfInBounds_toArray,List.set_cons_zero,List.set_cons_succ]
     refine wpAnyH_ready (rs:=[13]) (by kernel_rfl) (by simp) ?_
     refine (AllReadyH.cons (o:=⟨_,_,_,_,_,_⟩) rfl (fun K hK=>?_) AllReadyH.nil)
     go_simp
     (go_at_call 20;refine (G5.out _ _ _ (HL.out.1.keepF (And.left hHeld))).mono ?_;rintro e wk ⟨rfl,q⟩)
     refine hK.out _ _ ?_ (fun hHeld'=>?_)
     ·exact HS.out _ (Keep.trans (And.left hHeld) q)
     clear hK K hHeld;have hHeld:=hHeld';clear hHeld'
     try simp only [Act.put,List.setIfInBounds_toArray,List.set_cons_zero,List.set_cons_succ]
     refine wpAnyH_take (i:=14) (oi:=⟨_,_,_,_,_,_⟩) (v:=?_) rfl (by kernel_rfl) (by kernel_rfl) (by kernel_rfl) (fun _ _ _ h=>h) (Or.inl ⟨by rfl,?_⟩) (by assumption) ?_
     rotate_left 1
     ·(intro w hSw;(try dsimp only at hSw);go_simp;first | done | with_reducible rfl)
     try simp only [Act.put,List.setIfInBounds_toArray,List.set_cons_zero,List.set_cons_succ]
     refine wpAnyH_take (i:=15) (oi:=⟨_,_,_,_,_,_⟩) (v:=?_) rfl (by kernel_rfl) (by kernel_rfl) (by kernel_rfl) (fun _ _ _ h=>h) (Or.inl ⟨by rfl,?_⟩) (by assumption) ?_
     rotate_left 1
     ·(intro w hSw;(try dsimp only at hSw);go_simp;first | done | with_reducible rfl)
     try simp only [Act.put,List.setIfInBounds_toArray,List.set_cons_zero,List.set_cons_succ]
     refine wpAnyH_ready (rs:=[16]) (by kernel_rfl) (by simp) ?_
     refine (AllReadyH.cons (o:=⟨_,_,_,_,_,_⟩) rfl (fun K hK=>?_) AllReadyH.nil)
     go_simp
     (go_at_call 20;refine (G6.out _ _ _ (HL.out.2.2.keepF (And.left hHeld))).mono ?_;rintro e wk ⟨rfl,q⟩)
     refine hK.out _ _ ?_ (fun hHeld'=>?_)
     ·exact HS.out _ (Keep.trans (And.left hHeld) q)
     clear hK K hHeld;have hHeld:=hHeld';clear hHeld'
     try simp only [Act.put,List.setIfInBounds_toArray,List.set_cons_zero,List.set_cons_succ]
     refine wpAnyH_take (i:=17) (oi:=⟨_,_,_,_,_,_⟩) (v:=?_) rfl (by kernel_rfl) (by kernel_rfl) (by kernel_rfl) (fun _ _ _ h=>h) (Or.inl ⟨by rfl,?_⟩) (by assumption) ?_
     rotate_left 1
     ·(intro w hSw;(try dsimp only at hSw);go_simp;first | done | with_reducible rfl)
     try simp only [Act.put,List.setIfInBounds_toArray,List.set_cons_zero,List.set_cons_succ]
     refine wpAnyH_take (i:=18) (oi:=⟨_,_,_,_,_,_⟩) (v:=?_) rfl (by kernel_rfl) (by kernel_rfl) (by kernel_rfl) (fun _ _ _ h=>h) (Or.inl ⟨by rfl,?_⟩) (by assumption) ?_
     rotate_left 1
     ·(intro w hSw;(try dsimp only at hSw);go_simp;first | done | with_reducible rfl)
     try simp only [Act.put,List.setIfInBounds_toArray,List.set_cons_zero,List.set_cons_succ]
     refine wpAnyH_take (i:=19) (oi:=⟨_,_,_,_,_,_⟩) (v:=?_) rfl (by kernel_rfl) (by kernel_rfl) (by kernel_rfl) (fun _ _ _ h=>h) (Or.inl ⟨by rfl,?_⟩) (by assumption) ?_
     rotate_left 1
     ·(intro w hSw;(try dsimp only at hSw);go_simp;first | done | with_reducible rfl)
     try simp only [Act.put,List.setIfInBounds_toArray,List.set_cons_zero,List.set_cons_succ]
     refine wpAnyH_take (i:=20) (oi:=⟨_,_,_,_,_,_⟩) (v:=?_) rfl (by kernel_rfl) (by kernel_rfl) (by kernel_rfl) (fun _ _ _ h=>h) (Or.inl ⟨by rfl,?_⟩) (by assumption) ?_
     rotate_left 1
     ·(intro w hSw;(try dsimp only at hSw);go_simp;first | done | with_reducible rfl)
     try simp only [Act.put,List.setIfInBounds_toArray,List.set_cons_zero,List.set_cons_succ]
     refine wpAnyH_take (i:=21) (oi:=⟨_,_,_,_,_,_⟩) (v:=?_) rfl (by kernel_rfl) (by kernel_rfl) (by kernel_rfl) (fun _ _ _ h=>h) (Or.inl ⟨by rfl,?_⟩) (by assumption) ?_
     rotate_left 1
     ·(intro w hSw;(try dsimp only at hSw);go_simp;first | done | with_reducible rfl)
     try simp only [Act.put,List.setIfInBounds_toArray,List.set_cons_zero,List.set_cons_succ]
     refine wpAnyH_take (i:=23) (oi:=⟨_,_,_,_,_,_⟩) (v:=?_) rfl (by kernel_rfl) (by kernel_rfl) (by kernel_rfl) (fun _ _ _ h=>h) (Or.inl ⟨by rfl,?_⟩) (by assumption) ?_
     rotate_left 1
     ·(intro w hSw;(try dsimp only at hSw);go_simp;first | done | with_reducible rfl)
     try simp only [Act.put,List.setIfInBounds_toArray,List.set_cons_zero,List.set_cons_succ]
     refine wpAnyH_take (i:=24) (oi:=⟨_,_,_,_,_,_⟩) (v:=?_) rfl (by kernel_rfl) (by kernel_rfl) (by kernel_rfl) (fun _ _ _ h=>h) (Or.inl ⟨by rfl,?_⟩) (by assumption) ?_
     rotate_left 1
     ·(intro w hSw;(try dsimp only at hSw);go_simp;first | done | with_reducible rfl)
     try simp only [Act.put,List.setIfInBounds_toArray,List.set_cons_zero,List.set_cons_succ]
     refine wpAnyH_ready (rs:=[22,25]) (by kernel_rfl) (by simp) ?_
     refine (AllReadyH.cons (o:=⟨_,_,_,_,_,_⟩) rfl (fun K hK=>?_) (AllReadyH.cons (o:=⟨_,_,_,_,_,_⟩) rfl (fun K hK=>?_) AllReadyH.nil))
     go_simp
     (go_at_call 21;refine (G7.out _ _ _ (HL.out.2.1.keepF (And.left hHeld))).mono ?_;rintro e wk ⟨rfl,q⟩)
     refine hK.out _ _ ?_ (fun hHeld'=>?_)
     ·exact HS.out _ (Keep.trans (And.left hHeld) q)
     clear hK K hHeld;have hHeld:=hHeld';clear hHeld'
     try simp only [Act.put,List.setIfInBounds_toArray,List.set_cons_zero,List.set_cons_succ]
     refine wpAnyH_ready (rs:=[25]) (by kernel_rfl) (by simp) ?_
     refine (AllReadyH.cons (o:=⟨_,_,_,_,_,_⟩) rfl (fun K hK=>?_) AllReadyH.nil)
     go_simp;have hLT:=two_lie (t:=X) (u:=V) (a:=xa) (b:=va) (c:=xc) (d:=vc) (W:=_) (HL.out.1.keepF (And.left hHeld)) (HL.out.2.2.keepF (And.left hHeld)) I9.out.1.le I9.out.2.2.1.le;refine hK.out _ _ ?_ (fun hHeld'=>?_)
     ·exact HS.out _ ((And.left hHeld).alloc _)
     clear hK K hHeld;have hHeld:=hHeld';clear hHeld'
     try simp only [Act.put,List.setIfInBounds_toArray,List.set_cons_zero,List.set_cons_succ]
     refine wpAnyH_take (i:=26) (oi:=⟨_,_,_,_,_,_⟩) (v:=?_) rfl (by kernel_rfl) (by kernel_rfl) (by kernel_rfl) (fun _ _ _ h=>h) (Or.inl ⟨by rfl,?_⟩) (by assumption) ?_
     rotate_left 1
     ·(intro w hSw;(try dsimp only at hSw);go_simp;first | done | with_reducible rfl)
     try simp only [Act.put,List.setIfInBounds_toArray,List.set_cons_zero,List.set_cons_succ]
     refine wpAnyH_ready (rs:=[27]) (by kernel_rfl) (by simp) ?_
     refine (AllReadyH.cons (o:=⟨_,_,_,_,_,_⟩) rfl (fun K hK=>?_) AllReadyH.nil)
     go_simp
     (go_at_call 21;refine (G8.out _ _ _ hLT).mono ?_;rintro e wk ⟨rfl,q⟩)
     clear hLT;refine hK.out _ _ ?_ (fun hHeld'=>?_)
     ·exact HS.out _ (Keep.trans (And.left hHeld) q)
     clear hK K hHeld;have hHeld:=hHeld';clear hHeld'
     try simp only [Act.put,List.setIfInBounds_toArray,List.set_cons_zero,List.set_cons_succ]
     refine wpAnyH_take (i:=28) (oi:=⟨_,_,_,_,_,_⟩) (v:=?_) rfl (by kernel_rfl) (by kernel_rfl) (by kernel_rfl) (fun _ _ _ h=>h) (Or.inl ⟨by rfl,?_⟩) (by assumption) ?_
     rotate_left 1
     ·(intro w hSw;(try dsimp only at hSw);go_simp;first | done | with_reducible rfl)
     try simp only [Act.put,List.setIfInBounds_toArray,List.set_cons_zero,List.set_cons_succ]
     refine wpAnyH_take (i:=29) (oi:=⟨_,_,_,_,_,_⟩) (v:=?_) rfl (by kernel_rfl) (by kernel_rfl) (by kernel_rfl) (fun _ _ _ h=>h) (Or.inl ⟨by rfl,?_⟩) (by assumption) ?_
     rotate_left 1
     ·(intro w hSw;(try dsimp only at hSw);go_simp;first | done | with_reducible rfl)
     try simp only [Act.put,List.setIfInBounds_toArray,List.set_cons_zero,List.set_cons_succ]
     refine wpAnyH_take (i:=30) (oi:=⟨_,_,_,_,_,_⟩) (v:=?_) rfl (by kernel_rfl) (by kernel_rfl) (by kernel_rfl) (fun _ _ _ h=>h) (Or.inl ⟨by rfl,?_⟩) (by assumption) ?_
     rotate_left 1
     ·(intro w hSw;(try dsimp only at hSw);go_simp;first | done | with_reducible rfl)
     try simp only [Act.put,List.setIfInBounds_toArray,List.set_cons_zero,List.set_cons_succ]
     refine wpAnyH_done (by kernel_rfl) ?_ _
     refine NoPanic.normal ?_;rotate_left 1;go_simp;have hLT:=two_lie (t:=X) (u:=V) (a:=xa) (b:=va) (c:=xc) (d:=vc) (W:=_) (HL.out.1.keepF (And.left hHeld)) (HL.out.2.2.keepF (And.left hHeld)) I9.out.1.le I9.out.2.2.1.le;refine hK.out _ _ ?_ (fun hHeld'=>?_)
     ·exact HS.out _ ((And.left hHeld).alloc _)
     clear hK K hHeld;have hHeld:=hHeld';clear hHeld'
     try simp only [Act.put,List.setIfInBounds_toArray,List.set_cons_zero,List.set_cons_succ]
     refine wpAnyH_take (i:=26) (oi:=⟨_,_,_,_,_,_⟩) (v:=?_) rfl (by kernel_rfl) (by kernel_rfl) (by kernel_rfl) (fun _ _ _ h=>h) (Or.inl ⟨by rfl,?_⟩) (by assumption) ?_
     rotate_left 1
     ·(intro w hSw;(try dsimp only at hSw);go_simp;first | done | with_reducible rfl)
     try simp only [Act.put,List.setIfInBounds_toArray,List.set_cons_zero,List.set_cons_succ]
     refine wpAnyH_ready (rs:=[22]) (by kernel_rfl) (by simp) ?_
     refine (AllReadyH.cons (o:=⟨_,_,_,_,_,_⟩) rfl (fun K hK=>?_) AllReadyH.nil)
     go_simp
     (go_at_call 21;refine (G7.out _ _ _ (HL.out.2.1.keepF (And.left hHeld))).mono ?_;rintro e wk ⟨rfl,q⟩)
     have hLT:=hLT.keepF q;refine hK.out _ _ ?_ (fun hHeld'=>?_)
     ·exact HS.out _ (Keep.trans (And.left hHeld) q)
     clear hK K hHeld;have hHeld:=hHeld';clear hHeld'
     try simp only [Act.put,List.setIfInBounds_toArray,List.set_cons_zero,List.set_cons_succ]
     refine wpAnyH_ready (rs:=[27]) (by kernel_rfl) (by simp) ?_
     refine (AllReadyH.cons (o:=⟨_,_,_,_,_,_⟩) rfl (fun K hK=>?_) AllReadyH.nil)
     go_simp
     (go_at_call 21;refine (G8.out _ _ _ hLT).mono ?_;rintro e wk ⟨rfl,q⟩)
     clear hLT;refine hK.out _ _ ?_ (fun hHeld'=>?_)
     ·exact HS.out _ (Keep.trans (And.left hHeld) q)
     clear hK K hHeld;have hHeld:=hHeld';clear hHeld'
     try simp only [Act.put,List.setIfInBounds_toArray,List.set_cons_zero,List.set_cons_succ]
     refine wpAnyH_take (i:=28) (oi:=⟨_,_,_,_,_,_⟩) (v:=?_) rfl (by kernel_rfl) (by kernel_rfl) (by kernel_rfl) (fun _ _ _ h=>h) (Or.inl ⟨by rfl,?_⟩) (by assumption) ?_
     rotate_left 1
     ·(intro w hSw;(try dsimp only at hSw);go_simp;first | done | with_reducible rfl)
     try simp only [Act.put,List.setIfInBounds_toArray,List.set_cons_zero,List.set_cons_succ]
     refine wpAnyH_take (i:=29) (oi:=⟨_,_,_,_,_,_⟩) (v:=?_) rfl (by kernel_rfl) (by kernel_rfl) (by kernel_rfl) (fun _ _ _ h=>h) (Or.inl ⟨by rfl,?_⟩) (by assumption) ?_
     rotate_left 1
     ·(intro w hSw;(try dsimp only at hSw);go_simp;first | done | with_reducible rfl)
     try simp only [Act.put,List.setIfInBounds_toArray,List.set_cons_zero,List.set_cons_succ]
     refine wpAnyH_take (i:=30) (oi:=⟨_,_,_,_,_,_⟩) (v:=?_) rfl (by kernel_rfl) (by kernel_rfl) (by kernel_rfl) (fun _ _ _ h=>h) (Or.inl ⟨by rfl,?_⟩) (by assumption) ?_
     rotate_left 1
     ·(intro w hSw;(try dsimp only at hSw);go_simp;first | done | with_reducible rfl)
     try simp only [Act.put,List.setIfInBounds_toArray,List.set_cons_zero,List.set_cons_succ]
     refine wpAnyH_done (by kernel_rfl) ?_ _
     refine NoPanic.normal ?_;rotate_left 1
     all_goals
      have HZ:=hid (I9.out.2.2.2.trans (And.left hHeld));clear hHeld;go_wp2_with fail;go_ret;exact ⟨rfl,HZ.out⟩
    ·simp only [Bool.true_or] at G4
     refine wp_region_noPanic ?_;refine wp_region_held_drew (S:=(fun w'=>Keep (fun _=>False) w8 w'∧w'.cell? ⟨nx,0,none⟩=some (.int .i64 X.kind)∧w'.cell? ⟨nx,1,none⟩=some (.int .u64 X.set.x0)∧w'.cell? ⟨nx,2,none⟩=some (.int .u64 X.set.x1)∧w'.cell? ⟨nx,3,none⟩=some (.int .u64 X.set.x2)∧w'.cell? ⟨nx,4,none⟩=some (.int .u64 X.set.x3)∧w'.cell? ⟨nx,5,none⟩=some (.int .i64 X.mn)∧w'.cell? ⟨nx,6,none⟩=some (.int .i64 X.mx)∧w'.cell? ⟨nx,7,none⟩=some (.slice xa X.subs.length xc)∧w'.cell? ⟨nz,0,none⟩=some (.int .i64 Z.kind)∧w'.cell? ⟨nz,1,none⟩=some (.int .u64 Z.set.x0)∧w'.cell? ⟨nz,2,none⟩=some (.int .u64 Z.set.x1)∧w'.cell? ⟨nz,3,none⟩=some (.int .u64 Z.set.x2)∧w'.cell? ⟨nz,4,none⟩=some (.int .u64 Z.set.x3)∧w'.cell? ⟨nz,5,none⟩=some (.int .i64 Z.mn)∧w'.cell? ⟨nz,6,none⟩=some (.int .i64 Z.mx)∧w'.cell? ⟨nz,7,none⟩=some (.slice za Z.subs.length zc)∧w'.cell? ⟨nv,0,none⟩=some (.int .i64 V.kind)∧w'.cell? ⟨nv,1,none⟩=some (.int .u64 V.set.x0)∧w'.cell? ⟨nv,2,none⟩=some (.int .u64 V.set.x1)∧w'.cell? ⟨nv,3,none⟩=some (.int .u64 V.set.x2)∧w'.cell? ⟨nv,4,none⟩=some (.int .u64 V.set.x3)∧w'.cell? ⟨nv,5,none⟩=some (.int .i64 V.mn)∧w'.cell? ⟨nv,6,none⟩=some (.int .i64 V.mx)∧w'.cell? ⟨nv,7,none⟩=some (.slice va V.subs.length vc))) (by kernel_rfl) ?_ (fun hHeld=>?_)
     ·exact HS.out _ ((Keep.refl _ _).drew)
     refine wpAnyH_take (i:=0) (oi:=⟨_,_,_,_,_,_⟩) (v:=?_) rfl (by kernel_rfl) (by kernel_rfl) (by kernel_rfl) (fun _ _ _ h=>h) (Or.inl ⟨by rfl,?_⟩) (by assumption) ?_
     rotate_left 1
     ·(intro w hSw;(try dsimp only at hSw);go_simp;first | done | with_reducible rfl)
     try simp only [Act.put,List.setIfInBounds_toArray,List.set_cons_zero,List.set_cons_succ]
     refine wpAnyH_take (i:=2) (oi:=⟨_,_,_,_,_,_⟩) (v:=?_) rfl (by kernel_rfl) (by kernel_rfl) (by kernel_rfl) (fun _ _ _ h=>h) (Or.inl ⟨by rfl,?_⟩) (by assumption) ?_
     rotate_left 1
     ·(intro w hSw;(try dsimp only at hSw);go_simp;first | done | with_reducible rfl)
     try simp only [Act.put,List.setIfInBounds_toArray,List.set_cons_zero,List.set_cons_succ]
     refine wpAnyH_ready (rs:=[1]) (by kernel_rfl) (by simp) ?_
     refine (AllReadyH.cons (o:=⟨_,_,_,_,_,_⟩) rfl (fun K hK=>?_) AllReadyH.nil)
     go_simp
     (go_at_call 19;refine (G1.out _ _ _ (HL.out.2.1.keepF (And.left hHeld))).mono ?_;rintro e wk ⟨rfl,q⟩)
     refine hK.out _ _ ?_ (fun hHeld'=>?_)
     ·exact HS.out _ (Keep.trans (And.left hHeld) q)
     clear hK K hHeld;have hHeld:=hHeld';clear hHeld'
     try simp only [Act.put,List.setIfInBounds_toArray,List.set_cons_zero,List.set_cons_succ]
     refine wpAnyH_ready (rs:=[3]) (by kernel_rfl) (by simp) ?_
     refine (AllReadyH.cons (o:=⟨_,_,_,_,_,_⟩) rfl (fun K hK=>?_) AllReadyH.nil)
     go_simp
     (go_at_call 19;refine (G2.out _ _ _ (HL.out.1.keepF (And.left hHeld))).mono ?_;rintro e wk ⟨rfl,q⟩)
     refine hK.out _ _ ?_ (fun hHeld'=>?_)
     ·exact HS.out _ (Keep.trans (And.left hHeld) q)
     clear hK K hHeld;have hHeld:=hHeld';clear hHeld'
     try simp only [Act.put,List.setIfInBounds_toArray,List.set_cons_zero,List.set_cons_succ]
     refine wpAnyH_take (i:=4) (oi:=⟨_,_,_,_,_,_⟩) (v:=?_) rfl (by kernel_rfl) (by kernel_rfl) (by kernel_rfl) (fun _ _ _ h=>h) (Or.inl ⟨by rfl,?_⟩) (by assumption) ?_
     rotate_left 1
     ·(intro w hSw;(try dsimp only at hSw);go_simp;first | done | with_reducible rfl)
     try simp only [Act.put,List.setIfInBounds_toArray,List.set_cons_zero,List.set_cons_succ]
     refine wpAnyH_take (i:=5) (oi:=⟨_,_,_,_,_,_⟩) (v:=?_) rfl (by kernel_rfl) (by kernel_rfl) (by kernel_rfl) (fun _ _ _ h=>h) (Or.inl ⟨by rfl,?_⟩) (by assumption) ?_
     rotate_left 1
     ·(intro w hSw;(try dsimp only at hSw);go_simp;first | done | with_reducible rfl)
     try simp only [Act.put,List.setIfInBounds_toArray,List.set_cons_zero,List.set_cons_succ]
     refine wpAnyH_ready (rs:=[6]) (by kernel_rfl) (by simp) ?_
     refine (AllReadyH.cons (o:=⟨_,_,_,_,_,_⟩) rfl (fun K hK=>?_) AllReadyH.nil)
     go_simp
     (go_at_call 19;refine (G3.out _ _ _ (HL.out.2.2.keepF (And.left hHeld))).mono ?_;rintro e wk ⟨rfl,q⟩)
     refine hK.out _ _ ?_ (fun hHeld'=>?_)
     ·exact HS.out _ (Keep.trans (And.left hHeld) q)
     clear hK K hHeld;have hHeld:=hHeld';clear hHeld'
     try simp only [Act.put,List.setIfInBounds_toArray,List.set_cons_zero,List.set_cons_succ]
     refine wpAnyH_take (i:=7) (oi:=⟨_,_,_,_,_,_⟩) (v:=?_) rfl (by kernel_rfl) (by kernel_rfl) (by kernel_rfl) (fun _ _ _ h=>h) (Or.inl ⟨by rfl,?_⟩) (by assumption) ?_
     rotate_left 1
     ·(intro w hSw;(try dsimp only at hSw);go_simp;first | done | with_reducible rfl)
     try simp only [Act.put,List.setIfInBounds_toArray,List.set_cons_zero,List.set_cons_succ]
     refine wpAnyH_take (i:=8) (oi:=⟨_,_,_,_,_,_⟩) (v:=?_) rfl (by kernel_rfl) (by kernel_rfl) (by kernel_rfl) (fun _ _ _ h=>h) (Or.inl ⟨by rfl,?_⟩) (by assumption) ?_
     rotate_left 1
     ·(intro w hSw;(try dsimp only at hSw);go_simp;first | done | with_reducible rfl)
     try simp only [Act.put,List.setIfInBounds_toArray,List.set_cons_zero,List.set_cons_succ]
     refine wpAnyH_take (i:=9) (oi:=⟨_,_,_,_,_,_⟩) (v:=?_) rfl (by kernel_rfl) (by kernel_rfl) (by kernel_rfl) (fun _ _ _ h=>h) (Or.inl ⟨by rfl,?_⟩) (by assumption) ?_
     rotate_left 1
     ·(intro w hSw;(try dsimp only at hSw);go_simp;first | done | with_reducible rfl)
     try simp only [Act.put,List.setIfInBounds_toArray,List.set_cons_zero,List.set_cons_succ]
     refine wpAnyH_take (i:=10) (oi:=⟨_,_,_,_,_,_⟩) (v:=?_) rfl (by kernel_rfl) (by kernel_rfl) (by kernel_rfl) (fun _ _ _ h=>h) (Or.inl ⟨by rfl,?_⟩) (by assumption) ?_
     rotate_left 1
     ·(intro w hSw;(try dsimp only at hSw);go_simp;first | done | with_reducible rfl)
     try simp only [Act.put,List.setIfInBounds_toArray,List.set_cons_zero,List.set_cons_succ]
     refine wpAnyH_take (i:=12) (oi:=⟨_,_,_,_,_,_⟩) (v:=?_) rfl (by kernel_rfl) (by kernel_rfl) (by kernel_rfl) (fun _ _ _ h=>h) (Or.inl ⟨by rfl,?_⟩) (by assumption) ?_
     rotate_left 1
     ·(intro w hSw;(try dsimp only at hSw);go_simp;first | done | with_reducible rfl)
     try simp only [Act.put,List.setIfInBounds_toArray,List.set_cons_zero,List.set_cons_succ]
     refine wpAnyH_ready (rs:=[11]) (by kernel_rfl) (by simp) ?_
     refine (AllReadyH.cons (o:=⟨_,_,_,_,_,_⟩) rfl (fun K hK=>?_) AllReadyH.nil)
     go_simp
     (go_at_call 20;refine (G4.out _ _ _ (HL.out.2.1.keepF (And.left hHeld))).mono ?_;rintro e wk ⟨rfl,q⟩)
     refine hK.out _ _ ?_ (fun hHeld'=>?_)
     ·exact HS.out _ (Keep.trans (And.left hHeld) q)
     clear hK K hHeld;have hHeld:=hHeld';clear hHeld'
     try simp only [Act.put,List.setIfInBounds_toArray,List.set_cons_zero,List.set_cons_succ]
     refine wpAnyH_ready (rs:=[13]) (by kernel_rfl) (by simp) ?_
     refine (AllReadyH.cons (o:=⟨_,_,_,_,_,_⟩) rfl (fun K hK=>?_) AllReadyH.nil)
     go_simp
     (go_at_call 20;refine (G5.out _ _ _ (HL.out.1.keepF (And.left hHeld))).mono ?_;rintro e wk ⟨rfl,q⟩)
     refine hK.out _ _ ?_ (fun hHeld'=>?_)
     ·exact HS.out _ (Keep.trans (And.left hHeld) q)
     clear hK K hHeld;have hHeld:=hHeld';clear hHeld'
     try simp only [Act.put,List.setIfInBounds_toArray,List.set_cons_zero,List.set_cons_succ]
     refine wpAnyH_take (i:=14) (oi:=⟨_,_,_,_,_,_⟩) (v:=?_) rfl (by kernel_rfl) (by kernel_rfl) (by kernel_rfl) (fun _ _ _ h=>h) (Or.inl ⟨by rfl,?_⟩) (by assumption) ?_
     rotate_left 1
     ·(intro w hSw;(try dsimp only at hSw);go_simp;first | done | with_reducible rfl)
     try simp only [Act.put,List.setIfInBounds_toArray,List.set_cons_zero,List.set_cons_succ]
     refine wpAnyH_take (i:=15) (oi:=⟨_,_,_,_,_,_⟩) (v:=undef) rfl (by kernel_rfl) (by kernel_rfl) (by kernel_rfl) (fun _ _ _ h=>h) (Or.inr ⟨by rfl,rfl⟩) (by assumption) ?_
     try simp only [Act.put,List.setIfInBounds_toArray,List.set_cons_zero,List.set_cons_succ]
     refine wpAnyH_take (i:=16) (oi:=⟨_,_,_,_,_,_⟩) (v:=undef) rfl (by kernel_rfl) (by kernel_rfl) (by kernel_rfl) (fun _ _ _ h=>h) (Or.inr ⟨by rfl,rfl⟩) (by assumption) ?_
     try simp only [Act.put,List.setIfInBounds_toArray,List.set_cons_zero,List.set_cons_succ]
     refine wpAnyH_take (i:=17) (oi:=⟨_,_,_,_,_,_⟩) (v:=?_) rfl (by kernel_rfl) (by kernel_rfl) (by kernel_rfl) (fun _ _ _ h=>h) (Or.inl ⟨by rfl,?_⟩) (by assumption) ?_
     rotate_left 1
     ·(intro w hSw;(try dsimp only at hSw);go_simp;first | done | with_reducible rfl)
     try simp only [Act.put,List.setIfInBounds_toArray,List.set_cons_zero,List.set_cons_succ]
     refine wpAnyH_take (i:=18) (oi:=⟨_,_,_,_,_,_⟩) (v:=?_) rfl (by kernel_rfl) (by kernel_rfl) (by kernel_rfl) (fun _ _ _ h=>h) (Or.inl ⟨by rfl,?_⟩) (by assumption) ?_
     rotate_left 1
     ·(intro w hSw;(try dsimp only at hSw);go_simp;first | done | with_reducible rfl)
     try simp only [Act.put,List.setIfInBounds_toArray,List.set_cons_zero,List.set_cons_succ]
     refine wpAnyH_take (i:=19) (oi:=⟨_,_,_,_,_,_⟩) (v:=?_) rfl (by kernel_rfl) (by kernel_rfl) (by kernel_rfl) (fun _ _ _ h=>h) (Or.inl ⟨by rfl,?_⟩) (by assumption) ?_
     rotate_left 1
     ·(intro w hSw;(try dsimp only at hSw);go_simp;first | done | with_reducible rfl)
     try simp only [Act.put,List.setIfInBounds_toArray,List.set_cons_zero,List.set_cons_succ]
     refine wpAnyH_take (i:=20) (oi:=⟨_,_,_,_,_,_⟩) (v:=?_) rfl (by kernel_rfl) (by kernel_rfl) (by kernel_rfl) (fun _ _ _ h=>h) (Or.inl ⟨by rfl,?_⟩) (by assumption) ?_
     rotate_left 1
     ·(intro w hSw;(try dsimp only at hSw);go_simp;first | done | with_reducible rfl)
     try simp only [Act.put,List.setIfInBounds_toArray,List.set_cons_zero,List.set_cons_succ]
     refine wpAnyH_take (i:=21) (oi:=⟨_,_,_,_,_,_⟩) (v:=?_) rfl (by kernel_rfl) (by kernel_rfl) (by kernel_rfl) (fun _ _ _ h=>h) (Or.inl ⟨by rfl,?_⟩) (by assumption) ?_
     rotate_left 1
     ·(intro w hSw;(try dsimp only at hSw);go_simp;first | done | with_reducible rfl)
     try simp only [Act.put,List.setIfInBounds_toArray,List.set_cons_zero,List.set_cons_succ]
     refine wpAnyH_take (i:=23) (oi:=⟨_,_,_,_,_,_⟩) (v:=?_) rfl (by kernel_rfl) (by kernel_rfl) (by kernel_rfl) (fun _ _ _ h=>h) (Or.inl ⟨by rfl,?_⟩) (by assumption) ?_
     rotate_left 1
     ·(intro w hSw;(try dsimp only at hSw);go_simp;first | done | with_reducible rfl)
     try simp only [Act.put,List.setIfInBounds_toArray,List.set_cons_zero,List.set_cons_succ]
     refine wpAnyH_take (i:=24) (oi:=⟨_,_,_,_,_,_⟩) (v:=?_) rfl (by kernel_rfl) (by kernel_rfl) (by kernel_rfl) (fun _ _ _ h=>h) (Or.inl ⟨by rfl,?_⟩) (by assumption) ?_
     rotate_left 1
     ·(intro w hSw;(try dsimp only at hSw);go_simp;first | done | with_reducible rfl)
     try simp only [Act.put,List.setIfInBounds_toArray,List.set_cons_zero,List.set_cons_succ]
     refine wpAnyH_ready (rs:=[22,25]) (by kernel_rfl) (by simp) ?_
     refine (AllReadyH.cons (o:=⟨_,_,_,_,_,_⟩) rfl (fun K hK=>?_) (AllReadyH.cons (o:=⟨_,_,_,_,_,_⟩) rfl (fun K hK=>?_) AllReadyH.nil))
     go_simp
     (go_at_call 21;refine (G7.out _ _ _ (HL.out.2.1.keepF (And.left hHeld))).mono ?_;rintro e wk ⟨rfl,q⟩)
     refine hK.out _ _ ?_ (fun hHeld'=>?_)
     ·exact HS.out _ (Keep.trans (And.left hHeld) q)
     clear hK K hHeld;have hHeld:=hHeld';clear hHeld'
     try simp only [Act.put,List.setIfInBounds_toArray,List.set_cons_zero,List.set_cons_succ]
     refine wpAnyH_ready (rs:=[25]) (by kernel_rfl) (by simp) ?_
     refine (AllReadyH.cons (o:=⟨_,_,_,_,_,_⟩) rfl (fun K hK=>?_) AllReadyH.nil)
     go_simp;have hLT:=two_lie (t:=X) (u:=V) (a:=xa) (b:=va) (c:=xc) (d:=vc) (W:=_) (HL.out.1.keepF (And.left hHeld)) (HL.out.2.2.keepF (And.left hHeld)) I9.out.1.le I9.out.2.2.1.le;refine hK.out _ _ ?_ (fun hHeld'=>?_)
     ·exact HS.out _ ((And.left hHeld).alloc _)
     clear hK K hHeld;have hHeld:=hHeld';clear hHeld'
     try simp only [Act.put,List.setIfInBounds_toArray,List.set_cons_zero,List.set_cons_succ]
     refine wpAnyH_take (i:=26) (oi:=⟨_,_,_,_,_,_⟩) (v:=?_) rfl (by kernel_rfl) (by kernel_rfl) (by kernel_rfl) (fun _ _ _ h=>h) (Or.inl ⟨by rfl,?_⟩) (by assumption) ?_
     rotate_left 1
     ·(intro w hSw;(try dsimp only at hSw);go_simp;first | done | with_reducible rfl)
     try simp only [Act.put,List.setIfInBounds_toArray,List.set_cons_zero,List.set_cons_succ]
     refine wpAnyH_ready (rs:=[27]) (by kernel_rfl) (by simp) ?_
     refine (AllReadyH.cons (o:=⟨_,_,_,_,_,_⟩) rfl (fun K hK=>?_) AllReadyH.nil)
     go_simp
     (go_at_call 21;refine (G8.out _ _ _ hLT).mono ?_;rintro e wk ⟨rfl,q⟩)
     clear hLT;refine hK.out _ _ ?_ (fun hHeld'=>?_)
     ·exact HS.out _ (Keep.trans (And.left hHeld) q)
     clear hK K hHeld;have hHeld:=hHeld';clear hHeld'
     try simp only [Act.put,List.setIfInBounds_toArray,List.set_cons_zero,List.set_cons_succ]
     refine wpAnyH_take (i:=28) (oi:=⟨_,_,_,_,_,_⟩) (v:=?_) rfl (by kernel_rfl) (by kernel_rfl) (by kernel_rfl) (fun _ _ _ h=>h) (Or.inl ⟨by rfl,?_⟩) (by assumption) ?_
     rotate_left 1
     ·(intro w hSw;(try dsimp only at hSw);go_simp;first | done | with_reducible rfl)
     try simp only [Act.put,List.setIfInBounds_toArray,List.set_cons_zero,List.set_cons_succ]
     refine wpAnyH_take (i:=29) (oi:=⟨_,_,_,_,_,_⟩) (v:=?_) rfl (by kernel_rfl) (by kernel_rfl) (by kernel_rfl) (fun _ _ _ h=>h) (Or.inl ⟨by rfl,?_⟩) (by assumption) ?_
     rotate_left 1
     ·(intro w hSw;(try dsimp only at hSw);go_simp;first | done | with_reducible rfl)
     try simp only [Act.put,List.setIfInBounds_toArray,List.set_cons_zero,List.set_cons_succ]
     refine wpAnyH_take (i:=30) (oi:=⟨_,_,_,_,_,_⟩) (v:=?_) rfl (by kernel_rfl) (by kernel_rfl) (by kernel_rfl) (fun _ _ _ h=>h) (Or.inl ⟨by rfl,?_⟩) (by assumption) ?_
     rotate_left 1
     ·(intro w hSw;(try dsimp only at hSw);go_simp;first | done | with_reducible rfl)
     try simp only [Act.put,List.setIfInBounds_toArray,List.set_cons_zero,List.set_cons_succ]
     refine wpAnyH_done (by kernel_rfl) ?_ _
     refine NoPanic.normal ?_;rotate_left 1;go_simp;have hLT:=two_lie (t:=X) (u:=V) (a:=xa) (b:=va) (c:=xc) (d:=vc) (W:=_) (HL.out.1.keepF (And.left hHeld)) (HL.out.2.2.keepF (And.left hHeld)) I9.out.1.le I9.out.2.2.1.le;refine hK.out _ _ ?_ (fun hHeld'=>?_)
     ·exact HS.out _ ((And.left hHeld).alloc _)
     clear hK K hHeld;have hHeld:=hHeld';clear hHeld'
     try simp only [Act.put,List.setIfInBounds_toArray,List.set_cons_zero,List.set_cons_succ]
     refine wpAnyH_take (i:=26) (oi:=⟨_,_,_,_,_,_⟩) (v:=?_) rfl (by kernel_rfl) (by kernel_rfl) (by kernel_rfl) (fun _ _ _ h=>h) (Or.inl ⟨by rfl,?_⟩) (by assumption) ?_
     rotate_left 1
     ·(intro w hSw;(try dsimp only at hSw);go_simp;first | done | with_reducible rfl)
     try simp only [Act.put,List.setIfInBounds_toArray,List.set_cons_zero,List.set_cons_succ]
     refine wpAnyH_ready (rs:=[22]) (by kernel_rfl) (by simp) ?_
     refine (AllReadyH.cons (o:=⟨_,_,_,_,_,_⟩) rfl (fun K hK=>?_) AllReadyH.nil)
     go_simp
     (go_at_call 21;refine (G7.out _ _ _ (HL.out.2.1.keepF (And.left hHeld))).mono ?_;rintro e wk ⟨rfl,q⟩)
     have hLT:=hLT.keepF q;refine hK.out _ _ ?_ (fun hHeld'=>?_)
     ·exact HS.out _ (Keep.trans (And.left hHeld) q)
     clear hK K hHeld;have hHeld:=hHeld';clear hHeld'
     try simp only [Act.put,List.setIfInBounds_toArray,List.set_cons_zero,List.set_cons_succ]
     refine wpAnyH_ready (rs:=[27]) (by kernel_rfl) (by simp) ?_
     refine (AllReadyH.cons (o:=⟨_,_,_,_,_,_⟩) rfl (fun K hK=>?_) AllReadyH.nil)
     go_simp
     (go_at_call 21;refine (G8.out _ _ _ hLT).mono ?_;rintro e wk ⟨rfl,q⟩)
     clear hLT;refine hK.out _ _ ?_ (fun hHeld'=>?_)
     ·exact HS.out _ (Keep.trans (And.left hHeld) q)
     clear hK K hHeld;have hHeld:=hHeld';clear hHeld'
     try simp only [Act.put,List.setIfInBounds_toArray,List.set_cons_zero,List.set_cons_succ]
     refine wpAnyH_take (i:=28) (oi:=⟨_,_,_,_,_,_⟩) (v:=?_) rfl (by kernel_rfl) (by kernel_rfl) (by kernel_rfl) (fun _ _ _ h=>h) (Or.inl ⟨by rfl,?_⟩) (by assumption) ?_
     rotate_left 1
     ·(intro w hSw;(try dsimp only at hSw);go_simp;first | done | with_reducible rfl)
     try simp only [Act.put,List.setIfInBounds_toArray,List.set_cons_zero,List.set_cons_succ]
     refine wpAnyH_take (i:=29) (oi:=⟨_,_,_,_,_,_⟩) (v:=?_) rfl (by kernel_rfl) (by kernel_rfl) (by kernel_rfl) (fun _ _ _ h=>h) (Or.inl ⟨by rfl,?_⟩) (by assumption) ?_
     rotate_left 1
     ·(intro w hSw;(try dsimp only at hSw);go_simp;first | done | with_reducible rfl)
     try simp only [Act.put,List.setIfInBounds_toArray,List.set_cons_zero,List.set_cons_succ]
     refine wpAnyH_take (i:=30) (oi:=⟨_,_,_,_,_,_⟩) (v:=?_) rfl (by kernel_rfl) (by kernel_rfl) (by kernel_rfl) (fun _ _ _ h=>h) (Or.inl ⟨by rfl,?_⟩) (by assumption) ?_
     rotate_left 1
     ·(intro w hSw;(try dsimp only at hSw);go_simp;first | done | with_reducible rfl)
     try simp only [Act.put,List.setIfInBounds_toArray,List.set_cons_zero,List.set_cons_succ]
     refine wpAnyH_done (by kernel_rfl) ?_ _
     refine NoPanic.normal ?_;rotate_left 1
     all_goals
      have HZ:=hid (I9.out.2.2.2.trans (And.left hHeld));clear hHeld;go_wp2_with fail;go_ret;exact ⟨rfl,HZ.out⟩
end P12
namespace DeriveSimple
open Go.RowKit Base P08 P11 P12
open Go.ChangeShapes Go.WideShapes Go.ChangeAt
theorem walk {H:Type} {enc:TypeId × Value→H} (v0 v1 v2:Value) {d0 d1 d2:DataW H} {p0 p1 p2:List MemPlace} (W:World)
  (k0:Value.okWide Tryz.prog W .any 0 27 v0) (k1:Value.okWide Tryz.prog W .any 0 27 v1) (k2:Value.okWide Tryz.prog W .any 0 5 v2)
  (h0:DataW.Trod enc Tryz.prog W 0 (fun _=>true) true 27 v0 d0 p0) (h1:DataW.Trod enc Tryz.prog W 0 (fun _=>true) true 27 v1 d1 p1) (h2:DataW.Trod enc Tryz.prog W 0 (fun _=>true) true 5 v2 d2 p2)
  (hk:Rows.uptoSmall H [d0,d1,d2]=true) :
  Calls Tryz.prog 6 #[v0,v1,v2] W fun e w'=>e=.returned (.bool true)∧Below W.heap.size W w':=by
 have hb:=of_decide_eq_true hk;obtain ⟨t0,a0,c0,rfl,hc0,hL0,hn0,hs0⟩:=node_arg k0 h0;obtain ⟨t1,a1,c1,rfl,hc1,hL1,hn1,hs1⟩:=node_arg k1 h1;obtain ⟨b2,rfl,hb2⟩:=Go.Proofs.YtlmfbchgkjgljaaGreat.Tied.byte_arg k2 h2
 simp only [Rows.uptoBulkAll] at hb
 exact (law_simple t0 t1 a0 c0 a1 c1 W hL0 hc0 (by omega) hs0 hL1 hc1 (by omega) hs1 b2 hb2).mono fun e w' ⟨he,q⟩=>⟨he,q.below (Nat.le_refl _) (fun _ _ h=>h)⟩
end DeriveSimple
namespace DeriveSimple
open Go.ChangeShapes Go.WideShapes Go.ChangeAt Go.RowKit
set_option linter.unusedVariables false
theorem own:ownKnob Tryz.prog.godebug=none:=by kernel_rfl
theorem laidOut:laidOutB Tryz.prog=true:=by kernel_rfl
theorem contract (H:Type) (enc:TypeId × Value→H) (W:World) (base:Nat) (args:Array Value) (ds gs:List (DataW H)) (before:List MemPlace)
  (hval0:∀ (j:Nat) t v,Tryz.f6.params[j]?=some t→args[j]?=some v→Value.okWide Tryz.prog W .any base t v)
  (hW:DataW.Whole enc Tryz.prog Tryz.f6.params.toList Rows.deriveSimpleSpec.vars false W args.toList ds gs before) (hk:Rows.uptoSmall H (ds++gs)=true) :
  Calls Tryz.prog 6 args W fun e W'=>∃ v,e=.returned v∧Rows.deriveSimpleSpec.post enc Tryz.prog Tryz.f6 false true false false W args v W':=by
 have hval:∀ (j:Nat) t v,Tryz.f6.params[j]?=some t→args[j]?=some v→Value.okWide Tryz.prog W .any base t v:=hval0;have hW':=hW;obtain ⟨p,q,hA0,hV,rfl,hfz,hnd⟩:=hW;have hA:DataW.TrodAll enc Tryz.prog W 0 (fun _=>true) true Tryz.f6.params.toList args.toList ds p:=hA0
 rw [Tryz.params6] at hA hval;obtain ⟨v0,vs0,d0,ds0,p0,q0,hargs,rfl,rfl,h0,r0⟩:=trodAll_cons hA;obtain ⟨v1,vs1,d1,ds1,p1,q1,rfl,rfl,rfl,h1,r1⟩:=trodAll_cons r0;obtain ⟨v2,vs2,d2,ds2,p2,q2,rfl,rfl,rfl,h2,r2⟩:=trodAll_cons r1;obtain ⟨rfl,rfl,rfl⟩:=trodAll_nil r2;obtain rfl:args=#[v0,v1,v2]:=by cases args;simp_all
 obtain ⟨rfl,rfl⟩:=trodVars_none hV;have lt0:∀ x ∈ p0,x.block<W.heap.size:=by obtain ⟨m,hm⟩:=h0;exact DataW.trod_lt m _ _ _ hm
 have lt1:∀ x ∈ p1,x.block<W.heap.size:=by obtain ⟨m,hm⟩:=h1;exact DataW.trod_lt m _ _ _ hm
 have lt2:∀ x ∈ p2,x.block<W.heap.size:=by obtain ⟨m,hm⟩:=h2;exact DataW.trod_lt m _ _ _ hm
 have hk1:Rows.uptoSmall H [d0,d1,d2]=true:=hk;refine (walk v0 v1 v2 W (hval 0 27 v0 rfl rfl) (hval 1 27 v1 rfl rfl) (hval 2 5 v2 rfl rfl) h0 h1 h2 hk1).mono fun e W' ⟨he,bel⟩=>?_
 subst he;exact ⟨_,rfl,_,_,_,[],_,[],hW',trodAll_mk1 (shut_bool Tryz.underlying4 _),(trodAll_cons_mk (Below.trod laidOut (by kernel_rfl) (of_decide_eq_true (by kernel_rfl)) h0 bel lt0) (trodAll_cons_mk (Below.trod laidOut (by kernel_rfl) (of_decide_eq_true (by kernel_rfl)) h1 bel lt1) (trodAll_cons_mk (Below.trod laidOut (by kernel_rfl) (of_decide_eq_true (by kernel_rfl)) h2 bel lt2) trodAll_mk0))),rfl,bel.frame _,fun h=>by cases h⟩
theorem lifted (os:Os) (started:os.Started) (H:Type) (enc:TypeId × Value→H) (F:Stop.Interp) :
  ReturnsInHanded {} Tryz.checked os 6 .any ((Rows.OpenSpec.upto Rows.deriveSimpleSpec).pre6 enc Tryz.prog Tryz.f6 Rows.deriveSimpleUptoRow.domain false) (((Rows.OpenSpec.upto Rows.deriveSimpleSpec).at F).post enc Tryz.prog Tryz.f6 false true false false):=by
 refine returnsInHanded_of_cond (C:=Tryz.checked) (s:=Rows.OpenSpec.upto Rows.deriveSimpleSpec) (k:=Rows.uptoSmall) rfl own started (by kernel_rfl) Tryz.func6
  (OpenSpec.witness (enc:=enc) (C:=Tryz.checked) (s:=Rows.OpenSpec.upto Rows.deriveSimpleSpec) (k:=Rows.uptoSmall) rfl false ⟨#[],#[.agg #[.int .i64 0,.int .u64 0,.int .u64 0,.int .u64 0,.int .u64 0,.int .i64 0,.int .i64 0,.slice none 0 0],.agg #[.int .i64 0,.int .u64 0,.int .u64 0,.int .u64 0,.int .u64 0,.int .i64 0,.int .i64 0,.slice none 0 0],.int .u8 0],[]⟩ 8 (by kernel_rfl) (by kernel_rfl) (by kernel_rfl)
   (x:=([.agg [.lit (.int .i64 0),.agg [.lit (.int .u64 0),.lit (.int .u64 0),.lit (.int .u64 0),.lit (.int .u64 0)],.lit (.int .i64 0),.lit (.int .i64 0),.nil],.agg [.lit (.int .i64 0),.agg [.lit (.int .u64 0),.lit (.int .u64 0),.lit (.int .u64 0),.lit (.int .u64 0)],.lit (.int .i64 0),.lit (.int .i64 0),.nil],.lit (.int .u8 0)],[],[])) (by kernel_rfl) rfl (by kernel_rfl)) ?_
 intro W base args ds gs before hval hW _ hk _;exact contract H enc W base args ds gs before hval hW hk
theorem over:Rows.deriveSimpleUptoRow.holds Tryz.pinned (Rows.OpenSpec.upto Rows.deriveSimpleSpec) :=
 OpenClaim.holds_of_cond 6 Tryz.f6 rfl rfl rfl rfl rfl rfl rfl ⟨rfl,rfl,rfl,rfl,rfl⟩ rfl rfl rfl rfl rfl (by kernel_rfl) Tryz.func6 (by kernel_rfl)
  (of_decide_eq_true (by kernel_rfl)) (by unfold Func.isWrapper;first | (rw [if_pos (by decide +kernel)];kernel_rfl) | (rw [if_neg (by decide +kernel)];exact ⟨rfl,rfl⟩))
  (fun os started H enc _ F=>lifted os started H enc F)
theorem proved:Rows.DeriveSimpleUptoSaid:=over
#print axioms proved
end DeriveSimple
end Go.Proofs.YtlmfbchgkjgljaaGreat
