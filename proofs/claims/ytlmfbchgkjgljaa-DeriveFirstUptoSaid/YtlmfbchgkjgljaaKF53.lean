/- Layer 12: awake answers true. -/
import Derived.Test.YtlmfbchgkjgljaaKF42
import Derived.Test.YtlmfbchgkjgljaaKF43
import Derived.Test.YtlmfbchgkjgljaaKF19
import Derived.Test.YtlmfbchgkjgljaaKF51
import Derived.Test.YtlmfbchgkjgljaaKF52
set_option maxRecDepth 100000
set_option maxHeartbeats 32000000
open Go.Lib (hid)
namespace Go.Proofs.Ytlmfbchgkjgljaa
namespace P12
open Go.RowKit Base Bytes P07 P08 P09 P10
open Sets (ST)
theorem same_yes12 (t:T) (a:Option Addr) (c:Nat) (b:Option Addr) (d:Nat) (w:World) (ha:Lie w (fun _=>True) a t.subs) (hb:Lie w (fun _=>True) b t.subs) :
  Calls Try.prog 14 #[nodeV t a c,nodeV t b d] w fun e w'=>e=.returned (.bool true)∧Keep (fun _=>False) w w':=by
 refine (same_any t t a c b d w ha hb).mono ?_;rintro e w' ⟨v,rfl,hv,q⟩;rw [hv.2 rfl];exact ⟨rfl,q⟩
theorem zT_sok:SOk zT:=by rw [zT,SOk,SOkL];exact ⟨ST.none_ok,trivial⟩
theorem zT_not:¬ RT 12 zT:=fun h=>by
 have:=(rightB_iff (t:=zT) zT_sok).2 h;have e:rightB zT=false:=by kernel_rfl
 rw [e] at this
 cases this
theorem awake12 (w:World):Calls Try.prog 4 #[] w fun e w'=>e=.returned (.bool true)∧Keep (fun _=>False) w w':=by
 obtain ⟨t1,hp1,h1,hc1⟩:=one12_is aw12_1;obtain ⟨A,hpA,hA,-⟩:=one12_is h1;obtain ⟨t2,hp2,hB,hc2⟩:=one12_is aw12_2;obtain ⟨t3,hp3,h3,hc3⟩:=one12_is aw12_3;obtain ⟨C,hpC,hC,-⟩:=one12_is h3;obtain ⟨t4,x4,hp4,hw4,hn4,hc4⟩:=aw12_4i;obtain ⟨t5,hp5,h5,hc5⟩:=one12_is aw12_5;obtain ⟨t6,hp6,-,hc6⟩:=one12_is aw12_6;have HQ:=hid (And.intro (fun W=>text12_any hp1 (by decide) (by decide) W) (And.intro (fun W=>text12_any hp2 (by decide) (by decide) W) (And.intro (fun W=>text12_any hp3 (by decide) (by decide) W) (And.intro (fun W=>text12_any hp4 (by decide) (by decide) W) (And.intro (fun W=>text12_any hp5 (by decide) (by decide) W) (fun W=>text12_any hp6 (by decide) (by decide) W))))))
 have HT:=hid (And.intro (fun W=>text12_any hpA (by decide) (by decide) W) (And.intro (fun W=>text12_any hp2 (by decide) (by decide) W) (fun W=>text12_any hpC (by decide) (by decide) W)))
 have m1:=fun a c W (hL:Lie W (fun _=>True) a t1.subs) hc=>cby_right 97 (by decide) t1 (read_right hp1) hc1 a c (fun _=>True) W hL hc
 have m2:=fun a c W (hL:Lie W (fun _=>True) a t2.subs) hc=>cby_right 97 (by decide) t2 (read_right hp2) hc2 a c (fun _=>True) W hL hc
 have m3:=fun a c W (hL:Lie W (fun _=>True) a t3.subs) hc=>(show Calls Try.prog 11 #[nodeV t3 a c,str [97,97]] W (Gives2 W (fun _=>True) C 0) from cword_right [97,97] (by decide) t3 (read_right hp3) (by omega) (some C) (eqO_is hC) a c (fun _=>True) W hL hc)
 have m4:=fun a c W (hL:Lie W (fun _=>True) a t4.subs) hc=>(show Calls Try.prog 12 #[nodeV t4 a c,str [97,98,97,98]] W (fun e w'=>e=.returned (.tuple #[.bool (nullB x4),.int .i64 0])∧Keep (fun _=>False) W w') from cmatch12_right [97,98,97,98] (by decide) t4 (read_right hp4) (by omega) (some x4) hw4 a c (fun _=>True) W hL hc)
 have m5:=fun a c W (hL:Lie W (fun _=>True) a t5.subs) hc=>(show Calls Try.prog 13 #[nodeV t5 a c,str [97,97,99],.int .i64 0] W (fun e w'=>e=.returned (.tuple #[.int .i64 2,.int .i64 0])∧Keep (fun _=>False) W w') from clong_right [97,97,99] (by decide) t5 (read_right hp5) (by omega) 0 (by decide) (some 2) (of_decide_eq_true h5) a c (fun _=>True) W hL hc)
 have m6:=fun W=>cby_wrong 0 zT zT_sok zT_not none 0 (fun _=>True) W (.nil _)
 have m7:=fun a c W (hL:Lie W (fun _=>True) a t6.subs) hc=>clong_range [97] t6 (read_right hp6) (by omega) 2 (by decide) a c (fun _=>True) W hL hc
 rw [(sameB_iff _ _).1 hA] at m1;rw [(sameB_iff _ _).1 hB] at m2;rw [hn4] at m4;have HM:=hid (And.intro m1 (And.intro m2 (And.intro m3 (And.intro m4 (And.intro m5 (And.intro m6 m7))))));clear hp1 h1 hc1 hpA hA hp2 hB hc2 hp3 h3 hc3 hpC hC hp4 hw4 hn4 hc4 hp5 h5 hc5 hp6 hc6 m1 m2 m3 m4 m5 m6 m7
 go_enter Try.func4,Try.ntmps4
 go_wp2_with fail;refine (HQ.out.1 w).mono ?_;rintro e w1 ⟨⟨v,rfl,a,c,rfl,hle,hlie⟩,q1⟩;have G:=hid (HM.out.1 a c w1 (hlie.mono fun _ _=>trivial) hle)
 have Q1:=hid q1;clear hle hlie q1;go_wp2_with fail;refine G.out.mono ?_;rintro e w2 ⟨⟨v,rfl,a1,c1,rfl,hle,hlie⟩,q2⟩;clear G;have I1:=hid (And.intro (Nd.new hle hlie) ((Q1.out.trans q2).alloc (.cells (ncells A a1 c1) 27)));clear hle hlie q2 Q1;go_upto_region 2 with fail
 change Code.wp _ _ _ _ (w2.alloc (.cells (ncells A a1 c1) 27))
 generalize (w2.alloc (.cells (ncells A a1 c1) 27))=W1 at *;generalize w2.heap.size=n1 at *;go_wp2_with fail;refine (HQ.out.2.1 W1).mono ?_;rintro e w3 ⟨⟨v,rfl,b,d,rfl,hle,hlie⟩,q1⟩;have G:=hid (HM.out.2.1 b d w3 (hlie.mono fun _ _=>trivial) hle)
 have Q1:=hid q1;clear hle hlie q1;go_wp2_with fail;refine G.out.mono ?_;rintro e w4 ⟨⟨v,rfl,a2,c2,rfl,hle,hlie⟩,q2⟩;clear G;have qq:=(Q1.out.trans q2).alloc (.cells (ncells t2 a2 c2) 27);have I2:=hid (And.intro (I1.out.1.keep qq) (And.intro (Nd.new hle hlie) (I1.out.2.trans qq)));clear hle hlie q2 Q1 qq;go_upto_region 3 with fail
 change Code.wp _ _ _ _ (w4.alloc (.cells (ncells t2 a2 c2) 27))
 generalize (w4.alloc (.cells (ncells t2 a2 c2) 27))=W2 at *;generalize w4.heap.size=n2 at *;go_wp2_with fail;refine (HQ.out.2.2.1 W2).mono ?_;rintro e w5 ⟨⟨v,rfl,b',d',rfl,hle,hlie⟩,q1⟩;have G:=hid (HM.out.2.2.1 b' d' w5 (hlie.mono fun _ _=>trivial) hle)
 have Q1:=hid q1;clear hle hlie q1;go_wp2_with fail;refine G.out.mono ?_;rintro e w6 ⟨⟨v,rfl,a3,c3,rfl,hle,hlie⟩,q2⟩;clear G;have qq:=(Q1.out.trans q2).alloc (.cells (ncells C a3 c3) 27);have I3:=hid (And.intro (I2.out.1.keep qq) (And.intro (I2.out.2.1.keep qq) (And.intro (Nd.new hle hlie) (I2.out.2.2.trans qq))));clear hle hlie q2 Q1 qq;go_upto_region 4 with fail
 change Code.wp _ _ _ _ (w6.alloc (.cells (ncells C a3 c3) 27))
 generalize (w6.alloc (.cells (ncells C a3 c3) 27))=W3 at *;generalize w6.heap.size=n3 at *;go_wp2_with fail;refine (HQ.out.2.2.2.1 W3).mono ?_;rintro e w7 ⟨⟨v,rfl,b4,d4,rfl,hle,hlie⟩,q1⟩;have G:=hid (HM.out.2.2.2.1 b4 d4 w7 (hlie.mono fun _ _=>trivial) hle)
 have Q1:=hid q1;clear hle hlie q1;go_wp2_with fail;refine G.out.mono ?_;rintro e w8 ⟨rfl,q2⟩;have QA:=hid (Q1.out.trans q2);clear G q2 Q1;go_wp2_with fail;refine (HQ.out.2.2.2.2.1 w8).mono ?_;rintro e w9 ⟨⟨v,rfl,b5,d5,rfl,hle,hlie⟩,q1⟩;have G:=hid (HM.out.2.2.2.2.1 b5 d5 w9 (hlie.mono fun _ _=>trivial) hle)
 have Q1:=hid q1;clear hle hlie q1;go_wp2_with fail;refine G.out.mono ?_;rintro e w10 ⟨rfl,q2⟩;have QB:=hid ((QA.out.trans Q1.out).trans q2);clear G q2 Q1 QA;go_wp2_with fail;refine (HM.out.2.2.2.2.2.1 w10).mono ?_;rintro e w11 ⟨⟨v,rfl,a4,c4,rfl,hle,hlie⟩,q2⟩;have QC:=hid ((QB.out.trans q2).alloc (.cells (ncells zT a4 c4) 27));clear hle hlie q2 QB;go_upto_region 7 with fail
 change Code.wp _ _ _ _ (w11.alloc (.cells (ncells zT a4 c4) 27))
 generalize (w11.alloc (.cells (ncells zT a4 c4) 27))=W5 at *;generalize w11.heap.size=n4 at *;go_wp2_with fail;refine (HQ.out.2.2.2.2.2 W5).mono ?_;rintro e w12 ⟨⟨v,rfl,b6,d6,rfl,hle,hlie⟩,q1⟩;have G:=hid (HM.out.2.2.2.2.2.2 b6 d6 w12 (hlie.mono fun _ _=>trivial) hle)
 have Q1:=hid q1;clear hle hlie q1;go_wp2_with fail;refine G.out.mono ?_;rintro e W4 ⟨rfl,q2⟩;have qq:=(QC.out.trans Q1.out).trans q2;have I4:=hid (And.intro (I3.out.1.keep qq) (And.intro (I3.out.2.1.keep qq) (And.intro (I3.out.2.2.1.keep qq) (I3.out.2.2.2.trans qq))));clear G q2 Q1 QC qq;go_upto_region 8 with fail;have HL:=hid (And.intro I4.out.1.lie (And.intro I4.out.2.1.lie I4.out.2.2.1.lie));have hs:∀ W',Keep (fun _=>False) W4 W'→(fun w'=>Keep (fun _=>False) W4 w'∧w'.cell? ⟨n1,0,none⟩=some (.int .i64 A.kind)∧w'.cell? ⟨n1,1,none⟩=some (.int .u64 A.set.x0)∧w'.cell? ⟨n1,2,none⟩=some (.int .u64 A.set.x1)∧w'.cell? ⟨n1,3,none⟩=some (.int .u64 A.set.x2)∧w'.cell? ⟨n1,4,none⟩=some (.int .u64 A.set.x3)∧w'.cell? ⟨n1,5,none⟩=some (.int .i64 A.mn)∧w'.cell? ⟨n1,6,none⟩=some (.int .i64 A.mx)∧w'.cell? ⟨n1,7,none⟩=some (.slice a1 A.subs.length c1)∧w'.cell? ⟨n2,0,none⟩=some (.int .i64 t2.kind)∧w'.cell? ⟨n2,1,none⟩=some (.int .u64 t2.set.x0)∧w'.cell? ⟨n2,2,none⟩=some (.int .u64 t2.set.x1)∧w'.cell? ⟨n2,3,none⟩=some (.int .u64 t2.set.x2)∧w'.cell? ⟨n2,4,none⟩=some (.int .u64 t2.set.x3)∧w'.cell? ⟨n2,5,none⟩=some (.int .i64 t2.mn)∧w'.cell? ⟨n2,6,none⟩=some (.int .i64 t2.mx)∧w'.cell? ⟨n2,7,none⟩=some (.slice a2 t2.subs.length c2)∧w'.cell? ⟨n3,0,none⟩=some (.int .i64 C.kind)∧w'.cell? ⟨n3,1,none⟩=some (.int .u64 C.set.x0)∧w'.cell? ⟨n3,2,none⟩=some (.int .u64 C.set.x1)∧w'.cell? ⟨n3,3,none⟩=some (.int .u64 C.set.x2)∧w'.cell? ⟨n3,4,none⟩=some (.int .u64 C.set.x3)∧w'.cell? ⟨n3,5,none⟩=some (.int .i64 C.mn)∧w'.cell? ⟨n3,6,none⟩=some (.int .i64 C.mx)∧w'.cell? ⟨n3,7,none⟩=some (.slice a3 C.subs.length c3)) W':=fun W' q=>by
  obtain ⟨x0,x1,x2,x3,x4,x5,x6,x7⟩:=(cells8 (I4.out.1.cell.keep q (fun h=>h))).1
  obtain ⟨y0,y1,y2,y3,y4,y5,y6,y7⟩:=(cells8 (I4.out.2.1.cell.keep q (fun h=>h))).1
  obtain ⟨z0,z1,z2,z3,z4,z5,z6,z7⟩:=(cells8 (I4.out.2.2.1.cell.keep q (fun h=>h))).1
  exact ⟨q,x0,x1,x2,x3,x4,x5,x6,x7,y0,y1,y2,y3,y4,y5,y6,y7,z0,z1,z2,z3,z4,z5,z6,z7⟩
 have HS:=hid hs;clear hs;have HK:=hid I4.out.2.2.2;refine wp_region_noPanic ?_;refine wp_region_held_drew (S:=(fun w'=>Keep (fun _=>False) W4 w'∧w'.cell? ⟨n1,0,none⟩=some (.int .i64 A.kind)∧w'.cell? ⟨n1,1,none⟩=some (.int .u64 A.set.x0)∧w'.cell? ⟨n1,2,none⟩=some (.int .u64 A.set.x1)∧w'.cell? ⟨n1,3,none⟩=some (.int .u64 A.set.x2)∧w'.cell? ⟨n1,4,none⟩=some (.int .u64 A.set.x3)∧w'.cell? ⟨n1,5,none⟩=some (.int .i64 A.mn)∧w'.cell? ⟨n1,6,none⟩=some (.int .i64 A.mx)∧w'.cell? ⟨n1,7,none⟩=some (.slice a1 A.subs.length c1)∧w'.cell? ⟨n2,0,none⟩=some (.int .i64 t2.kind)∧w'.cell? ⟨n2,1,none⟩=some (.int .u64 t2.set.x0)∧w'.cell? ⟨n2,2,none⟩=some (.int .u64 t2.set.x1)∧w'.cell? ⟨n2,3,none⟩=some (.int .u64 t2.set.x2)∧w'.cell? ⟨n2,4,none⟩=some (.int .u64 t2.set.x3)∧w'.cell? ⟨n2,5,none⟩=some (.int .i64 t2.mn)∧w'.cell? ⟨n2,6,none⟩=some (.int .i64 t2.mx)∧w'.cell? ⟨n2,7,none⟩=some (.slice a2 t2.subs.length c2)∧w'.cell? ⟨n3,0,none⟩=some (.int .i64 C.kind)∧w'.cell? ⟨n3,1,none⟩=some (.int .u64 C.set.x0)∧w'.cell? ⟨n3,2,none⟩=some (.int .u64 C.set.x1)∧w'.cell? ⟨n3,3,none⟩=some (.int .u64 C.set.x2)∧w'.cell? ⟨n3,4,none⟩=some (.int .u64 C.set.x3)∧w'.cell? ⟨n3,5,none⟩=some (.int .i64 C.mn)∧w'.cell? ⟨n3,6,none⟩=some (.int .i64 C.mx)∧w'.cell? ⟨n3,7,none⟩=some (.slice a3 C.subs.length c3))) (by kernel_rfl) ?_ (fun hHeld=>?_)
 ·exact HS.out _ ((Keep.refl _ _).drew)
 refine wpAnyH_take (i:=0) (oi:=⟨_,_,_,_,_,_⟩) (v:=?_) rfl (by kernel_rfl) (by kernel_rfl) (by kernel_rfl) (fun _ _ _ h=>h) (Or.inl ⟨by rfl,?_⟩) (by assumption) ?_
 rotate_left 1
 ·(intro w hSw;(try dsimp only at hSw);go_simp;first | done | with_reducible rfl)
 try simp only [Act.put,List.setIfInBounds_toArray,List.set_cons_zero,List.set_cons_succ]
 refine wpAnyH_ready (rs:=[1]) (by kernel_rfl) (by simp) ?_
 refine AllReadyH.cons (o:=⟨_,_,_,_,_,_⟩) rfl (fun K hK=>?_) AllReadyH.nil
 go_simp
 (go_at_call 10;refine (HT.out.1 _).mono ?_;rintro e w2 ⟨⟨v,rfl,xa,xc,rfl,hle1,hL1⟩,q⟩)
 refine hK.out _ _ ?_ (fun hHeld'=>?_)
 ·exact HS.out _ (Keep.trans (And.left hHeld) q)
 clear hK K hHeld;have hHeld:=hHeld';clear hHeld'
 try simp only [Act.put,List.setIfInBounds_toArray,List.set_cons_zero,List.set_cons_succ]
 refine wpAnyH_ready (rs:=[2]) (by kernel_rfl) (by simp) ?_
 refine AllReadyH.cons (o:=⟨_,_,_,_,_,_⟩) rfl (fun K hK=>?_) AllReadyH.nil
 go_simp
 (go_at_call 14;refine (same_yes12 A a1 c1 _ _ _ (HL.out.1.keepF (And.left hHeld)) (hL1.mono fun _ _=>trivial)).mono ?_;rintro e w2 ⟨rfl,q⟩)
 refine hK.out _ _ ?_ (fun hHeld'=>?_)
 ·exact HS.out _ (Keep.trans (And.left hHeld) q)
 clear hK K hHeld;have hHeld:=hHeld';clear hHeld'
 try simp only [Act.put,List.setIfInBounds_toArray,List.set_cons_zero,List.set_cons_succ]
 refine wpAnyH_take (i:=3) (oi:=⟨_,_,_,_,_,_⟩) (v:=?_) rfl (by kernel_rfl) (by kernel_rfl) (by kernel_rfl) (fun _ _ _ h=>h) (Or.inl ⟨by rfl,?_⟩) (by assumption) ?_
 rotate_left 1
 ·(intro w hSw;(try dsimp only at hSw);go_simp;first | done | with_reducible rfl)
 try simp only [Act.put,List.setIfInBounds_toArray,List.set_cons_zero,List.set_cons_succ]
 refine wpAnyH_take (i:=4) (oi:=⟨_,_,_,_,_,_⟩) (v:=?_) rfl (by kernel_rfl) (by kernel_rfl) (by kernel_rfl) (fun _ _ _ h=>h) (Or.inl ⟨by rfl,?_⟩) (by assumption) ?_
 rotate_left 1
 ·(intro w hSw;(try dsimp only at hSw);go_simp;first | done | with_reducible rfl)
 try simp only [Act.put,List.setIfInBounds_toArray,List.set_cons_zero,List.set_cons_succ]
 refine wpAnyH_take (i:=5) (oi:=⟨_,_,_,_,_,_⟩) (v:=?_) rfl (by kernel_rfl) (by kernel_rfl) (by kernel_rfl) (fun _ _ _ h=>h) (Or.inl ⟨by rfl,?_⟩) (by assumption) ?_
 rotate_left 1
 ·(intro w hSw;(try dsimp only at hSw);go_simp;first | done | with_reducible rfl)
 try simp only [Act.put,List.setIfInBounds_toArray,List.set_cons_zero,List.set_cons_succ]
 refine wpAnyH_take (i:=6) (oi:=⟨_,_,_,_,_,_⟩) (v:=?_) rfl (by kernel_rfl) (by kernel_rfl) (by kernel_rfl) (fun _ _ _ h=>h) (Or.inl ⟨by rfl,?_⟩) (by assumption) ?_
 rotate_left 1
 ·(intro w hSw;(try dsimp only at hSw);go_simp;first | done | with_reducible rfl)
 try simp only [Act.put,List.setIfInBounds_toArray,List.set_cons_zero,List.set_cons_succ]
 refine wpAnyH_take (i:=7) (oi:=⟨_,_,_,_,_,_⟩) (v:=?_) rfl (by kernel_rfl) (by kernel_rfl) (by kernel_rfl) (fun _ _ _ h=>h) (Or.inl ⟨by rfl,?_⟩) (by assumption) ?_
 rotate_left 1
 ·(intro w hSw;(try dsimp only at hSw);go_simp;first | done | with_reducible rfl)
 try simp only [Act.put,List.setIfInBounds_toArray,List.set_cons_zero,List.set_cons_succ]
 refine wpAnyH_take (i:=8) (oi:=⟨_,_,_,_,_,_⟩) (v:=?_) rfl (by kernel_rfl) (by kernel_rfl) (by kernel_rfl) (fun _ _ _ h=>h) (Or.inl ⟨by rfl,?_⟩) (by assumption) ?_
 rotate_left 1
 ·(intro w hSw;(try dsimp only at hSw);go_simp;first | done | with_reducible rfl)
 try simp only [Act.put,List.setIfInBounds_toArray,List.set_cons_zero,List.set_cons_succ]
 refine wpAnyH_ready (rs:=[9]) (by kernel_rfl) (by simp) ?_
 refine AllReadyH.cons (o:=⟨_,_,_,_,_,_⟩) rfl (fun K hK=>?_) AllReadyH.nil
 go_simp
 (go_at_call 10;refine (HT.out.2.1 _).mono ?_;rintro e w2 ⟨⟨v,rfl,xa,xc,rfl,hle1,hL1⟩,q⟩)
 refine hK.out _ _ ?_ (fun hHeld'=>?_)
 ·exact HS.out _ (Keep.trans (And.left hHeld) q)
 clear hK K hHeld;have hHeld:=hHeld';clear hHeld'
 try simp only [Act.put,List.setIfInBounds_toArray,List.set_cons_zero,List.set_cons_succ]
 refine wpAnyH_ready (rs:=[10]) (by kernel_rfl) (by simp) ?_
 refine AllReadyH.cons (o:=⟨_,_,_,_,_,_⟩) rfl (fun K hK=>?_) AllReadyH.nil
 go_simp
 (go_at_call 14;refine (same_yes12 t2 a2 c2 _ _ _ (HL.out.2.1.keepF (And.left hHeld)) (hL1.mono fun _ _=>trivial)).mono ?_;rintro e w2 ⟨rfl,q⟩)
 refine hK.out _ _ ?_ (fun hHeld'=>?_)
 ·exact HS.out _ (Keep.trans (And.left hHeld) q)
 clear hK K hHeld;have hHeld:=hHeld';clear hHeld'
 try simp only [Act.put,List.setIfInBounds_toArray,List.set_cons_zero,List.set_cons_succ]
 refine wpAnyH_take (i:=11) (oi:=⟨_,_,_,_,_,_⟩) (v:=?_) rfl (by kernel_rfl) (by kernel_rfl) (by kernel_rfl) (fun _ _ _ h=>h) (Or.inl ⟨by rfl,?_⟩) (by assumption) ?_
 rotate_left 1
 ·(intro w hSw;(try dsimp only at hSw);go_simp;first | done | with_reducible rfl)
 try simp only [Act.put,List.setIfInBounds_toArray,List.set_cons_zero,List.set_cons_succ]
 refine wpAnyH_take (i:=12) (oi:=⟨_,_,_,_,_,_⟩) (v:=?_) rfl (by kernel_rfl) (by kernel_rfl) (by kernel_rfl) (fun _ _ _ h=>h) (Or.inl ⟨by rfl,?_⟩) (by assumption) ?_
 rotate_left 1
 ·(intro w hSw;(try dsimp only at hSw);go_simp;first | done | with_reducible rfl)
 try simp only [Act.put,List.setIfInBounds_toArray,List.set_cons_zero,List.set_cons_succ]
 refine wpAnyH_take (i:=13) (oi:=⟨_,_,_,_,_,_⟩) (v:=?_) rfl (by kernel_rfl) (by kernel_rfl) (by kernel_rfl) (fun _ _ _ h=>h) (Or.inl ⟨by rfl,?_⟩) (by assumption) ?_
 rotate_left 1
 ·(intro w hSw;(try dsimp only at hSw);go_simp;first | done | with_reducible rfl)
 try simp only [Act.put,List.setIfInBounds_toArray,List.set_cons_zero,List.set_cons_succ]
 refine wpAnyH_ready (rs:=[14]) (by kernel_rfl) (by simp) ?_
 refine AllReadyH.cons (o:=⟨_,_,_,_,_,_⟩) rfl (fun K hK=>?_) AllReadyH.nil
 go_simp
 (go_at_call 10;refine (HT.out.2.2 _).mono ?_;rintro e w2 ⟨⟨v,rfl,xa,xc,rfl,hle1,hL1⟩,q⟩)
 refine hK.out _ _ ?_ (fun hHeld'=>?_)
 ·exact HS.out _ (Keep.trans (And.left hHeld) q)
 clear hK K hHeld;have hHeld:=hHeld';clear hHeld'
 try simp only [Act.put,List.setIfInBounds_toArray,List.set_cons_zero,List.set_cons_succ]
 refine wpAnyH_ready (rs:=[15]) (by kernel_rfl) (by simp) ?_
 refine AllReadyH.cons (o:=⟨_,_,_,_,_,_⟩) rfl (fun K hK=>?_) AllReadyH.nil
 go_simp
 (go_at_call 14;refine (same_yes12 C a3 c3 _ _ _ (HL.out.2.2.keepF (And.left hHeld)) (hL1.mono fun _ _=>trivial)).mono ?_;rintro e w2 ⟨rfl,q⟩)
 refine hK.out _ _ ?_ (fun hHeld'=>?_)
 ·exact HS.out _ (Keep.trans (And.left hHeld) q)
 clear hK K hHeld;have hHeld:=hHeld';clear hHeld'
 try simp only [Act.put,List.setIfInBounds_toArray,List.set_cons_zero,List.set_cons_succ]
 refine wpAnyH_take (i:=16) (oi:=⟨_,_,_,_,_,_⟩) (v:=?_) rfl (by kernel_rfl) (by kernel_rfl) (by kernel_rfl) (fun _ _ _ h=>h) (Or.inl ⟨by rfl,?_⟩) (by assumption) ?_
 rotate_left 1
 ·(intro w hSw;(try dsimp only at hSw);go_simp;first | done | with_reducible rfl)
 try simp only [Act.put,List.setIfInBounds_toArray,List.set_cons_zero,List.set_cons_succ]
 refine wpAnyH_take (i:=17) (oi:=⟨_,_,_,_,_,_⟩) (v:=?_) rfl (by kernel_rfl) (by kernel_rfl) (by kernel_rfl) (fun _ _ _ h=>h) (Or.inl ⟨by rfl,?_⟩) (by assumption) ?_
 rotate_left 1
 ·(intro w hSw;(try dsimp only at hSw);go_simp;first | done | with_reducible rfl)
 try simp only [Act.put,List.setIfInBounds_toArray,List.set_cons_zero,List.set_cons_succ]
 refine wpAnyH_take (i:=18) (oi:=⟨_,_,_,_,_,_⟩) (v:=?_) rfl (by kernel_rfl) (by kernel_rfl) (by kernel_rfl) (fun _ _ _ h=>h) (Or.inl ⟨by rfl,?_⟩) (by assumption) ?_
 rotate_left 1
 ·(intro w hSw;(try dsimp only at hSw);go_simp;first | done | with_reducible rfl)
 try simp only [Act.put,List.setIfInBounds_toArray,List.set_cons_zero,List.set_cons_succ]
 refine wpAnyH_take (i:=19) (oi:=⟨_,_,_,_,_,_⟩) (v:=?_) rfl (by kernel_rfl) (by kernel_rfl) (by kernel_rfl) (fun _ _ _ h=>h) (Or.inl ⟨by rfl,?_⟩) (by assumption) ?_
 rotate_left 1
 ·(intro w hSw;(try dsimp only at hSw);go_simp;first | done | with_reducible rfl)
 try simp only [Act.put,List.setIfInBounds_toArray,List.set_cons_zero,List.set_cons_succ]
 refine wpAnyH_take (i:=20) (oi:=⟨_,_,_,_,_,_⟩) (v:=?_) rfl (by kernel_rfl) (by kernel_rfl) (by kernel_rfl) (fun _ _ _ h=>h) (Or.inl ⟨by rfl,?_⟩) (by assumption) ?_
 rotate_left 1
 ·(intro w hSw;(try dsimp only at hSw);go_simp;first | done | with_reducible rfl)
 try simp only [Act.put,List.setIfInBounds_toArray,List.set_cons_zero,List.set_cons_succ]
 refine wpAnyH_take (i:=21) (oi:=⟨_,_,_,_,_,_⟩) (v:=?_) rfl (by kernel_rfl) (by kernel_rfl) (by kernel_rfl) (fun _ _ _ h=>h) (Or.inl ⟨by rfl,?_⟩) (by assumption) ?_
 rotate_left 1
 ·(intro w hSw;(try dsimp only at hSw);go_simp;first | done | with_reducible rfl)
 try simp only [Act.put,List.setIfInBounds_toArray,List.set_cons_zero,List.set_cons_succ]
 refine wpAnyH_take (i:=22) (oi:=⟨_,_,_,_,_,_⟩) (v:=?_) rfl (by kernel_rfl) (by kernel_rfl) (by kernel_rfl) (fun _ _ _ h=>h) (Or.inl ⟨by rfl,?_⟩) (by assumption) ?_
 rotate_left 1
 ·(intro w hSw;(try dsimp only at hSw);go_simp;first | done | with_reducible rfl)
 try simp only [Act.put,List.setIfInBounds_toArray,List.set_cons_zero,List.set_cons_succ]
 refine wpAnyH_take (i:=23) (oi:=⟨_,_,_,_,_,_⟩) (v:=?_) rfl (by kernel_rfl) (by kernel_rfl) (by kernel_rfl) (fun _ _ _ h=>h) (Or.inl ⟨by rfl,?_⟩) (by assumption) ?_
 rotate_left 1
 ·(intro w hSw;(try dsimp only at hSw);go_simp;first | done | with_reducible rfl)
 try simp only [Act.put,List.setIfInBounds_toArray,List.set_cons_zero,List.set_cons_succ]
 refine wpAnyH_take (i:=24) (oi:=⟨_,_,_,_,_,_⟩) (v:=?_) rfl (by kernel_rfl) (by kernel_rfl) (by kernel_rfl) (fun _ _ _ h=>h) (Or.inl ⟨by rfl,?_⟩) (by assumption) ?_
 rotate_left 1
 ·(intro w hSw;(try dsimp only at hSw);go_simp;first | done | with_reducible rfl)
 try simp only [Act.put,List.setIfInBounds_toArray,List.set_cons_zero,List.set_cons_succ]
 refine wpAnyH_take (i:=25) (oi:=⟨_,_,_,_,_,_⟩) (v:=?_) rfl (by kernel_rfl) (by kernel_rfl) (by kernel_rfl) (fun _ _ _ h=>h) (Or.inl ⟨by rfl,?_⟩) (by assumption) ?_
 rotate_left 1
 ·(intro w hSw;(try dsimp only at hSw);go_simp;first | done | with_reducible rfl)
 try simp only [Act.put,List.setIfInBounds_toArray,List.set_cons_zero,List.set_cons_succ]
 refine wpAnyH_take (i:=26) (oi:=⟨_,_,_,_,_,_⟩) (v:=?_) rfl (by kernel_rfl) (by kernel_rfl) (by kernel_rfl) (fun _ _ _ h=>h) (Or.inl ⟨by rfl,?_⟩) (by assumption) ?_
 rotate_left 1
 ·(intro w hSw;(try dsimp only at hSw);go_simp;first | done | with_reducible rfl)
 try simp only [Act.put,List.setIfInBounds_toArray,List.set_cons_zero,List.set_cons_succ]
 refine wpAnyH_take (i:=27) (oi:=⟨_,_,_,_,_,_⟩) (v:=?_) rfl (by kernel_rfl) (by kernel_rfl) (by kernel_rfl) (fun _ _ _ h=>h) (Or.inl ⟨by rfl,?_⟩) (by assumption) ?_
 rotate_left 1
 ·(intro w hSw;(try dsimp only at hSw);go_simp;first | done | with_reducible rfl)
 try simp only [Act.put,List.setIfInBounds_toArray,List.set_cons_zero,List.set_cons_succ]
 refine wpAnyH_take (i:=28) (oi:=⟨_,_,_,_,_,_⟩) (v:=?_) rfl (by kernel_rfl) (by kernel_rfl) (by kernel_rfl) (fun _ _ _ h=>h) (Or.inl ⟨by rfl,?_⟩) (by assumption) ?_
 rotate_left 1
 ·(intro w hSw;(try dsimp only at hSw);go_simp;first | done | with_reducible rfl)
 try simp only [Act.put,List.setIfInBounds_toArray,List.set_cons_zero,List.set_cons_succ]
 refine wpAnyH_take (i:=29) (oi:=⟨_,_,_,_,_,_⟩) (v:=?_) rfl (by kernel_rfl) (by kernel_rfl) (by kernel_rfl) (fun _ _ _ h=>h) (Or.inl ⟨by rfl,?_⟩) (by assumption) ?_
 rotate_left 1
 ·(intro w hSw;(try dsimp only at hSw);go_simp;first | done | with_reducible rfl)
 try simp only [Act.put,List.setIfInBounds_toArray,List.set_cons_zero,List.set_cons_succ]
 refine wpAnyH_take (i:=30) (oi:=⟨_,_,_,_,_,_⟩) (v:=?_) rfl (by kernel_rfl) (by kernel_rfl) (by kernel_rfl) (fun _ _ _ h=>h) (Or.inl ⟨by rfl,?_⟩) (by assumption) ?_
 rotate_left 1
 ·(intro w hSw;(try dsimp only at hSw);go_simp;first | done | with_reducible rfl)
 try simp only [Act.put,List.setIfInBounds_toArray,List.set_cons_zero,List.set_cons_succ]
 refine wpAnyH_take (i:=31) (oi:=⟨_,_,_,_,_,_⟩) (v:=?_) rfl (by kernel_rfl) (by kernel_rfl) (by kernel_rfl) (fun _ _ _ h=>h) (Or.inl ⟨by rfl,?_⟩) (by assumption) ?_
 rotate_left 1
 ·(intro w hSw;(try dsimp only at hSw);go_simp;first | done | with_reducible rfl)
 try simp only [Act.put,List.setIfInBounds_toArray,List.set_cons_zero,List.set_cons_succ]
 refine wpAnyH_take (i:=32) (oi:=⟨_,_,_,_,_,_⟩) (v:=?_) rfl (by kernel_rfl) (by kernel_rfl) (by kernel_rfl) (fun _ _ _ h=>h) (Or.inl ⟨by rfl,?_⟩) (by assumption) ?_
 rotate_left 1
 ·(intro w hSw;(try dsimp only at hSw);go_simp;first | done | with_reducible rfl)
 try simp only [Act.put,List.setIfInBounds_toArray,List.set_cons_zero,List.set_cons_succ]
 refine wpAnyH_take (i:=33) (oi:=⟨_,_,_,_,_,_⟩) (v:=?_) rfl (by kernel_rfl) (by kernel_rfl) (by kernel_rfl) (fun _ _ _ h=>h) (Or.inl ⟨by rfl,?_⟩) (by assumption) ?_
 rotate_left 1
 ·(intro w hSw;(try dsimp only at hSw);go_simp;first | done | with_reducible rfl)
 try simp only [Act.put,List.setIfInBounds_toArray,List.set_cons_zero,List.set_cons_succ]
 refine wpAnyH_take (i:=34) (oi:=⟨_,_,_,_,_,_⟩) (v:=?_) rfl (by kernel_rfl) (by kernel_rfl) (by kernel_rfl) (fun _ _ _ h=>h) (Or.inl ⟨by rfl,?_⟩) (by assumption) ?_
 rotate_left 1
 ·(intro w hSw;(try dsimp only at hSw);go_simp;first | done | with_reducible rfl)
 try simp only [Act.put,List.setIfInBounds_toArray,List.set_cons_zero,List.set_cons_succ]
 refine wpAnyH_take (i:=35) (oi:=⟨_,_,_,_,_,_⟩) (v:=?_) rfl (by kernel_rfl) (by kernel_rfl) (by kernel_rfl) (fun _ _ _ h=>h) (Or.inl ⟨by rfl,?_⟩) (by assumption) ?_
 rotate_left 1
 ·(intro w hSw;(try dsimp only at hSw);go_simp;first | done | with_reducible rfl)
 try simp only [Act.put,List.setIfInBounds_toArray,List.set_cons_zero,List.set_cons_succ]
 refine wpAnyH_take (i:=36) (oi:=⟨_,_,_,_,_,_⟩) (v:=?_) rfl (by kernel_rfl) (by kernel_rfl) (by kernel_rfl) (fun _ _ _ h=>h) (Or.inl ⟨by rfl,?_⟩) (by assumption) ?_
 rotate_left 1
 ·(intro w hSw;(try dsimp only at hSw);go_simp;first | done | with_reducible rfl)
 try simp only [Act.put,List.setIfInBounds_toArray,List.set_cons_zero,List.set_cons_succ]
 refine wpAnyH_take (i:=37) (oi:=⟨_,_,_,_,_,_⟩) (v:=?_) rfl (by kernel_rfl) (by kernel_rfl) (by kernel_rfl) (fun _ _ _ h=>h) (Or.inl ⟨by rfl,?_⟩) (by assumption) ?_
 rotate_left 1
 ·(intro w hSw;(try dsimp only at hSw);go_simp;first | done | with_reducible rfl)
 try simp only [Act.put,List.setIfInBounds_toArray,List.set_cons_zero,List.set_cons_succ]
 refine wpAnyH_take (i:=38) (oi:=⟨_,_,_,_,_,_⟩) (v:=?_) rfl (by kernel_rfl) (by kernel_rfl) (by kernel_rfl) (fun _ _ _ h=>h) (Or.inl ⟨by rfl,?_⟩) (by assumption) ?_
 rotate_left 1
 ·(intro w hSw;(try dsimp only at hSw);go_simp;first | done | with_reducible rfl)
 try simp only [Act.put,List.setIfInBounds_toArray,List.set_cons_zero,List.set_cons_succ]
 refine wpAnyH_take (i:=39) (oi:=⟨_,_,_,_,_,_⟩) (v:=?_) rfl (by kernel_rfl) (by kernel_rfl) (by kernel_rfl) (fun _ _ _ h=>h) (Or.inl ⟨by rfl,?_⟩) (by assumption) ?_
 rotate_left 1
 ·(intro w hSw;(try dsimp only at hSw);go_simp;first | done | with_reducible rfl)
 try simp only [Act.put,List.setIfInBounds_toArray,List.set_cons_zero,List.set_cons_succ]
 refine wpAnyH_take (i:=40) (oi:=⟨_,_,_,_,_,_⟩) (v:=?_) rfl (by kernel_rfl) (by kernel_rfl) (by kernel_rfl) (fun _ _ _ h=>h) (Or.inl ⟨by rfl,?_⟩) (by assumption) ?_
 rotate_left 1
 ·(intro w hSw;(try dsimp only at hSw);go_simp;first | done | with_reducible rfl)
 try simp only [Act.put,List.setIfInBounds_toArray,List.set_cons_zero]
 refine wpAnyH_done (by kernel_rfl) ?_ _
 refine NoPanic.normal ?_;have HZ:=hid (HK.out.trans (And.left hHeld));clear hHeld;go_wp2_with fail;go_ret;exact ⟨rfl,HZ.out⟩
end P12
end Go.Proofs.Ytlmfbchgkjgljaa
