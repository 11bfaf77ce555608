/- The code's of (layer 12): what is left behind a byte. -/
import Derived.Test.YtlmfbchgkjgljaaGreatKX48
import Derived.Test.YtlmfbchgkjgljaaGreatKX45
import Derived.Test.YtlmfbchgkjgljaaGreatKX38
import Derived.Test.YtlmfbchgkjgljaaGreatKX30
set_option maxRecDepth 100000
set_option maxHeartbeats 32000000
open Go.Lib (hid)
namespace Go.Proofs.YtlmfbchgkjgljaaGreat
namespace P12
open Go.RowKit Base Bytes P07 P08 P09 P10
open Sets (ST)
theorem byT_eqC (b:Nat) (t:T):byT b t=if t.kind=2 then (if t.set.has b=true then epsT else noT) else if t.kind=3 then byC b t.subs else if t.kind=4 then altT (byL b t.subs) else if t.kind=5∧t.mx≠0 then byR b t.mn t.mx t.subs else noT:=by
 cases t
 rw [byT]
 rfl
theorem nd_p {W:World} {bl o:Nat} {t:T} {a:Option Addr} {c:Nat} (h:NodeP W bl o t a c) (i:Nat) (hi:i<4):W.cell? ⟨bl,o+1+i,none⟩=some (.int .u64 (t.set.w i)):=by
 match i,hi with
 | 0,_=>exact h.cs 1 _ rfl
 | 1,_=>exact h.cs 2 _ rfl
 | 2,_=>exact h.cs 3 _ rfl
 | 3,_=>exact h.cs 4 _ rfl
theorem of_step (b:Nat) (hb:b<256) (M:Int) (n:Nat) (ih:∀ t:T,SizeOf.sizeOf t<n→BhOk b M t) (t:T) (hsz:SizeOf.sizeOf t<n+1):BhOk b M t:=by
 intro hRs hReg bl o a c ok w hN hL hc;have hs:=hRs.sub;obtain ⟨d,hR,hS⟩:=id hRs;have hk0:=P10.kinds hR;have hso:=ok_of hR;obtain ⟨tt,htt⟩:∃ tt,byT b t=tt:=⟨_,rfl⟩;rw [htt];rw [byT_eqC] at htt;obtain ⟨B,hB⟩:∃ B,decide ((cnt tt:Int)≤M)=B:=⟨_,rfl⟩;have q0:=((Keep.refl (fun _=>False) w).alloc (.cells #[.int .u8 (b:Int),.int .i64 M] 56)).alloc (.cells nzeros 27)
 have a0:=(At.new w #[.int .u8 (b:Int),.int .i64 M] 56).alloc (.cells nzeros 27);have a2:=At.new (w.alloc (.cells #[.int .u8 (b:Int),.int .i64 M] 56)) nzeros 27;rw [show (w.alloc (.cells #[.int .u8 (b:Int),.int .i64 M] 56)).heap.size=w.heap.size+1 from by simp] at a2
 have hs0:((w.alloc (.cells #[.int .u8 (b:Int),.int .i64 M] 56)).alloc (.cells nzeros 27)).heap.size=w.heap.size+2:=by simp
 have HA:=hid (And.intro a0 (And.intro (hL.under.keepF q0) (And.intro (hN.keepF q0) hN.lt)));have HR:=hid (show Rb w (w.heap.size+1) _ from ⟨a2,q0,by omega⟩)
 have HZ:=hid hs0;have HB:=hid hB;have hih:∀ u ∈ t.subs,BhOk b M u:=fun u hu=>ih u (by obtain ⟨i,hi⟩:=List.mem_iff_getElem?.1 hu;have:=sub_less hi;omega)
 have hct:cntL t.subs≤cnt t:=by rw [cnt_eq t];omega
 have H0:=hid (And.intro hRs (And.intro hReg (And.intro hc (And.intro hih (And.intro hs (And.intro hR (And.intro hS (And.intro hso (hReg.le hct)))))))));clear q0 a0 a2 hL hN hc hs0 hB hih hs hR hS hRs hReg hso hct ih hsz
 by_cases h2:t.kind=2
 ·have k2:(t.kind == 2)=true:=by simpa using h2
  rw [if_pos h2] at htt;obtain ⟨h,hh⟩:∃ h,t.set.has b=h:=⟨_,rfl⟩;rw [hh] at htt;have hx0:=bit_and _ (b % 64) (H0.out.2.2.2.2.2.2.2.1.w (b / 64));have hx:(bits BinOp.and IntKind.u64 ((t.set.w (b / 64):Int) / 2 ^ (b % 64)) 1 == 1)=h:=by rw [hx0,← hh];rfl
  have hc1:=nd_p HA.out.2.2.1 (b / 64) (by omega)
  have HT:=hid htt;clear hx0 htt hh hk0 h2;generalize t.set.w (b / 64)=x at *
  go_enter Tryz.func27,Tryz.ntmps27
  go_upto_region 1 with fail;generalize ((w.alloc (.cells #[.int .u8 (b:Int),.int .i64 M] 56)).alloc (.cells nzeros 27))=W0 at *;obtain ⟨n0,n1,n2,n3,n4,n5,n6,n7⟩:=HA.out.2.2.1.eight;have b0:=HA.out.1.cell (o:=0) rfl;have b1:=HA.out.1.cell (o:=1) rfl;go_upto_region 3 with fail
  cases h
  ·have hT2:tt=noT:=by have:=HT.out;rw [if_neg (by decide)] at this;exact this.symm
   subst hT2;have hBt:B=true:=by
    rw [← HB.out,decide_eq_true_eq];have:=H0.out.2.1.pos
    show ((1:Nat):Int)≤M
    omega
   subst hBt
   go_quiet (fail)
   have RQ:=hid (HR.out.next ((Keep.refl (fun _=>False) W0).drewN nq))
   clear b0 b1 n0 n1 n2 n3 n4 n5 n6 n7 hc1;generalize W0.drewN nq=WQ at *;go_wp2_with fail;refine (nothing_any (fun _=>False) WQ).mono ?_
   rintro e w2 ⟨⟨vv,rfl,ka,kc,rfl,hle,hlie⟩,q2⟩;have R2:=hid (RQ.out.next q2);have N2:=hid (And.intro hle (hlie.mono (ok':=fun k=>(ok k∨w.heap.size≤k)∧k≠w.heap.size+1) (fun k hk=>by have z2:=RQ.out.out.lt;rcases hk with hk | hk;exact hk.elim;exact ⟨.inr (by omega),by omega⟩)))
   clear hle hlie q2;obtain ⟨⟨d0,d1,d2,d3,d4,d5,d6,d7⟩,f0,f1,f2,f3,f4,f5,f6,f7⟩:=cells8 R2.out.out;have hlt6:=R2.out.out.lt;go_wp2_with fail
   change bodyPost _ _ _ _ _ (putNd w2 (w.heap.size+1) 0 (noT) ka kc)
   have hP:=R2.out.put (noT) ka kc;have hG:=R2.out.gives (ok:=ok) (t:=noT) N2.out.1 N2.out.2;generalize (putNd w2 (w.heap.size+1) 0 (noT) ka kc)=W8 at hP hG ⊢;obtain ⟨⟨e0,e1,e2,e3,e4,e5,e6,e7⟩,-⟩:=cells8 hP.1;exact bodyPost_ret (v:=.tuple #[nodeV (noT) ka kc,.bool true]) (by simp [results,Tryz.results27,go_sem,e0,e1,e2,e3,e4,e5,e6,e7]) rfl ⟨noT,by rw [HB.out];exact giveB hG,fun _=>rfl⟩
  ·have hT2:tt=epsT:=by have:=HT.out;rw [if_pos rfl] at this;exact this.symm
   subst hT2;have hBt:B=true:=by
    rw [← HB.out,decide_eq_true_eq];have:=H0.out.2.1.pos
    show ((1:Nat):Int)≤M
    omega
   subst hBt
   go_quiet (fail)
   have RQ:=hid (HR.out.next ((Keep.refl (fun _=>False) W0).drewN nq))
   clear b0 b1 n0 n1 n2 n3 n4 n5 n6 n7 hc1;generalize W0.drewN nq=WQ at *;obtain ⟨⟨d0,d1,d2,d3,d4,d5,d6,d7⟩,f0,f1,f2,f3,f4,f5,f6,f7⟩:=cells8 RQ.out.out;have hlt6:=RQ.out.out.lt;go_wp2_with fail
   change bodyPost _ _ _ _ _ (putNd WQ (w.heap.size+1) 0 (epsT) none 0)
   have hP:=RQ.out.put (epsT) none 0;have hG:=RQ.out.gives (ok:=ok) (t:=epsT) (Nat.le_refl 0) (.nil none);generalize (putNd WQ (w.heap.size+1) 0 (epsT) none 0)=W8 at hP hG ⊢;obtain ⟨⟨e0,e1,e2,e3,e4,e5,e6,e7⟩,-⟩:=cells8 hP.1;exact bodyPost_ret (v:=.tuple #[nodeV (epsT) none 0,.bool true]) (by simp [results,Tryz.results27,go_sem,e0,e1,e2,e3,e4,e5,e6,e7]) rfl ⟨epsT,by rw [HB.out];exact giveB hG,fun _=>rfl⟩
 have k2:(t.kind == 2)=false:=by simpa using h2
 rw [if_neg h2] at htt;have HSq:=fun (W0:World) (hbx:At W0 w.heap.size 56 #[.int .u8 (b:Int),.int .i64 M]) (hnd:NodeP W0 bl o t a c) (hlt:bl<w.heap.size) (W':World) (q:Keep (fun k=>k=w.heap.size+1) W0 W') =>
  (show (W'.cell? ⟨w.heap.size,0,none⟩=some (.int .u8 (b:Int))∧W'.cell? ⟨w.heap.size,1,none⟩=some (.int .i64 M))∧W'.cell? ⟨bl,o+7,none⟩=some (.slice a t.subs.length c) from by
   have h1:=hbx.keep q (fun h=>by have h:w.heap.size=w.heap.size+1:=h;omega)
   have h2:=(hnd.keep q (fun h=>by have h:bl=w.heap.size+1:=h;omega)).eight
   exact ⟨⟨h1.cell (o:=0) rfl,h1.cell (o:=1) rfl⟩,h2.2.2.2.2.2.2.2⟩)
 have HSQ:=hid HSq;clear HSq
 by_cases h3:t.kind=3
 ·have k3:(t.kind == 3)=true:=by simpa using h3
  rw [if_pos h3] at htt;have hm:=(many_is H0.out.2.2.2.2.2.1 (.inl h3)).2;have HC:=hid (fun W (q:Keep (fun _=>False) ((w.alloc (.cells #[.int .u8 (b:Int),.int .i64 M] 56)).alloc (.cells nzeros 27)) W)=>ofCat_any b M t.subs H0.out.2.2.2.1 H0.out.2.2.2.2.1 (smp_3 H0.out.2.2.2.2.2.2.1 h3) (by intro e;rw [e] at hm;simp at hm) H0.out.2.2.2.2.2.2.2.2 a c (fun k=>ok k∧k<w.heap.size) W (HA.out.2.1.keepF q) H0.out.2.2.1)
  unfold Ofd at HC;rw [htt,HB.out] at HC;clear htt hk0 hm h2 h3
  go_enter Tryz.func27,Tryz.ntmps27
  go_upto_region 1 with fail;generalize ((w.alloc (.cells #[.int .u8 (b:Int),.int .i64 M] 56)).alloc (.cells nzeros 27))=W0 at *;obtain ⟨n0,n1,n2,n3,n4,n5,n6,n7⟩:=HA.out.2.2.1.eight;have b0:=HA.out.1.cell (o:=0) rfl;have b1:=HA.out.1.cell (o:=1) rfl;have HSX:=hid (HSQ.out W0 HA.out.1 HA.out.2.2.1 HA.out.2.2.2);go_upto_region 6 with fail;refine wp_region_noPanic ?_;refine wp_region_held_drew (S:=(fun W=>(W.cell? ⟨w.heap.size,0,none⟩=some (.int .u8 b)∧W.cell? ⟨w.heap.size,1,none⟩=some (.int .i64 M))∧W.cell? ⟨bl,o+7,none⟩=some (.slice a t.subs.length c))) (by kernel_rfl) ?_ (fun hHeld=>?_)
  ·exact HSX.out _ ((Keep.refl (fun b=>b=w.heap.size+1) W0).drew)
  refine wpAnyH_take (i:=0) (oi:=⟨_,_,_,_,_,_⟩) (v:=?_) rfl (by kernel_rfl) (by kernel_rfl) (by kernel_rfl) (fun _ _ _ h=>h) (Or.inl ⟨by rfl,?_⟩) (by assumption) ?_
  rotate_left 1
  ·(intro w hSw;(try dsimp only at hSw);go_simp;first | done | with_reducible rfl)
  try simp only [Act.put,List.setIfInBounds_toArray,List.set_cons_zero,List.set_cons_succ]
  refine wpAnyH_take (i:=1) (oi:=⟨_,_,_,_,_,_⟩) (v:=?_) rfl (by kernel_rfl) (by kernel_rfl) (by kernel_rfl) (fun _ _ _ h=>h) (Or.inl ⟨by rfl,?_⟩) (by assumption) ?_
  rotate_left 1
  ·(intro w hSw;(try dsimp only at hSw);go_simp;first | done | with_reducible rfl)
  try simp only [Act.put,List.setIfInBounds_toArray,List.set_cons_zero,List.set_cons_succ]
  refine wpAnyH_take (i:=2) (oi:=⟨_,_,_,_,_,_⟩) (v:=?_) rfl (by kernel_rfl) (by kernel_rfl) (by kernel_rfl) (fun _ _ _ h=>h) (Or.inl ⟨by rfl,?_⟩) (by assumption) ?_
  rotate_left 1
  ·(intro w hSw;(try dsimp only at hSw);go_simp;first | done | with_reducible rfl)
  try simp only [Act.put,List.setIfInBounds_toArray,List.set_cons_zero,List.set_cons_succ]
  refine wpAnyH_take (i:=3) (oi:=⟨_,_,_,_,_,_⟩) (v:=?_) rfl (by kernel_rfl) (by kernel_rfl) (by kernel_rfl) (fun _ _ _ h=>h) (Or.inl ⟨by rfl,?_⟩) (by assumption) ?_
  rotate_left 1
  ·(intro w hSw;(try dsimp only at hSw);go_simp;first | done | with_reducible rfl)
  try simp only [Act.put,List.setIfInBounds_toArray,List.set_cons_zero,List.set_cons_succ]
  refine wpAnyH_take (i:=4) (oi:=⟨_,_,_,_,_,_⟩) (v:=?_) rfl (by kernel_rfl) (by kernel_rfl) (by kernel_rfl) (fun _ _ _ h=>h) (Or.inl ⟨by rfl,?_⟩) (by assumption) ?_
  rotate_left 1
  ·(intro w hSw;(try dsimp only at hSw);go_simp;first | done | with_reducible rfl)
  try simp only [Act.put,List.setIfInBounds_toArray,List.set_cons_zero,List.set_cons_succ]
  refine wpAnyH_ready (rs:=[5]) (by kernel_rfl) (by simp) ?_
  refine (AllReadyH.cons (o:=⟨_,_,_,_,_,_⟩) rfl (fun K hK=>?_) AllReadyH.nil)
  go_simp
  (go_at_call 47;refine (HC.out _ ((Keep.refl (fun _=>False) W0).drew)).mono ?_;rintro e w2 ⟨z,⟨⟨vv,rfl,ka,kc,rfl,hle,hlie⟩,q2⟩,hz⟩)
  have K2:=hid (((Keep.refl (fun _=>False) W0).drew).trans q2)
  have R2:=hid (HR.out.next K2.out);have N2:=hid (And.intro hle (hlie.mono (ok':=fun k=>(ok k∨w.heap.size≤k)∧k≠w.heap.size+1) (fun k hk=>by have z1:=((Keep.refl (fun _=>False) W0).drew).size;have z2:=HZ.out;rcases hk with hk | hk;exact ⟨.inl hk.1,by have:=hk.2;omega⟩;exact ⟨.inr (by omega),by omega⟩)))
  have HZz:=hid hz;clear hle hlie q2 hz;refine hK.out _ _ ?_ (fun hHeld'=>?_)
  ·exact HSX.out _ (K2.out.mono (fun _ h=>h.elim))
  clear hK K hHeld;have hHeld:=hHeld';clear hHeld'
  try simp only [Act.put,List.setIfInBounds_toArray,List.set_cons_zero,List.set_cons_succ]
  refine wpAnyH_take (i:=6) (oi:=⟨_,_,_,_,_,_⟩) (v:=?_) rfl (by kernel_rfl) (by kernel_rfl) (by kernel_rfl) (fun _ _ _ h=>h) (Or.inl ⟨by rfl,?_⟩) (by assumption) ?_
  rotate_left 1
  ·(intro w hSw;(try dsimp only at hSw);go_simp;first | done | with_reducible rfl)
  try simp only [Act.put,List.setIfInBounds_toArray,List.set_cons_zero,List.set_cons_succ]
  refine wpAnyH_take (i:=7) (oi:=⟨_,_,_,_,_,_⟩) (v:=?_) rfl (by kernel_rfl) (by kernel_rfl) (by kernel_rfl) (fun _ _ _ h=>h) (Or.inl ⟨by rfl,?_⟩) (by assumption) ?_
  rotate_left 1
  ·(intro w hSw;(try dsimp only at hSw);go_simp;first | done | with_reducible rfl)
  try simp only [Act.put,List.setIfInBounds_toArray,List.set_cons_zero,List.set_cons_succ]
  refine wpAnyH_ready (rs:=[8]) (by kernel_rfl) (by simp) ?_
  refine (AllReadyH.cons (o:=⟨_,_,_,_,_,_⟩) rfl (fun K hK=>?_) AllReadyH.nil)
  obtain ⟨⟨d0,d1,d2,d3,d4,d5,d6,d7⟩,f0,f1,f2,f3,f4,f5,f6,f7⟩:=cells8 R2.out.out;have hlt5:=R2.out.out.lt;have hP:=R2.out.put z ka kc;have hG:=R2.out.gives (ok:=ok) (t:=z) N2.out.1 N2.out.2;have HPG:=hid (And.intro hP.1 hG);have HSP:=hid (HSX.out (putNd w2 (w.heap.size+1) 0 z ka kc) ((K2.out.mono (fun _ h=>h.elim)).trans (putNd_keep w2 (w.heap.size+1) 0 z ka kc)))
  clear hP hG;go_simp;refine hK.out _ (putNd w2 (w.heap.size+1) 0 z ka kc) ?_ (fun hHeld'=>?_)
  ·exact HSP.out
  clear hK K hHeld;have hHeld:=hHeld';clear hHeld';generalize (putNd w2 (w.heap.size+1) 0 z ka kc)=W9 at *
  try simp only [Act.put,List.setIfInBounds_toArray,List.set_cons_zero,List.set_cons_succ]
  refine wpAnyH_take (i:=9) (oi:=⟨_,_,_,_,_,_⟩) (v:=?_) rfl (by kernel_rfl) (by kernel_rfl) (by kernel_rfl) (fun _ _ _ h=>h) (Or.inl ⟨by rfl,?_⟩) (by assumption) ?_
  rotate_left 1
  ·(intro w hSw;(try dsimp only at hSw);go_simp;first | done | with_reducible rfl)
  try simp only [Act.put,List.setIfInBounds_toArray,List.set_cons_zero,List.set_cons_succ]
  refine wpAnyH_done (by kernel_rfl) ?_ _
  refine NoPanic.normal ?_;rotate_left 1;obtain ⟨⟨e0,e1,e2,e3,e4,e5,e6,e7⟩,-⟩:=cells8 HPG.out.1;go_wp2_with fail;exact bodyPost_ret (v:=.tuple #[nodeV z ka kc,.bool B]) (by simp [results,Tryz.results27,go_sem,e0,e1,e2,e3,e4,e5,e6,e7]) rfl ⟨z,by rw [HB.out];exact giveB HPG.out.2,HZz.out⟩
 have k3:(t.kind == 3)=false:=by simpa using h3
 rw [if_neg h3] at htt
 by_cases h4:t.kind=4
 ·have k4:(t.kind == 4)=true:=by simpa using h4
  rw [if_pos h4] at htt;have HC:=hid (fun W (q:Keep (fun _=>False) ((w.alloc (.cells #[.int .u8 (b:Int),.int .i64 M] 56)).alloc (.cells nzeros 27)) W)=>ofAlt_any b M t.subs H0.out.2.2.2.1 H0.out.2.2.2.2.1 H0.out.2.2.2.2.2.2.2.2 a c (fun k=>ok k∧k<w.heap.size) W (HA.out.2.1.keepF q) H0.out.2.2.1)
  unfold Ofd at HC;rw [htt,HB.out] at HC;clear htt hk0 h2 h3 h4
  go_enter Tryz.func27,Tryz.ntmps27
  go_upto_region 1 with fail;generalize ((w.alloc (.cells #[.int .u8 (b:Int),.int .i64 M] 56)).alloc (.cells nzeros 27))=W0 at *;obtain ⟨n0,n1,n2,n3,n4,n5,n6,n7⟩:=HA.out.2.2.1.eight;have b0:=HA.out.1.cell (o:=0) rfl;have b1:=HA.out.1.cell (o:=1) rfl;have HSX:=hid (HSQ.out W0 HA.out.1 HA.out.2.2.1 HA.out.2.2.2);go_upto_region 8 with fail;refine wp_region_noPanic ?_;refine wp_region_held_drew (S:=(fun W=>(W.cell? ⟨w.heap.size,0,none⟩=some (.int .u8 b)∧W.cell? ⟨w.heap.size,1,none⟩=some (.int .i64 M))∧W.cell? ⟨bl,o+7,none⟩=some (.slice a t.subs.length c))) (by kernel_rfl) ?_ (fun hHeld=>?_)
  ·exact HSX.out _ ((Keep.refl (fun b=>b=w.heap.size+1) W0).drew)
  refine wpAnyH_take (i:=0) (oi:=⟨_,_,_,_,_,_⟩) (v:=?_) rfl (by kernel_rfl) (by kernel_rfl) (by kernel_rfl) (fun _ _ _ h=>h) (Or.inl ⟨by rfl,?_⟩) (by assumption) ?_
  rotate_left 1
  ·(intro w hSw;(try dsimp only at hSw);go_simp;first | done | with_reducible rfl)
  try simp only [Act.put,List.setIfInBounds_toArray,List.set_cons_zero,List.set_cons_succ]
  refine wpAnyH_take (i:=1) (oi:=⟨_,_,_,_,_,_⟩) (v:=?_) rfl (by kernel_rfl) (by kernel_rfl) (by kernel_rfl) (fun _ _ _ h=>h) (Or.inl ⟨by rfl,?_⟩) (by assumption) ?_
  rotate_left 1
  ·(intro w hSw;(try dsimp only at hSw);go_simp;first | done | with_reducible rfl)
  try simp only [Act.put,List.setIfInBounds_toArray,List.set_cons_zero,List.set_cons_succ]
  refine wpAnyH_take (i:=2) (oi:=⟨_,_,_,_,_,_⟩) (v:=?_) rfl (by kernel_rfl) (by kernel_rfl) (by kernel_rfl) (fun _ _ _ h=>h) (Or.inl ⟨by rfl,?_⟩) (by assumption) ?_
  rotate_left 1
  ·(intro w hSw;(try dsimp only at hSw);go_simp;first | done | with_reducible rfl)
  try simp only [Act.put,List.setIfInBounds_toArray,List.set_cons_zero,List.set_cons_succ]
  refine wpAnyH_take (i:=3) (oi:=⟨_,_,_,_,_,_⟩) (v:=?_) rfl (by kernel_rfl) (by kernel_rfl) (by kernel_rfl) (fun _ _ _ h=>h) (Or.inl ⟨by rfl,?_⟩) (by assumption) ?_
  rotate_left 1
  ·(intro w hSw;(try dsimp only at hSw);go_simp;first | done | with_reducible rfl)
  try simp only [Act.put,List.setIfInBounds_toArray,List.set_cons_zero,List.set_cons_succ]
  refine wpAnyH_take (i:=4) (oi:=⟨_,_,_,_,_,_⟩) (v:=?_) rfl (by kernel_rfl) (by kernel_rfl) (by kernel_rfl) (fun _ _ _ h=>h) (Or.inl ⟨by rfl,?_⟩) (by assumption) ?_
  rotate_left 1
  ·(intro w hSw;(try dsimp only at hSw);go_simp;first | done | with_reducible rfl)
  try simp only [Act.put,List.setIfInBounds_toArray,List.set_cons_zero,List.set_cons_succ]
  refine wpAnyH_ready (rs:=[5]) (by kernel_rfl) (by simp) ?_
  refine (AllReadyH.cons (o:=⟨_,_,_,_,_,_⟩) rfl (fun K hK=>?_) AllReadyH.nil)
  go_simp
  (go_at_call 48;refine (HC.out _ ((Keep.refl (fun _=>False) W0).drew)).mono ?_;rintro e w2 ⟨z,⟨⟨vv,rfl,ka,kc,rfl,hle,hlie⟩,q2⟩,hz⟩)
  have K2:=hid (((Keep.refl (fun _=>False) W0).drew).trans q2)
  have R2:=hid (HR.out.next K2.out);have N2:=hid (And.intro hle (hlie.mono (ok':=fun k=>(ok k∨w.heap.size≤k)∧k≠w.heap.size+1) (fun k hk=>by have z1:=((Keep.refl (fun _=>False) W0).drew).size;have z2:=HZ.out;rcases hk with hk | hk;exact ⟨.inl hk.1,by have:=hk.2;omega⟩;exact ⟨.inr (by omega),by omega⟩)))
  have HZz:=hid hz;clear hle hlie q2 hz;refine hK.out _ _ ?_ (fun hHeld'=>?_)
  ·exact HSX.out _ (K2.out.mono (fun _ h=>h.elim))
  clear hK K hHeld;have hHeld:=hHeld';clear hHeld'
  try simp only [Act.put,List.setIfInBounds_toArray,List.set_cons_zero,List.set_cons_succ]
  refine wpAnyH_take (i:=6) (oi:=⟨_,_,_,_,_,_⟩) (v:=?_) rfl (by kernel_rfl) (by kernel_rfl) (by kernel_rfl) (fun _ _ _ h=>h) (Or.inl ⟨by rfl,?_⟩) (by assumption) ?_
  rotate_left 1
  ·(intro w hSw;(try dsimp only at hSw);go_simp;first | done | with_reducible rfl)
  try simp only [Act.put,List.setIfInBounds_toArray,List.set_cons_zero,List.set_cons_succ]
  refine wpAnyH_take (i:=7) (oi:=⟨_,_,_,_,_,_⟩) (v:=?_) rfl (by kernel_rfl) (by kernel_rfl) (by kernel_rfl) (fun _ _ _ h=>h) (Or.inl ⟨by rfl,?_⟩) (by assumption) ?_
  rotate_left 1
  ·(intro w hSw;(try dsimp only at hSw);go_simp;first | done | with_reducible rfl)
  try simp only [Act.put,List.setIfInBounds_toArray,List.set_cons_zero,List.set_cons_succ]
  refine wpAnyH_ready (rs:=[8]) (by kernel_rfl) (by simp) ?_
  refine (AllReadyH.cons (o:=⟨_,_,_,_,_,_⟩) rfl (fun K hK=>?_) AllReadyH.nil)
  obtain ⟨⟨d0,d1,d2,d3,d4,d5,d6,d7⟩,f0,f1,f2,f3,f4,f5,f6,f7⟩:=cells8 R2.out.out;have hlt5:=R2.out.out.lt;have hP:=R2.out.put z ka kc;have hG:=R2.out.gives (ok:=ok) (t:=z) N2.out.1 N2.out.2;have HPG:=hid (And.intro hP.1 hG);have HSP:=hid (HSX.out (putNd w2 (w.heap.size+1) 0 z ka kc) ((K2.out.mono (fun _ h=>h.elim)).trans (putNd_keep w2 (w.heap.size+1) 0 z ka kc)))
  clear hP hG;go_simp;refine hK.out _ (putNd w2 (w.heap.size+1) 0 z ka kc) ?_ (fun hHeld'=>?_)
  ·exact HSP.out
  clear hK K hHeld;have hHeld:=hHeld';clear hHeld';generalize (putNd w2 (w.heap.size+1) 0 z ka kc)=W9 at *
  try simp only [Act.put,List.setIfInBounds_toArray,List.set_cons_zero,List.set_cons_succ]
  refine wpAnyH_take (i:=9) (oi:=⟨_,_,_,_,_,_⟩) (v:=?_) rfl (by kernel_rfl) (by kernel_rfl) (by kernel_rfl) (fun _ _ _ h=>h) (Or.inl ⟨by rfl,?_⟩) (by assumption) ?_
  rotate_left 1
  ·(intro w hSw;(try dsimp only at hSw);go_simp;first | done | with_reducible rfl)
  try simp only [Act.put,List.setIfInBounds_toArray,List.set_cons_zero,List.set_cons_succ]
  refine wpAnyH_done (by kernel_rfl) ?_ _
  refine NoPanic.normal ?_;rotate_left 1;obtain ⟨⟨e0,e1,e2,e3,e4,e5,e6,e7⟩,-⟩:=cells8 HPG.out.1;go_wp2_with fail;exact bodyPost_ret (v:=.tuple #[nodeV z ka kc,.bool B]) (by simp [results,Tryz.results27,go_sem,e0,e1,e2,e3,e4,e5,e6,e7]) rfl ⟨z,by rw [HB.out];exact giveB HPG.out.2,HZz.out⟩
 have k4:(t.kind == 4)=false:=by simpa using h4
 rw [if_neg h4] at htt
 by_cases h5:t.kind=5
 ·have k5:(t.kind == 5)=true:=by simpa using h5
  obtain ⟨u,mn,mx,et,-⟩:=rep_is H0.out.2.2.2.2.2.1 h5;have hmx:t.mx≠0:=by
   have:=H0.out.2.2.2.2.2.2.1;rw [et,smp_nd] at this;rw [et];exact (this.2.2.2 rfl).1
  have hsub:t.subs=[u]:=by rw [et];rfl
  rw [if_pos ⟨h5,hmx⟩] at htt;have HC:=hid (ofRep_any b M t u h5 hsub H0.out.1 H0.out.2.1 (H0.out.2.2.2.1 u (by rw [hsub];simp)) bl o a c (fun k=>ok k∧k<w.heap.size) _ HA.out.2.2.1 HA.out.2.1 H0.out.2.2.1)
  unfold Ofd at HC;rw [htt,HB.out] at HC;clear htt hk0 h2 h3 h4 h5 et hmx hsub
  go_enter Tryz.func27,Tryz.ntmps27
  go_upto_region 1 with fail;generalize ((w.alloc (.cells #[.int .u8 (b:Int),.int .i64 M] 56)).alloc (.cells nzeros 27))=W0 at *;obtain ⟨n0,n1,n2,n3,n4,n5,n6,n7⟩:=HA.out.2.2.1.eight;have b0:=HA.out.1.cell (o:=0) rfl;have b1:=HA.out.1.cell (o:=1) rfl;go_wp2_with fail;refine HC.out.mono ?_;rintro e w2 ⟨z,⟨⟨vv,rfl,ka,kc,rfl,hle,hlie⟩,q2⟩,hz⟩;have R2:=hid (HR.out.next q2);have N2:=hid (And.intro hle (hlie.mono (ok':=fun k=>(ok k∨w.heap.size≤k)∧k≠w.heap.size+1) (fun k hk=>by have z2:=HZ.out;rcases hk with hk | hk;exact ⟨.inl hk.1,by have:=hk.2;omega⟩;exact ⟨.inr (by omega),by omega⟩)))
  have HZz:=hid hz;clear hle hlie q2 hz b0 b1 n0 n1 n2 n3 n4 n5 n6 n7;obtain ⟨⟨d0,d1,d2,d3,d4,d5,d6,d7⟩,f0,f1,f2,f3,f4,f5,f6,f7⟩:=cells8 R2.out.out;have hlt6:=R2.out.out.lt;go_wp2_with fail
  change bodyPost _ _ _ _ _ (putNd w2 (w.heap.size+1) 0 (z) ka kc)
  have hP:=R2.out.put (z) ka kc;have hG:=R2.out.gives (ok:=ok) (t:=z) N2.out.1 N2.out.2;generalize (putNd w2 (w.heap.size+1) 0 (z) ka kc)=W8 at hP hG ⊢;obtain ⟨⟨e0,e1,e2,e3,e4,e5,e6,e7⟩,-⟩:=cells8 hP.1;exact bodyPost_ret (v:=.tuple #[nodeV (z) ka kc,.bool B]) (by simp [results,Tryz.results27,go_sem,e0,e1,e2,e3,e4,e5,e6,e7]) rfl ⟨z,by rw [HB.out];exact giveB hG,HZz.out⟩
 have k5:(t.kind == 5)=false:=by simpa using h5
 rw [if_neg (fun h=>h5 h.1)] at htt
 have hT2:tt=noT:=htt.symm;subst hT2;have hBt:B=true:=by
  rw [← HB.out,decide_eq_true_eq];have:=H0.out.2.1.pos
  show ((1:Nat):Int)≤M
  omega
 subst hBt;clear htt hk0 h2 h3 h4 h5
 go_enter Tryz.func27,Tryz.ntmps27
 go_upto_region 1 with fail;generalize ((w.alloc (.cells #[.int .u8 (b:Int),.int .i64 M] 56)).alloc (.cells nzeros 27))=W0 at *;obtain ⟨n0,n1,n2,n3,n4,n5,n6,n7⟩:=HA.out.2.2.1.eight;have b0:=HA.out.1.cell (o:=0) rfl;have b1:=HA.out.1.cell (o:=1) rfl;go_wp2_with fail;refine (nothing_any (fun _=>False) W0).mono ?_
 rintro e w2 ⟨⟨vv,rfl,ka,kc,rfl,hle,hlie⟩,q2⟩;have R2:=hid (HR.out.next q2);have N2:=hid (And.intro hle (hlie.mono (ok':=fun k=>(ok k∨w.heap.size≤k)∧k≠w.heap.size+1) (fun k hk=>by have z2:=HZ.out;rcases hk with hk | hk;exact hk.elim;exact ⟨.inr (by omega),by omega⟩)))
 clear hle hlie q2 b0 b1 n0 n1 n2 n3 n4 n5 n6 n7;obtain ⟨⟨d0,d1,d2,d3,d4,d5,d6,d7⟩,f0,f1,f2,f3,f4,f5,f6,f7⟩:=cells8 R2.out.out;have hlt6:=R2.out.out.lt;go_wp2_with fail
 change bodyPost _ _ _ _ _ (putNd w2 (w.heap.size+1) 0 (noT) ka kc)
 have hP:=R2.out.put (noT) ka kc;have hG:=R2.out.gives (ok:=ok) (t:=noT) N2.out.1 N2.out.2;generalize (putNd w2 (w.heap.size+1) 0 (noT) ka kc)=W8 at hP hG ⊢;obtain ⟨⟨e0,e1,e2,e3,e4,e5,e6,e7⟩,-⟩:=cells8 hP.1;exact bodyPost_ret (v:=.tuple #[nodeV (noT) ka kc,.bool true]) (by simp [results,Tryz.results27,go_sem,e0,e1,e2,e3,e4,e5,e6,e7]) rfl ⟨noT,by rw [HB.out];exact giveB hG,fun _=>rfl⟩
theorem bh_all (b:Nat) (hb:b<256) (M:Int):∀ (n:Nat) (t:T),SizeOf.sizeOf t<n→BhOk b M t
 | 0,_,h=>absurd h (Nat.not_lt_zero _)
 | n+1,t,h=>of_step b hb M n (bh_all b hb M n) t h
theorem bh_any (b:Nat) (hb:b<256) (M:Int) (t:T):BhOk b M t:=bh_all b hb M _ t (Nat.lt_succ_self _)
end P12
namespace P12
open Go.RowKit Base Bytes P07 P08 P09 P10
open Sets (ST)
theorem gives2 {w:World} {ok:Nat→Prop} {t:T} {a:Option Addr} {c:Nat} {er:Int} {w':World} (h:Gives w ok t (.returned (nodeV t a c)) w'):Gives2 w ok t er (.returned (.tuple #[nodeV t a c,.int .i64 er])) w':=by
 obtain ⟨⟨v,e,hv⟩,q⟩:=h;injection e with e;subst e;exact ⟨⟨_,rfl,hv⟩,q⟩
theorem reg_by {t:T} (hR:RT 12 t) (hc:cnt t≤60):Rs (simT t)∧Reg 4611686018427387903 (cnt (simT t)):=by
 have h:=(sim_ok t 12 hR).1;exact ⟨⟨12,h.rt,h.smp⟩,by have:=h.cnt;omega,.inr ⟨rfl,by have:=h.cnt;omega⟩⟩
theorem by_small (b:Nat) {t:T} (hR:RT 12 t) (hc:cnt t≤60):cnt (byT b (simT t))≤3780:=by
 have h:=reg_by hR hc;have h1:=(by_rs b _ h.1).2;have h2:=(sim_ok t 12 hR).1.cnt;have h3:=Nat.mul_le_mul (show cnt (simT t)≤60 by omega) (show cnt (simT t)≤60 by omega)
 omega
theorem cby_right (b:Nat) (hb:b<256) (t:T) (hR:RT 12 t) (hcnt:cnt t≤60) (a:Option Addr) (c:Nat) (ok:Nat→Prop) (w:World) (hL:Lie w ok a t.subs) (hc:t.subs.length≤c) :
  Calls Tryz.prog 9 #[nodeV t a c,.int .u8 (b:Int)] w (Gives2 w ok (byT b (simT t)) 0):=by
 have ba:=(At.new w (ncells t a c) 27).alloc (.cells nzeros 27);have r0:Rb w (w.heap.size+1) ((w.alloc (.cells (ncells t a c) 27)).alloc (.cells nzeros 27)):=by
  refine ⟨?_,((Keep.refl (fun _=>False) w).alloc _).alloc _,by omega⟩
  have:=At.new (w.alloc (.cells (ncells t a c) 27)) nzeros 27;rw [show (w.alloc (.cells (ncells t a c) 27)).heap.size=w.heap.size+1 from by simp] at this
  exact this
 have hs0:((w.alloc (.cells (ncells t a c) 27)).alloc (.cells nzeros 27)).heap.size=w.heap.size+2:=by simp
 have HL:=hid (hL.under.keepF r0.keep);have HB:=hid ba;have HR:=hid r0;have HZ:=hid hs0;have hrg:=reg_by hR hcnt;have hsm:=by_small b hR hcnt;obtain ⟨u,hu⟩:∃ u,simT t=u:=⟨_,rfl⟩;obtain ⟨y,hy⟩:∃ y,byT b u=y:=⟨_,rfl⟩;rw [hu] at hrg hsm ⊢;rw [hy] at hsm ⊢;have H0:=hid (And.intro hR (And.intro hcnt (And.intro hc (And.intro hrg (And.intro hsm (And.intro hu hy))))));clear ba r0 hL hs0 hR hcnt hc hrg hsm hu hy
 go_enter Tryz.func9,Tryz.ntmps9
 go_upto_region 1 with fail;generalize ((w.alloc (.cells (ncells t a c) 27)).alloc (.cells nzeros 27))=W0 at *;obtain ⟨⟨y0,y1,y2,y3,y4,y5,y6,y7⟩,-⟩:=cells8 HB.out;have HS:=hid (csimple_right t H0.out.1 (by have:=H0.out.2.1;omega) a c (fun k=>ok k∧k<w.heap.size) W0 HL.out H0.out.2.2.1)
 rw [H0.out.2.2.2.2.2.1] at HS;go_wp2_with fail;refine HS.out.mono ?_;rintro e w2 ⟨⟨v,rfl,ka,kc,rfl,hle,hlie⟩,q2⟩;have R2:=hid (HR.out.next q2);have N2:=hid (And.intro hle (hlie.mono (ok':=fun k=>(ok k∨w.heap.size≤k)∧k≠w.heap.size+1) (fun k hk=>by have z0:=HZ.out;rcases hk with hk | hk;exact ⟨.inl hk.1,by have:=hk.2;omega⟩;exact ⟨.inr (by omega),by omega⟩)))
 have a9:=At.new w2 (ncells u ka kc) 27;have q9:=(Keep.refl (fun _=>False) w2).alloc (.cells (ncells u ka kc) 27)
 have A9:=hid (And.intro a9 (And.intro (R2.out.next q9) (N2.out.2.keepF q9)));obtain ⟨g,hg⟩:∃ g,w2.heap.size=g:=⟨_,rfl⟩;rw [hg] at A9;clear hle hlie q2 y0 y1 y2 y3 y4 y5 y6 y7 a9 q9;go_upto_region 4 with fail
 change Code.wp _ _ _ _ (w2.alloc (.cells (ncells u ka kc) 27))
 generalize (w2.alloc (.cells (ncells u ka kc) 27))=W3 at *;have HOf:=hid (bh_any b hb 4611686018427387903 u H0.out.2.2.2.1.1 H0.out.2.2.2.1.2 g 0 ka kc (fun k=>(ok k∨w.heap.size≤k)∧k≠w.heap.size+1) W3 (NodeP.of_at A9.out.1) A9.out.2.2 N2.out.1)
 unfold Ofd at HOf;rw [H0.out.2.2.2.2.2.2,decide_eq_true (show (cnt y:Int)≤4611686018427387903 by have:=H0.out.2.2.2.2.1;omega)] at HOf
 clear hg;go_wp2_with fail;refine HOf.out.mono ?_;rintro e w4 ⟨z,⟨⟨vv,rfl,xa,xc,rfl,hle,hlie⟩,q4⟩,hz⟩;obtain rfl:z=y:=hz (by have:=H0.out.2.2.2.2.1;omega)
 have q5:=q4.alloc (.cells (ncells z xa xc) 27);have R5:=hid (A9.out.2.1.next q5);have N5:=hid (And.intro hle ((hlie.mono (ok':=fun k=>(ok k∨w.heap.size≤k)∧k≠w.heap.size+1) (fun k hk=>by have z1:=A9.out.2.1.out.lt;rcases hk with hk | hk;exact hk;exact ⟨.inr (by omega),by omega⟩)).keepF ((Keep.refl (fun _=>False) w4).alloc (.cells (ncells z xa xc) 27))))
 have A5:=hid (At.new w4 (ncells z xa xc) 27);clear hle hlie q4 q5 hz;go_upto_region 5 with fail
 change Code.wp _ _ _ _ (w4.alloc (.cells (ncells z xa xc) 27))
 obtain ⟨g2,hg2⟩:∃ g2,w4.heap.size=g2:=⟨_,rfl⟩;rw [hg2] at A5;generalize (w4.alloc (.cells (ncells z xa xc) 27))=W5 at *;obtain ⟨⟨x0,x1,x2,x3,x4,x5,x6,x7⟩,-⟩:=cells8 A5.out;obtain ⟨⟨d0,d1,d2,d3,d4,d5,d6,d7⟩,f0,f1,f2,f3,f4,f5,f6,f7⟩:=cells8 R5.out.out;have hlt5:=R5.out.out.lt;go_wp2_with fail
 change bodyPost _ _ _ _ _ (putNd W5 (w.heap.size+1) 0 z xa xc)
 have hP:=R5.out.put z xa xc;have hG:=R5.out.gives (ok:=ok) (t:=z) N5.out.1 N5.out.2;generalize (putNd W5 (w.heap.size+1) 0 z xa xc)=W8 at hP hG ⊢;obtain ⟨⟨e0,e1,e2,e3,e4,e5,e6,e7⟩,-⟩:=cells8 hP.1;exact bodyPost_ret (v:=.tuple #[nodeV z xa xc,.int .i64 0]) (by simp [results,Tryz.results9,go_sem,e0,e1,e2,e3,e4,e5,e6,e7]) rfl (gives2 hG)
end P12
namespace P12
open Go.RowKit Base Bytes P07 P08 P09 P10
open Sets (ST)
theorem cby_wrong (b:Nat) (t:T) (hs:SOk t) (hR:¬ RT 12 t) (a:Option Addr) (c:Nat) (ok:Nat→Prop) (w:World) (hL:Lie w ok a t.subs) :
  Calls Tryz.prog 9 #[nodeV t a c,.int .u8 (b:Int)] w (Gives2 w ok zT 1):=by
 have ba:=(At.new w (ncells t a c) 27).alloc (.cells nzeros 27);have r0:Rb w (w.heap.size+1) ((w.alloc (.cells (ncells t a c) 27)).alloc (.cells nzeros 27)):=by
  refine ⟨?_,((Keep.refl (fun _=>False) w).alloc _).alloc _,by omega⟩
  have:=At.new (w.alloc (.cells (ncells t a c) 27)) nzeros 27;rw [show (w.alloc (.cells (ncells t a c) 27)).heap.size=w.heap.size+1 from by simp] at this
  exact this
 have HL:=hid (hL.under.keepF r0.keep);have HB:=hid ba;have HR:=hid r0;have H0:=hid (And.intro hs hR);clear ba r0 hL hs hR
 go_enter Tryz.func9,Tryz.ntmps9
 go_upto_region 1 with fail;generalize ((w.alloc (.cells (ncells t a c) 27)).alloc (.cells nzeros 27))=W0 at *;obtain ⟨⟨y0,y1,y2,y3,y4,y5,y6,y7⟩,-⟩:=cells8 HB.out;have HS:=hid (csimple_wrong t H0.out.1 H0.out.2 a c (fun k=>ok k∧k<w.heap.size) W0 HL.out)
 go_wp2_with fail;refine HS.out.mono ?_;rintro e w2 ⟨⟨v,rfl,ka,kc,rfl,hle,hlie⟩,q2⟩;have R2:=hid (HR.out.next q2);have a9:=At.new w2 (ncells zT ka kc) 27;have q9:=(Keep.refl (fun _=>False) w2).alloc (.cells (ncells zT ka kc) 27)
 have A9:=hid (And.intro a9 (R2.out.next q9));obtain ⟨g,hg⟩:∃ g,w2.heap.size=g:=⟨_,rfl⟩;rw [hg] at A9;clear hle hlie q2 y0 y1 y2 y3 y4 y5 y6 y7 a9 q9;go_upto_region 2 with fail
 change Code.wp _ _ _ _ (w2.alloc (.cells (ncells zT ka kc) 27))
 generalize (w2.alloc (.cells (ncells zT ka kc) 27))=W3 at *;obtain ⟨⟨d0,d1,d2,d3,d4,d5,d6,d7⟩,f0,f1,f2,f3,f4,f5,f6,f7⟩:=cells8 A9.out.2.out;have hlt:=A9.out.2.out.lt;clear hg;go_wp2_with fail
 change bodyPost _ _ _ _ _ (putNd W3 (w.heap.size+1) 0 zT none 0)
 have hP:=A9.out.2.put zT none 0;have hG:=A9.out.2.gives (ok:=ok) (t:=zT) (Nat.le_refl 0) (.nil none);generalize (putNd W3 (w.heap.size+1) 0 zT none 0)=W9 at hP hG ⊢;obtain ⟨⟨e0,e1,e2,e3,e4,e5,e6,e7⟩,-⟩:=cells8 hP.1;exact bodyPost_ret (v:=.tuple #[nodeV zT none 0,.int .i64 1]) (by simp [results,Tryz.results9,go_sem,e0,e1,e2,e3,e4,e5,e6,e7]) rfl (gives2 hG)
end P12
namespace P10
open Go.RowKit Base Bytes P07 P08 P09 IL
open Sets (ST)
theorem fb_apart {b w:World} {v:Value} {S:ST} {n:Nat} (h:Fb b w v S n) {E:Nat→Prop} {u:Value} {L:List T} (hu:OE w E u L):∀ g,v.ownBlock=some g→u.ownBlock≠some g:=fun g hg hug=>by
 obtain ⟨M,h1,-⟩:=h.il;obtain ⟨X,k1,-⟩:=hu
 rcases h1.2 with ⟨rfl,-⟩ | ⟨g1,cap,cur,rfl,_,hc,-⟩
 ·cases hg
 ·rcases k1.2 with ⟨rfl,-⟩ | ⟨g2,cap2,cur2,rfl,_,hc2,-⟩
  ·cases hug
  ·injection hg with hg
   injection hug with hug;have e1:g1=g:=hg;have e2:g2=g:=hug;rw [e1] at hc;rw [e2,hc] at hc2;injection hc2 with hc2;injection hc2 with _ hc2;exact absurd hc2 (by decide)
theorem fb_keepS {b w w':World} {v:Value} {S:ST} {n:Nat} (h:Fb b w v S n) {Q:Nat→Prop} (k:Keep Q w w') (h1:∀ g,v.ownBlock=some g→¬ Q g) (h2:∀ i,Q i→b.heap.size≤i):Fb b w' v S n:=by
 obtain ⟨L,g1,g2⟩:=h.il;exact ⟨h.q.next k (fun i hi hl=>by have:=h2 i hi;omega),h.far,L,g1.keep k h1,g2⟩
def Rl (L' L:List T):Option Nat→ST→Prop
 | none,S=>L'=L∧S=ST.none
 | some i,S=>∃ (r:T),r.kind=2∧S.Ok∧L[i]?=some (clsT S)∧L'=L.set i r
theorem Rl.len {L' L:List T} {c:Option Nat} {S:ST} (h:Rl L' L c S):L'.length=L.length:=by
 cases c with
 | none=>rw [h.1]
 | some i =>
  obtain ⟨r,-,-,-,e⟩:=h;rw [e,List.length_set]
theorem Rl.any {L' L:List T} {c:Option Nat} {S:ST} (h:Rl L' L c S) {t:T} (ht:t.kind≠2):L'.any (sameB t)=L.any (sameB t):=by
 cases c with
 | none=>rw [h.1]
 | some i =>
  obtain ⟨r,hr,-,hi,e⟩:=h;rw [e,Bool.eq_iff_iff,any_same,any_same];have hil:=(List.getElem?_eq_some_iff.1 hi).1
  constructor
  ·intro hm
   rcases List.mem_or_eq_of_mem_set hm with hm | hm
   ·exact hm
   ·rw [hm] at ht
    exact absurd hr ht
  ·intro hm
   obtain ⟨j,hj⟩:=List.mem_iff_getElem?.1 hm;have hji:j≠i:=fun e=>by
    rw [e,hi] at hj;injection hj with hj;rw [← hj] at ht;exact absurd rfl ht
   exact List.mem_iff_getElem?.2 ⟨j,by rw [List.getElem?_set_ne (fun e=>hji e.symm)];exact hj⟩
theorem Rl.push {L' L:List T} {c:Option Nat} {S:ST} (h:Rl L' L c S) (t:T):Rl (L'++[t]) (L++[t]) c S:=by
 cases c with
 | none=>exact ⟨by rw [h.1],h.2⟩
 | some i =>
  obtain ⟨r,h1,h2,h3,h4⟩:=h;have hil:=(List.getElem?_eq_some_iff.1 h3).1;exact ⟨r,h1,h2,by rw [List.getElem?_append_left hil];exact h3,by rw [h4,List.set_append_left _ _ hil]⟩
theorem Rl.first {L' L:List T} {S:ST} (h:Rl L' L none S) {t:T} (hk:t.kind=2) (hs:t.set.Ok):Rl (L'++[t]) (L++[clsT t.set]) (some L.length) (S.or t.set):=by
 obtain ⟨rfl,rfl⟩:=h;refine ⟨t,hk,ST.or_ok ST.none_ok hs,by rw [none_or hs];simp,?_⟩
 rw [List.set_append_right _ _ (Nat.le_refl _),Nat.sub_self]
 rfl
theorem Rl.more {L' L:List T} {i:Nat} {S:ST} (h:Rl L' L (some i) S) {s:ST} (hs:s.Ok):Rl L' (L.set i (clsT (S.or s))) (some i) (S.or s):=by
 obtain ⟨r,h1,h2,h3,h4⟩:=h;have hil:=(List.getElem?_eq_some_iff.1 h3).1;exact ⟨r,h1,ST.or_ok h2 hs,by rw [List.getElem?_set_self hil],by rw [h4,List.set_set]⟩
structure Fl (w b:World) (ok:Nat→Prop) (v:Value) (M:List T) (L':List T) (S:ST) (n:Nat) (u vb:Value) (W:World):Prop where
 row:OE W (fun j=>ok j∧j<w.heap.size) u L'
 own:Own b.heap.size u
 fb:Fb b W vb S n
 rb:Rb w w.heap.size W
 lv:OE W (fun j=>ok j∧j<w.heap.size) v M
 lo:∀ g,v.ownBlock=some g→w.heap.size+1≤g∧g<b.heap.size
 bs:w.heap.size+1≤b.heap.size∧b.heap.size≤W.heap.size
theorem Fl.quiet {w b:World} {ok:Nat→Prop} {v:Value} {M:List T} {L':List T} {S:ST} {n:Nat} {u vb:Value} {W W':World} (h:Fl w b ok v M L' S n u vb W) (q:Keep (fun _=>False) W W'):Fl w b ok v M L' S n u vb W' :=
 ⟨h.row.keep q (fun _ _ h=>h) (fun _ _ h=>h),h.own,h.fb.keep q,h.rb.next q,h.lv.keep q (fun _ _ h=>h) (fun _ _ h=>h),h.lo,⟨h.bs.1,Nat.le_trans h.bs.2 q.size⟩⟩
theorem Fl.turn {w b:World} {ok:Nat→Prop} {v:Value} {M:List T} {L':List T} {S:ST} {n:Nat} {u vb:Value} {W W':World} (h:Fl w b ok v M L' S n u vb W) {Q:Nat→Prop} (q:Keep Q W W') (hQ:∀ i,Q i→b.heap.size≤i):Rb w w.heap.size W'∧OE W' (fun j=>ok j∧j<w.heap.size) v M∧(w.heap.size+1≤b.heap.size∧b.heap.size≤W'.heap.size):=by
 have hb:=h.bs;exact ⟨⟨h.rb.out.keep q (fun e=>by have:=hQ _ e;omega),h.rb.keep.next q (fun i hi e=>by have:=hQ i hi;omega),h.rb.lt⟩,h.lv.keep q (fun g hg e=>by have:=h.lo g hg;have:=hQ g e;omega) (fun j hj e=>by have:=hQ j e;omega),hb.1,Nat.le_trans hb.2 q.size⟩
theorem Fl.push {w b:World} {ok:Nat→Prop} {v:Value} {M:List T} {L':List T} {S:ST} {n:Nat} {u vb:Value} {W:World} (h:Fl w b ok v M L' S n u vb W) (t:T) (a:Option Addr) (c:Nat) (hc:t.subs.length≤c) (hl:Lie W (fun j=>ok j∧j<w.heap.size) a t.subs) (hlen:L'.length≤1000000) (ty:TypeId) :
  ∃ v' w',(Builtin.append_ #[25,25] ty #[u,.slice (some ⟨W.heap.size,0,none⟩) 1 1]).run Tryz.prog (W.alloc (.cells (ncells t a c) 27))=.ok v' w'∧Fl w b ok v M (L'++[t]) S n v' vb w':=by
 have hb:=h.bs;obtain ⟨v',w',hrun,g1,g2,g3⟩:=h.row.push (fun g hg e=>by have:=h.own g hg;omega) t a c hc hl (by omega) ty
 obtain ⟨r1,r2,r3⟩:=h.turn g2 (fun i hi=>h.own i hi)
 refine ⟨v',w',hrun,g1,fun g hg=>?_,fb_keepS h.fb g2 (fun g hg e=>fb_apart h.fb h.row g hg e) (fun i hi=>h.own i hi),r1,r2,h.lo,r3⟩
 rcases g3 g hg with h1 | h1
 ·exact h.own g h1
 ·omega
theorem fb_append {b w:World} {v:Value} {S:ST} {n:Nat} (h:Fb b w v S n) {s:ST} (hs:s.Ok) (hn:n≤8190) {v2:Value} (hi:IL w v2 (Bytes.lst s.has 256)) (ty:TypeId) :
  ∃ v' w',(Builtin.append_ #[70,70] ty #[v,v2]).run Tryz.prog w=.ok v' w'∧Fb b w' v' (S.or s) (n+1)∧Keep (fun g=>v.ownBlock=some g) w w':=by
 obtain ⟨L,h1,h2,h3,h4⟩:=h.il;obtain ⟨a2,cap2,rfl,hc⟩:=hi.form;have hlN:=lstN_length s.has 256;have hlen:(Bytes.lst s.has 256).length=(lstN s.has 256).length:=by rw [lstN_ints];unfold ints;rw [List.length_map]
 obtain ⟨v',w',hrun,g1,g2,g3⟩:=h1.append (Bytes.lst s.has 256) a2 cap2 (fun j x hx=>by
  obtain ⟨g,-,e,hcell⟩:=hc j x hx;refine ⟨⟨g,0,none⟩,e,?_⟩
  rw [show (⟨g,0,none⟩:Addr).add j=⟨g,j,none⟩ from by
   unfold Addr.add
   split
   ·rename_i hz
    rw [hz]
   ·simp]
  exact hcell) (by unfold ints;rw [List.length_map,hlen];omega) ty
 refine ⟨v',w',hrun,⟨h.q.next g2 (fun i hh hi=>by have:=h.far i hh;omega),fun g hg=>?_,L++lstN s.has 256,?_,?_,?_,?_⟩,g2⟩
 ·rcases g3 g hg with h5 | h5
  ·exact h.far g h5
  ·exact Nat.le_trans h.q.size h5
 ·rw [lstN_ints] at g1
  unfold ints at g1 ⊢;rw [List.map_append];exact g1
 ·intro x hx
  rcases List.mem_append.1 hx with h5 | h5
  ·exact h2 x h5
  ·exact ((lstN_mem _ _ _).1 h5).1
 ·rw [List.length_append]
  omega
 ·rw [mk_append,h4,mk_lstN hs]
theorem Fl.bytes {w b:World} {ok:Nat→Prop} {v:Value} {M:List T} {L':List T} {S:ST} {n:Nat} {u vb:Value} {W:World} (h:Fl w b ok v M L' S n u vb W) {s:ST} (hs:s.Ok) (hn:n≤8190) {v2:Value} (hi:IL W v2 (Bytes.lst s.has 256)) (ty:TypeId) :
  ∃ v' w',(Builtin.append_ #[70,70] ty #[vb,v2]).run Tryz.prog W=.ok v' w'∧Fl w b ok v M L' (S.or s) (n+1) u v' w'∧Keep (fun g=>vb.ownBlock=some g) W w':=by
 obtain ⟨v',w',hrun,g1,g2⟩:=fb_append h.fb hs hn hi ty;have hb:=h.bs;obtain ⟨r1,r2,r3⟩:=h.turn g2 (fun i hi=>h.fb.far i hi)
 exact ⟨v',w',hrun,⟨h.row.keep g2 (fun g hg e=>fb_apart h.fb h.row g e hg) (fun j hj e=>by have:=h.fb.far j e;omega),h.own,g1,r1,r2,h.lo,r3⟩,g2⟩
theorem falt_len (L:List T) (a:Option Addr) (cap:Nat) (ok:Nat→Prop) (w:World) (hL:Lie w ok a L) (hcnt:RowsOk 4 8100 L) (hsets:∀ t ∈ unf 4 L,t.set.Ok) :
  Calls Tryz.prog 34 #[.slice a L.length cap] w (Gives w ok (altT L)):=by
 have r0:Rb w w.heap.size (w.alloc (.cells nzeros 27)):=⟨At.new w nzeros 27,(Keep.refl (fun _=>False) w).alloc _,Nat.le_refl _⟩
 have hM:=hcnt.2.1;have hlen:=hcnt.1;have hL1:=hL.under.keepF r0.keep;obtain ⟨M,hMe⟩:∃ M,unf 4 L=M:=⟨_,rfl⟩;obtain ⟨tt,htt⟩:∃ tt,altT L=tt:=⟨_,rfl⟩;rw [hMe] at hM hsets;rw [htt];unfold altT at htt;rw [hMe] at htt;have hLl:(L.length:Int)≤500000:=by omega
 have HH:=hid (And.intro htt hMe);have HM:=hid (And.intro (show M.length≤8100 by omega) hcnt)
 have HSo:=hid hsets;have HR:=hid r0;have HL:=hid hL1;have hs0:(w.alloc (.cells nzeros 27)).heap.size=w.heap.size+1:=by simp
 clear hL r0 hM hL1 hMe htt hcnt hlen hsets
 go_enter Tryz.func34,Tryz.ntmps34
 go_upto_region 1 with fail;generalize (w.alloc (.cells nzeros 27))=W0 at *;go_wp2_with fail
 go_loopg [3,4] L.length (fun gg u i wr=>∃ j:Nat,i=.int .i64 j∧j+gg=L.length∧InU W0 (fun k=>ok k∧k<w.heap.size) u (unf 4 (L.take j)) wr)
 case atStart=>exact ⟨0,rfl,by omega,InU.start _ _⟩
 case round =>
  obtain ⟨j,rfl,hj,I⟩:=hrel;have j0:(0:Int)≤j:=by omega
  by_cases hlt:j<L.length
  ·have hlt':(j:Int)<L.length:=by omega
   obtain ⟨t,ht⟩:∃ t,L[j]?=some t:=⟨L[j],List.getElem?_eq_getElem hlt⟩;obtain ⟨bl,off,a1,c1,rfl,-,-,le1,L1,C1⟩:=(I.lie HL.out).get ht;obtain ⟨x0,x1,x2,x3,x4,x5,x6,x7⟩:=ncell C1;have L2:=L1.mono (ok':=fun j=>(ok j∧j<w.heap.size)∧j<W0.heap.size) (fun k hk=>hk)
   have II:=hid (And.intro I (And.intro ht (And.intro L2 le1)));have hM:=unf_pre 4 L j;rw [HH.out.2] at hM;have hts:t.subs.length≤500000:=HM.out.2.2.2 t (List.mem_of_getElem? ht);have HS:=hid (And.intro hM hts);clear I L1 L2 C1 ht hM hts
   by_cases hk:t.kind=4
   ·have hk':(t.kind == 4)=true:=by simpa using hk
    obtain ⟨v',w9,hrun,hI⟩:=II.out.1.append t.subs a1 c1 II.out.2.2.1 (by have:=HS.out;have:=HM.out.1;omega) 25
    have H9:=hid (show InU W0 (fun k=>ok k∧k<w.heap.size) v' (unf 4 (L.take (j+1))) w9 from by
     rw [unf_take II.out.2.1,if_pos hk]
     exact hI)
    clear hI hk;go_wp2_with (at_builtin;refine Lib.wpList_append_run _ rfl _ _ _ _ rfl _ _ rfl rfl _ _ hrun ?_);clear hrun;go_wp2_with fail
    go_roundg (L.length - (j+1))
    case measure=>omega
    case rel=>exact ⟨j+1,by go_num,by omega,H9.out⟩
   ·have hk':(t.kind == 4)=false:=by simpa using hk
    obtain ⟨v',w9,hrun,hI⟩:=II.out.1.push t a1 c1 II.out.2.2.2 II.out.2.2.1 (by have:=HS.out;have:=HM.out.1;omega) 25
    have H9:=hid (show InU W0 (fun k=>ok k∧k<w.heap.size) v' (unf 4 (L.take (j+1))) w9 from by
     rw [unf_take II.out.2.1,if_neg hk]
     exact hI)
    clear hI hk;go_wp2_with (at_builtin;refine Lib.wpList_append_run _ rfl _ _ _ _ rfl _ _ rfl rfl _ _ hrun ?_);clear hrun;go_wp2_with fail
    go_roundg (L.length - (j+1))
    case measure=>omega
    case rel=>exact ⟨j+1,by go_num,by omega,H9.out⟩
  ·have hje:j=L.length:=by omega
   rw [hje,List.take_length,HH.out.2] at I;obtain ⟨ra,rc,rfl,-,-⟩:=I.form;have hsz:=I.keep.size;have hI0:Fl w wr ok (.slice ra M.length rc) M [] ST.none 0 (.slice none 0 0) (.slice none 0 0) wr :=
    ⟨OE.nil _ _,Own.nil _,Fb.nil wr,HR.out.next I.keep,I.row.sub (fun j hj=>hj.1),(fun g hg=>⟨by have:=I.own g hg;omega,I.row.lt hg⟩),⟨by omega,Nat.le_refl _⟩⟩
   have HI0:=hid hI0;have hMl:(M.length:Int)≤8100:=by have:=HM.out.1;omega
   generalize wr=W1 at *;clear I hI0 hsz hje;go_wp2_with fail
   go_loopg [5,6,7,8] M.length (fun gg u vb cc i wr=>∃ (j:Nat) (A:List T × Option Nat) (L':List T) (S:ST) (n:Nat),i=.int .i64 j∧j+gg=M.length∧cc=.int .i64 (cI A.2)∧Fl w W1 ok (.slice ra M.length rc) M L' S n u vb wr∧(M.take j).foldl altS ([],none)=A∧n≤j∧Rl L' A.1 A.2 S)
   case atStart=>exact ⟨0,([],none),[],ST.none,0,rfl,by omega,rfl,HI0.out,rfl,Nat.le_refl 0,rfl,rfl⟩
   case round =>
    obtain ⟨j,A,L',S,n,rfl,hj,hcc,I,hA,hnj,hRl⟩:=hrel;have HRl:=hid hRl;obtain ⟨x,hx⟩:∃ x,cI A.2=x:=⟨_,rfl⟩;rw [hx] at hcc;subst hcc;have HX:=hid hx;clear hx;have j0:(0:Int)≤j:=by omega
    by_cases hlt:j<M.length
    ·have hlt':(j:Int)<M.length:=by omega
     obtain ⟨t,ht⟩:∃ t,M[j]?=some t:=⟨M[j],List.getElem?_eq_getElem hlt⟩;obtain ⟨bl,cap',a1,c1,ev,-,-,le1,L1,C1,-⟩:=I.lv.get ht;injection ev with ev1 ev2 ev3;subst ev1 ev3;clear ev2;obtain ⟨x0,x1,x2,x3,x4,x5,x6,x7⟩:=ncell (o:=j * 8) C1;have hLen:L'.length≤8100:=by
      rw [hRl.len];have h1:=fold_len (M.take j) ([],none);rw [hA,List.length_take] at h1;have h2:=HM.out.1
      simp at h1
      omega
     have hstp:=fold_take ht ([],none);rw [hA] at hstp;have II:=hid (And.intro I (And.intro ht (And.intro L1 (And.intro le1 (And.intro C1 (And.intro hstp (And.intro hLen hnj)))))));have hbl:bl<wr.heap.size:=I.lv.lt rfl;have HBL:=hid hbl;clear I L1 C1 ht hA hstp hLen hnj hbl hRl;go_wp2_with fail;refine (fno_any t a1 c1 wr).mono ?_;rintro e w2 ⟨rfl,q2⟩;have J:=hid (And.intro (II.out.1.quiet q2) (And.intro II.out.2.1 (And.intro (II.out.2.2.1.keepF q2) (And.intro II.out.2.2.2.1 (And.intro (ncells_keep II.out.2.2.2.2.1 q2 HBL.out) (And.intro II.out.2.2.2.2.2.1 (And.intro II.out.2.2.2.2.2.2.1 II.out.2.2.2.2.2.2.2)))))));clear q2 x0 x1 x2 x3 x4 x5 x6 x7
     cases hno:isNo t with
     | true =>
      have HN:=hid (show altS A t=A by unfold altS;rw [if_pos hno])
      clear hno;go_wp2_with fail
      go_roundg (M.length - (j+1))
      case measure=>omega
      case rel=>exact ⟨j+1,A,L',S,n,by go_num,by omega,by rw [HX.out],J.out.1,by rw [J.out.2.2.2.2.2.1,HN.out],by have:=J.out.2.2.2.2.2.2.2;omega,HRl.out⟩
     | false =>
      have HNo:=hid hno;clear hno;obtain ⟨y0,y1,y2,y3,y4,y5,y6,y7⟩:=ncell (o:=j * 8) J.out.2.2.2.2.1
      by_cases hk:t.kind=2
      ·have hk':(t.kind == 2)=true:=by simpa using hk
       have HK:=hid hk;clear hk;have hso:=HSo.out t (List.mem_of_getElem? J.out.2.1);have HO:=hid hso;clear hso;go_wp2_with fail;refine (list_any t.set w2).mono ?_;rintro e w3 ⟨v2,rfl,hil,hfar,q3⟩;obtain ⟨v',w4,hrun,hF,hq4⟩:=(J.out.1.quiet q3).bytes HO.out (by have:=J.out.2.2.2.2.2.2.2;have:=HM.out.1;omega) hil 70
       have hbl4:bl<W1.heap.size:=(HI0.out.lo bl rfl).2;have hlo4:=HI0.out.lo bl rfl;have C4:∀ j' v,(ncells t a1 c1)[j']?=some v→w4.cell? ⟨bl,j * 8+j',none⟩=some v:=fun j' v hv =>
        (hq4.cell (a:=⟨bl,j * 8+j',none⟩) (by have:=q3.size;have:=J.out.1.bs;show bl<_;omega) (fun e=>by have:=J.out.1.fb.far bl e;omega)).trans ((q3.cell (a:=⟨bl,j * 8+j',none⟩) (by have:=J.out.1.bs;show bl<_;omega) (fun h=>h)).trans (J.out.2.2.2.2.1 j' v hv))
       have L4:=(J.out.2.2.1.keepF q3).keep hq4 (fun k hk e=>by have:=J.out.1.fb.far k e;have:=J.out.1.bs;omega)
       obtain ⟨z0,z1,z2,z3,z4,z5,z6,z7⟩:=ncell (o:=j * 8) C4;have K:=hid (And.intro hF L4);clear hil hfar q3 hF hq4 C4 L4 hbl4 hlo4 y0 y1 y2 y3 y4 y5 y6 y7;go_upto_region 17 with (at_builtin;refine Lib.wpList_append_run _ rfl _ _ _ _ rfl _ _ rfl rfl _ _ hrun ?_)
       clear hrun;obtain ⟨AL,Ac⟩:=A
       cases Ac with
       | none =>
        have hx1:x=-1:=HX.out.symm;subst hx1;have hst:altS (AL,none) t=(AL++[clsT t.set],some AL.length):=by
         unfold altS;rw [if_neg (by rw [HNo.out];decide),if_pos HK.out]
        obtain ⟨g,lcap,hu,-⟩:=K.out.1.row.lie K.out.1.own;obtain ⟨v9,w9,hrun,hI⟩:=K.out.1.push t a1 c1 J.out.2.2.2.1 K.out.2 (by have:=J.out.2.2.2.2.2.2.1;omega) 25
        have hll:L'.length=AL.length:=HRl.out.len;have H9:=hid (And.intro hI (And.intro hst hll));subst hu;clear hI hst hll;go_wp2_with (at_builtin;refine Lib.wpList_append_run _ rfl _ _ _ _ rfl _ _ rfl rfl _ _ hrun ?_);clear hrun;go_wp2_with fail
        go_roundg (M.length - (j+1))
        case measure=>omega
        case rel=>exact ⟨j+1,(AL++[clsT t.set],some AL.length),L'++[t],S.or t.set,n+1,by go_num,by omega,by rw [H9.out.2.2];rfl,H9.out.1,by rw [J.out.2.2.2.2.2.1,H9.out.2.1],by have:=J.out.2.2.2.2.2.2.2;omega,HRl.out.first HK.out HO.out⟩
       | some i =>
        have hx1:x=i:=HX.out.symm;have hn0:¬ x<0:=by omega
        have hn1:0≤x:=by omega
        clear hx1;have hst:altS (AL,some i) t=(AL.set i (clsT (S.or t.set)),some i):=by
         unfold altS;rw [if_neg (by rw [HNo.out];decide),if_pos HK.out]
         dsimp only
         obtain ⟨r,-,-,hi,-⟩:=HRl.out;rw [getD_cls hi]
        have HS:=hid hst;clear hst;go_wp2_with fail
        go_roundg (M.length - (j+1))
        case measure=>omega
        case rel=>exact ⟨j+1,(AL.set i (clsT (S.or t.set)),some i),L',S.or t.set,n+1,by go_num,by omega,by rw [← HX.out],K.out.1,by rw [J.out.2.2.2.2.2.1,HS.out],by have:=J.out.2.2.2.2.2.2.2;omega,HRl.out.more HO.out⟩
      ·have hk':(t.kind == 2)=false:=by simpa using hk
       have HK:=hid hk;clear hk;obtain ⟨ua,uc,hu,-⟩:=J.out.1.row.lie J.out.1.own;subst hu;have hLi:(L'.length:Int)≤8100:=by have:=J.out.2.2.2.2.2.2.1;omega
       clear y0 y1 y2 y3 y4 y5 y6 y7;obtain ⟨y0,-⟩:=ncell (o:=j * 8) J.out.2.2.2.2.1;go_wp2_with fail;clear y0
       go_loopg [9,10] L'.length (fun gg sv i W=>∃ k:Nat,i=.int .i64 k∧k+gg=L'.length∧sv=.bool ((L'.take k).any (sameB t))∧Keep (fun _=>False) w2 W)
       case atStart=>exact ⟨0,rfl,by omega,rfl,Keep.refl _ _⟩
       case round =>
        obtain ⟨k,rfl,hk,hsv,hq⟩:=hrel;have k0:(0:Int)≤k:=by omega
        by_cases hkl:k<L'.length
        ·have hkl':(k:Int)<L'.length:=by omega
         obtain ⟨s,hs⟩:∃ s,L'[k]?=some s:=⟨L'[k],List.getElem?_eq_getElem hkl⟩;obtain ⟨g,gcap,a3,c3,ev,-,hgl,le3,L3,C3,-⟩:=(J.out.1.quiet hq).row.get hs;injection ev with ev1 ev2 ev3;subst ev1 ev3;clear ev2;obtain ⟨z0,z1,z2,z3,z4,z5,z6,z7⟩:=ncell (o:=k * 8) C3;have C5:∀ j' v,(ncells t a1 c1)[j']?=some v→wr.cell? ⟨bl,j * 8+j',none⟩=some v:=fun j' v hv=>(hq.cell (a:=⟨bl,j * 8+j',none⟩) (by have:=J.out.1.lv.lt (g:=bl) rfl;exact this) (fun h=>h)).trans (J.out.2.2.2.2.1 j' v hv)
         obtain ⟨y0,y1,y2,y3,y4,y5,y6,y7⟩:=ncell (o:=j * 8) C5;have hnx:(L'.take (k+1)).any (sameB t)=((L'.take k).any (sameB t) || sameB t s):=by
          rw [List.take_add_one,hs,List.any_append]
          simp
         obtain ⟨x,hx⟩:∃ x,(L'.take k).any (sameB t)=x:=⟨_,rfl⟩;rw [hx] at hsv hnx;subst hsv;obtain ⟨y,hy⟩:∃ y,sameB t s=y:=⟨_,rfl⟩;rw [hy] at hnx;have hcl:∀ W' (_:Keep (fun _=>False) wr W'),Calls Tryz.prog 12 #[nodeV s a3 c3,nodeV t a1 c1] W' fun e w'=>e=.returned (.bool y)∧Keep (fun _=>False) W' w':=fun W' q'=>by
          refine (same_any s t a3 c3 a1 c1 W' ((L3.keepF q').mono fun _ _=>trivial) (((J.out.2.2.1.keepF hq).keepF q').mono fun _ _=>trivial)).mono ?_
          rintro e w' ⟨v,rfl,hv,q⟩;refine ⟨?_,q⟩;rw [← hy]
          congr 2
          rw [Bool.eq_iff_iff,hv,sameB_iff];exact eq_comm
         have hS:∀ w',Keep (fun _=>False) wr w'→Keep (fun _=>False) wr w'∧w'.cell? ⟨bl,j * 8,none⟩=some (.int .i64 t.kind)∧w'.cell? ⟨bl,j * 8+1,none⟩=some (.int .u64 t.set.x0)∧w'.cell? ⟨bl,j * 8+2,none⟩=some (.int .u64 t.set.x1)∧w'.cell? ⟨bl,j * 8+3,none⟩=some (.int .u64 t.set.x2)∧w'.cell? ⟨bl,j * 8+4,none⟩=some (.int .u64 t.set.x3)∧w'.cell? ⟨bl,j * 8+5,none⟩=some (.int .i64 t.mn)∧w'.cell? ⟨bl,j * 8+6,none⟩=some (.int .i64 t.mx)∧w'.cell? ⟨bl,j * 8+7,none⟩=some (.slice a1 t.subs.length c1)∧w'.cell? ⟨g,k * 8,none⟩=some (.int .i64 s.kind)∧w'.cell? ⟨g,k * 8+1,none⟩=some (.int .u64 s.set.x0)∧w'.cell? ⟨g,k * 8+2,none⟩=some (.int .u64 s.set.x1)∧w'.cell? ⟨g,k * 8+3,none⟩=some (.int .u64 s.set.x2)∧w'.cell? ⟨g,k * 8+4,none⟩=some (.int .u64 s.set.x3)∧w'.cell? ⟨g,k * 8+5,none⟩=some (.int .i64 s.mn)∧w'.cell? ⟨g,k * 8+6,none⟩=some (.int .i64 s.mx)∧w'.cell? ⟨g,k * 8+7,none⟩=some (.slice a3 s.subs.length c3):=fun w' q'=>by
          have e1:=fun j' v h=>(q'.cell (a:=⟨bl,j * 8+j',none⟩) (World.block_lt_of_cell? wr _ (C5 j' v h)) (fun h=>h)).trans (C5 j' v h)
          have e2:=fun j' v h=>(q'.cell (a:=⟨g,k * 8+j',none⟩) (World.block_lt_of_cell? wr _ (C3 j' v h)) (fun h=>h)).trans (C3 j' v h)
          exact ⟨q',e1 0 _ rfl,e1 1 _ rfl,e1 2 _ rfl,e1 3 _ rfl,e1 4 _ rfl,e1 5 _ rfl,e1 6 _ rfl,e1 7 _ rfl,e2 0 _ rfl,e2 1 _ rfl,e2 2 _ rfl,e2 3 _ rfl,e2 4 _ rfl,e2 5 _ rfl,e2 6 _ rfl,e2 7 _ rfl⟩
         have HS:=hid hS;have HQ:=hid (And.intro hq (And.intro hnx hcl));clear hq hnx hx hy hcl hS L3 C3 C5 hs le3 hgl
         cases x with
         | true =>
          go_wp2_with fail
          go_quiet (fail)
          have Q5:=hid (HQ.out.1.trans ((Keep.refl (fun _=>False) wr).drewN nq))
          generalize wr.drewN nq=W5 at *;go_wp2_with fail
          go_roundg (L'.length - (k+1))
          case measure=>omega
          case rel=>exact ⟨k+1,by go_num,by omega,by rw [HQ.out.2.1];rfl,Q5.out⟩
         | false =>
          go_wp2_with fail
          go_region_held3 (fun w'=>Keep (fun _=>False) wr w'∧w'.cell? ⟨bl,j * 8,none⟩=some (.int .i64 t.kind)∧w'.cell? ⟨bl,j * 8+1,none⟩=some (.int .u64 t.set.x0)∧w'.cell? ⟨bl,j * 8+2,none⟩=some (.int .u64 t.set.x1)∧w'.cell? ⟨bl,j * 8+3,none⟩=some (.int .u64 t.set.x2)∧w'.cell? ⟨bl,j * 8+4,none⟩=some (.int .u64 t.set.x3)∧w'.cell? ⟨bl,j * 8+5,none⟩=some (.int .i64 t.mn)∧w'.cell? ⟨bl,j * 8+6,none⟩=some (.int .i64 t.mx)∧w'.cell? ⟨bl,j * 8+7,none⟩=some (.slice a1 t.subs.length c1)∧w'.cell? ⟨g,k * 8,none⟩=some (.int .i64 s.kind)∧w'.cell? ⟨g,k * 8+1,none⟩=some (.int .u64 s.set.x0)∧w'.cell? ⟨g,k * 8+2,none⟩=some (.int .u64 s.set.x1)∧w'.cell? ⟨g,k * 8+3,none⟩=some (.int .u64 s.set.x2)∧w'.cell? ⟨g,k * 8+4,none⟩=some (.int .u64 s.set.x3)∧w'.cell? ⟨g,k * 8+5,none⟩=some (.int .i64 s.mn)∧w'.cell? ⟨g,k * 8+6,none⟩=some (.int .i64 s.mx)∧w'.cell? ⟨g,k * 8+7,none⟩=some (.slice a3 s.subs.length c3)) (first | exact HS.out _ ((Keep.refl _ _).drew) | exact HS.out _ (Keep.trans (And.left (by assumption)) q)) (first
           | (go_at_call 12;refine (HQ.out.2.2 _ (And.left (by assumption))).mono ?_;rintro e w5 ⟨rfl,q⟩))
          all_goals
           rename_i hh
           have Q5:=hid (HQ.out.1.trans hh.1);clear hh;go_wp2_with fail
           go_roundg (L'.length - (k+1))
           case measure=>omega
           case rel=>exact ⟨k+1,by go_num,by omega,by rw [HQ.out.2.1];rfl,Q5.out⟩
        ·have hke:k=L'.length:=by omega
         subst hke;rw [List.take_length,HRl.out.any HK.out] at hsv;have J2:=hid (J.out.1.quiet hq);have L2:=J.out.2.2.1.keepF hq;have C5:∀ j' v,(ncells t a1 c1)[j']?=some v→wr.cell? ⟨bl,j * 8+j',none⟩=some v:=fun j' v hv=>(hq.cell (a:=⟨bl,j * 8+j',none⟩) (by have:=J.out.1.lv.lt (g:=bl) rfl;exact this) (fun h=>h)).trans (J.out.2.2.2.2.1 j' v hv)
         obtain ⟨y0,y1,y2,y3,y4,y5,y6,y7⟩:=ncell (o:=j * 8) C5
         cases hr:A.1.any (sameB t) with
         | true =>
          rw [hr] at hsv;subst hsv;have HRr:=hid (show altS A t=A by unfold altS;rw [if_neg (by rw [HNo.out];decide),if_neg HK.out,if_pos hr])
          clear hr hq L2 C5;go_wp2_with fail
          go_roundg (M.length - (j+1))
          case measure=>omega
          case rel=>exact ⟨j+1,A,L',S,n,by go_num,by omega,by rw [HX.out],J2.out,by rw [J.out.2.2.2.2.2.1,HRr.out],by have:=J.out.2.2.2.2.2.2.2;omega,HRl.out⟩
         | false =>
          rw [hr] at hsv;subst hsv;have HRr:=hid (show altS A t=(A.1++[t],A.2) by unfold altS;rw [if_neg (by rw [HNo.out];decide),if_neg HK.out,if_neg (by rw [hr];decide)])
          obtain ⟨v9,w9,hrun,hI⟩:=J2.out.push t a1 c1 J.out.2.2.2.1 L2 (by have:=J.out.2.2.2.2.2.2.1;omega) 25
          have H9:=hid hI;clear hr hq L2 C5 hI;go_wp2_with (at_builtin;refine Lib.wpList_append_run _ rfl _ _ _ _ rfl _ _ rfl rfl _ _ hrun ?_);clear hrun;go_wp2_with fail
          go_roundg (M.length - (j+1))
          case measure=>omega
          case rel=>exact ⟨j+1,(A.1++[t],A.2),L'++[t],S,n,by go_num,by omega,by rw [← HX.out],H9.out,by rw [J.out.2.2.2.2.2.1,HRr.out],by have:=J.out.2.2.2.2.2.2.2;omega,HRl.out.push t⟩
    ·have hje:j=M.length:=by omega
     rw [hje,List.take_length] at hA;have hT:tt=joinT 4 A.1 noT:=by
      rw [← HH.out.1]
      show joinT 4 (M.foldl altS ([],none)).1 noT=_
      rw [hA]
     have hnn:n≤8190:=by have:=HM.out.1;omega
     obtain ⟨AL,Ac⟩:=A;have HT:=hid (show tt=joinT 4 AL noT from hT)
     cases Ac with
     | none =>
      have hx1:x=-1:=HX.out.symm;subst hx1;have he:L'=AL:=HRl.out.1;subst he;obtain ⟨fa,fc,hu,hfc,hlf⟩:=I.row.lie I.own;have R3:=hid I.rb;have hn2:=I.bs;have hn3:0=0:=rfl
      have HC:=hid (fof_any 4 L' fa fc noT none 0 (fun k=>(ok k∨w.heap.size≤k)∧k≠w.heap.size) wr (hlf.mono fun k hk=>by
       rcases hk with hk | hk
       ·exact ⟨.inl hk.1,by omega⟩
       ·exact ⟨.inr (by omega),by omega⟩) hfc (.nil none) (Nat.le_refl 0))
      subst hu;clear hlf I hje hT hA hRl hnj;go_wp2_with fail;refine HC.out.mono ?_;rintro e w4 ⟨⟨v,rfl,ja,jc,rfl,hle,hlie⟩,q4⟩;have R4:=hid (R3.out.next q4);have HE:=hid (And.intro hle (lie_of (w:=w) (ok:=ok) (n:=w.heap.size) hlie (by omega) (by omega) (fun k h=>h)))
      clear q4 hlie hle hn2 hn3;generalize joinT 4 L' noT=tj at *;obtain ⟨⟨d0,d1,d2,d3,d4,d5,d6,d7⟩,f0,f1,f2,f3,f4,f5,f6,f7⟩:=cells8 R4.out.out;have hlt:=R4.out.out.lt;go_wp2_with fail
      change bodyPost _ _ _ _ _ (putNd (w4) (w.heap.size) 0 (tj) (ja) (jc))
      have hP:=R4.out.put (tj) (ja) (jc);have hG:=(by rw [HT.out];exact R4.out.gives (ok:=ok) HE.out.1 HE.out.2:Gives w ok tt (.returned (nodeV tj ja jc)) (putNd w4 w.heap.size 0 tj ja jc))
      generalize (putNd (w4) (w.heap.size) 0 (tj) (ja) (jc))=W9 at hP hG ⊢;obtain ⟨⟨e0,e1,e2,e3,e4,e5,e6,e7⟩,-⟩:=cells8 hP.1;exact bodyPost_ret (v:=nodeV (tj) (ja) (jc)) (by simp [results,Tryz.results34,go_sem,e0,e1,e2,e3,e4,e5,e6,e7]) rfl hG
     | some i =>
      have hx1:x=i:=HX.out.symm;subst hx1;have i0:(0:Int)≤i:=by omega
      obtain ⟨r,hr2,hsk,hi,he⟩:=HRl.out;have hil:i<AL.length:=(List.getElem?_eq_some_iff.1 hi).1;have hil2:i<L'.length:=by rw [he,List.length_set];exact hil
      have hil':(i:Int)<L'.length:=by omega
      have HII:=hid (And.intro I (And.intro hsk (And.intro hil2 (show L'.set i (clsT S)=AL by
       rw [he,List.set_set]
       apply List.ext_getElem?
       intro q
       by_cases hq:q=i
       ·subst hq
        rw [List.getElem?_set_self hil,hi]
       ·rw [List.getElem?_set_ne (fun e=>hq e.symm)]))))
      obtain ⟨s0,hs0'⟩:∃ s0,L'[i]?=some s0:=⟨L'[i],List.getElem?_eq_getElem hil2⟩;obtain ⟨g,gcap,a3,c3,hu,-,hgl,-,-,C3,hfz⟩:=I.row.get hs0';subst hu;have HS0:=hid hs0';have hLi:(L'.length:Int)≤1000000:=by
       have h1:=fold_len M ([],none);rw [hA] at h1;have h2:=HM.out.1;have h3:=hRl.len
       simp at h1
       simp only at h3
       omega
      have HFb:=hid (I.fb.set hnn);clear I hje hT hA hRl hnj hr2 hsk hi he hil hil2 hs0' hgl C3 hfz;go_wp2_with fail;refine HFb.out.mono ?_;rintro e w3 ⟨rfl,q3⟩;have I3:=hid (HII.out.1.quiet q3);obtain ⟨g',gcap',a3',c3',ev,-,hgl,-,-,C3,hfz⟩:=I3.out.row.get HS0.out;injection ev with ev1 ev2 ev3;injection ev1 with ev1;injection ev1 with ev1;subst ev1;obtain ⟨z0,z1,z2,z3,z4,z5,z6,z7⟩:=ncell (o:=i * 8) C3;have f0:=hfz (i * 8);have f1:=hfz (i * 8+1);have f2:=hfz (i * 8+2);have f3:=hfz (i * 8+3);have f4:=hfz (i * 8+4);have f5:=hfz (i * 8+5);have f6:=hfz (i * 8+6);have f7:=hfz (i * 8+7);have hg1:W1.heap.size≤g:=I3.out.own g rfl;have hO:=OE.setN I3.out.row (fun e=>by have:=I3.out.bs;omega) HII.out.2.2.1 (clsT S) none 0 (Nat.le_refl 0) (.nil none)
      rw [HII.out.2.2.2] at hO;have hR9:=(I3.out.turn (putNd_keep w3 g (i * 8) (clsT S) none 0) (fun b hb=>by omega)).1
      have hB9:=I3.out.bs;have hz9:=putNd_size w3 g (i * 8) (clsT S) none 0;have K:=hid (And.intro hO (And.intro hR9 hz9));clear C3 hfz ev2 ev3 q3 hO hR9 hz9;go_upto_region 29 with fail
      change Code.wp _ _ _ _ (putNd w3 g (i * 8) (clsT S) none 0)
      generalize (putNd w3 g (i * 8) (clsT S) none 0)=W9 at K ⊢;have hown9:Own W1.heap.size (.slice (some ⟨g,0,none⟩) L'.length gcap):=fun g' (hg':some g=some g')=>by injection hg' with hg';omega
      obtain ⟨fa,fc,hu,hfc,hlf⟩:=K.out.1.lie hown9;have R3:=hid K.out.2.1;have hn2:w.heap.size<W9.heap.size:=K.out.2.1.out.lt;have hn3:w.heap.size≤W9.heap.size:=by omega
      have HC:=hid (fof_any 4 AL fa fc noT none 0 (fun k=>(ok k∨w.heap.size≤k)∧k≠w.heap.size) W9 (hlf.mono fun k hk=>by
       rcases hk with hk | hk
       ·exact ⟨.inl hk.1,by omega⟩
       ·exact ⟨.inr (by omega),by omega⟩) hfc (.nil none) (Nat.le_refl 0))
      rw [hu];clear hlf hown9 z0 z1 z2 z3 z4 z5 z6 z7 f0 f1 f2 f3 f4 f5 f6 f7 hgl;go_wp2_with fail;refine HC.out.mono ?_;rintro e w4 ⟨⟨v,rfl,ja,jc,rfl,hle,hlie⟩,q4⟩;have R4:=hid (R3.out.next q4);have HE:=hid (And.intro hle (lie_of (w:=w) (ok:=ok) (n:=w.heap.size) hlie (by omega) (by omega) (fun k h=>h)))
      clear q4 hlie hle hn2 hn3;generalize joinT 4 AL noT=tj at *;obtain ⟨⟨d0,d1,d2,d3,d4,d5,d6,d7⟩,f0,f1,f2,f3,f4,f5,f6,f7⟩:=cells8 R4.out.out;have hlt:=R4.out.out.lt;go_wp2_with fail
      change bodyPost _ _ _ _ _ (putNd (w4) (w.heap.size) 0 (tj) (ja) (jc))
      have hP:=R4.out.put (tj) (ja) (jc);have hG:=(by rw [HT.out];exact R4.out.gives (ok:=ok) HE.out.1 HE.out.2:Gives w ok tt (.returned (nodeV tj ja jc)) (putNd w4 w.heap.size 0 tj ja jc))
      generalize (putNd (w4) (w.heap.size) 0 (tj) (ja) (jc))=W9 at hP hG ⊢;obtain ⟨⟨e0,e1,e2,e3,e4,e5,e6,e7⟩,-⟩:=cells8 hP.1;exact bodyPost_ret (v:=nodeV (tj) (ja) (jc)) (by simp [results,Tryz.results34,go_sem,e0,e1,e2,e3,e4,e5,e6,e7]) rfl hG
theorem falt_any (L:List T) (a:Option Addr) (cap:Nat) (ok:Nat→Prop) (w:World) (hL:Lie w ok a L) (hcnt:cntL L≤8100) (hsets:∀ t ∈ unf 4 L,t.set.Ok) :
  Calls Tryz.prog 34 #[.slice a L.length cap] w (Gives w ok (altT L)):=falt_len L a cap ok w hL (RowsOk.of 4 hcnt (by decide)) hsets
end P10
end Go.Proofs.YtlmfbchgkjgljaaGreat
