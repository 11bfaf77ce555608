/- The code's isNothing, nothing, empty, isStar, isNeedless, joined (layer 10). -/
import Derived.Test.YtlmfbchgkjgljaaKF29
import Derived.Test.YtlmfbchgkjgljaaKF10
set_option maxRecDepth 100000
set_option maxHeartbeats 32000000
open Go.Lib (hid)
namespace Go.Proofs.Ytlmfbchgkjgljaa
namespace P10
open Go.RowKit Base Bytes P07 P08 P09
open Sets (ST)
theorem cno_any (t:T) (ht:t.set.Ok) (a:Option Addr) (c:Nat) (w:World):Calls Try.prog 58 #[nodeV t a c] w fun e w'=>e=.returned (.bool (isNo t))∧Keep (fun _=>False) w w':=by
 obtain ⟨r,hr⟩:∃ r,isNo t=r:=⟨_,rfl⟩;obtain ⟨n,hn⟩:∃ n,t.set.count=n:=⟨_,rfl⟩;have hE:eqB t.set ST.none=decide (n=0):=by
  rw [Bool.eq_iff_iff,eqB_iff,decide_eq_true_eq,← hn,count_zero ht]
 have hrE:r=(decide (t.kind=2) && decide (n=0)):=by rw [← hr,← hE];rfl
 have HR:=hid hrE;have HN:=hid (And.intro hn ht);have q:=hid ((Keep.refl (fun _=>False) w).alloc (.cells (ncells t a c) 27))
 rw [hr];clear hr hE hrE hn ht
 by_cases h2:t.kind=2
 ·have HK:=hid h2
  go_enter Try.func58,Try.ntmps58
  go_wp2_with fail;refine (count_any t.set HN.out.2 _).mono ?_;rintro e w1 ⟨rfl,q1⟩;rw [HN.out.1];go_wp2_with fail;go_ret;refine ⟨?_,q.out.trans q1⟩;rw [HR.out,decide_eq_true HK.out,Bool.true_and];exact Bytes.ret_bool (by rw [Bool.eq_iff_iff];simp)
 ·have HK:=hid h2
  go_enter Try.func58,Try.ntmps58
  go_wp2_with fail;go_ret;exact ⟨by rw [HR.out,decide_eq_false HK.out,Bool.false_and];rfl,q.out⟩
theorem star_any (t:T) (a:Option Addr) (c:Nat) (w:World):Calls Try.prog 65 #[nodeV t a c] w fun e w'=>e=.returned (.bool (isSt t))∧Keep (fun _=>False) w w':=by
 obtain ⟨r,hr⟩:∃ r,isSt t=r:=⟨_,rfl⟩;have hrE:r=decide (t.kind=5∧t.mn=0∧t.mx=-1):=hr.symm;have HR:=hid hrE;have q:=hid ((Keep.refl (fun _=>False) w).alloc (.cells (ncells t a c) 27))
 rw [hr];clear hr hrE
 go_enter Try.func65,Try.ntmps65
 go_wp2_with fail
 all_goals
  go_ret;refine ⟨?_,q.out⟩;rw [HR.out];refine Bytes.ret_bool ?_;rw [Bool.eq_iff_iff]
  try simp_all
  try omega
theorem cnothing_any (ok:Nat→Prop) (w:World):Calls Try.prog 59 #[] w (Gives w ok noT):=by
 have r0:Rb w w.heap.size (w.alloc (.cells nzeros 27)):=⟨At.new w nzeros 27,(Keep.refl (fun _=>False) w).alloc _,Nat.le_refl _⟩
 have HR:=hid r0;clear r0
 go_enter Try.func59,Try.ntmps59
 go_upto_region 1 with fail;generalize (w.alloc (.cells nzeros 27))=W at *;obtain ⟨⟨d0,d1,d2,d3,d4,d5,d6,d7⟩,f0,f1,f2,f3,f4,f5,f6,f7⟩:=cells8 HR.out.out;have hlt:=HR.out.out.lt;go_wp2_with fail
 change bodyPost _ _ _ _ _ (putNd (W) (w.heap.size) 0 (noT) (none) (0))
 have hP:=HR.out.put (noT) (none) (0);have hG:=HR.out.gives (ok:=ok) (t:=noT) (Nat.le_refl 0) (.nil none);generalize (putNd (W) (w.heap.size) 0 (noT) (none) (0))=W9 at hP hG ⊢;obtain ⟨⟨e0,e1,e2,e3,e4,e5,e6,e7⟩,-⟩:=cells8 hP.1;exact bodyPost_ret (v:=nodeV (noT) (none) (0)) (by simp [results,Try.results59,go_sem,e0,e1,e2,e3,e4,e5,e6,e7]) rfl hG
theorem cempty_any (ok:Nat→Prop) (w:World):Calls Try.prog 61 #[] w (Gives w ok epsT):=by
 have r0:Rb w w.heap.size (w.alloc (.cells nzeros 27)):=⟨At.new w nzeros 27,(Keep.refl (fun _=>False) w).alloc _,Nat.le_refl _⟩
 have HR:=hid r0;clear r0
 go_enter Try.func61,Try.ntmps61
 go_upto_region 1 with fail;generalize (w.alloc (.cells nzeros 27))=W at *;obtain ⟨⟨d0,d1,d2,d3,d4,d5,d6,d7⟩,f0,f1,f2,f3,f4,f5,f6,f7⟩:=cells8 HR.out.out;have hlt:=HR.out.out.lt;go_wp2_with fail
 change bodyPost _ _ _ _ _ (putNd (W) (w.heap.size) 0 (epsT) (none) (0))
 have hP:=HR.out.put (epsT) (none) (0);have hG:=HR.out.gives (ok:=ok) (t:=epsT) (Nat.le_refl 0) (.nil none);generalize (putNd (W) (w.heap.size) 0 (epsT) (none) (0))=W9 at hP hG ⊢;obtain ⟨⟨e0,e1,e2,e3,e4,e5,e6,e7⟩,-⟩:=cells8 hP.1;exact bodyPost_ret (v:=nodeV (epsT) (none) (0)) (by simp [results,Try.results61,go_sem,e0,e1,e2,e3,e4,e5,e6,e7]) rfl hG
theorem cjoin_any (k:Int) (L:List T) (a:Option Addr) (cap:Nat) (e:T) (ae:Option Addr) (ce:Nat) (ok:Nat→Prop) (w:World) (hL:Lie w ok a L) (hcap:L.length≤cap) (he:Lie w ok ae e.subs) (hce:e.subs.length≤ce) :
  Calls Try.prog 60 #[.int .i64 k,.slice a L.length cap,nodeV e ae ce] w (Gives w ok (joinT k L e)):=by
 have hlen:=hL.len;have b0:=(At.new w (ncells e ae ce) 27).alloc (.cells nzeros 27);have r0:Rb w (w.heap.size+1) ((w.alloc (.cells (ncells e ae ce) 27)).alloc (.cells nzeros 27)):=by
  refine ⟨?_,((Keep.refl (fun _=>False) w).alloc _).alloc _,by omega⟩
  have:=At.new (w.alloc (.cells (ncells e ae ce) 27)) nzeros 27;rw [show (w.alloc (.cells (ncells e ae ce) 27)).heap.size=w.heap.size+1 from by simp] at this
  exact this
 have q:=r0.keep;have hlieE:=hid (he.under.keepF q);have hlieL:=hid (hL.under.keepF q);have HC:=hid (And.intro hcap hce);have HR:=hid r0;have HB:=hid b0;clear he hL hcap hce r0 b0 q
 rcases join_cases k L e with ⟨rfl,ej⟩ | ⟨t,rfl,ej⟩ | ⟨h2,ej⟩
 ·rw [ej]
  have HJ:=hid ej;clear ej
  go_enter Try.func60,Try.ntmps60
  go_upto_region 1 with fail;generalize ((w.alloc (.cells (ncells e ae ce) 27)).alloc (.cells nzeros 27))=W at *;obtain ⟨⟨c0,c1,c2,c3,c4,c5,c6,c7⟩,-⟩:=cells8 HB.out;obtain ⟨⟨d0,d1,d2,d3,d4,d5,d6,d7⟩,f0,f1,f2,f3,f4,f5,f6,f7⟩:=cells8 HR.out.out;have hlt:=HR.out.out.lt;go_wp2_with fail
  change bodyPost _ _ _ _ _ (putNd (W) (w.heap.size+1) 0 (e) (ae) (ce))
  have hP:=HR.out.put (e) (ae) (ce);have hG:=HR.out.gives (ok:=ok) HC.out.2 (hlieE.out.mono fun k hk=>⟨.inl hk.1,by omega⟩)
  generalize (putNd (W) (w.heap.size+1) 0 (e) (ae) (ce))=W9 at hP hG ⊢;obtain ⟨⟨e0,e1,e2,e3,e4,e5,e6,e7⟩,-⟩:=cells8 hP.1;exact bodyPost_ret (v:=nodeV (e) (ae) (ce)) (by simp [results,Try.results60,go_sem,e0,e1,e2,e3,e4,e5,e6,e7]) rfl hG
 ·rw [ej]
  have HJ:=hid ej;clear ej;obtain ⟨bl,off,a1,c1,rfl,hok,hbl,hc1,L1,C1⟩:=hlieL.out.get (i:=0) (t:=t) rfl;have L2:=hid (And.intro (L1.mono (ok':=fun k=>(ok k∨w.heap.size≤k)∧k≠w.heap.size+1) fun k hk=>⟨.inl hk.1,by omega⟩) hc1)
  obtain ⟨x0,x1,x2,x3,x4,x5,x6,x7⟩:=ncell C1;rw [Nat.zero_mul,Nat.add_zero] at x0 x1 x2 x3 x4 x5 x6 x7;clear C1 L1 hbl hok hc1
  go_enter Try.func60,Try.ntmps60
  go_upto_region 1 with fail;generalize ((w.alloc (.cells (ncells e ae ce) 27)).alloc (.cells nzeros 27))=W at *;obtain ⟨⟨d0,d1,d2,d3,d4,d5,d6,d7⟩,f0,f1,f2,f3,f4,f5,f6,f7⟩:=cells8 HR.out.out;have hlt:=HR.out.out.lt;go_wp2_with fail
  change bodyPost _ _ _ _ _ (putNd (W) (w.heap.size+1) 0 (t) (a1) (c1))
  have hP:=HR.out.put (t) (a1) (c1);have hG:=HR.out.gives (ok:=ok) L2.out.2 L2.out.1;generalize (putNd (W) (w.heap.size+1) 0 (t) (a1) (c1))=W9 at hP hG ⊢;obtain ⟨⟨e0,e1,e2,e3,e4,e5,e6,e7⟩,-⟩:=cells8 hP.1;exact bodyPost_ret (v:=nodeV (t) (a1) (c1)) (by simp [results,Try.results60,go_sem,e0,e1,e2,e3,e4,e5,e6,e7]) rfl hG
 ·rw [ej]
  have HJ:=hid ej;clear ej;have hn0:¬ (L.length:Int)=0:=by omega
  have hn1:¬ (L.length:Int)=1:=by omega
  go_enter Try.func60,Try.ntmps60
  go_upto_region 1 with fail;generalize ((w.alloc (.cells (ncells e ae ce) 27)).alloc (.cells nzeros 27))=W at *;obtain ⟨⟨d0,d1,d2,d3,d4,d5,d6,d7⟩,f0,f1,f2,f3,f4,f5,f6,f7⟩:=cells8 HR.out.out;have hlt:=HR.out.out.lt;go_wp2_with fail
  change bodyPost _ _ _ _ _ (putNd (W) (w.heap.size+1) 0 (.nd k ST.none 0 0 L) (a) (cap))
  have hP:=HR.out.put (.nd k ST.none 0 0 L) (a) (cap);have hG:=HR.out.gives (ok:=ok) (t:=.nd k ST.none 0 0 L) HC.out.1 (hlieL.out.mono fun k hk=>⟨.inl hk.1,by omega⟩)
  generalize (putNd (W) (w.heap.size+1) 0 (.nd k ST.none 0 0 L) (a) (cap))=W9 at hP hG ⊢;obtain ⟨⟨e0,e1,e2,e3,e4,e5,e6,e7⟩,-⟩:=cells8 hP.1;exact bodyPost_ret (v:=nodeV (.nd k ST.none 0 0 L) (a) (cap)) (by simp [results,Try.results60,go_sem,e0,e1,e2,e3,e4,e5,e6,e7]) rfl hG
end P10
end Go.Proofs.Ytlmfbchgkjgljaa
