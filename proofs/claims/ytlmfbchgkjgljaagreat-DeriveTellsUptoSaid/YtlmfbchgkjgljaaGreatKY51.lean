/- The document's By (layer 12): what is left behind a byte. -/
import Derived.Test.YtlmfbchgkjgljaaGreatKY50
import Derived.Test.YtlmfbchgkjgljaaGreatKY39
import Derived.Test.YtlmfbchgkjgljaaGreatKY30
import Derived.Test.YtlmfbchgkjgljaaGreatKY34
import Derived.Test.YtlmfbchgkjgljaaGreatKY29
set_option maxRecDepth 100000
set_option maxHeartbeats 32000000
open Go.Lib (hid)
namespace Go.Proofs.YtlmfbchgkjgljaaGreat
namespace P12
open Go.RowKit Base Bytes P07 P08 P09 P10
open Sets (ST)
theorem byL_map (b:Nat):∀ l:List T,byL b l=l.map (byT b)
 | []=>by rw [byL];rfl
 | t::l=>by rw [byL,byL_map b l];rfl
theorem byT_eq (b:Nat) (t:T):byT b t=if t.kind=2 then (if t.set.has b=true then epsT else noT) else if t.kind=3 then byC b t.subs else if t.kind=4 then altT (t.subs.map (byT b)) else if t.kind=5∧t.mx≠0 then byR b t.mn t.mx t.subs else noT:=by
 cases t
 rw [byT,byL_map]
 rfl
theorem nd_at {W:World} {n:Nat} {t:T} {a:Option Addr} {c:Nat} {ty:TypeId} (h:At W n ty (ncells t a c)) (i:Nat) (hi:i<4):W.cell? ⟨n,1+i,none⟩=some (.int .u64 (t.set.w i)):=by
 match i,hi with
 | 0,_=>exact h.cell (o:=1) rfl
 | 1,_=>exact h.cell (o:=2) rfl
 | 2,_=>exact h.cell (o:=3) rfl
 | 3,_=>exact h.cell (o:=4) rfl
theorem alt_rows (b:Nat) {l:List T} (h:∀ t ∈ l,Rs t) (hc:cntL l≤4000):RowsOk 4 8100 (l.map (byT b))∧∀ u ∈ unf 4 (l.map (byT b)),u.set.Ok:=by
 rw [← byL_map];have h1:=(byL_w b l h).1;have h2:=lenL l;have hrs:=(byL_rs b l h).1;refine ⟨⟨by rw [byL_map,List.length_map];omega,by omega,fun u hu=>?_⟩,?_⟩
 ·rw [byL_map] at hu
  obtain ⟨t,ht,rfl⟩:=List.mem_map.1 hu;obtain ⟨i,hi⟩:=List.mem_iff_getElem?.1 ht;have h4:=cntL_le hi;have:=by_subs b (h t ht);omega
 ·obtain ⟨d,hd⟩:=unf_rs hrs
  exact fun u hu=>ok_of (hd u hu).1
theorem rep_rows (b:Nat) {a r:T} (ha:Rs a) (hc:cnt a≤4000) (hr:cnt r≤1+cnt a):RowsOk 3 500000 [byT b a,r]:=by
 have h1:=(by_w b a ha).2;have h2:=by_subs b ha;have h3:=wk_cnt 3 r;have h4:=lenL r.subs;have h5:=cnt_eq r;refine ⟨by show 2≤500000;omega,by rw [unf_wk,unf_wk,unf_wk0];omega,fun u hu=>?_⟩
 simp only [List.mem_cons,List.not_mem_nil,or_false] at hu
 rcases hu with rfl | rfl <;> omega
theorem fby_step (n:Nat) (ih:∀ t:T,SizeOf.sizeOf t<n→FByOk t) (t:T) (hsz:SizeOf.sizeOf t<n+1):FByOk t:=by
 intro hRs hcnt b hb a c ok w hL hc;have hs:=hRs.sub;obtain ⟨d,hR,hS⟩:=id hRs;have hk0:=P10.kinds hR;obtain ⟨tt,htt⟩:∃ tt,byT b t=tt:=⟨_,rfl⟩;rw [htt];rw [byT_eq] at htt;have b0:=(At.new w (ncells t a c) 27).alloc (.cells nzeros 27);have r0:Rb w (w.heap.size+1) ((w.alloc (.cells (ncells t a c) 27)).alloc (.cells nzeros 27)):=by
  refine ⟨?_,((Keep.refl (fun _=>False) w).alloc _).alloc _,by omega⟩
  have:=At.new (w.alloc (.cells (ncells t a c) 27)) nzeros 27;rw [show (w.alloc (.cells (ncells t a c) 27)).heap.size=w.heap.size+1 from by simp] at this
  exact this
 have hct:1+cntL t.subs≤4000:=by rw [← cnt_eq];exact hcnt
 have HR:=hid r0;have HB:=hid b0;have HL:=hid (hL.under.keepF r0.keep);have H0:=hid (And.intro hR (And.intro hS (And.intro hs (And.intro ih (And.intro hsz (And.intro hct hc))))));clear r0 b0 hL hR hS hs ih hsz hct hc hcnt hRs
 by_cases h2:t.kind=2
 ·have k2:(t.kind == 2)=true:=by simpa using h2
  rw [if_pos h2] at htt;obtain ⟨h,hh⟩:∃ h,t.set.has b=h:=⟨_,rfl⟩;rw [hh] at htt;have hx0:=bit_mod (t.set.w (b / 64)) (b % 64);have hc1:=nd_at HB.out (b / 64) (by omega)
  have hx:((((t.set.w (b / 64):Int)) / 2 ^ (b % 64)).tmod 2 == 1)=h:=by rw [hx0,← hh];rfl
  clear hx0;have HT:=hid htt;clear htt hh hk0;generalize t.set.w (b / 64)=x at *
  go_enter Tryz.func14,Tryz.ntmps14
  go_upto_region 1 with fail;have hs0:((w.alloc (.cells (ncells t a c) 27)).alloc (.cells nzeros 27)).heap.size=w.heap.size+2:=by simp
  generalize ((w.alloc (.cells (ncells t a c) 27)).alloc (.cells nzeros 27))=W0 at *;have HS0:=hid hs0;clear hs0;obtain ⟨⟨y0,y1,y2,y3,y4,y5,y6,y7⟩,-⟩:=cells8 HB.out
  cases h
  ·have hT2:tt=noT:=by have:=HT.out;rw [if_neg (by decide)] at this;exact this.symm
   subst hT2;obtain ⟨⟨d0,d1,d2,d3,d4,d5,d6,d7⟩,f0,f1,f2,f3,f4,f5,f6,f7⟩:=cells8 HR.out.out;have hlt:=HR.out.out.lt;go_wp2_with fail
   change bodyPost _ _ _ _ _ (putNd (W0) (w.heap.size+1) 0 (noT) (none) (0))
   have hP:=HR.out.put (noT) (none) (0);have hG:=HR.out.gives (ok:=ok) (t:=noT) (Nat.le_refl 0) (.nil none);generalize (putNd (W0) (w.heap.size+1) 0 (noT) (none) (0))=W9 at hP hG ⊢;obtain ⟨⟨e0,e1,e2,e3,e4,e5,e6,e7⟩,-⟩:=cells8 hP.1;exact bodyPost_ret (v:=nodeV (noT) (none) (0)) (by simp [results,Tryz.results14,go_sem,e0,e1,e2,e3,e4,e5,e6,e7]) rfl hG
  ·have hT2:tt=epsT:=by have:=HT.out;rw [if_pos rfl] at this;exact this.symm
   subst hT2;obtain ⟨⟨d0,d1,d2,d3,d4,d5,d6,d7⟩,f0,f1,f2,f3,f4,f5,f6,f7⟩:=cells8 HR.out.out;have hlt:=HR.out.out.lt;go_wp2_with fail
   change bodyPost _ _ _ _ _ (putNd (W0) (w.heap.size+1) 0 (epsT) (none) (0))
   have hP:=HR.out.put (epsT) (none) (0);have hG:=HR.out.gives (ok:=ok) (t:=epsT) (Nat.le_refl 0) (.nil none);generalize (putNd (W0) (w.heap.size+1) 0 (epsT) (none) (0))=W9 at hP hG ⊢;obtain ⟨⟨e0,e1,e2,e3,e4,e5,e6,e7⟩,-⟩:=cells8 hP.1;exact bodyPost_ret (v:=nodeV (epsT) (none) (0)) (by simp [results,Tryz.results14,go_sem,e0,e1,e2,e3,e4,e5,e6,e7]) rfl hG
 have k2:(t.kind == 2)=false:=by simpa using h2
 rw [if_neg h2] at htt
 by_cases h3:t.kind=3
 ·have k3:(t.kind == 3)=true:=by simpa using h3
  rw [if_pos h3] at htt;have hm:=(many_is H0.out.1 (.inl h3)).2;have HC:=hid (fun W (q:Keep (fun _=>False) ((w.alloc (.cells (ncells t a c) 27)).alloc (.cells nzeros 27)) W)=>frow_any t.subs (fun u hu=>H0.out.2.2.2.1 u (by obtain ⟨i,hi⟩:=List.mem_iff_getElem?.1 hu;have:=sub_less hi;have:=H0.out.2.2.2.2.1;omega)) H0.out.2.2.1 (smp_3 H0.out.2.1 h3) (by intro e;rw [e] at hm;simp at hm) (by have:=H0.out.2.2.2.2.2.1;omega) b hb a c (fun k=>ok k∧k<w.heap.size) W (HL.out.keepF q) H0.out.2.2.2.2.2.2)
  rw [htt] at HC;clear htt hk0 hm h2 h3
  go_enter Tryz.func14,Tryz.ntmps14
  go_upto_region 1 with fail;have hs0:((w.alloc (.cells (ncells t a c) 27)).alloc (.cells nzeros 27)).heap.size=w.heap.size+2:=by simp
  generalize ((w.alloc (.cells (ncells t a c) 27)).alloc (.cells nzeros 27))=W0 at *;have HS0:=hid hs0;clear hs0;obtain ⟨⟨y0,y1,y2,y3,y4,y5,y6,y7⟩,-⟩:=cells8 HB.out;go_wp2_with fail;refine (HC.out W0 (Keep.refl _ _)).mono ?_;rintro e w2 ⟨⟨v,rfl,ka,kc,rfl,hle,hlie⟩,q2⟩;have R2:=hid (HR.out.next q2);have HE:=hid (And.intro hle (hlie.mono (ok':=fun k=>(ok k∨w.heap.size≤k)∧k≠w.heap.size+1) (fun k hk=>by have z0:=HS0.out;rcases hk with hk | hk;exact ⟨.inl hk.1,by omega⟩;exact ⟨.inr (by omega),by omega⟩)))
  clear hle hlie q2;obtain ⟨⟨d0,d1,d2,d3,d4,d5,d6,d7⟩,f0,f1,f2,f3,f4,f5,f6,f7⟩:=cells8 R2.out.out;have hlt:=R2.out.out.lt;go_wp2_with fail
  change bodyPost _ _ _ _ _ (putNd (w2) (w.heap.size+1) 0 (tt) (ka) (kc))
  have hP:=R2.out.put (tt) (ka) (kc);have hG:=R2.out.gives (ok:=ok) (t:=tt) HE.out.1 HE.out.2;generalize (putNd (w2) (w.heap.size+1) 0 (tt) (ka) (kc))=W9 at hP hG ⊢;obtain ⟨⟨e0,e1,e2,e3,e4,e5,e6,e7⟩,-⟩:=cells8 hP.1;exact bodyPost_ret (v:=nodeV (tt) (ka) (kc)) (by simp [results,Tryz.results14,go_sem,e0,e1,e2,e3,e4,e5,e6,e7]) rfl hG
 have k3:(t.kind == 3)=false:=by simpa using h3
 rw [if_neg h3] at htt
 by_cases h4:t.kind=4
 ·have k4:(t.kind == 4)=true:=by simpa using h4
  rw [if_pos h4] at htt;have HTT:=hid htt;have hi:(t.subs.length:Int)≤4000:=by have:=lenL t.subs;have:=H0.out.2.2.2.2.2.1;omega
  have hi':t.subs.length≤4000:=by omega
  clear htt hk0 h2 h3 h4
  go_enter Tryz.func14,Tryz.ntmps14
  go_upto_region 1 with fail;have hs0:((w.alloc (.cells (ncells t a c) 27)).alloc (.cells nzeros 27)).heap.size=w.heap.size+2:=by simp
  generalize ((w.alloc (.cells (ncells t a c) 27)).alloc (.cells nzeros 27))=W0 at *;have HS0:=hid hs0;clear hs0;obtain ⟨⟨y0,y1,y2,y3,y4,y5,y6,y7⟩,-⟩:=cells8 HB.out;go_upto_region 8 with fail;have HY:=hid HB.out;clear y0 y1 y2 y3 y4 y5 y6 y7;go_wp2_with fail
  go_loopg [5,6] t.subs.length (fun gg u i wr=>∃ k:Nat,i=.int .i64 k∧k+gg=t.subs.length∧OT wr (fun b=>(ok b∧b<w.heap.size)∨w.heap.size+2≤b) u ((t.subs.take k).map (byT b))∧Own (w.heap.size+2) u∧Keep (fun _=>False) W0 wr)
  case atStart=>exact ⟨0,rfl,by omega,OT.nil _ _,Own.nil _,Keep.refl _ _⟩
  case round =>
   obtain ⟨k,rfl,hk,hrow,hown,hq⟩:=hrel;have k0:(0:Int)≤k:=by omega
   obtain ⟨⟨y0,y1,y2,y3,y4,y5,y6,y7⟩,-⟩:=cells8 (HY.out.keep hq (fun h=>h))
   by_cases hlt:k<t.subs.length
   ·have hlt':(k:Int)<t.subs.length:=by omega
    obtain ⟨s,hs⟩:∃ s,t.subs[k]?=some s:=⟨t.subs[k],List.getElem?_eq_getElem hlt⟩;obtain ⟨bl,off,a1,c1,ea,-,-,le1,L1,C1⟩:=(HL.out.keepF hq).get hs;obtain ⟨z0,z1,z2,z3,z4,z5,z6,z7⟩:=ncell C1;have hIH:=H0.out.2.2.2.1 s (by have:=sub_less hs;have:=H0.out.2.2.2.2.1;omega) (H0.out.2.2.1 s (List.mem_of_getElem? hs)) (by have:=cntL_le hs;have:=H0.out.2.2.2.2.2.1;omega) b hb a1 c1 (fun b=>ok b∧b<w.heap.size) wr L1 le1
    have hol:∀ g,u5.ownBlock=some g→g<wr.heap.size:=fun g hg=>by
     obtain ⟨X,⟨h1,-⟩,-⟩:=hrow
     rcases h1.2 with ⟨rfl,-⟩ | ⟨g',cap,cur,rfl,hb,hc,r⟩
     ·cases hg
     ·have h2:At wr g' 27 cur:=hc
      injection hg with hg;rw [← hg];exact h2.lt
    have J:=hid (And.intro hrow (And.intro hown (And.intro hq (And.intro hs (And.intro hol hIH)))));have ea':a=some ⟨bl,off,none⟩:=ea;clear hrow hown hq hs L1 C1 le1 hIH ea hol;subst ea';go_wp2_with fail;refine J.out.2.2.2.2.2.mono ?_;rintro e w2 ⟨⟨v,rfl,ra,rc,rfl,hle,hlie⟩,q2⟩;have hsz2:=q2.size;have hsz3:=(J.out.2.2.1).size;have hsz0:=HS0.out
    obtain ⟨v',w9,hrun,g1,g2,g3⟩:=(J.out.1.keep q2 (fun _ _ h=>h)).push (byT b s) ra rc hle (hlie.mono fun b hb=>⟨by
      rcases hb with hb | hb
      ·exact .inl hb
      ·exact .inr (by omega),fun e=>by
      have h1:=J.out.2.1 b e;have h2:=J.out.2.2.2.2.1 b e
      rcases hb with hb | hb
      ·omega
      ·omega⟩) (by rw [List.length_map,List.length_take];omega) (fun g hg=>.inr (by omega)) 25
    have H9:=hid (show OT w9 (fun b=>(ok b∧b<w.heap.size)∨w.heap.size+2≤b) v' ((t.subs.take (k+1)).map (byT b))∧Own (w.heap.size+2) v'∧Keep (fun _=>False) W0 w9 from by
     refine ⟨?_,J.out.2.1.next (n1:=w2.heap.size) (by omega) g3,(J.out.2.2.1.trans q2).next g2 (fun i hi hl=>by have:=J.out.2.1 i hi;omega)⟩
     have e4:(t.subs.take (k+1)).map (byT b)=(t.subs.take k).map (byT b)++[byT b s]:=by
      rw [List.take_add_one,J.out.2.2.2.1,List.map_append]
      rfl
     rw [e4]
     exact g1)
    clear g1 g2 g3 hle hlie q2 hsz2 hsz3 hsz0 y0 y1 y2 y3 y4 y5 y6 y7 z0 z1 z2 z3 z4 z5 z6 z7;obtain ⟨X,hX⟩:∃ X,byT b s=X:=⟨_,rfl⟩;rw [hX] at hrun ⊢;clear hX;go_wp2_with (at_builtin;refine Lib.wpList_append_run _ rfl _ _ _ _ rfl _ _ rfl rfl _ _ hrun ?_);clear hrun;go_wp2_with fail
    go_roundg (t.subs.length - (k+1))
    case measure=>omega
    case rel=>exact ⟨k+1,by go_num,by omega,H9.out⟩
   ·have hke:k=t.subs.length:=by omega
    subst hke;rw [List.take_length] at hrow;obtain ⟨fa,fc,hu,hfc,hlf⟩:=hrow.form;have hal:=alt_rows b H0.out.2.2.1 (by have:=H0.out.2.2.2.2.2.1;omega)
    have R1:=hid (HR.out.next hq)
    have hlieR:=hlf.mono (ok':=fun b=>(ok b∨w.heap.size≤b)∧b≠w.heap.size+1) (fun b hb=>by
     rcases hb with hb | hb
     ·exact ⟨.inl hb.1,by omega⟩
     ·exact ⟨.inr (by omega),by omega⟩)
    have HC:=hid (falt_len (t.subs.map (byT b)) fa fc (fun b=>(ok b∨w.heap.size≤b)∧b≠w.heap.size+1) wr hlieR hal.1 hal.2)
    rw [HTT.out,List.length_map] at HC;have HZ:=hid hq.size;rw [List.length_map] at hu;subst hu;clear hrow hown hq hlf hfc hal hlieR;go_wp2_with fail;refine HC.out.mono ?_;rintro e w2 ⟨⟨v,rfl,ka,kc,rfl,hle,hlie⟩,q2⟩;have R2:=hid (R1.out.next q2);have HE:=hid (And.intro hle (hlie.mono (ok':=fun k=>(ok k∨w.heap.size≤k)∧k≠w.heap.size+1) (fun k hk=>by have z0:=HS0.out;have z1:=HZ.out;rcases hk with hk | hk;exact hk;exact ⟨.inr (by omega),by omega⟩)))
    clear hle hlie q2 y0 y1 y2 y3 y4 y5 y6 y7;obtain ⟨⟨d0,d1,d2,d3,d4,d5,d6,d7⟩,f0,f1,f2,f3,f4,f5,f6,f7⟩:=cells8 R2.out.out;have hlt:=R2.out.out.lt;go_wp2_with fail
    change bodyPost _ _ _ _ _ (putNd (w2) (w.heap.size+1) 0 (tt) (ka) (kc))
    have hP:=R2.out.put (tt) (ka) (kc);have hG:=R2.out.gives (ok:=ok) (t:=tt) HE.out.1 HE.out.2;generalize (putNd (w2) (w.heap.size+1) 0 (tt) (ka) (kc))=W9 at hP hG ⊢;obtain ⟨⟨e0,e1,e2,e3,e4,e5,e6,e7⟩,-⟩:=cells8 hP.1;exact bodyPost_ret (v:=nodeV (tt) (ka) (kc)) (by simp [results,Tryz.results14,go_sem,e0,e1,e2,e3,e4,e5,e6,e7]) rfl hG
 have k4:(t.kind == 4)=false:=by simpa using h4
 rw [if_neg h4] at htt
 by_cases h5:t.kind=5
 ·have k5:(t.kind == 5)=true:=by simpa using h5
  obtain ⟨u,mn,mx,et,m0,m1,bx,hI⟩:=rep_is H0.out.1 h5;have hmx:t.mx≠0:=by
   have:=H0.out.2.1;rw [et,smp_nd] at this;rw [et];exact (this.2.2.2 rfl).1
  rw [if_pos ⟨h5,hmx⟩] at htt;have hsub:t.subs=[u]:=by rw [et];rfl
  have emn:t.mn=mn:=by rw [et];rfl
  have emx:t.mx=mx:=by rw [et];rfl
  have hu:=H0.out.2.2.1 u (by rw [hsub];simp)
  have hSu:Smp u:=smp_subs H0.out.2.1 u (by rw [hsub];simp)
  have hcu:cnt u≤4000:=by have:=H0.out.2.2.2.2.2.1;rw [hsub,cntL,cntL] at this;omega
  have hrr:=rs_rep hI hSu m0 m1 bx (by rw [← emx];exact hmx)
  rw [hsub,byR] at htt;obtain ⟨M,hM⟩:∃ M,max (t.mn - 1) 0=M:=⟨_,rfl⟩;obtain ⟨H,hH⟩:∃ H,(if 0<t.mx then t.mx - 1 else t.mx)=H:=⟨_,rfl⟩
  rw [hM,hH] at htt;rw [← emn,← emx,hM,hH] at hrr;obtain ⟨bl,off,a1,c1,rfl,hokb,hbl,le1,L1,C1⟩:=HL.out.get (i:=0) (t:=u) (by rw [hsub];rfl)
  have HOK:=hid hokb.2;clear hokb;have hRow:=rep_rows b hu hcu hrr.2;have hIH:=H0.out.2.2.2.1 u (by have:=sub_less (a:=t) (i:=0) (t:=u) (by rw [hsub];rfl);have:=H0.out.2.2.2.2.1;omega) hu hcu b hb a1 c1 (fun k=>ok k∧k<w.heap.size)
  have NP:NodeP ((w.alloc (.cells (ncells t (some ⟨bl,off,none⟩) c) 27)).alloc (.cells nzeros 27)) bl off u a1 c1:=⟨hbl,fun j v hv=>by have:=C1 j v hv;rw [Nat.zero_mul,Nat.add_zero] at this;exact this⟩
  have HBy:=hid (fun W (q:Keep (fun _=>False) ((w.alloc (.cells (ncells t (some ⟨bl,off,none⟩) c) 27)).alloc (.cells nzeros 27)) W)=>hIH W (L1.keepF q) le1)
  have HRe:=hid (fun W (q:Keep (fun _=>False) ((w.alloc (.cells (ncells t (some ⟨bl,off,none⟩) c) 27)).alloc (.cells nzeros 27)) W)=>frep_any u M H a1 c1 (fun k=>ok k∧k<w.heap.size) W (L1.keepF q) le1)
  obtain ⟨ub,hub⟩:∃ ub,byT b u=ub:=⟨_,rfl⟩;obtain ⟨ur,hur⟩:∃ ur,repP u M H=ur:=⟨_,rfl⟩;rw [hub] at HBy hRow htt;rw [hur] at HRe hRow htt;have HRow:=hid hRow;have HTj:=hid htt;have HNP:=hid NP;have hl1:t.subs.length=1:=by rw [hsub];rfl
  have HM:=hid hM;have hms:IntKind.i64.wrap (t.mn - 1)=t.mn - 1:=by rw [IntKind.wrap_i64];omega
  have hmt:wrap64 (t.mx - 1)=t.mx - 1:=by unfold wrap64;omega
  clear htt hk0 h2 h3 h4 h5 et emn emx hI m0 m1 bx hsub hu hSu hcu hrr L1 C1 le1 hRow hIH NP hub hur hbl hM
  go_enter Tryz.func14,Tryz.ntmps14
  go_upto_region 1 with fail;have hs0:((w.alloc (.cells (ncells t (some ⟨bl,off,none⟩) c) 27)).alloc (.cells nzeros 27)).heap.size=w.heap.size+2:=by simp
  generalize ((w.alloc (.cells (ncells t (some ⟨bl,off,none⟩) c) 27)).alloc (.cells nzeros 27))=W0 at *;have HS0:=hid hs0;clear hs0;obtain ⟨⟨y0,y1,y2,y3,y4,y5,y6,y7⟩,-⟩:=cells8 HB.out;rw [hl1] at y7;have nmx:(t.mx != 0)=true:=by simpa using hmx
  by_cases hp:0<t.mx
  ·have HH:=hid (show t.mx - 1=H by rw [← hH,if_pos hp])
   rw [← HM.out,← HH.out] at HRe;clear hH;go_upto_region 19 with fail;have HS:=hid (fun (W':World) (q:Keep (fun _=>False) W0 W')=>And.intro (by obtain ⟨⟨y0,y1,y2,y3,y4,y5,y6,y7⟩,-⟩:=cells8 (HB.out.keep q (fun h=>h));rw [hl1] at y7;exact ⟨y0,y1,y2,y3,y4,y5,y6,y7⟩:W'.cell? ⟨w.heap.size,0,none⟩=some (.int .i64 t.kind)∧W'.cell? ⟨w.heap.size,1,none⟩=some (.int .u64 t.set.x0)∧W'.cell? ⟨w.heap.size,2,none⟩=some (.int .u64 t.set.x1)∧W'.cell? ⟨w.heap.size,3,none⟩=some (.int .u64 t.set.x2)∧W'.cell? ⟨w.heap.size,4,none⟩=some (.int .u64 t.set.x3)∧W'.cell? ⟨w.heap.size,5,none⟩=some (.int .i64 t.mn)∧W'.cell? ⟨w.heap.size,6,none⟩=some (.int .i64 t.mx)∧W'.cell? ⟨w.heap.size,7,none⟩=some (.slice (some ⟨bl,off,none⟩) 1 c)) ((HNP.out.keepF q).eight))
   refine wp_region_noPanic ?_;refine wp_region_held_drew (S:=(fun W=>(W.cell? ⟨w.heap.size,0,none⟩=some (.int .i64 t.kind)∧W.cell? ⟨w.heap.size,1,none⟩=some (.int .u64 t.set.x0)∧W.cell? ⟨w.heap.size,2,none⟩=some (.int .u64 t.set.x1)∧W.cell? ⟨w.heap.size,3,none⟩=some (.int .u64 t.set.x2)∧W.cell? ⟨w.heap.size,4,none⟩=some (.int .u64 t.set.x3)∧W.cell? ⟨w.heap.size,5,none⟩=some (.int .i64 t.mn)∧W.cell? ⟨w.heap.size,6,none⟩=some (.int .i64 t.mx)∧W.cell? ⟨w.heap.size,7,none⟩=some (.slice (some ⟨bl,off,none⟩) 1 c))∧W.cell? ⟨bl,off,none⟩=some (.int .i64 u.kind)∧W.cell? ⟨bl,off+1,none⟩=some (.int .u64 u.set.x0)∧W.cell? ⟨bl,off+2,none⟩=some (.int .u64 u.set.x1)∧W.cell? ⟨bl,off+3,none⟩=some (.int .u64 u.set.x2)∧W.cell? ⟨bl,off+4,none⟩=some (.int .u64 u.set.x3)∧W.cell? ⟨bl,off+5,none⟩=some (.int .i64 u.mn)∧W.cell? ⟨bl,off+6,none⟩=some (.int .i64 u.mx)∧W.cell? ⟨bl,off+7,none⟩=some (.slice a1 u.subs.length c1))) (by kernel_rfl) ?_ (fun hHeld=>?_)
   ·exact HS.out _ ((Keep.refl _ _).drew)
   refine wpAnyH_take (i:=0) (oi:=⟨_,_,_,_,_,_⟩) (v:=?_) rfl (by kernel_rfl) (by kernel_rfl) (by kernel_rfl) (fun _ _ _ h=>h) (Or.inl ⟨by rfl,?_⟩) (by assumption) ?_
   rotate_left 1
   ·(intro w hSw;(try dsimp only at hSw);go_simp;first | done | with_reducible rfl)
   try simp only [Act.put,List.setIfInBounds_toArray,List.set_cons_zero,List.set_cons_succ]
   refine wpAnyH_take (i:=1) (oi:=⟨_,_,_,_,_,_⟩) (v:=?_) rfl (by kernel_rfl) (by kernel_rfl) (by kernel_rfl) (fun _ _ _ h=>h) (Or.inl ⟨by rfl,?_⟩) (by assumption) ?_
   rotate_left 1
   ·(intro w hSw;(try dsimp only at hSw);go_simp;first | done | with_reducible rfl)
   try simp only [Act.put,List.setIfInBounds_toArray,List.set_cons_zero,List.set_cons_succ]
   refine wpAnyH_take (i:=2) (oi:=⟨_,_,_,_,_,_⟩) (v:=?_) rfl (by kernel_rfl) (by kernel_rfl) (by kernel_rfl) (fun _ _ _ h=>h) (Or.inl ⟨by rfl,?_⟩) (by assumption) ?_
   rotate_left 1
   ·(intro w hSw;(try dsimp only at hSw);go_simp;first | done | with_reducible rfl)
   try simp only [Act.put,List.setIfInBounds_toArray,List.set_cons_zero,List.set_cons_succ]
   refine wpAnyH_take (i:=3) (oi:=⟨_,_,_,_,_,_⟩) (v:=?_) rfl (by kernel_rfl) (by kernel_rfl) (by kernel_rfl) (fun _ _ _ h=>h) (Or.inl ⟨by rfl,?_⟩) (by assumption) ?_
   rotate_left 1
   ·(intro w hSw;(try dsimp only at hSw);go_simp;first | done | with_reducible rfl)
   try simp only [Act.put,List.setIfInBounds_toArray,List.set_cons_zero,List.set_cons_succ]
   refine wpAnyH_take (i:=4) (oi:=⟨_,_,_,_,_,_⟩) (v:=?_) rfl (by kernel_rfl) (by kernel_rfl) (by kernel_rfl) (fun _ _ _ h=>h) (Or.inl ⟨by rfl,?_⟩) (by assumption) ?_
   rotate_left 1
   ·(intro w hSw;(try dsimp only at hSw);go_simp;first | done | with_reducible rfl)
   try simp only [Act.put,List.setIfInBounds_toArray,List.set_cons_zero,List.set_cons_succ]
   refine wpAnyH_take (i:=6) (oi:=⟨_,_,_,_,_,_⟩) (v:=?_) rfl (by kernel_rfl) (by kernel_rfl) (by kernel_rfl) (fun _ _ _ h=>h) (Or.inl ⟨by rfl,?_⟩) (by assumption) ?_
   rotate_left 1
   ·(intro w hSw;(try dsimp only at hSw);go_simp;first | done | with_reducible rfl)
   try simp only [Act.put,List.setIfInBounds_toArray,List.set_cons_zero,List.set_cons_succ]
   refine wpAnyH_take (i:=7) (oi:=⟨_,_,_,_,_,_⟩) (v:=?_) rfl (by kernel_rfl) (by kernel_rfl) (by kernel_rfl) (fun _ _ _ h=>h) (Or.inl ⟨by rfl,?_⟩) (by assumption) ?_
   rotate_left 1
   ·(intro w hSw;(try dsimp only at hSw);go_simp;first | done | with_reducible rfl)
   try simp only [Act.put,List.setIfInBounds_toArray,List.set_cons_zero,List.set_cons_succ]
   refine wpAnyH_take (i:=8) (oi:=⟨_,_,_,_,_,_⟩) (v:=?_) rfl (by kernel_rfl) (by kernel_rfl) (by kernel_rfl) (fun _ _ _ h=>h) (Or.inl ⟨by rfl,?_⟩) (by assumption) ?_
   rotate_left 1
   ·(intro w hSw;(try dsimp only at hSw);go_simp;first | done | with_reducible rfl)
   try simp only [Act.put,List.setIfInBounds_toArray,List.set_cons_zero,List.set_cons_succ]
   refine wpAnyH_take (i:=9) (oi:=⟨_,_,_,_,_,_⟩) (v:=?_) rfl (by kernel_rfl) (by kernel_rfl) (by kernel_rfl) (fun _ _ _ h=>h) (Or.inl ⟨by rfl,?_⟩) (by assumption) ?_
   rotate_left 1
   ·(intro w hSw;(try dsimp only at hSw);go_simp;first | done | with_reducible rfl)
   try simp only [Act.put,List.setIfInBounds_toArray,List.set_cons_zero,List.set_cons_succ]
   refine wpAnyH_take (i:=10) (oi:=⟨_,_,_,_,_,_⟩) (v:=?_) rfl (by kernel_rfl) (by kernel_rfl) (by kernel_rfl) (fun _ _ _ h=>h) (Or.inl ⟨by rfl,?_⟩) (by assumption) ?_
   rotate_left 1
   ·(intro w hSw;(try dsimp only at hSw);go_simp;first | done | with_reducible rfl)
   try simp only [Act.put,List.setIfInBounds_toArray,List.set_cons_zero,List.set_cons_succ]
   refine wpAnyH_take (i:=11) (oi:=⟨_,_,_,_,_,_⟩) (v:=?_) rfl (by kernel_rfl) (by kernel_rfl) (by kernel_rfl) (fun _ _ _ h=>h) (Or.inl ⟨by rfl,?_⟩) (by assumption) ?_
   rotate_left 1
   ·(intro w hSw;(try dsimp only at hSw);go_simp;first | done | with_reducible rfl)
   try simp only [Act.put,List.setIfInBounds_toArray,List.set_cons_zero,List.set_cons_succ]
   refine wpAnyH_take (i:=12) (oi:=⟨_,_,_,_,_,_⟩) (v:=?_) rfl (by kernel_rfl) (by kernel_rfl) (by kernel_rfl) (fun _ _ _ h=>h) (Or.inl ⟨by rfl,?_⟩) (by assumption) ?_
   rotate_left 1
   ·(intro w hSw;(try dsimp only at hSw);go_simp;first | done | with_reducible rfl)
   try simp only [Act.put,List.setIfInBounds_toArray,List.set_cons_zero,List.set_cons_succ]
   refine wpAnyH_take (i:=13) (oi:=⟨_,_,_,_,_,_⟩) (v:=?_) rfl (by kernel_rfl) (by kernel_rfl) (by kernel_rfl) (fun _ _ _ h=>h) (Or.inl ⟨by rfl,?_⟩) (by assumption) ?_
   rotate_left 1
   ·(intro w hSw;(try dsimp only at hSw);go_simp;first | done | with_reducible rfl)
   try simp only [Act.put,List.setIfInBounds_toArray,List.set_cons_zero,List.set_cons_succ]
   refine wpAnyH_take (i:=14) (oi:=⟨_,_,_,_,_,_⟩) (v:=?_) rfl (by kernel_rfl) (by kernel_rfl) (by kernel_rfl) (fun _ _ _ h=>h) (Or.inl ⟨by rfl,?_⟩) (by assumption) ?_
   rotate_left 1
   ·(intro w hSw;(try dsimp only at hSw);go_simp;first | done | with_reducible rfl)
   try simp only [Act.put,List.setIfInBounds_toArray,List.set_cons_zero,List.set_cons_succ]
   refine wpAnyH_ready (rs:=[5]) (by kernel_rfl) (by simp) ?_
   refine (AllReadyH.cons (o:=⟨_,_,_,_,_,_⟩) rfl (fun K hK=>?_) AllReadyH.nil)
   go_simp
   (go_at_call 14;refine (HBy.out _ ((Keep.refl (fun _=>False) W0).drew)).mono ?_;rintro e w5 ⟨⟨v,rfl,ja,jc,rfl,hle,hlie⟩,q5⟩)
   have K5:=hid (((Keep.refl (fun _=>False) W0).drew).trans q5)
   have N5:=hid (And.intro hle (hlie.mono (ok':=fun k=>(ok k∨w.heap.size≤k)∧k≠w.heap.size+1) (fun k hk=>by have z0:=HS0.out;have z1:=((Keep.refl (fun _=>False) W0).drew).size;rcases hk with hk | hk;exact ⟨.inl hk.1,by omega⟩;exact ⟨.inr (by omega),by omega⟩)))
   clear hle hlie q5;refine hK.out _ _ ?_ (fun hHeld'=>?_)
   ·exact HS.out _ K5.out
   clear hK K hHeld;have hHeld:=hHeld';clear hHeld'
   try simp only [Act.put,List.setIfInBounds_toArray,List.set_cons_zero,List.set_cons_succ]
   refine wpAnyH_ready (rs:=[15]) (by kernel_rfl) (by simp) ?_
   refine (AllReadyH.cons (o:=⟨_,_,_,_,_,_⟩) rfl (fun K hK=>?_) AllReadyH.nil)
   go_simp
   (go_at_call 36;refine (HRe.out _ K5.out).mono ?_;rintro e w6 ⟨⟨v,rfl,ka,kc,rfl,hle,hlie⟩,q6⟩)
   have K6:=hid (K5.out.trans q6);have N5:=hid (And.intro N5.out.1 (N5.out.2.keepF q6));have N6:=hid (And.intro hle (hlie.mono (ok':=fun k=>(ok k∨w.heap.size≤k)∧k≠w.heap.size+1) (fun k hk=>by have z0:=HS0.out;have z1:=K5.out.size;rcases hk with hk | hk;exact ⟨.inl hk.1,by omega⟩;exact ⟨.inr (by omega),by omega⟩)))
   clear hle hlie q6;refine hK.out _ _ ?_ (fun hHeld'=>?_)
   ·exact HS.out _ K6.out
   clear hK K hHeld;have hHeld:=hHeld';clear hHeld'
   try simp only [Act.put,List.setIfInBounds_toArray,List.set_cons_zero,List.set_cons_succ]
   refine wpAnyH_ready (rs:=[16]) (by kernel_rfl) (by simp) ?_
   refine (AllReadyH.cons (o:=⟨_,_,_,_,_,_⟩) rfl (fun K hK=>?_) AllReadyH.nil)
   have L7:=hid ((lie_twoE N5.out.2 N6.out.2 N5.out.1 N6.out.1).mono (ok':=fun k=>(ok k∨w.heap.size≤k)∧k≠w.heap.size+1) (fun k hk=>by have z0:=HS0.out;have z1:=K6.out.size;rcases hk with hk | hk;exact hk;exact ⟨.inr (by omega),by omega⟩))
   have K7:=hid (K6.out.trans ((Keep.refl (fun _=>False) w6).alloc (.cells (ncells ub ja jc++ncells ur ka kc) 27)))
   go_simp;refine hK.out _ (w6.alloc (.cells (ncells ub ja jc++ncells ur ka kc) 27)) ?_ (fun hHeld'=>?_)
   ·exact HS.out _ K7.out
   clear hK K hHeld;have hHeld:=hHeld';clear hHeld';generalize (w6.alloc (.cells (ncells ub ja jc++ncells ur ka kc) 27))=wB at *
   try simp only [Act.put,List.setIfInBounds_toArray,List.set_cons_zero,List.set_cons_succ]
   refine wpAnyH_ready (rs:=[17]) (by kernel_rfl) (by simp) ?_
   refine (AllReadyH.cons (o:=⟨_,_,_,_,_,_⟩) rfl (fun K hK=>?_) AllReadyH.nil)
   have HC:=hid (fcat_len [ub,ur] (some ⟨w6.heap.size,0,none⟩) 2 (fun k=>(ok k∨w.heap.size≤k)∧k≠w.heap.size+1) _ L7.out HRow.out)
   go_simp
   (go_at_call 35;refine HC.out.mono ?_;rintro e w9 ⟨⟨v,rfl,xa,xc,rfl,hle,hlie⟩,q9⟩)
   rw [HTj.out] at hle hlie;rw [HTj.out];have N9:=hid (And.intro hle (hlie.mono (ok':=fun k=>(ok k∨w.heap.size≤k)∧k≠w.heap.size+1) (fun k hk=>by have z0:=HS0.out;have z1:=K7.out.size;rcases hk with hk | hk;exact hk;exact ⟨.inr (by omega),by omega⟩)))
   have R9:=hid (HR.out.next (K7.out.trans q9));have K9:=hid (K7.out.trans q9);clear hle hlie q9;refine hK.out _ _ ?_ (fun hHeld'=>?_)
   ·exact HS.out _ K9.out
   clear hK K hHeld;have hHeld:=hHeld';clear hHeld'
   try simp only [Act.put,List.setIfInBounds_toArray,List.set_cons_zero,List.set_cons_succ]
   refine wpAnyH_ready (rs:=[18]) (by kernel_rfl) (by simp) ?_
   refine (AllReadyH.cons (o:=⟨_,_,_,_,_,_⟩) rfl (fun K hK=>?_) AllReadyH.nil)
   obtain ⟨⟨d0,d1,d2,d3,d4,d5,d6,d7⟩,f0,f1,f2,f3,f4,f5,f6,f7⟩:=cells8 R9.out.out;have hlt:=R9.out.out.lt;have hP:=R9.out.put (tt) (xa) (xc);have hG:=R9.out.gives (ok:=ok) N9.out.1 N9.out.2;have HSP:=hid (And.intro (by obtain ⟨⟨y0,y1,y2,y3,y4,y5,y6,y7⟩,-⟩:=cells8 ((HB.out.keep K9.out (fun h=>h)).keep (putNd_keep w9 (w.heap.size+1) 0 tt xa xc) (fun h=>by have h:w.heap.size=w.heap.size+1:=h;omega));rw [hl1] at y7;exact ⟨y0,y1,y2,y3,y4,y5,y6,y7⟩:(putNd w9 (w.heap.size+1) 0 tt xa xc).cell? ⟨w.heap.size,0,none⟩=some (.int .i64 t.kind)∧(putNd w9 (w.heap.size+1) 0 tt xa xc).cell? ⟨w.heap.size,1,none⟩=some (.int .u64 t.set.x0)∧(putNd w9 (w.heap.size+1) 0 tt xa xc).cell? ⟨w.heap.size,2,none⟩=some (.int .u64 t.set.x1)∧(putNd w9 (w.heap.size+1) 0 tt xa xc).cell? ⟨w.heap.size,3,none⟩=some (.int .u64 t.set.x2)∧(putNd w9 (w.heap.size+1) 0 tt xa xc).cell? ⟨w.heap.size,4,none⟩=some (.int .u64 t.set.x3)∧(putNd w9 (w.heap.size+1) 0 tt xa xc).cell? ⟨w.heap.size,5,none⟩=some (.int .i64 t.mn)∧(putNd w9 (w.heap.size+1) 0 tt xa xc).cell? ⟨w.heap.size,6,none⟩=some (.int .i64 t.mx)∧(putNd w9 (w.heap.size+1) 0 tt xa xc).cell? ⟨w.heap.size,7,none⟩=some (.slice (some ⟨bl,off,none⟩) 1 c)) (((HNP.out.keepF K9.out).keep (putNd_keep w9 (w.heap.size+1) 0 tt xa xc) (fun h=>by have h:bl=w.heap.size+1:=h;have:=HOK.out;omega)).eight))
   have HPG:=hid (And.intro hP.1 hG);clear hP hG;go_simp;refine hK.out _ (putNd w9 (w.heap.size+1) 0 tt xa xc) ?_ (fun hHeld'=>?_)
   ·exact HSP.out
   clear hK K hHeld;have hHeld:=hHeld';clear hHeld';generalize (putNd w9 (w.heap.size+1) 0 tt xa xc)=W9 at *
   try simp only [Act.put,List.setIfInBounds_toArray,List.set_cons_zero,List.set_cons_succ]
   refine wpAnyH_done (by kernel_rfl) ?_ _
   refine NoPanic.normal ?_;rotate_left 1;obtain ⟨⟨e0,e1,e2,e3,e4,e5,e6,e7⟩,-⟩:=cells8 HPG.out.1;go_wp2_with fail;exact bodyPost_ret (v:=nodeV (tt) (xa) (xc)) (by simp [results,Tryz.results14,go_sem,e0,e1,e2,e3,e4,e5,e6,e7]) rfl HPG.out.2
  ·have HH:=hid (show t.mx=H by rw [← hH,if_neg hp])
   rw [← HM.out,← HH.out] at HRe;clear hH;go_upto_region 19 with fail;have HS:=hid (fun (W':World) (q:Keep (fun _=>False) W0 W')=>And.intro (by obtain ⟨⟨y0,y1,y2,y3,y4,y5,y6,y7⟩,-⟩:=cells8 (HB.out.keep q (fun h=>h));rw [hl1] at y7;exact ⟨y0,y1,y2,y3,y4,y5,y6,y7⟩:W'.cell? ⟨w.heap.size,0,none⟩=some (.int .i64 t.kind)∧W'.cell? ⟨w.heap.size,1,none⟩=some (.int .u64 t.set.x0)∧W'.cell? ⟨w.heap.size,2,none⟩=some (.int .u64 t.set.x1)∧W'.cell? ⟨w.heap.size,3,none⟩=some (.int .u64 t.set.x2)∧W'.cell? ⟨w.heap.size,4,none⟩=some (.int .u64 t.set.x3)∧W'.cell? ⟨w.heap.size,5,none⟩=some (.int .i64 t.mn)∧W'.cell? ⟨w.heap.size,6,none⟩=some (.int .i64 t.mx)∧W'.cell? ⟨w.heap.size,7,none⟩=some (.slice (some ⟨bl,off,none⟩) 1 c)) ((HNP.out.keepF q).eight))
   refine wp_region_noPanic ?_;refine wp_region_held_drew (S:=(fun W=>(W.cell? ⟨w.heap.size,0,none⟩=some (.int .i64 t.kind)∧W.cell? ⟨w.heap.size,1,none⟩=some (.int .u64 t.set.x0)∧W.cell? ⟨w.heap.size,2,none⟩=some (.int .u64 t.set.x1)∧W.cell? ⟨w.heap.size,3,none⟩=some (.int .u64 t.set.x2)∧W.cell? ⟨w.heap.size,4,none⟩=some (.int .u64 t.set.x3)∧W.cell? ⟨w.heap.size,5,none⟩=some (.int .i64 t.mn)∧W.cell? ⟨w.heap.size,6,none⟩=some (.int .i64 t.mx)∧W.cell? ⟨w.heap.size,7,none⟩=some (.slice (some ⟨bl,off,none⟩) 1 c))∧W.cell? ⟨bl,off,none⟩=some (.int .i64 u.kind)∧W.cell? ⟨bl,off+1,none⟩=some (.int .u64 u.set.x0)∧W.cell? ⟨bl,off+2,none⟩=some (.int .u64 u.set.x1)∧W.cell? ⟨bl,off+3,none⟩=some (.int .u64 u.set.x2)∧W.cell? ⟨bl,off+4,none⟩=some (.int .u64 u.set.x3)∧W.cell? ⟨bl,off+5,none⟩=some (.int .i64 u.mn)∧W.cell? ⟨bl,off+6,none⟩=some (.int .i64 u.mx)∧W.cell? ⟨bl,off+7,none⟩=some (.slice a1 u.subs.length c1))) (by kernel_rfl) ?_ (fun hHeld=>?_)
   ·exact HS.out _ ((Keep.refl _ _).drew)
   refine wpAnyH_take (i:=0) (oi:=⟨_,_,_,_,_,_⟩) (v:=?_) rfl (by kernel_rfl) (by kernel_rfl) (by kernel_rfl) (fun _ _ _ h=>h) (Or.inl ⟨by rfl,?_⟩) (by assumption) ?_
   rotate_left 1
   ·(intro w hSw;(try dsimp only at hSw);go_simp;first | done | with_reducible rfl)
   try simp only [Act.put,List.setIfInBounds_toArray,List.set_cons_zero,List.set_cons_succ]
   refine wpAnyH_take (i:=1) (oi:=⟨_,_,_,_,_,_⟩) (v:=?_) rfl (by kernel_rfl) (by kernel_rfl) (by kernel_rfl) (fun _ _ _ h=>h) (Or.inl ⟨by rfl,?_⟩) (by assumption) ?_
   rotate_left 1
   ·(intro w hSw;(try dsimp only at hSw);go_simp;first | done | with_reducible rfl)
   try simp only [Act.put,List.setIfInBounds_toArray,List.set_cons_zero,List.set_cons_succ]
   refine wpAnyH_take (i:=2) (oi:=⟨_,_,_,_,_,_⟩) (v:=?_) rfl (by kernel_rfl) (by kernel_rfl) (by kernel_rfl) (fun _ _ _ h=>h) (Or.inl ⟨by rfl,?_⟩) (by assumption) ?_
   rotate_left 1
   ·(intro w hSw;(try dsimp only at hSw);go_simp;first | done | with_reducible rfl)
   try simp only [Act.put,List.setIfInBounds_toArray,List.set_cons_zero,List.set_cons_succ]
   refine wpAnyH_take (i:=3) (oi:=⟨_,_,_,_,_,_⟩) (v:=?_) rfl (by kernel_rfl) (by kernel_rfl) (by kernel_rfl) (fun _ _ _ h=>h) (Or.inl ⟨by rfl,?_⟩) (by assumption) ?_
   rotate_left 1
   ·(intro w hSw;(try dsimp only at hSw);go_simp;first | done | with_reducible rfl)
   try simp only [Act.put,List.setIfInBounds_toArray,List.set_cons_zero,List.set_cons_succ]
   refine wpAnyH_take (i:=4) (oi:=⟨_,_,_,_,_,_⟩) (v:=?_) rfl (by kernel_rfl) (by kernel_rfl) (by kernel_rfl) (fun _ _ _ h=>h) (Or.inl ⟨by rfl,?_⟩) (by assumption) ?_
   rotate_left 1
   ·(intro w hSw;(try dsimp only at hSw);go_simp;first | done | with_reducible rfl)
   try simp only [Act.put,List.setIfInBounds_toArray,List.set_cons_zero,List.set_cons_succ]
   refine wpAnyH_take (i:=6) (oi:=⟨_,_,_,_,_,_⟩) (v:=?_) rfl (by kernel_rfl) (by kernel_rfl) (by kernel_rfl) (fun _ _ _ h=>h) (Or.inl ⟨by rfl,?_⟩) (by assumption) ?_
   rotate_left 1
   ·(intro w hSw;(try dsimp only at hSw);go_simp;first | done | with_reducible rfl)
   try simp only [Act.put,List.setIfInBounds_toArray,List.set_cons_zero,List.set_cons_succ]
   refine wpAnyH_take (i:=7) (oi:=⟨_,_,_,_,_,_⟩) (v:=?_) rfl (by kernel_rfl) (by kernel_rfl) (by kernel_rfl) (fun _ _ _ h=>h) (Or.inl ⟨by rfl,?_⟩) (by assumption) ?_
   rotate_left 1
   ·(intro w hSw;(try dsimp only at hSw);go_simp;first | done | with_reducible rfl)
   try simp only [Act.put,List.setIfInBounds_toArray,List.set_cons_zero,List.set_cons_succ]
   refine wpAnyH_take (i:=8) (oi:=⟨_,_,_,_,_,_⟩) (v:=?_) rfl (by kernel_rfl) (by kernel_rfl) (by kernel_rfl) (fun _ _ _ h=>h) (Or.inl ⟨by rfl,?_⟩) (by assumption) ?_
   rotate_left 1
   ·(intro w hSw;(try dsimp only at hSw);go_simp;first | done | with_reducible rfl)
   try simp only [Act.put,List.setIfInBounds_toArray,List.set_cons_zero,List.set_cons_succ]
   refine wpAnyH_take (i:=9) (oi:=⟨_,_,_,_,_,_⟩) (v:=?_) rfl (by kernel_rfl) (by kernel_rfl) (by kernel_rfl) (fun _ _ _ h=>h) (Or.inl ⟨by rfl,?_⟩) (by assumption) ?_
   rotate_left 1
   ·(intro w hSw;(try dsimp only at hSw);go_simp;first | done | with_reducible rfl)
   try simp only [Act.put,List.setIfInBounds_toArray,List.set_cons_zero,List.set_cons_succ]
   refine wpAnyH_take (i:=10) (oi:=⟨_,_,_,_,_,_⟩) (v:=?_) rfl (by kernel_rfl) (by kernel_rfl) (by kernel_rfl) (fun _ _ _ h=>h) (Or.inl ⟨by rfl,?_⟩) (by assumption) ?_
   rotate_left 1
   ·(intro w hSw;(try dsimp only at hSw);go_simp;first | done | with_reducible rfl)
   try simp only [Act.put,List.setIfInBounds_toArray,List.set_cons_zero,List.set_cons_succ]
   refine wpAnyH_take (i:=11) (oi:=⟨_,_,_,_,_,_⟩) (v:=?_) rfl (by kernel_rfl) (by kernel_rfl) (by kernel_rfl) (fun _ _ _ h=>h) (Or.inl ⟨by rfl,?_⟩) (by assumption) ?_
   rotate_left 1
   ·(intro w hSw;(try dsimp only at hSw);go_simp;first | done | with_reducible rfl)
   try simp only [Act.put,List.setIfInBounds_toArray,List.set_cons_zero,List.set_cons_succ]
   refine wpAnyH_take (i:=12) (oi:=⟨_,_,_,_,_,_⟩) (v:=?_) rfl (by kernel_rfl) (by kernel_rfl) (by kernel_rfl) (fun _ _ _ h=>h) (Or.inl ⟨by rfl,?_⟩) (by assumption) ?_
   rotate_left 1
   ·(intro w hSw;(try dsimp only at hSw);go_simp;first | done | with_reducible rfl)
   try simp only [Act.put,List.setIfInBounds_toArray,List.set_cons_zero,List.set_cons_succ]
   refine wpAnyH_take (i:=13) (oi:=⟨_,_,_,_,_,_⟩) (v:=?_) rfl (by kernel_rfl) (by kernel_rfl) (by kernel_rfl) (fun _ _ _ h=>h) (Or.inl ⟨by rfl,?_⟩) (by assumption) ?_
   rotate_left 1
   ·(intro w hSw;(try dsimp only at hSw);go_simp;first | done | with_reducible rfl)
   try simp only [Act.put,List.setIfInBounds_toArray,List.set_cons_zero,List.set_cons_succ]
   refine wpAnyH_take (i:=14) (oi:=⟨_,_,_,_,_,_⟩) (v:=?_) rfl (by kernel_rfl) (by kernel_rfl) (by kernel_rfl) (fun _ _ _ h=>h) (Or.inl ⟨by rfl,?_⟩) (by assumption) ?_
   rotate_left 1
   ·(intro w hSw;(try dsimp only at hSw);go_simp;first | done | with_reducible rfl)
   try simp only [Act.put,List.setIfInBounds_toArray,List.set_cons_zero,List.set_cons_succ]
   refine wpAnyH_ready (rs:=[5]) (by kernel_rfl) (by simp) ?_
   refine (AllReadyH.cons (o:=⟨_,_,_,_,_,_⟩) rfl (fun K hK=>?_) AllReadyH.nil)
   go_simp
   (go_at_call 14;refine (HBy.out _ ((Keep.refl (fun _=>False) W0).drew)).mono ?_;rintro e w5 ⟨⟨v,rfl,ja,jc,rfl,hle,hlie⟩,q5⟩)
   have K5:=hid (((Keep.refl (fun _=>False) W0).drew).trans q5)
   have N5:=hid (And.intro hle (hlie.mono (ok':=fun k=>(ok k∨w.heap.size≤k)∧k≠w.heap.size+1) (fun k hk=>by have z0:=HS0.out;have z1:=((Keep.refl (fun _=>False) W0).drew).size;rcases hk with hk | hk;exact ⟨.inl hk.1,by omega⟩;exact ⟨.inr (by omega),by omega⟩)))
   clear hle hlie q5;refine hK.out _ _ ?_ (fun hHeld'=>?_)
   ·exact HS.out _ K5.out
   clear hK K hHeld;have hHeld:=hHeld';clear hHeld'
   try simp only [Act.put,List.setIfInBounds_toArray,List.set_cons_zero,List.set_cons_succ]
   refine wpAnyH_ready (rs:=[15]) (by kernel_rfl) (by simp) ?_
   refine (AllReadyH.cons (o:=⟨_,_,_,_,_,_⟩) rfl (fun K hK=>?_) AllReadyH.nil)
   go_simp
   (go_at_call 36;refine (HRe.out _ K5.out).mono ?_;rintro e w6 ⟨⟨v,rfl,ka,kc,rfl,hle,hlie⟩,q6⟩)
   have K6:=hid (K5.out.trans q6);have N5:=hid (And.intro N5.out.1 (N5.out.2.keepF q6));have N6:=hid (And.intro hle (hlie.mono (ok':=fun k=>(ok k∨w.heap.size≤k)∧k≠w.heap.size+1) (fun k hk=>by have z0:=HS0.out;have z1:=K5.out.size;rcases hk with hk | hk;exact ⟨.inl hk.1,by omega⟩;exact ⟨.inr (by omega),by omega⟩)))
   clear hle hlie q6;refine hK.out _ _ ?_ (fun hHeld'=>?_)
   ·exact HS.out _ K6.out
   clear hK K hHeld;have hHeld:=hHeld';clear hHeld'
   try simp only [Act.put,List.setIfInBounds_toArray,List.set_cons_zero,List.set_cons_succ]
   refine wpAnyH_ready (rs:=[16]) (by kernel_rfl) (by simp) ?_
   refine (AllReadyH.cons (o:=⟨_,_,_,_,_,_⟩) rfl (fun K hK=>?_) AllReadyH.nil)
   have L7:=hid ((lie_twoE N5.out.2 N6.out.2 N5.out.1 N6.out.1).mono (ok':=fun k=>(ok k∨w.heap.size≤k)∧k≠w.heap.size+1) (fun k hk=>by have z0:=HS0.out;have z1:=K6.out.size;rcases hk with hk | hk;exact hk;exact ⟨.inr (by omega),by omega⟩))
   have K7:=hid (K6.out.trans ((Keep.refl (fun _=>False) w6).alloc (.cells (ncells ub ja jc++ncells ur ka kc) 27)))
   go_simp;refine hK.out _ (w6.alloc (.cells (ncells ub ja jc++ncells ur ka kc) 27)) ?_ (fun hHeld'=>?_)
   ·exact HS.out _ K7.out
   clear hK K hHeld;have hHeld:=hHeld';clear hHeld';generalize (w6.alloc (.cells (ncells ub ja jc++ncells ur ka kc) 27))=wB at *
   try simp only [Act.put,List.setIfInBounds_toArray,List.set_cons_zero,List.set_cons_succ]
   refine wpAnyH_ready (rs:=[17]) (by kernel_rfl) (by simp) ?_
   refine (AllReadyH.cons (o:=⟨_,_,_,_,_,_⟩) rfl (fun K hK=>?_) AllReadyH.nil)
   have HC:=hid (fcat_len [ub,ur] (some ⟨w6.heap.size,0,none⟩) 2 (fun k=>(ok k∨w.heap.size≤k)∧k≠w.heap.size+1) _ L7.out HRow.out)
   go_simp
   (go_at_call 35;refine HC.out.mono ?_;rintro e w9 ⟨⟨v,rfl,xa,xc,rfl,hle,hlie⟩,q9⟩)
   rw [HTj.out] at hle hlie;rw [HTj.out];have N9:=hid (And.intro hle (hlie.mono (ok':=fun k=>(ok k∨w.heap.size≤k)∧k≠w.heap.size+1) (fun k hk=>by have z0:=HS0.out;have z1:=K7.out.size;rcases hk with hk | hk;exact hk;exact ⟨.inr (by omega),by omega⟩)))
   have R9:=hid (HR.out.next (K7.out.trans q9));have K9:=hid (K7.out.trans q9);clear hle hlie q9;refine hK.out _ _ ?_ (fun hHeld'=>?_)
   ·exact HS.out _ K9.out
   clear hK K hHeld;have hHeld:=hHeld';clear hHeld'
   try simp only [Act.put,List.setIfInBounds_toArray,List.set_cons_zero,List.set_cons_succ]
   refine wpAnyH_ready (rs:=[18]) (by kernel_rfl) (by simp) ?_
   refine (AllReadyH.cons (o:=⟨_,_,_,_,_,_⟩) rfl (fun K hK=>?_) AllReadyH.nil)
   obtain ⟨⟨d0,d1,d2,d3,d4,d5,d6,d7⟩,f0,f1,f2,f3,f4,f5,f6,f7⟩:=cells8 R9.out.out;have hlt:=R9.out.out.lt;have hP:=R9.out.put (tt) (xa) (xc);have hG:=R9.out.gives (ok:=ok) N9.out.1 N9.out.2;have HSP:=hid (And.intro (by obtain ⟨⟨y0,y1,y2,y3,y4,y5,y6,y7⟩,-⟩:=cells8 ((HB.out.keep K9.out (fun h=>h)).keep (putNd_keep w9 (w.heap.size+1) 0 tt xa xc) (fun h=>by have h:w.heap.size=w.heap.size+1:=h;omega));rw [hl1] at y7;exact ⟨y0,y1,y2,y3,y4,y5,y6,y7⟩:(putNd w9 (w.heap.size+1) 0 tt xa xc).cell? ⟨w.heap.size,0,none⟩=some (.int .i64 t.kind)∧(putNd w9 (w.heap.size+1) 0 tt xa xc).cell? ⟨w.heap.size,1,none⟩=some (.int .u64 t.set.x0)∧(putNd w9 (w.heap.size+1) 0 tt xa xc).cell? ⟨w.heap.size,2,none⟩=some (.int .u64 t.set.x1)∧(putNd w9 (w.heap.size+1) 0 tt xa xc).cell? ⟨w.heap.size,3,none⟩=some (.int .u64 t.set.x2)∧(putNd w9 (w.heap.size+1) 0 tt xa xc).cell? ⟨w.heap.size,4,none⟩=some (.int .u64 t.set.x3)∧(putNd w9 (w.heap.size+1) 0 tt xa xc).cell? ⟨w.heap.size,5,none⟩=some (.int .i64 t.mn)∧(putNd w9 (w.heap.size+1) 0 tt xa xc).cell? ⟨w.heap.size,6,none⟩=some (.int .i64 t.mx)∧(putNd w9 (w.heap.size+1) 0 tt xa xc).cell? ⟨w.heap.size,7,none⟩=some (.slice (some ⟨bl,off,none⟩) 1 c)) (((HNP.out.keepF K9.out).keep (putNd_keep w9 (w.heap.size+1) 0 tt xa xc) (fun h=>by have h:bl=w.heap.size+1:=h;have:=HOK.out;omega)).eight))
   have HPG:=hid (And.intro hP.1 hG);clear hP hG;go_simp;refine hK.out _ (putNd w9 (w.heap.size+1) 0 tt xa xc) ?_ (fun hHeld'=>?_)
   ·exact HSP.out
   clear hK K hHeld;have hHeld:=hHeld';clear hHeld';generalize (putNd w9 (w.heap.size+1) 0 tt xa xc)=W9 at *
   try simp only [Act.put,List.setIfInBounds_toArray,List.set_cons_zero,List.set_cons_succ]
   refine wpAnyH_done (by kernel_rfl) ?_ _
   refine NoPanic.normal ?_;rotate_left 1;obtain ⟨⟨e0,e1,e2,e3,e4,e5,e6,e7⟩,-⟩:=cells8 HPG.out.1;go_wp2_with fail;exact bodyPost_ret (v:=nodeV (tt) (xa) (xc)) (by simp [results,Tryz.results14,go_sem,e0,e1,e2,e3,e4,e5,e6,e7]) rfl HPG.out.2
 have k5:(t.kind == 5)=false:=by simpa using h5
 rw [if_neg (fun h=>h5 h.1)] at htt
 have HTT:=hid htt;rw [← HTT.out];clear htt hk0 h2 h3 h4 h5
 go_enter Tryz.func14,Tryz.ntmps14
 go_upto_region 1 with fail;have hs0:((w.alloc (.cells (ncells t a c) 27)).alloc (.cells nzeros 27)).heap.size=w.heap.size+2:=by simp
 generalize ((w.alloc (.cells (ncells t a c) 27)).alloc (.cells nzeros 27))=W0 at *;have HS0:=hid hs0;clear hs0;obtain ⟨⟨y0,y1,y2,y3,y4,y5,y6,y7⟩,-⟩:=cells8 HB.out;obtain ⟨⟨d0,d1,d2,d3,d4,d5,d6,d7⟩,f0,f1,f2,f3,f4,f5,f6,f7⟩:=cells8 HR.out.out;have hlt:=HR.out.out.lt;go_wp2_with fail
 change bodyPost _ _ _ _ _ (putNd (W0) (w.heap.size+1) 0 (noT) (none) (0))
 have hP:=HR.out.put (noT) (none) (0);have hG:=HR.out.gives (ok:=ok) (t:=noT) (Nat.le_refl 0) (.nil none);generalize (putNd (W0) (w.heap.size+1) 0 (noT) (none) (0))=W9 at hP hG ⊢;obtain ⟨⟨e0,e1,e2,e3,e4,e5,e6,e7⟩,-⟩:=cells8 hP.1;exact bodyPost_ret (v:=nodeV (noT) (none) (0)) (by simp [results,Tryz.results14,go_sem,e0,e1,e2,e3,e4,e5,e6,e7]) rfl hG
theorem fby_all:∀ (n:Nat) (t:T),SizeOf.sizeOf t<n→FByOk t
 | 0,_,h=>absurd h (Nat.not_lt_zero _)
 | n+1,t,h=>fby_step n (fby_all n) t h
theorem fby_any (t:T):FByOk t:=fby_all _ t (Nat.lt_succ_self _)
end P12
namespace P10
open Go.RowKit Base Bytes P07 P08
open Sets (ST)
def FSimpOk (t:T):Prop:=∀ (d:Nat),RT d t→cnt t≤4100→∀ (a:Option Addr) (c:Nat) (ok:Nat→Prop) (w:World),Lie w ok a t.subs→t.subs.length≤c →
 Calls Tryz.prog 15 #[nodeV t a c] w (Gives w ok (simT t))
theorem end8 {w wr:World} {n:Nat} {ok:Nat→Prop} {tt t:T} {a:Option Addr} {c:Nat} (h:Rb w n wr) (hT:tt=t) (hc:t.subs.length≤c) (hl:Lie wr (fun k=>(ok k∨w.heap.size≤k)∧k≠n) a t.subs) :
  At (put8 wr n (.int .i64 t.kind) (.int .u64 t.set.x0) (.int .u64 t.set.x1) (.int .u64 t.set.x2) (.int .u64 t.set.x3) (.int .i64 t.mn) (.int .i64 t.mx) (.slice a t.subs.length c)) n 27 (ncells t a c)
  ∧ Gives w ok tt (.returned (nodeV t a c)) (put8 wr n (.int .i64 t.kind) (.int .u64 t.set.x0) (.int .u64 t.set.x1) (.int .u64 t.set.x2) (.int .u64 t.set.x3) (.int .i64 t.mn) (.int .i64 t.mx) (.slice a t.subs.length c)):=by
 subst hT;have h1:=(h.put tt a c).1;have h2:=h.gives (ok:=ok) (t:=tt) hc hl;have e:putNd wr n 0 tt a c=put8 wr n (.int .i64 tt.kind) (.int .u64 tt.set.x0) (.int .u64 tt.set.x1) (.int .u64 tt.set.x2) (.int .u64 tt.set.x3) (.int .i64 tt.mn) (.int .i64 tt.mx) (.slice a tt.subs.length c):=rfl;rw [e] at h1 h2;exact ⟨h1,h2⟩
theorem fsimple_step (n:Nat) (ih:∀ t:T,SizeOf.sizeOf t<n→FSimpOk t) (t:T) (hsz:SizeOf.sizeOf t<n+1):FSimpOk t:=by
 intro d hR hB a c ok w hL hc;obtain ⟨tt,htt⟩:∃ tt,simT t=tt:=⟨_,rfl⟩;rw [htt];have b0:=(At.new w (ncells t a c) 27).alloc (.cells nzeros 27);have r0:Rb w (w.heap.size+1) ((w.alloc (.cells (ncells t a c) 27)).alloc (.cells nzeros 27)):=by
  refine ⟨?_,((Keep.refl (fun _=>False) w).alloc _).alloc _,by omega⟩
  have:=At.new (w.alloc (.cells (ncells t a c) 27)) nzeros 27;rw [show (w.alloc (.cells (ncells t a c) 27)).heap.size=w.heap.size+1 from by simp] at this
  exact this
 have hlen:t.subs.length≤4100:=by
  have h1:=P10.len_cntL t.subs;rw [cnt_eq] at hB;omega
 have hli:(t.subs.length:Int)≤4100:=by omega
 have HTT:=hid htt;have H0:=hid (And.intro r0 (And.intro b0 (And.intro (hL.under.keepF r0.keep) (And.intro hR (And.intro hc (And.intro ih (And.intro hsz hB)))))));clear r0 b0 hL htt hR hc hsz hB hlen
 go_enter Tryz.func15,Tryz.ntmps15
 go_upto_region 1 with fail;have hs0:((w.alloc (.cells (ncells t a c) 27)).alloc (.cells nzeros 27)).heap.size=w.heap.size+2:=by simp
 generalize ((w.alloc (.cells (ncells t a c) 27)).alloc (.cells nzeros 27))=W0 at *;have HS0:=hid hs0;clear hs0;go_wp2_with fail
 go_loopg [3,4] t.subs.length (fun gg u i wr=>∃ k:Nat,i=.int .i64 k∧k+gg=t.subs.length∧OT wr (fun b=>(ok b∧b<w.heap.size)∨w.heap.size+2≤b) u ((t.subs.take k).map simT)∧Own (w.heap.size+2) u∧Keep (fun _=>False) W0 wr)
 case atStart=>exact ⟨0,rfl,by omega,OT.nil _ _,Own.nil _,Keep.refl _ _⟩
 case round =>
  obtain ⟨k,rfl,hk,hrow,hown,hq⟩:=hrel;have k0:(0:Int)≤k:=by omega
  obtain ⟨⟨y0,y1,y2,y3,y4,y5,y6,y7⟩,-⟩:=cells8 (H0.out.2.1.keep hq (fun h=>h))
  by_cases hlt:k<t.subs.length
  ·have hlt':(k:Int)<t.subs.length:=by omega
   obtain ⟨s,hs⟩:∃ s,t.subs[k]?=some s:=⟨t.subs[k],List.getElem?_eq_getElem hlt⟩;obtain ⟨bl,off,a1,c1,ea,-,-,le1,L1,C1⟩:=(H0.out.2.2.1.keepF hq).get hs;obtain ⟨z0,z1,z2,z3,z4,z5,z6,z7⟩:=ncell C1;have hIH:=H0.out.2.2.2.2.2.1 s (by have:=sub_less hs;have:=H0.out.2.2.2.2.2.2.1;omega) d (sub_right H0.out.2.2.2.1.subs s (List.mem_of_getElem? hs)) (by have:=cntL_le hs;have h2:=H0.out.2.2.2.2.2.2.2;rw [cnt_eq t] at h2;omega) a1 c1 (fun b=>ok b∧b<w.heap.size) wr L1 le1
   have hol:∀ g,u3.ownBlock=some g→g<wr.heap.size:=fun g hg=>by
    obtain ⟨X,⟨h1,-⟩,-⟩:=hrow
    rcases h1.2 with ⟨rfl,-⟩ | ⟨g',cap,cur,rfl,hb,hc,r⟩
    ·cases hg
    ·have h2:At wr g' 27 cur:=hc
     injection hg with hg;rw [← hg];exact h2.lt
   have J:=hid (And.intro hrow (And.intro hown (And.intro hq (And.intro hs (And.intro hol hIH)))));have ea':a=some ⟨bl,off,none⟩:=ea;clear hrow hown hq hs L1 C1 le1 hIH ea hol;subst ea';go_wp2_with fail;refine J.out.2.2.2.2.2.mono ?_;rintro e w2 ⟨⟨v,rfl,ra,rc,rfl,hle,hlie⟩,q2⟩;have hsz2:=q2.size;have hsz3:=(J.out.2.2.1).size;have hsz0:=HS0.out
   obtain ⟨v',w9,hrun,g1,g2,g3⟩:=(J.out.1.keep q2 (fun _ _ h=>h)).push (simT s) ra rc hle (hlie.mono fun b hb=>⟨by
     rcases hb with hb | hb
     ·exact .inl hb
     ·exact .inr (by omega),fun e=>by
     have h1:=J.out.2.1 b e;have h2:=J.out.2.2.2.2.1 b e
     rcases hb with hb | hb
     ·omega
     ·omega⟩) (by rw [List.length_map,List.length_take];omega) (fun g hg=>.inr (by omega)) 25
   have H9:=hid (show OT w9 (fun b=>(ok b∧b<w.heap.size)∨w.heap.size+2≤b) v' ((t.subs.take (k+1)).map simT)∧Own (w.heap.size+2) v'∧Keep (fun _=>False) W0 w9 from by
    refine ⟨?_,J.out.2.1.next (n1:=w2.heap.size) (by omega) g3,(J.out.2.2.1.trans q2).next g2 (fun i hi hl=>by have:=J.out.2.1 i hi;omega)⟩
    have e4:(t.subs.take (k+1)).map simT=(t.subs.take k).map simT++[simT s]:=by
     rw [List.take_add_one,J.out.2.2.2.1,List.map_append]
     rfl
    rw [e4]
    exact g1)
   clear g1 g2 g3 hle hlie q2 hsz2 hsz3 hsz0 y0 y1 y2 y3 y4 y5 y6 y7 z0 z1 z2 z3 z4 z5 z6 z7;obtain ⟨X,hX⟩:∃ X,simT s=X:=⟨_,rfl⟩;rw [hX] at hrun ⊢;clear hX;go_wp2_with (at_builtin;refine Lib.wpList_append_run _ rfl _ _ _ _ rfl _ _ rfl rfl _ _ hrun ?_);clear hrun;go_wp2_with fail
   go_roundg (t.subs.length - (k+1))
   case measure=>omega
   case rel=>exact ⟨k+1,by go_num,by omega,H9.out⟩
  ·have hke:k=t.subs.length:=by omega
   subst hke;rw [List.take_length] at hrow;have hall:∀ m ∈ t.subs.map simT,RT d m:=fun m hm=>by
    obtain ⟨u,hu,rfl⟩:=List.mem_map.1 hm;exact (sim_ok u d (sub_right H0.out.2.2.2.1.subs u hu)).1.rt
   have hcl:cntL (t.subs.map simT)≤8100:=by
    have h1:=cntL_map (f:=simT) t.subs fun u hu=>(sim_ok u d (sub_right H0.out.2.2.2.1.subs u hu)).1.cnt
    have h3:=H0.out.2.2.2.2.2.2.2;rw [cnt_eq t] at h3;omega
   obtain ⟨fa,fc,hu,hfc,hlf⟩:=hrow.form
   have hlieR:=hlf.mono (ok':=fun b=>(ok b∨w.heap.size≤b)∧b≠w.heap.size+1) (fun b hb=>by
    rcases hb with hb | hb
    ·exact ⟨.inl hb.1,by omega⟩
    ·exact ⟨.inr (by omega),by omega⟩)
   have hsets:=sets_ok (k:=4) (L:=t.subs.map simT) (d:=d) hall;have J:=hid (And.intro (H0.out.1.next hq) (And.intro hlieR (And.intro hcl (And.intro hall (And.intro hsets (And.intro (H0.out.2.2.1.keepF hq) (H0.out.2.1.keep hq (fun h=>h))))))))
   rw [List.length_map] at hu;subst hu;clear hrow hq hall hcl hlieR hsets hown hlf hfc;have hfs:True:=trivial;go_upto_region 6 with fail
   by_cases h3:t.kind=3
   ·have hb3:(t.kind == 3)=true:=by simpa using h3
    have HT:=hid (show tt=catT (t.subs.map simT) by rw [← HTT.out,simT_eq,if_pos h3])
    have HC:=hid (fcat_any (t.subs.map simT) fa fc (fun b=>(ok b∨w.heap.size≤b)∧b≠w.heap.size+1) wr J.out.2.1 (by have:=J.out.2.2.1;omega))
    rw [List.length_map] at HC;clear hfs;go_wp2_with fail;refine HC.out.mono ?_;rintro e w4 ⟨⟨v,rfl,ja,jc,rfl,hle,hlie⟩,q4⟩;have R4:=hid (J.out.1.next q4);have hn2:=J.out.1.out.lt;have hn3:=J.out.1.keep.size;have HE:=hid (And.intro hle (lie_of (w:=w) (ok:=ok) (n:=w.heap.size+1) hlie (by omega) (by omega) (fun k h=>h)))
    clear q4 hlie hle hn2 hn3;generalize catT (t.subs.map simT)=tj at *;obtain ⟨⟨d0,d1,d2,d3,d4,d5,d6,d7⟩,f0,f1,f2,f3,f4,f5,f6,f7⟩:=cells8 R4.out.out;have hlt:=R4.out.out.lt;go_wp2_with fail
    change bodyPost _ _ _ _ _ (putNd (w4) (w.heap.size+1) 0 (tj) (ja) (jc))
    have hP:=R4.out.put (tj) (ja) (jc);have hG:=(by rw [HT.out];exact R4.out.gives (ok:=ok) HE.out.1 HE.out.2:Gives w ok tt (.returned (nodeV tj ja jc)) (putNd w4 (w.heap.size+1) 0 tj ja jc))
    generalize (putNd (w4) (w.heap.size+1) 0 (tj) (ja) (jc))=W9 at hP hG ⊢;obtain ⟨⟨e0,e1,e2,e3,e4,e5,e6,e7⟩,-⟩:=cells8 hP.1;exact bodyPost_ret (v:=nodeV (tj) (ja) (jc)) (by simp [results,Tryz.results15,go_sem,e0,e1,e2,e3,e4,e5,e6,e7]) rfl hG
   have hb3:(t.kind == 3)=false:=by simpa using h3
   by_cases h4:t.kind=4
   ·have hb4:(t.kind == 4)=true:=by simpa using h4
    have HT:=hid (show tt=altT (t.subs.map simT) by rw [← HTT.out,simT_eq,if_neg h3,if_pos h4])
    have HC:=hid (falt_any (t.subs.map simT) fa fc (fun b=>(ok b∨w.heap.size≤b)∧b≠w.heap.size+1) wr J.out.2.1 J.out.2.2.1 J.out.2.2.2.2.1)
    rw [List.length_map] at HC;clear hfs;go_wp2_with fail;refine HC.out.mono ?_;rintro e w4 ⟨⟨v,rfl,ja,jc,rfl,hle,hlie⟩,q4⟩;have R4:=hid (J.out.1.next q4);have hn2:=J.out.1.out.lt;have hn3:=J.out.1.keep.size;have HE:=hid (And.intro hle (lie_of (w:=w) (ok:=ok) (n:=w.heap.size+1) hlie (by omega) (by omega) (fun k h=>h)))
    clear q4 hlie hle hn2 hn3;generalize altT (t.subs.map simT)=tj at *;obtain ⟨⟨d0,d1,d2,d3,d4,d5,d6,d7⟩,f0,f1,f2,f3,f4,f5,f6,f7⟩:=cells8 R4.out.out;have hlt:=R4.out.out.lt;go_wp2_with fail
    change bodyPost _ _ _ _ _ (putNd (w4) (w.heap.size+1) 0 (tj) (ja) (jc))
    have hP:=R4.out.put (tj) (ja) (jc);have hG:=(by rw [HT.out];exact R4.out.gives (ok:=ok) HE.out.1 HE.out.2:Gives w ok tt (.returned (nodeV tj ja jc)) (putNd w4 (w.heap.size+1) 0 tj ja jc))
    generalize (putNd (w4) (w.heap.size+1) 0 (tj) (ja) (jc))=W9 at hP hG ⊢;obtain ⟨⟨e0,e1,e2,e3,e4,e5,e6,e7⟩,-⟩:=cells8 hP.1;exact bodyPost_ret (v:=nodeV (tj) (ja) (jc)) (by simp [results,Tryz.results15,go_sem,e0,e1,e2,e3,e4,e5,e6,e7]) rfl hG
   have hb4:(t.kind == 4)=false:=by simpa using h4
   by_cases h5:t.kind=5
   ·have hb5:(t.kind == 5)=true:=by simpa using h5
    obtain ⟨u,mn,mx,et,b0,b1,bx,hI⟩:=rep_is H0.out.2.2.2.1 h5;have hsub:t.subs=[u]:=by rw [et];rfl
    have hl1:t.subs.length=1:=by rw [hsub];rfl
    have HT:=hid (show tt=repP (simT u) t.mn t.mx by rw [← HTT.out,simT_eq,if_neg h3,if_neg h4,if_pos h5,hsub,simH])
    obtain ⟨bl,off,a3,c3,rfl,-,-,le3,L3,C3⟩:=J.out.2.1.get (i:=0) (t:=simT u) (by rw [hsub];rfl)
    obtain ⟨z0,z1,z2,z3,z4,z5,z6,z7⟩:=ncell C3;rw [Nat.zero_mul,Nat.add_zero] at z0 z1 z2 z3 z4 z5 z6 z7;have HC:=hid (fun W (q:Keep (fun _=>False) wr W)=>frep_any (simT u) t.mn t.mx a3 c3 (fun b=>(ok b∨w.heap.size≤b)∧b≠w.heap.size+1) W (L3.keepF q) le3)
    obtain ⟨X,hX⟩:∃ X,simT u=X:=⟨_,rfl⟩;rw [hX] at z0 z1 z2 z3 z4 z5 z6 z7 HC HT;obtain ⟨tj,htj⟩:∃ tj,repP X t.mn t.mx=tj:=⟨_,rfl⟩;rw [htj] at HC HT;have hpos:(0:Int)<t.subs.length:=by omega
    have hpos2:0<t.subs.length:=by omega
    clear h3 h4 h5 et hsub b0 b1 bx hI L3 C3 hX htj le3 hl1;go_wp2_with fail;have HW:=hid (And.intro J.out.1.out.lt J.out.1.keep.size)
    go_region_with (go_at_call 36;refine (HC.out _ (by first | exact ((Keep.refl _ _).drewN _) | exact ((Keep.refl _ _).drew) | exact Keep.refl _ _)).mono ?_;rintro e w4 ⟨⟨v,rfl,ja,jc,rfl,hle,hlie⟩,q4⟩;have R4:=hid (J.out.1.next (by first | exact ((Keep.refl _ _).drewN _).trans q4 | exact ((Keep.refl _ _).drew).trans q4 | exact q4));have HE:=hid (And.intro hle (lie_of (w:=w) (ok:=ok) (n:=w.heap.size+1) hlie (by first | exact HW.out.1) (by first | exact HW.out.2) (fun k h=>h)));clear q4 hlie hle;obtain ⟨⟨d0,d1,d2,d3,d4,d5,d6,d7⟩,f0,f1,f2,f3,f4,f5,f6,f7⟩:=cells8 R4.out.out;have hlt:=R4.out.out.lt)
    all_goals
     have hP:=end8 (ok:=ok) R4.out HT.out HE.out.1 HE.out.2;unfold put8 at hP;generalize World.setCell _ _ _=W9 at *;clear d0 d1 d2 d3 d4 d5 d6 d7 f0 f1 f2 f3 f4 f5 f6 f7;obtain ⟨⟨e0,e1,e2,e3,e4,e5,e6,e7⟩,-⟩:=cells8 hP.1;have HP:=hid hP;clear hP;go_wp2_with fail;exact bodyPost_ret (v:=nodeV tj ja jc) (by simp [results,Tryz.results15,go_sem,e0,e1,e2,e3,e4,e5,e6,e7]) rfl HP.out.2
   ·have hb5:(t.kind == 5)=false:=by simpa using h5
    have HT:=hid (show tt=t by rw [← HTT.out,simT_eq,if_neg h3,if_neg h4,if_neg h5])
    have R4:=hid J.out.1;have HE:=hid (And.intro H0.out.2.2.2.2.1 (J.out.2.2.2.2.2.1.mono (ok':=fun b=>(ok b∨w.heap.size≤b)∧b≠w.heap.size+1) fun b hb=>⟨.inl hb.1,by omega⟩))
    obtain ⟨⟨d0,d1,d2,d3,d4,d5,d6,d7⟩,f0,f1,f2,f3,f4,f5,f6,f7⟩:=cells8 R4.out.out;have hlt:=R4.out.out.lt;clear h3 h4 h5;go_wp2_with fail
    change bodyPost _ _ _ _ _ (putNd (wr) (w.heap.size+1) 0 (t) (a) (c))
    have hP:=R4.out.put (t) (a) (c);have hG:=(by rw [HT.out];exact R4.out.gives (ok:=ok) HE.out.1 HE.out.2:Gives w ok tt (.returned (nodeV t a c)) (putNd wr (w.heap.size+1) 0 t a c))
    generalize (putNd (wr) (w.heap.size+1) 0 (t) (a) (c))=W9 at hP hG ⊢;obtain ⟨⟨e0,e1,e2,e3,e4,e5,e6,e7⟩,-⟩:=cells8 hP.1;exact bodyPost_ret (v:=nodeV (t) (a) (c)) (by simp [results,Tryz.results15,go_sem,e0,e1,e2,e3,e4,e5,e6,e7]) rfl hG
theorem fsimple_all:∀ (n:Nat) (t:T),SizeOf.sizeOf t<n→FSimpOk t
 | 0,_,h=>absurd h (Nat.not_lt_zero _)
 | n+1,t,h=>fsimple_step n (fsimple_all n) t h
theorem fsimple_any (t:T):FSimpOk t:=fsimple_all _ t (Nat.lt_succ_self _)
end P10
namespace P12
open Go.RowKit Base Bytes P07 P08 P09 P10
open Sets (ST)
def GivesB (w:World) (ok:Nat→Prop) (t:T) (B:Bool) (e:Ending) (w':World):Prop:=(∃ v,e=.returned (.tuple #[v,.bool B])∧NodeV w' (fun k=>ok k∨w.heap.size≤k) v t)∧Keep (fun _=>False) w w'
theorem givesB {w:World} {ok:Nat→Prop} {t:T} {a:Option Addr} {c:Nat} {B:Bool} {w':World} (h:Gives w ok t (.returned (nodeV t a c)) w'):GivesB w ok t B (.returned (.tuple #[nodeV t a c,.bool B])) w':=by
 obtain ⟨⟨v,e,hv⟩,q⟩:=h;injection e with e;subst e;exact ⟨⟨_,rfl,hv⟩,q⟩
theorem word_drop {s:List UInt8} {i:Nat} (h:i<s.length) (u:T):wordG u (s.drop i)=if 4000<cnt (byT (P07.byteAt s i) u) then none else wordG (byT (P07.byteAt s i) u) (s.drop (i+1)):=by
 have e:P07.byteAt s i=s[i].toNat:=by unfold P07.byteAt;rw [List.getElem?_eq_getElem h];rfl
 rw [List.drop_eq_getElem_cons h,wordG,e]
theorem by_le (b:Nat) {u:T} (h:Rs u) (hc:cnt u≤4000):cnt (byT b u)≤1000000000:=by
 have h1:=(by_rs b u h).2;have h2:cnt u * cnt u≤4000 * 4000:=Nat.mul_le_mul hc hc;omega
theorem fword_any (t:T) (hR:RT 12 t) (hcnt:cnt t≤4000) (s:List UInt8) (hsl:s.length≤1000000) (o:Option T) (ho:wordG (simT t) s=o) (a:Option Addr) (c:Nat) (ok:Nat→Prop) (w:World) (hL:Lie w ok a t.subs) (hc:t.subs.length≤c) :
  Calls Tryz.prog 13 #[nodeV t a c,str s] w (GivesB w ok (o.getD zT) o.isSome):=by
 obtain ⟨b0,hb0⟩:∃ b0,w.heap.size=b0:=⟨_,rfl⟩;have ba:=(At.new w (ncells t a c) 27).alloc (.cells nzeros 27);have r0:Rb w (w.heap.size+1) ((w.alloc (.cells (ncells t a c) 27)).alloc (.cells nzeros 27)):=by
  refine ⟨?_,((Keep.refl (fun _=>False) w).alloc _).alloc _,by omega⟩
  have:=At.new (w.alloc (.cells (ncells t a c) 27)) nzeros 27;rw [show (w.alloc (.cells (ncells t a c) 27)).heap.size=w.heap.size+1 from by simp] at this
  exact this
 have hsm:=(sim_ok t 12 hR).1;have HIX:=hid (P07.index_run s);have HL:=hid (hL.under.keepF r0.keep);have HB:=hid ba;have HR:=hid r0;have H0:=hid (And.intro hR (And.intro hcnt (And.intro hc (And.intro hsm ho))));have hs0:((w.alloc (.cells (ncells t a c) 27)).alloc (.cells nzeros 27)).heap.size=w.heap.size+2:=by simp
 clear ba r0 hL hR hcnt hc hsm ho
 go_enter Tryz.func13,Tryz.ntmps13
 go_upto_region 1 with fail;generalize ((w.alloc (.cells (ncells t a c) 27)).alloc (.cells nzeros 27))=W0 at *;have HS0:=hid (And.intro hs0 hb0);rw [hb0] at HB HR;clear hs0 hb0;obtain ⟨⟨y0,y1,y2,y3,y4,y5,y6,y7⟩,-⟩:=cells8 HB.out;have HC:=hid (fsimple_any t 12 H0.out.1 (by have:=H0.out.2.1;omega) a c (fun k=>ok k∧k<w.heap.size) W0 HL.out H0.out.2.2.1)
 go_wp2_with fail;refine HC.out.mono ?_;rintro e w2 ⟨⟨v,rfl,ka,kc,rfl,hle,hlie⟩,q2⟩;have A2:=hid (HB.out.keep q2 (fun h=>h))
 have HZ0:=hid q2.size;have N2:=hid (And.intro hle (hlie.mono (ok':=(fun k=>(ok k∨w.heap.size≤k)∧k≠b0∧k≠b0+1)) (fun k hk=>by have z0:=HS0.out.1;have z1:=HS0.out.2;rcases hk with hk | hk;exact ⟨.inl hk.1,by omega,by omega⟩;exact ⟨.inr (by omega),by omega,by omega⟩)))
 have R2:=hid (HR.out.next q2);obtain ⟨u0,hu0⟩:∃ u0,simT t=u0:=⟨_,rfl⟩
 have HU:=hid (show Rs u0∧cnt u0≤4000∧wordG u0 s=o by
  rw [← hu0]
  exact ⟨⟨12,H0.out.2.2.2.1.rt,H0.out.2.2.2.1.smp⟩,Nat.le_trans H0.out.2.2.2.1.cnt H0.out.2.1,H0.out.2.2.2.2⟩)
 rw [hu0] at N2 ⊢;obtain ⟨⟨d0,d1,d2,d3,d4,d5,d6,d7⟩,f0,f1,f2,f3,f4,f5,f6,f7⟩:=cells8 A2.out;have hlt2:=A2.out.lt;have A3:=hid (set8 A2.out (.int .i64 u0.kind) (.int .u64 u0.set.x0) (.int .u64 u0.set.x1) (.int .u64 u0.set.x2) (.int .u64 u0.set.x3) (.int .i64 u0.mn) (.int .i64 u0.mx) (.slice ka u0.subs.length kc));have N3:=hid (And.intro N2.out.1 (N2.out.2.keep (putNd_keep w2 b0 0 u0 ka kc) (fun b hb e=>hb.2.1 e)))
 have R3:=hid (show At (putNd w2 b0 0 u0 ka kc) (b0+1) 27 nzeros∧Keep (fun _=>False) w (putNd w2 b0 0 u0 ka kc)∧W0.heap.size≤(putNd w2 b0 0 u0 ka kc).heap.size from
  ⟨R2.out.out.keep (putNd_keep w2 b0 0 u0 ka kc) (fun e=>by have e:b0+1=b0:=e;have:=HS0.out.2;omega),R2.out.keep.next (putNd_keep w2 b0 0 u0 ka kc) (fun i e hi=>by have e:i=b0:=e;have:=HS0.out.2;omega),by have:=HZ0.out;have:=(putNd_keep w2 b0 0 u0 ka kc).size;omega⟩)
 clear hle hlie q2 y0 y1 y2 y3 y4 y5 y6 y7 hu0;go_upto_region 2 with fail
 change Code.wp _ _ _ _ (putNd w2 b0 0 u0 ka kc)
 have A3':At (putNd w2 b0 0 u0 ka kc) b0 27 (ncells u0 ka kc):=A3.out;generalize (putNd w2 b0 0 u0 ka kc)=W3 at *;have A4:=hid A3';clear A3 A3' d0 d1 d2 d3 d4 d5 d6 d7 f0 f1 f2 f3 f4 f5 f6 f7 hlt2 A2 N2;go_wp2_with fail
 go_loopg [6] s.length (fun gg i wr=>∃ (k:Nat) (u:T) (a1:Option Addr) (c1:Nat),i=.int .i64 k∧k+gg=s.length∧At wr b0 27 (ncells u a1 c1)∧u.subs.length≤c1∧Lie wr (fun k=>(ok k∨w.heap.size≤k)∧k≠b0∧k≠b0+1) a1 u.subs∧Rs u∧cnt u≤4000∧wordG u (s.drop k)=o∧At wr (b0+1) 27 nzeros∧Keep (fun _=>False) w wr∧W0.heap.size≤wr.heap.size)
 case atStart=>exact ⟨0,u0,ka,kc,rfl,by omega,A4.out,N3.out.1,N3.out.2,HU.out.1,HU.out.2.1,by rw [List.drop_zero];exact HU.out.2.2,R3.out.1,R3.out.2.1,R3.out.2.2⟩
 case round =>
  obtain ⟨k,u,a1,c1,rfl,hk,hA,hle,hlie,hRs,hcu,hwd,hAr,hq,hsz⟩:=hrel;have k0:(0:Int)≤k:=by omega
  obtain ⟨⟨y0,y1,y2,y3,y4,y5,y6,y7⟩,-⟩:=cells8 hA
  by_cases hlt:k<s.length
  ·have hlt':(k:Int)<s.length:=by omega
   have hixk:=HIX.out k hlt;rw [word_drop hlt] at hwd;have hbl:=P07.byteAt_lt s k;obtain ⟨cb,hcb⟩:∃ cb,P07.byteAt s k=cb:=⟨_,rfl⟩;rw [hcb] at hixk hwd hbl;obtain ⟨ub,hub⟩:∃ ub,byT cb u=ub:=⟨_,rfl⟩;have hubr:Rs ub:=by rw [← hub];exact (by_rs cb u hRs).1
   have hubc:cnt ub≤1000000000:=by rw [← hub];exact by_le cb hRs hcu
   have HBy:=hid (fun W (q:Keep (fun _=>False) wr W)=>fby_any u hRs hcu cb hbl a1 c1 (fun k=>(ok k∨w.heap.size≤k)∧k≠b0∧k≠b0+1) W (hlie.keepF q) hle)
   rw [hub] at hwd HBy;have J:=hid (And.intro hA (And.intro hAr (And.intro hq (And.intro hwd (And.intro hubr hubc)))));have HZ:=hid (show b0=w.heap.size∧w.heap.size+2≤wr.heap.size by have:=HS0.out.1;have:=HS0.out.2;omega)
   have hcb1:(cb:Int)≤255:=by omega
   have hcb0:(0:Int)≤cb:=by omega
   have hcw:IntKind.i64.wrap (cb:Int)=cb:=by rw [IntKind.wrap_i64];omega
   clear hA hle hlie hRs hcu hwd hAr hq hub hubr hubc hcb;go_upto_region 5 with fail;refine wp_region_noPanic ?_;refine wp_region_held_drew (S:=(fun _=>True)) (by kernel_rfl) ?_ (fun hHeld=>?_)
   ·trivial
   refine wpAnyH_take (i:=1) (oi:=⟨_,_,_,_,_,_⟩) (v:=?_) rfl (by kernel_rfl) (by kernel_rfl) (by kernel_rfl) (fun _ _ _ h=>h) (Or.inl ⟨by rfl,?_⟩) (by assumption) ?_
   rotate_left 1
   ·(intro w hSw;(try dsimp only at hSw);go_simp;first | done | with_reducible rfl)
   try simp only [Act.put,List.setIfInBounds_toArray,List.set_cons_zero,List.set_cons_succ]
   refine wpAnyH_take (i:=2) (oi:=⟨_,_,_,_,_,_⟩) (v:=?_) rfl (by kernel_rfl) (by kernel_rfl) (by kernel_rfl) (fun _ _ _ h=>h) (Or.inl ⟨by rfl,?_⟩) (by assumption) ?_
   rotate_left 1
   ·(intro w hSw;(try dsimp only at hSw);go_simp;first | done | with_reducible rfl)
   try simp only [Act.put,List.setIfInBounds_toArray,List.set_cons_zero,List.set_cons_succ]
   refine wpAnyH_take (i:=3) (oi:=⟨_,_,_,_,_,_⟩) (v:=?_) rfl (by kernel_rfl) (by kernel_rfl) (by kernel_rfl) (fun _ _ _ h=>h) (Or.inl ⟨by rfl,?_⟩) (by assumption) ?_
   rotate_left 1
   ·(intro w hSw;(try dsimp only at hSw);go_simp;first | done | with_reducible rfl)
   try simp only [Act.put,List.setIfInBounds_toArray,List.set_cons_zero,List.set_cons_succ]
   refine wpAnyH_take (i:=4) (oi:=⟨_,_,_,_,_,_⟩) (v:=?_) rfl (by kernel_rfl) (by kernel_rfl) (by kernel_rfl) (fun _ _ _ h=>h) (Or.inl ⟨by rfl,?_⟩) (by assumption) ?_
   rotate_left 1
   ·(intro w hSw;(try dsimp only at hSw);go_simp;first | done | with_reducible rfl)
   try simp only [Act.put,List.setIfInBounds_toArray,List.set_cons_zero,List.set_cons_succ]
   refine wpAnyH_ready (rs:=[0]) (by kernel_rfl) (by simp) ?_
   refine (AllReadyH.cons (o:=⟨_,_,_,_,_,_⟩) rfl (fun K hK=>?_) AllReadyH.nil)
   go_simp;refine hK.out _ _ ?_ (fun hHeld'=>?_)
   ·trivial
   clear hK K hHeld;have hHeld:=hHeld';clear hHeld'
   try simp only [Act.put,List.setIfInBounds_toArray,List.set_cons_zero,List.set_cons_succ]
   refine wpAnyH_ready (rs:=[5]) (by kernel_rfl) (by simp) ?_
   refine (AllReadyH.cons (o:=⟨_,_,_,_,_,_⟩) rfl (fun K hK=>?_) AllReadyH.nil)
   go_simp
   (go_at_call 14;refine (HBy.out _ ((Keep.refl (fun _=>False) wr).drew)).mono ?_;rintro e w5 ⟨⟨v,rfl,ja,jc,rfl,hle,hlie⟩,q5⟩)
   have K5:=hid (((Keep.refl (fun _=>False) wr).drew).trans q5)
   have N5:=hid (And.intro hle (hlie.mono (ok':=(fun k=>(ok k∨w.heap.size≤k)∧k≠b0∧k≠b0+1)) (fun k hk=>by have z0:=HZ.out;have z1:=((Keep.refl (fun _=>False) wr).drew).size;rcases hk with hk | hk;exact hk;exact ⟨.inr (by omega),by omega,by omega⟩)))
   clear hle hlie q5;refine hK.out _ _ ?_ (fun hHeld'=>?_)
   ·trivial
   clear hK K hHeld;have hHeld:=hHeld';clear hHeld'
   try simp only [Act.put,List.setIfInBounds_toArray,List.set_cons_zero,List.set_cons_succ]
   refine wpAnyH_ready (rs:=[6]) (by kernel_rfl) (by simp) ?_
   refine (AllReadyH.cons (o:=⟨_,_,_,_,_,_⟩) rfl (fun K hK=>?_) AllReadyH.nil)
   have A5:=hid (J.out.1.keep K5.out (fun h=>h))
   have A9:=hid (set8 A5.out (.int .i64 ub.kind) (.int .u64 ub.set.x0) (.int .u64 ub.set.x1) (.int .u64 ub.set.x2) (.int .u64 ub.set.x3) (.int .i64 ub.mn) (.int .i64 ub.mx) (.slice ja ub.subs.length jc));have H9:=hid (show At (putNd w5 b0 0 ub ja jc) b0 27 (ncells ub ja jc)∧ub.subs.length≤jc∧Lie (putNd w5 b0 0 ub ja jc) (fun k=>(ok k∨w.heap.size≤k)∧k≠b0∧k≠b0+1) ja ub.subs∧Keep (fun b=>b=b0) wr (putNd w5 b0 0 ub ja jc) from ⟨A9.out,N5.out.1,N5.out.2.keep (putNd_keep w5 b0 0 ub ja jc) (fun b hb e=>hb.2.1 e),(K5.out.mono (fun _ h=>h.elim)).trans (putNd_keep w5 b0 0 ub ja jc)⟩)
   clear A9;obtain ⟨⟨d0,d1,d2,d3,d4,d5,d6,d7⟩,f0,f1,f2,f3,f4,f5,f6,f7⟩:=cells8 A5.out;have hlt5:=A5.out.lt;go_simp;refine hK.out _ (putNd w5 b0 0 ub ja jc) ?_ (fun hHeld'=>?_)
   ·trivial
   clear hK K hHeld;have hHeld:=hHeld';clear hHeld';generalize (putNd w5 b0 0 ub ja jc)=W9 at *
   try simp only [Act.put,List.setIfInBounds_toArray,List.set_cons_zero,List.set_cons_succ]
   refine wpAnyH_done (by kernel_rfl) ?_ _
   refine NoPanic.normal ?_;rotate_left 1
   have HQ9:=hid (show Keep (fun _=>False) w W9∧At W9 (b0+1) 27 nzeros∧W0.heap.size≤W9.heap.size from
    ⟨J.out.2.2.1.next H9.out.2.2.2 (fun i e hi=>by have e:i=b0:=e;have:=HZ.out;omega),J.out.2.1.keep H9.out.2.2.2 (fun e=>by have e:b0+1=b0:=e;omega),by have:=HZ.out;have:=H9.out.2.2.2.size;have:=HS0.out;omega⟩)
   obtain ⟨⟨x0,x1,x2,x3,x4,x5,x6,x7⟩,-⟩:=cells8 H9.out.1;obtain ⟨gr,hgr⟩:∃ gr,decide (4000<cnt ub)=gr:=⟨_,rfl⟩;have HGr:=hid (fgreat_any ub J.out.2.2.2.2.2 hgr ja jc W9 (H9.out.2.2.1.mono fun _ _=>trivial))
   have HG:=hid hgr;clear hgr y0 y1 y2 y3 y4 y5 y6 y7;go_wp2_with fail;refine HGr.out.mono ?_;rintro e w6 ⟨rfl,q6⟩;have Q6:=hid q6;have hA6:=HQ9.out.2.1.keep q6 (fun h=>h)
   clear q6 x0 x1 x2 x3 x4 x5 x6 x7
   cases gr with
   | true =>
    have ho:o=none:=by rw [← J.out.2.2.2.1,if_pos (of_decide_eq_true HG.out)]
    subst ho;obtain ⟨⟨d0,d1,d2,d3,d4,d5,d6,d7⟩,f0,f1,f2,f3,f4,f5,f6,f7⟩:=cells8 hA6;have hlt6:=hA6.lt;have R6:=hid (show Rb w (b0+1) w6 from ⟨hA6,HQ9.out.1.trans Q6.out,by have:=HZ.out;omega⟩)
    go_wp2_with fail
    change bodyPost _ _ _ _ _ (putNd w6 (b0+1) 0 zT none 0)
    have hP:=R6.out.put zT none 0;have hG:=R6.out.gives (ok:=ok) (t:=zT) (Nat.le_refl 0) (.nil none);generalize (putNd w6 (b0+1) 0 zT none 0)=W8 at hP hG ⊢;obtain ⟨⟨e0,e1,e2,e3,e4,e5,e6,e7⟩,-⟩:=cells8 hP.1;exact bodyPost_ret (v:=.tuple #[nodeV zT none 0,.bool false]) (by simp [results,Tryz.results13,go_sem,e0,e1,e2,e3,e4,e5,e6,e7]) rfl (givesB hG)
   | false =>
    have hcu:=of_decide_eq_false HG.out
    have HN:=hid (show At w6 b0 27 (ncells ub ja jc)∧ub.subs.length≤jc∧Lie w6 (fun k=>(ok k∨w.heap.size≤k)∧k≠b0∧k≠b0+1) ja ub.subs∧Rs ub∧cnt ub≤4000∧wordG ub (s.drop (k+1))=o∧At w6 (b0+1) 27 nzeros∧Keep (fun _=>False) w w6∧W0.heap.size≤w6.heap.size from
     ⟨H9.out.1.keep Q6.out (fun h=>h),H9.out.2.1,H9.out.2.2.1.keepF Q6.out,J.out.2.2.2.2.1,by omega,by rw [← J.out.2.2.2.1,if_neg hcu],hA6,HQ9.out.1.trans Q6.out,Nat.le_trans HQ9.out.2.2 Q6.out.size⟩)
    clear hcu hA6;go_wp2_with fail
    go_roundg (s.length - (k+1))
    case measure=>omega
    case rel=>exact ⟨k+1,ub,ja,jc,by go_num,by omega,HN.out⟩
  ·have hke:k=s.length:=by omega
   subst hke;rw [List.drop_length,wordG] at hwd;subst hwd;have R6:=hid (show Rb w (b0+1) wr from ⟨hAr,hq,by have:=HS0.out;omega⟩)
   have HE:=hid (And.intro hle (hlie.mono (ok':=fun k=>(ok k∨w.heap.size≤k)∧k≠b0+1) (fun k h=>⟨h.1,h.2.2⟩)))
   obtain ⟨⟨d0,d1,d2,d3,d4,d5,d6,d7⟩,f0,f1,f2,f3,f4,f5,f6,f7⟩:=cells8 hAr;have hlt6:=hAr.lt;clear hA hle hlie hRs hcu hAr hq;go_wp2_with fail
   change bodyPost _ _ _ _ _ (putNd wr (b0+1) 0 u a1 c1)
   have hP:=R6.out.put u a1 c1;have hG:=R6.out.gives (ok:=ok) (t:=u) HE.out.1 HE.out.2;generalize (putNd wr (b0+1) 0 u a1 c1)=W8 at hP hG ⊢;obtain ⟨⟨e0,e1,e2,e3,e4,e5,e6,e7⟩,-⟩:=cells8 hP.1;exact bodyPost_ret (v:=.tuple #[nodeV u a1 c1,.bool true]) (by simp [results,Tryz.results13,go_sem,e0,e1,e2,e3,e4,e5,e6,e7]) rfl (givesB hG)
end P12
namespace P12
open Go.RowKit Base Bytes P07 P08 P09 P10
open Sets (ST)
theorem cmatch_of (s:List UInt8) (t:T) (y:T) (er:Int) (B:Bool) (a:Option Addr) (c:Nat) (ok:Nat→Prop) (w:World) (hL:Lie w ok a t.subs)
  (hW:∀ W,Lie W ok a t.subs→Calls Tryz.prog 10 #[nodeV t a c,str s] W (Gives2 W ok y er))
  (hE:∀ (bl o:Nat) (a:Option Addr) (c:Nat) (W:World),NodeP W bl o y a c→Lie W (fun _=>True) a y.subs→Calls Tryz.prog 43 #[.pointer (some ⟨bl,o,none⟩)] W fun e w'=>e=.returned (.bool B)∧W=w') :
  Calls Tryz.prog 23 #[nodeV t a c,str s] w fun e w'=>e=.returned (.tuple #[.bool B,.int .i64 er])∧Keep (fun _=>False) w w':=by
 have ba:=At.new w (ncells t a c) 27;have q0:=(Keep.refl (fun _=>False) w).alloc (.cells (ncells t a c) 27)
 have H0:=hid (And.intro hW (And.intro hE (And.intro (hL.keepF q0) (And.intro ba q0))));clear ba q0 hL hW hE
 go_enter Tryz.func23,Tryz.ntmps23
 go_upto_region 1 with fail;generalize (w.alloc (.cells (ncells t a c) 27))=W0 at *;obtain ⟨⟨y0,y1,y2,y3,y4,y5,y6,y7⟩,-⟩:=cells8 H0.out.2.2.2.1;have HS:=hid (H0.out.1 W0 H0.out.2.2.1);go_wp2_with fail;refine HS.out.mono ?_;rintro e w2 ⟨⟨v,rfl,ka,kc,rfl,hle,hlie⟩,q2⟩;have a9:=At.new w2 (ncells y ka kc) 27;have q9:=(Keep.refl (fun _=>False) w2).alloc (.cells (ncells y ka kc) 27)
 have Q2:=hid (And.intro a9 (And.intro ((H0.out.2.2.2.2.trans q2).trans q9) (hlie.keepF q9)));obtain ⟨g,hg⟩:∃ g,w2.heap.size=g:=⟨_,rfl⟩;rw [hg] at Q2;clear hle hlie q2 y0 y1 y2 y3 y4 y5 y6 y7 a9 q9;go_upto_region 2 with fail
 change Code.wp _ _ _ _ (w2.alloc (.cells (ncells y ka kc) 27))
 generalize (w2.alloc (.cells (ncells y ka kc) 27))=W3 at *;have HM:=hid (H0.out.2.1 g 0 ka kc W3 (NodeP.of_at Q2.out.1) (Q2.out.2.2.mono fun _ _=>trivial))
 clear hg;go_wp2_with fail;refine HM.out.mono ?_;rintro e w4 ⟨rfl,rfl⟩;go_wp2_with fail;exact bodyPost_ret (v:=.tuple #[.bool B,.int .i64 er]) (by simp [results,Tryz.results23,go_sem]) rfl ⟨rfl,Q2.out.2.1⟩
end P12
namespace P12
open Go.RowKit Base Bytes P07 P08 P09 P10
open Sets (ST)
theorem cword_wrong (s:List UInt8) (t:T) (hs:SOk t) (hR:¬ RT 12 t) (a:Option Addr) (c:Nat) (ok:Nat→Prop) (w:World) (hL:Lie w ok a t.subs) :
  Calls Tryz.prog 10 #[nodeV t a c,str s] w (Gives2 w ok zT 1):=by
 have ba:=(At.new w (ncells t a c) 27).alloc (.cells nzeros 27);have r0:Rb w (w.heap.size+1) ((w.alloc (.cells (ncells t a c) 27)).alloc (.cells nzeros 27)):=by
  refine ⟨?_,((Keep.refl (fun _=>False) w).alloc _).alloc _,by omega⟩
  have:=At.new (w.alloc (.cells (ncells t a c) 27)) nzeros 27;rw [show (w.alloc (.cells (ncells t a c) 27)).heap.size=w.heap.size+1 from by simp] at this
  exact this
 have HL:=hid (hL.under.keepF r0.keep);have HB:=hid ba;have HR:=hid r0;have H0:=hid (And.intro hs hR);clear ba r0 hL hs hR
 go_enter Tryz.func10,Tryz.ntmps10
 go_upto_region 1 with fail;generalize ((w.alloc (.cells (ncells t a c) 27)).alloc (.cells nzeros 27))=W0 at *;obtain ⟨⟨y0,y1,y2,y3,y4,y5,y6,y7⟩,-⟩:=cells8 HB.out;have HS:=hid (csimple_wrong t H0.out.1 H0.out.2 a c (fun k=>ok k∧k<w.heap.size) W0 HL.out)
 go_wp2_with fail;refine HS.out.mono ?_;rintro e w2 ⟨⟨v,rfl,ka,kc,rfl,hle,hlie⟩,q2⟩;have R2:=hid (HR.out.next q2);have a9:=At.new w2 (ncells zT ka kc) 27;have q9:=(Keep.refl (fun _=>False) w2).alloc (.cells (ncells zT ka kc) 27)
 have A9:=hid (And.intro a9 (R2.out.next q9));obtain ⟨g,hg⟩:∃ g,w2.heap.size=g:=⟨_,rfl⟩;rw [hg] at A9;clear hle hlie q2 y0 y1 y2 y3 y4 y5 y6 y7 a9 q9;go_upto_region 2 with fail
 change Code.wp _ _ _ _ (w2.alloc (.cells (ncells zT ka kc) 27))
 generalize (w2.alloc (.cells (ncells zT ka kc) 27))=W3 at *;obtain ⟨⟨d0,d1,d2,d3,d4,d5,d6,d7⟩,f0,f1,f2,f3,f4,f5,f6,f7⟩:=cells8 A9.out.2.out;have hlt:=A9.out.2.out.lt;clear hg;go_wp2_with fail
 change bodyPost _ _ _ _ _ (putNd W3 (w.heap.size+1) 0 zT none 0)
 have hP:=A9.out.2.put zT none 0;have hG:=A9.out.2.gives (ok:=ok) (t:=zT) (Nat.le_refl 0) (.nil none);generalize (putNd W3 (w.heap.size+1) 0 zT none 0)=W9 at hP hG ⊢;obtain ⟨⟨e0,e1,e2,e3,e4,e5,e6,e7⟩,-⟩:=cells8 hP.1;exact bodyPost_ret (v:=.tuple #[nodeV zT none 0,.int .i64 1]) (by simp [results,Tryz.results10,go_sem,e0,e1,e2,e3,e4,e5,e6,e7]) rfl (gives2 hG)
end P12
namespace P12
open Go.RowKit Base Bytes P07 P08 P09 P10
open Sets (ST)
theorem zero_any (bl o:Nat) (a:Option Addr) (c:Nat) (w:World) (hP:NodeP w bl o zT a c):Calls Tryz.prog 43 #[.pointer (some ⟨bl,o,none⟩)] w fun e w'=>e=.returned (.bool (nullB zT))∧w=w':=by
 obtain ⟨c0,-,-,-,-,c5,-,c7⟩:=hP.eight;have k0:zT.kind=0:=rfl;rw [k0] at c0;clear hP k0
 go_enter Tryz.func43,Tryz.ntmps43
 go_wp2_with fail;go_ret;exact ⟨rfl,rfl⟩
end P12
namespace P12
open Go.RowKit Base Bytes P07 P08 P09 P10
theorem here_any (w:World) (b g n cap k:Nat) (x y z:Value) (h:At w b 85 #[.slice (some ⟨g,0,none⟩) n cap,.int .i64 k,x,y,z]) (hk:k<n) :
  Calls Tryz.prog 30 #[.pointer (some ⟨b,0,none⟩)] w fun e w'=>e=.returned (.pointer (some ⟨g,k * 9,none⟩))∧Keep (fun _=>False) w w':=by
 have k0:w.cell? ⟨b,0,none⟩=some (.slice (some ⟨g,0,none⟩) n cap):=h.cell rfl;have k1:w.cell? ⟨b,1,none⟩=some (.int .i64 k):=h.cell rfl;have i0:(0:Int)≤k:=by omega
 have i1:(k:Int)<n:=by omega
 clear h
 go_enter Tryz.func30,Tryz.ntmps30
 go_upto_region 1 with fail
 go_quiet (fail)
 go_wp2_with fail;have q0:=(Keep.refl (fun _=>False) w).drewN nq
 go_ret;exact ⟨by simp,q0⟩
end P12
namespace P12
open Go.RowKit Base Bytes P07 P08 P09 P10
open Sets (ST)
theorem long_drop {s:List UInt8} {i:Nat} (h:i<s.length) (u:T) (tt z:Int):longG u tt z (s.drop i)=if sameB u noT=true then some (if nullB u=true then z else tt) else if 4000<cnt (byT (P07.byteAt s i) u) then none else longG (byT (P07.byteAt s i) u) (if nullB u=true then z else tt) (z+1) (s.drop (i+1)):=by
 have e:P07.byteAt s i=s[i].toNat:=by unfold P07.byteAt;rw [List.getElem?_eq_getElem h];rfl
 rw [List.drop_eq_getElem_cons h,longG,e]
end P12
end Go.Proofs.YtlmfbchgkjgljaaGreat
