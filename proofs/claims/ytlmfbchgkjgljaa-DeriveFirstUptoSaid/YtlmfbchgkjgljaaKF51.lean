/- The code's By (layer 12). -/
import Derived.Test.YtlmfbchgkjgljaaKF50
import Derived.Test.YtlmfbchgkjgljaaKF48
import Derived.Test.YtlmfbchgkjgljaaKF41
import Derived.Test.YtlmfbchgkjgljaaKF33
import Derived.Test.YtlmfbchgkjgljaaKF32
import Derived.Test.YtlmfbchgkjgljaaKF29
import Derived.Test.YtlmfbchgkjgljaaKF24
import Derived.Test.YtlmfbchgkjgljaaKF31
import Derived.Test.YtlmfbchgkjgljaaKF36
set_option maxRecDepth 100000
set_option maxHeartbeats 32000000
open Go.Lib (hid)
namespace Go.Proofs.Ytlmfbchgkjgljaa
namespace P12
open Go.RowKit Base Bytes P07 P08 P09 P10
open Sets (ST)
theorem gives2 {w:World} {ok:Nat→Prop} {t:T} {a:Option Addr} {c:Nat} {er:Int} {w':World} (h:Gives w ok t (.returned (nodeV t a c)) w'):Gives2 w ok t er (.returned (.tuple #[nodeV t a c,.int .i64 er])) w':=by
 obtain ⟨⟨v,e,hv⟩,q⟩:=h;injection e with e;subst e;exact ⟨⟨_,rfl,hv⟩,q⟩
theorem reg_by {t:T} (hR:RT 12 t) (hc:cnt t≤60):Rs (simT t)∧Reg 4611686018427387903 (cnt (simT t)):=by
 have h:=(sim_ok t 12 hR).1;exact ⟨⟨12,h.rt,h.smp⟩,by have:=h.cnt;omega,.inr ⟨rfl,by have:=h.cnt;omega⟩⟩
theorem by_small (b:Nat) {t:T} (hR:RT 12 t) (hc:cnt t≤60):cnt (byT b (simT t))≤3780:=by
 have h:=reg_by hR hc;have h1:=(by_rs b _ h.1).2;have h2:=(sim_ok t 12 hR).1.cnt;have h3:=Nat.mul_le_mul (show cnt (simT t)≤60 by omega) (show cnt (simT t)≤60 by omega)
 omega
theorem cby_right (b:Nat) (hb:b<256) (t:T) (hR:RT 12 t) (hcnt:cnt t≤60) (a:Option Addr) (c:Nat) (ok:Nat→Prop) (w:World) (hL:Lie w ok a t.subs) (hc:t.subs.length≤c) :
  Calls Try.prog 7 #[nodeV t a c,.int .u8 (b:Int)] w (Gives2 w ok (byT b (simT t)) 0):=by
 have ba:=(At.new w (ncells t a c) 27).alloc (.cells nzeros 27);have r0:Rb w (w.heap.size+1) ((w.alloc (.cells (ncells t a c) 27)).alloc (.cells nzeros 27)):=by
  refine ⟨?_,((Keep.refl (fun _=>False) w).alloc _).alloc _,by omega⟩
  have:=At.new (w.alloc (.cells (ncells t a c) 27)) nzeros 27;rw [show (w.alloc (.cells (ncells t a c) 27)).heap.size=w.heap.size+1 from by simp] at this
  exact this
 have hs0:((w.alloc (.cells (ncells t a c) 27)).alloc (.cells nzeros 27)).heap.size=w.heap.size+2:=by simp
 have HL:=hid (hL.under.keepF r0.keep);have HB:=hid ba;have HR:=hid r0;have HZ:=hid hs0;have hrg:=reg_by hR hcnt;have hsm:=by_small b hR hcnt;obtain ⟨u,hu⟩:∃ u,simT t=u:=⟨_,rfl⟩;obtain ⟨y,hy⟩:∃ y,byT b u=y:=⟨_,rfl⟩;rw [hu] at hrg hsm ⊢;rw [hy] at hsm ⊢;have H0:=hid (And.intro hR (And.intro hcnt (And.intro hc (And.intro hrg (And.intro hsm (And.intro hu hy))))));clear ba r0 hL hs0 hR hcnt hc hrg hsm hu hy
 go_enter Try.func7,Try.ntmps7
 go_upto_region 1 with fail;generalize ((w.alloc (.cells (ncells t a c) 27)).alloc (.cells nzeros 27))=W0 at *;obtain ⟨⟨y0,y1,y2,y3,y4,y5,y6,y7⟩,-⟩:=cells8 HB.out;have HS:=hid (csimple_right t H0.out.1 (by have:=H0.out.2.1;omega) a c (fun k=>ok k∧k<w.heap.size) W0 HL.out H0.out.2.2.1)
 rw [H0.out.2.2.2.2.2.1] at HS;go_wp2_with fail;refine HS.out.mono ?_;rintro e w2 ⟨⟨v,rfl,ka,kc,rfl,hle,hlie⟩,q2⟩;have R2:=hid (HR.out.next q2);have N2:=hid (And.intro hle (hlie.mono (ok':=fun k=>(ok k∨w.heap.size≤k)∧k≠w.heap.size+1) (fun k hk=>by have z0:=HZ.out;rcases hk with hk | hk;exact ⟨.inl hk.1,by have:=hk.2;omega⟩;exact ⟨.inr (by omega),by omega⟩)))
 have a9:=At.new w2 (ncells u ka kc) 27;have q9:=(Keep.refl (fun _=>False) w2).alloc (.cells (ncells u ka kc) 27)
 have A9:=hid (And.intro a9 (And.intro (R2.out.next q9) (N2.out.2.keepF q9)));obtain ⟨g,hg⟩:∃ g,w2.heap.size=g:=⟨_,rfl⟩;rw [hg] at A9;clear hle hlie q2 y0 y1 y2 y3 y4 y5 y6 y7 a9 q9;go_upto_region 4 with fail
 change Code.wp _ _ _ _ (w2.alloc (.cells (ncells u ka kc) 27))
 generalize (w2.alloc (.cells (ncells u ka kc) 27))=W3 at *;have HOf:=hid (bh_any b hb 4611686018427387903 u H0.out.2.2.2.1.1 H0.out.2.2.2.1.2 g 0 ka kc (fun k=>(ok k∨w.heap.size≤k)∧k≠w.heap.size+1) W3 (NodeP.of_at A9.out.1) A9.out.2.2 N2.out.1)
 unfold Ofd at HOf;rw [H0.out.2.2.2.2.2.2,decide_eq_true (show (cnt y:Int)≤4611686018427387903 by have:=H0.out.2.2.2.2.1;omega)] at HOf
 clear hg;go_wp2_with fail;refine HOf.out.mono ?_;rintro e w4 ⟨z,⟨⟨vv,rfl,xa,xc,rfl,hle,hlie⟩,q4⟩,hz⟩;obtain rfl:z=y:=hz (by have:=H0.out.2.2.2.2.1;omega)
 have q5:=q4.alloc (.cells (ncells z xa xc) 27);have R5:=hid (A9.out.2.1.next q5);have N5:=hid (And.intro hle ((hlie.mono (ok':=fun k=>(ok k∨w.heap.size≤k)∧k≠w.heap.size+1) (fun k hk=>by have z1:=A9.out.2.1.out.lt;rcases hk with hk | hk;exact hk;exact ⟨.inr (by omega),by omega⟩)).keepF ((Keep.refl (fun _=>False) w4).alloc (.cells (ncells z xa xc) 27))))
 have A5:=hid (At.new w4 (ncells z xa xc) 27);clear hle hlie q4 q5 hz;go_upto_region 5 with fail
 change Code.wp _ _ _ _ (w4.alloc (.cells (ncells z xa xc) 27))
 obtain ⟨g2,hg2⟩:∃ g2,w4.heap.size=g2:=⟨_,rfl⟩;rw [hg2] at A5;generalize (w4.alloc (.cells (ncells z xa xc) 27))=W5 at *;obtain ⟨⟨x0,x1,x2,x3,x4,x5,x6,x7⟩,-⟩:=cells8 A5.out;obtain ⟨⟨d0,d1,d2,d3,d4,d5,d6,d7⟩,f0,f1,f2,f3,f4,f5,f6,f7⟩:=cells8 R5.out.out;have hlt5:=R5.out.out.lt;go_wp2_with fail
 change bodyPost _ _ _ _ _ (putNd W5 (w.heap.size+1) 0 z xa xc)
 have hP:=R5.out.put z xa xc;have hG:=R5.out.gives (ok:=ok) (t:=z) N5.out.1 N5.out.2;generalize (putNd W5 (w.heap.size+1) 0 z xa xc)=W8 at hP hG ⊢;obtain ⟨⟨e0,e1,e2,e3,e4,e5,e6,e7⟩,-⟩:=cells8 hP.1;exact bodyPost_ret (v:=.tuple #[nodeV z xa xc,.int .i64 0]) (by simp [results,Try.results7,go_sem,e0,e1,e2,e3,e4,e5,e6,e7]) rfl (gives2 hG)
end P12
namespace P12
open Go.RowKit Base Bytes P07 P08 P09 P10
open Sets (ST)
theorem cby_wrong (b:Nat) (t:T) (hs:SOk t) (hR:¬ RT 12 t) (a:Option Addr) (c:Nat) (ok:Nat→Prop) (w:World) (hL:Lie w ok a t.subs) :
  Calls Try.prog 7 #[nodeV t a c,.int .u8 (b:Int)] w (Gives2 w ok zT 1):=by
 have ba:=(At.new w (ncells t a c) 27).alloc (.cells nzeros 27);have r0:Rb w (w.heap.size+1) ((w.alloc (.cells (ncells t a c) 27)).alloc (.cells nzeros 27)):=by
  refine ⟨?_,((Keep.refl (fun _=>False) w).alloc _).alloc _,by omega⟩
  have:=At.new (w.alloc (.cells (ncells t a c) 27)) nzeros 27;rw [show (w.alloc (.cells (ncells t a c) 27)).heap.size=w.heap.size+1 from by simp] at this
  exact this
 have HL:=hid (hL.under.keepF r0.keep);have HB:=hid ba;have HR:=hid r0;have H0:=hid (And.intro hs hR);clear ba r0 hL hs hR
 go_enter Try.func7,Try.ntmps7
 go_upto_region 1 with fail;generalize ((w.alloc (.cells (ncells t a c) 27)).alloc (.cells nzeros 27))=W0 at *;obtain ⟨⟨y0,y1,y2,y3,y4,y5,y6,y7⟩,-⟩:=cells8 HB.out;have HS:=hid (csimple_wrong t H0.out.1 H0.out.2 a c (fun k=>ok k∧k<w.heap.size) W0 HL.out)
 go_wp2_with fail;refine HS.out.mono ?_;rintro e w2 ⟨⟨v,rfl,ka,kc,rfl,hle,hlie⟩,q2⟩;have R2:=hid (HR.out.next q2);have a9:=At.new w2 (ncells zT ka kc) 27;have q9:=(Keep.refl (fun _=>False) w2).alloc (.cells (ncells zT ka kc) 27)
 have A9:=hid (And.intro a9 (R2.out.next q9));obtain ⟨g,hg⟩:∃ g,w2.heap.size=g:=⟨_,rfl⟩;rw [hg] at A9;clear hle hlie q2 y0 y1 y2 y3 y4 y5 y6 y7 a9 q9;go_upto_region 2 with fail
 change Code.wp _ _ _ _ (w2.alloc (.cells (ncells zT ka kc) 27))
 generalize (w2.alloc (.cells (ncells zT ka kc) 27))=W3 at *;obtain ⟨⟨d0,d1,d2,d3,d4,d5,d6,d7⟩,f0,f1,f2,f3,f4,f5,f6,f7⟩:=cells8 A9.out.2.out;have hlt:=A9.out.2.out.lt;clear hg;go_wp2_with fail
 change bodyPost _ _ _ _ _ (putNd W3 (w.heap.size+1) 0 zT none 0)
 have hP:=A9.out.2.put zT none 0;have hG:=A9.out.2.gives (ok:=ok) (t:=zT) (Nat.le_refl 0) (.nil none);generalize (putNd W3 (w.heap.size+1) 0 zT none 0)=W9 at hP hG ⊢;obtain ⟨⟨e0,e1,e2,e3,e4,e5,e6,e7⟩,-⟩:=cells8 hP.1;exact bodyPost_ret (v:=.tuple #[nodeV zT none 0,.int .i64 1]) (by simp [results,Try.results7,go_sem,e0,e1,e2,e3,e4,e5,e6,e7]) rfl (gives2 hG)
end P12
namespace P10
open Go.RowKit Base Bytes P07 P08 P09 IL
open Sets (ST)
theorem fb_apart {b w:World} {v:Value} {S:ST} {n:Nat} (h:Fb b w v S n) {E:Nat→Prop} {u:Value} {L:List T} (hu:OE w E u L):∀ g,v.ownBlock=some g→u.ownBlock≠some g:=fun g hg hug=>by
 obtain ⟨M,h1,-⟩:=h.il;obtain ⟨X,k1,-⟩:=hu
 rcases h1.2 with ⟨rfl,-⟩ | ⟨g1,cap,cur,rfl,_,hc,-⟩
 ·cases hg
 ·rcases k1.2 with ⟨rfl,-⟩ | ⟨g2,cap2,cur2,rfl,_,hc2,-⟩
  ·cases hug
  ·injection hg with hg
   injection hug with hug;have e1:g1=g:=hg;have e2:g2=g:=hug;rw [e1] at hc;rw [e2,hc] at hc2;injection hc2 with hc2;injection hc2 with _ hc2;exact absurd hc2 (by decide)
theorem fb_keepS {b w w':World} {v:Value} {S:ST} {n:Nat} (h:Fb b w v S n) {Q:Nat→Prop} (k:Keep Q w w') (h1:∀ g,v.ownBlock=some g→¬ Q g) (h2:∀ i,Q i→b.heap.size≤i):Fb b w' v S n:=by
 obtain ⟨L,g1,g2⟩:=h.il;exact ⟨h.q.next k (fun i hi hl=>by have:=h2 i hi;omega),h.far,L,g1.keep k h1,g2⟩
def Rl (L' L:List T):Option Nat→ST→Prop
 | none,S=>L'=L∧S=ST.none
 | some i,S=>∃ (r:T),r.kind=2∧S.Ok∧L[i]?=some (clsT S)∧L'=L.set i r
theorem Rl.len {L' L:List T} {c:Option Nat} {S:ST} (h:Rl L' L c S):L'.length=L.length:=by
 cases c with
 | none=>rw [h.1]
 | some i =>
  obtain ⟨r,-,-,-,e⟩:=h;rw [e,List.length_set]
theorem Rl.any {L' L:List T} {c:Option Nat} {S:ST} (h:Rl L' L c S) {t:T} (ht:t.kind≠2):L'.any (sameB t)=L.any (sameB t):=by
 cases c with
 | none=>rw [h.1]
 | some i =>
  obtain ⟨r,hr,-,hi,e⟩:=h;rw [e,Bool.eq_iff_iff,any_same,any_same];have hil:=(List.getElem?_eq_some_iff.1 hi).1
  constructor
  ·intro hm
   rcases List.mem_or_eq_of_mem_set hm with hm | hm
   ·exact hm
   ·rw [hm] at ht
    exact absurd hr ht
  ·intro hm
   obtain ⟨j,hj⟩:=List.mem_iff_getElem?.1 hm;have hji:j≠i:=fun e=>by
    rw [e,hi] at hj;injection hj with hj;rw [← hj] at ht;exact absurd rfl ht
   exact List.mem_iff_getElem?.2 ⟨j,by rw [List.getElem?_set_ne (fun e=>hji e.symm)];exact hj⟩
theorem Rl.push {L' L:List T} {c:Option Nat} {S:ST} (h:Rl L' L c S) (t:T):Rl (L'++[t]) (L++[t]) c S:=by
 cases c with
 | none=>exact ⟨by rw [h.1],h.2⟩
 | some i =>
  obtain ⟨r,h1,h2,h3,h4⟩:=h;have hil:=(List.getElem?_eq_some_iff.1 h3).1;exact ⟨r,h1,h2,by rw [List.getElem?_append_left hil];exact h3,by rw [h4,List.set_append_left _ _ hil]⟩
theorem Rl.first {L' L:List T} {S:ST} (h:Rl L' L none S) {t:T} (hk:t.kind=2) (hs:t.set.Ok):Rl (L'++[t]) (L++[clsT t.set]) (some L.length) (S.or t.set):=by
 obtain ⟨rfl,rfl⟩:=h;refine ⟨t,hk,ST.or_ok ST.none_ok hs,by rw [none_or hs];simp,?_⟩
 rw [List.set_append_right _ _ (Nat.le_refl _),Nat.sub_self]
 rfl
theorem Rl.more {L' L:List T} {i:Nat} {S:ST} (h:Rl L' L (some i) S) {s:ST} (hs:s.Ok):Rl L' (L.set i (clsT (S.or s))) (some i) (S.or s):=by
 obtain ⟨r,h1,h2,h3,h4⟩:=h;have hil:=(List.getElem?_eq_some_iff.1 h3).1;exact ⟨r,h1,ST.or_ok h2 hs,by rw [List.getElem?_set_self hil],by rw [h4,List.set_set]⟩
structure Fl (w b:World) (ok:Nat→Prop) (v:Value) (M:List T) (L':List T) (S:ST) (n:Nat) (u vb:Value) (W:World):Prop where
 row:OE W (fun j=>ok j∧j<w.heap.size) u L'
 own:Own b.heap.size u
 fb:Fb b W vb S n
 rb:Rb w w.heap.size W
 lv:OE W (fun j=>ok j∧j<w.heap.size) v M
 lo:∀ g,v.ownBlock=some g→w.heap.size+1≤g∧g<b.heap.size
 bs:w.heap.size+1≤b.heap.size∧b.heap.size≤W.heap.size
theorem Fl.quiet {w b:World} {ok:Nat→Prop} {v:Value} {M:List T} {L':List T} {S:ST} {n:Nat} {u vb:Value} {W W':World} (h:Fl w b ok v M L' S n u vb W) (q:Keep (fun _=>False) W W'):Fl w b ok v M L' S n u vb W' :=
 ⟨h.row.keep q (fun _ _ h=>h) (fun _ _ h=>h),h.own,h.fb.keep q,h.rb.next q,h.lv.keep q (fun _ _ h=>h) (fun _ _ h=>h),h.lo,⟨h.bs.1,Nat.le_trans h.bs.2 q.size⟩⟩
theorem Fl.turn {w b:World} {ok:Nat→Prop} {v:Value} {M:List T} {L':List T} {S:ST} {n:Nat} {u vb:Value} {W W':World} (h:Fl w b ok v M L' S n u vb W) {Q:Nat→Prop} (q:Keep Q W W') (hQ:∀ i,Q i→b.heap.size≤i):Rb w w.heap.size W'∧OE W' (fun j=>ok j∧j<w.heap.size) v M∧(w.heap.size+1≤b.heap.size∧b.heap.size≤W'.heap.size):=by
 have hb:=h.bs;exact ⟨⟨h.rb.out.keep q (fun e=>by have:=hQ _ e;omega),h.rb.keep.next q (fun i hi e=>by have:=hQ i hi;omega),h.rb.lt⟩,h.lv.keep q (fun g hg e=>by have:=h.lo g hg;have:=hQ g e;omega) (fun j hj e=>by have:=hQ j e;omega),hb.1,Nat.le_trans hb.2 q.size⟩
theorem Fl.push {w b:World} {ok:Nat→Prop} {v:Value} {M:List T} {L':List T} {S:ST} {n:Nat} {u vb:Value} {W:World} (h:Fl w b ok v M L' S n u vb W) (t:T) (a:Option Addr) (c:Nat) (hc:t.subs.length≤c) (hl:Lie W (fun j=>ok j∧j<w.heap.size) a t.subs) (hlen:L'.length≤1000000) (ty:TypeId) :
  ∃ v' w',(Builtin.append_ #[25,25] ty #[u,.slice (some ⟨W.heap.size,0,none⟩) 1 1]).run Try.prog (W.alloc (.cells (ncells t a c) 27))=.ok v' w'∧Fl w b ok v M (L'++[t]) S n v' vb w':=by
 have hb:=h.bs;obtain ⟨v',w',hrun,g1,g2,g3⟩:=h.row.push (fun g hg e=>by have:=h.own g hg;omega) t a c hc hl (by omega) ty
 obtain ⟨r1,r2,r3⟩:=h.turn g2 (fun i hi=>h.own i hi)
 refine ⟨v',w',hrun,g1,fun g hg=>?_,fb_keepS h.fb g2 (fun g hg e=>fb_apart h.fb h.row g hg e) (fun i hi=>h.own i hi),r1,r2,h.lo,r3⟩
 rcases g3 g hg with h1 | h1
 ·exact h.own g h1
 ·omega
theorem fb_append {b w:World} {v:Value} {S:ST} {n:Nat} (h:Fb b w v S n) {s:ST} (hs:s.Ok) (hn:n≤8190) {v2:Value} (hi:IL w v2 (Bytes.lst s.has 256)) (ty:TypeId) :
  ∃ v' w',(Builtin.append_ #[50,50] ty #[v,v2]).run Try.prog w=.ok v' w'∧Fb b w' v' (S.or s) (n+1)∧Keep (fun g=>v.ownBlock=some g) w w':=by
 obtain ⟨L,h1,h2,h3,h4⟩:=h.il;obtain ⟨a2,cap2,rfl,hc⟩:=hi.form;have hlN:=lstN_length s.has 256;have hlen:(Bytes.lst s.has 256).length=(lstN s.has 256).length:=by rw [lstN_ints];unfold ints;rw [List.length_map]
 obtain ⟨v',w',hrun,g1,g2,g3⟩:=h1.append (Bytes.lst s.has 256) a2 cap2 (fun j x hx=>by
  obtain ⟨g,-,e,hcell⟩:=hc j x hx;refine ⟨⟨g,0,none⟩,e,?_⟩
  rw [show (⟨g,0,none⟩:Addr).add j=⟨g,j,none⟩ from by
   unfold Addr.add
   split
   ·rename_i hz
    rw [hz]
   ·simp]
  exact hcell) (by unfold ints;rw [List.length_map,hlen];omega) ty
 refine ⟨v',w',hrun,⟨h.q.next g2 (fun i hh hi=>by have:=h.far i hh;omega),fun g hg=>?_,L++lstN s.has 256,?_,?_,?_,?_⟩,g2⟩
 ·rcases g3 g hg with h5 | h5
  ·exact h.far g h5
  ·exact Nat.le_trans h.q.size h5
 ·rw [lstN_ints] at g1
  unfold ints at g1 ⊢;rw [List.map_append];exact g1
 ·intro x hx
  rcases List.mem_append.1 hx with h5 | h5
  ·exact h2 x h5
  ·exact ((lstN_mem _ _ _).1 h5).1
 ·rw [List.length_append]
  omega
 ·rw [mk_append,h4,mk_lstN hs]
theorem Fl.bytes {w b:World} {ok:Nat→Prop} {v:Value} {M:List T} {L':List T} {S:ST} {n:Nat} {u vb:Value} {W:World} (h:Fl w b ok v M L' S n u vb W) {s:ST} (hs:s.Ok) (hn:n≤8190) {v2:Value} (hi:IL W v2 (Bytes.lst s.has 256)) (ty:TypeId) :
  ∃ v' w',(Builtin.append_ #[50,50] ty #[vb,v2]).run Try.prog W=.ok v' w'∧Fl w b ok v M L' (S.or s) (n+1) u v' w'∧Keep (fun g=>vb.ownBlock=some g) W w':=by
 obtain ⟨v',w',hrun,g1,g2⟩:=fb_append h.fb hs hn hi ty;have hb:=h.bs;obtain ⟨r1,r2,r3⟩:=h.turn g2 (fun i hi=>h.fb.far i hi)
 exact ⟨v',w',hrun,⟨h.row.keep g2 (fun g hg e=>fb_apart h.fb h.row g e hg) (fun j hj e=>by have:=h.fb.far j e;omega),h.own,g1,r1,r2,h.lo,r3⟩,g2⟩
end P10
namespace P12
open Go.RowKit Base Bytes P07 P08 P09 P10
open Sets (ST)
theorem word_drop {s:List UInt8} {i:Nat} (h:i<s.length) (u:T):wordG u (s.drop i)=if 4000<cnt (byT (P07.byteAt s i) u) then none else wordG (byT (P07.byteAt s i) u) (s.drop (i+1)):=by
 have e:P07.byteAt s i=s[i].toNat:=by unfold P07.byteAt;rw [List.getElem?_eq_getElem h];rfl
 rw [List.drop_eq_getElem_cons h,wordG,e]
end P12
namespace P12
open Go.RowKit Base Bytes P07 P08 P09 P10
open Sets (ST)
theorem cmatch_of (s:List UInt8) (t:T) (y:T) (er:Int) (B:Bool) (a:Option Addr) (c:Nat) (ok:Nat→Prop) (w:World) (hL:Lie w ok a t.subs)
  (hW:∀ W,Lie W ok a t.subs→Calls Try.prog 11 #[nodeV t a c,str s] W (Gives2 W ok y er))
  (hE:∀ (bl o:Nat) (a:Option Addr) (c:Nat) (W:World),NodeP W bl o y a c→Lie W (fun _=>True) a y.subs→Calls Try.prog 27 #[.pointer (some ⟨bl,o,none⟩)] W fun e w'=>e=.returned (.bool B)∧W=w') :
  Calls Try.prog 12 #[nodeV t a c,str s] w fun e w'=>e=.returned (.tuple #[.bool B,.int .i64 er])∧Keep (fun _=>False) w w':=by
 have ba:=At.new w (ncells t a c) 27;have q0:=(Keep.refl (fun _=>False) w).alloc (.cells (ncells t a c) 27)
 have H0:=hid (And.intro hW (And.intro hE (And.intro (hL.keepF q0) (And.intro ba q0))));clear ba q0 hL hW hE
 go_enter Try.func12,Try.ntmps12
 go_upto_region 1 with fail;generalize (w.alloc (.cells (ncells t a c) 27))=W0 at *;obtain ⟨⟨y0,y1,y2,y3,y4,y5,y6,y7⟩,-⟩:=cells8 H0.out.2.2.2.1;have HS:=hid (H0.out.1 W0 H0.out.2.2.1);go_wp2_with fail;refine HS.out.mono ?_;rintro e w2 ⟨⟨v,rfl,ka,kc,rfl,hle,hlie⟩,q2⟩;have a9:=At.new w2 (ncells y ka kc) 27;have q9:=(Keep.refl (fun _=>False) w2).alloc (.cells (ncells y ka kc) 27)
 have Q2:=hid (And.intro a9 (And.intro ((H0.out.2.2.2.2.trans q2).trans q9) (hlie.keepF q9)));obtain ⟨g,hg⟩:∃ g,w2.heap.size=g:=⟨_,rfl⟩;rw [hg] at Q2;clear hle hlie q2 y0 y1 y2 y3 y4 y5 y6 y7 a9 q9;go_upto_region 2 with fail
 change Code.wp _ _ _ _ (w2.alloc (.cells (ncells y ka kc) 27))
 generalize (w2.alloc (.cells (ncells y ka kc) 27))=W3 at *;have HM:=hid (H0.out.2.1 g 0 ka kc W3 (NodeP.of_at Q2.out.1) (Q2.out.2.2.mono fun _ _=>trivial))
 clear hg;go_wp2_with fail;refine HM.out.mono ?_;rintro e w4 ⟨rfl,rfl⟩;go_wp2_with fail;exact bodyPost_ret (v:=.tuple #[.bool B,.int .i64 er]) (by simp [results,Try.results12,go_sem]) rfl ⟨rfl,Q2.out.2.1⟩
end P12
namespace P12
open Go.RowKit Base Bytes P07 P08 P09 P10
open Sets (ST)
theorem zero_any (bl o:Nat) (a:Option Addr) (c:Nat) (w:World) (hP:NodeP w bl o zT a c):Calls Try.prog 27 #[.pointer (some ⟨bl,o,none⟩)] w fun e w'=>e=.returned (.bool (nullB zT))∧w=w':=by
 obtain ⟨c0,-,-,-,-,c5,-,c7⟩:=hP.eight;have k0:zT.kind=0:=rfl;rw [k0] at c0;clear hP k0
 go_enter Try.func27,Try.ntmps27
 go_wp2_with fail;go_ret;exact ⟨rfl,rfl⟩
end P12
namespace P12
open Go.RowKit Base Bytes P07 P08 P09 P10
theorem here_any (w:World) (b g n cap k:Nat) (x y z:Value) (h:At w b 76 #[.slice (some ⟨g,0,none⟩) n cap,.int .i64 k,x,y,z]) (hk:k<n) :
  Calls Try.prog 26 #[.pointer (some ⟨b,0,none⟩)] w fun e w'=>e=.returned (.pointer (some ⟨g,k * 9,none⟩))∧Keep (fun _=>False) w w':=by
 have k0:w.cell? ⟨b,0,none⟩=some (.slice (some ⟨g,0,none⟩) n cap):=h.cell rfl;have k1:w.cell? ⟨b,1,none⟩=some (.int .i64 k):=h.cell rfl;have i0:(0:Int)≤k:=by omega
 have i1:(k:Int)<n:=by omega
 clear h
 go_enter Try.func26,Try.ntmps26
 go_upto_region 1 with fail
 go_quiet (fail)
 go_wp2_with fail;have q0:=(Keep.refl (fun _=>False) w).drewN nq
 go_ret;exact ⟨by simp,q0⟩
end P12
namespace P12
open Go.RowKit Base Bytes P07 P08 P09 P10
open Sets (ST)
theorem long_drop {s:List UInt8} {i:Nat} (h:i<s.length) (u:T) (tt z:Int):longG u tt z (s.drop i)=if sameB u noT=true then some (if nullB u=true then z else tt) else if 4000<cnt (byT (P07.byteAt s i) u) then none else longG (byT (P07.byteAt s i) u) (if nullB u=true then z else tt) (z+1) (s.drop (i+1)):=by
 have e:P07.byteAt s i=s[i].toNat:=by unfold P07.byteAt;rw [List.getElem?_eq_getElem h];rfl
 rw [List.drop_eq_getElem_cons h,longG,e]
end P12
end Go.Proofs.Ytlmfbchgkjgljaa
