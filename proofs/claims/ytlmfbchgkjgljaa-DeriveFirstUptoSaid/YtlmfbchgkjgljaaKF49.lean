/- The code's followed (layer 12). -/
import Derived.Test.YtlmfbchgkjgljaaKF36
import Derived.Test.YtlmfbchgkjgljaaKF29
import Derived.Test.YtlmfbchgkjgljaaKF32
import Derived.Test.YtlmfbchgkjgljaaKF48
set_option maxRecDepth 100000
set_option maxHeartbeats 32000000
open Go.Lib (hid)
namespace Go.Proofs.Ytlmfbchgkjgljaa
namespace P12
open Go.RowKit Base Bytes P07 P08 P09 P10
open Sets (ST)
def GiveB (w:World) (ok:Nat→Prop) (t:T) (B:Bool) (e:Ending) (w':World):Prop:=(∃ v,e=.returned (.tuple #[v,.bool B])∧NodeV w' (fun k=>ok k∨w.heap.size≤k) v t)∧Keep (fun _=>False) w w'
theorem giveB {w:World} {ok:Nat→Prop} {t:T} {a:Option Addr} {c:Nat} {B:Bool} {w':World} (h:Gives w ok t (.returned (nodeV t a c)) w'):GiveB w ok t B (.returned (.tuple #[nodeV t a c,.bool B])) w':=by
 obtain ⟨⟨v,e,hv⟩,q⟩:=h;injection e with e;subst e;exact ⟨⟨_,rfl,hv⟩,q⟩
@[reducible] def bhV (b:Nat) (M:Int):Value:=.agg #[.int .u8 (b:Int),.int .i64 M]
theorem cat_first_no {x:T} (h:isNo x=true) (l:List T):catT (x::l)=noT:=by
 unfold catT;rw [if_pos];rw [List.any_eq_true];refine ⟨x,?_,h⟩;rw [unf_cons,if_neg (by rw [is_no h];decide)]
 simp
theorem followed_any (b:Nat) (M:Int) (hM:1≤M) (x:T) {d:Nat} (hR:RT d x) (l:List T) (hcnt:cntL (x::l)≤400000) (hsets:∀ t ∈ unf 3 (x::l),t.set.Ok) {B:Bool} (hB:decide ((cnt (catT (x::l)):Int)≤M)=B)
  (ja:Option Addr) (jc:Nat) (hc:x.subs.length≤jc) (la:Option Addr) (lc:Nat) (ok:Nat→Prop) (w:World) (hx:Lie w ok ja x.subs) (hl:Lie w ok la l) :
  Calls Try.prog 46 #[bhV b M,nodeV x ja jc,.slice la l.length lc] w (GiveB w ok (catT (x::l)) B):=by
 have q0:=(((Keep.refl (fun _=>False) w).alloc (.cells #[.int .u8 (b:Int),.int .i64 M] 47)).alloc (.cells (ncells x ja jc) 27)).alloc (.cells nzeros 27)
 have a0:=((At.new w #[.int .u8 (b:Int),.int .i64 M] 47).alloc (.cells (ncells x ja jc) 27)).alloc (.cells nzeros 27);have a1:=(At.new (w.alloc (.cells #[.int .u8 (b:Int),.int .i64 M] 47)) (ncells x ja jc) 27).alloc (.cells nzeros 27);rw [show (w.alloc (.cells #[.int .u8 (b:Int),.int .i64 M] 47)).heap.size=w.heap.size+1 from by simp] at a1
 have a2:=At.new ((w.alloc (.cells #[.int .u8 (b:Int),.int .i64 M] 47)).alloc (.cells (ncells x ja jc) 27)) nzeros 27;rw [show ((w.alloc (.cells #[.int .u8 (b:Int),.int .i64 M] 47)).alloc (.cells (ncells x ja jc) 27)).heap.size=w.heap.size+1+1 from by simp] at a2
 have HA:=hid (And.intro a0 (And.intro a1 (And.intro (hx.under.keepF q0) (hl.under.keepF q0))));have HR:=hid (show Rb w (w.heap.size+1+1) _ from ⟨a2,q0,by omega⟩)
 have HS0:=hid (show ((((w.alloc (.cells #[.int .u8 (b:Int),.int .i64 M] 47)).alloc (.cells (ncells x ja jc) 27)).alloc (.cells nzeros 27))).heap.size=w.heap.size+3 by simp)
 obtain ⟨y,hy⟩:∃ y,catT (x::l)=y:=⟨_,rfl⟩;obtain ⟨nx,hnx⟩:∃ nx,isNo x=nx:=⟨_,rfl⟩;have HX:=hid (And.intro hR (And.intro hcnt (And.intro hsets (And.intro hc (And.intro hM hnx)))));have hll:l.length≤400000:=by have:=lenL l;rw [cntL] at hcnt;omega
 rw [hy] at hB ⊢;have HB:=hid hB;have HY:=hid hy;clear q0 a0 a1 a2 hx hl hR hcnt hsets hc hM hnx hB hy
 go_enter Try.func46,Try.ntmps46
 go_upto_region 1 with fail;generalize (((w.alloc (.cells #[.int .u8 (b:Int),.int .i64 M] 47)).alloc (.cells (ncells x ja jc) 27)).alloc (.cells nzeros 27))=W0 at *;have HNo:=hid (isno_any x (w.heap.size+1) 0 ja jc W0 (NodeP.of_at HA.out.2.1));rw [HX.out.2.2.2.2.2] at HNo;go_wp2_with fail;refine HNo.out.mono ?_;rintro e w1 ⟨rfl,rfl⟩;obtain ⟨⟨y0,y1,y2,y3,y4,y5,y6,y7⟩,-⟩:=cells8 HA.out.2.1
 cases nx
 ·have hrow:=At.new W0 (ncells x ja jc) 27
  have qr:=(Keep.refl (fun _=>False) W0).alloc (.cells (ncells x ja jc) 27)
  obtain ⟨fa,fc,w8,hrun,hfc,hl8,q8⟩:=app_one (E:=fun k=>ok k∧k<w.heap.size) hrow HX.out.2.2.2.1 (HA.out.2.2.1.keepF qr) (fun j h=>by have:=h.2;have:=HS0.out;omega) l la lc (HA.out.2.2.2.keepF qr) (by omega) 25
  have K8:=hid (qr.next q8 (fun i h hi=>by have h:i=W0.heap.size:=h;omega))
  have HC:=hid (xcat_any (x::l) fa fc (fun k=>(ok k∨w.heap.size≤k)∧k≠w.heap.size+1+1) w8 (hl8.mono (fun k hk=>by have:=HS0.out;have:=qr.size;rcases hk with hk | hk | hk;exact ⟨.inl hk.1,by omega⟩;exact ⟨.inr (by omega),by omega⟩;exact ⟨.inr (by omega),by omega⟩)) HX.out.2.1 HX.out.2.2.1)
  rw [HY.out,List.length_cons] at HC;clear hrow qr hfc hl8 q8;go_wp2_with (at_builtin;refine Lib.wpList_append_run _ rfl _ _ _ _ rfl _ _ rfl rfl _ _ hrun ?_);clear hrun;go_wp2_with fail;refine HC.out.mono ?_;rintro e w9 ⟨⟨v,rfl,ka,kc,rfl,hle,hlie⟩,q9⟩;obtain ⟨g,hg⟩:∃ g,w9.heap.size=g:=⟨_,rfl⟩;have hg0:W0.heap.size≤g:=by rw [← hg];exact Nat.le_trans K8.out.size q9.size
  have hl9:Lie w9 (fun k=>((ok k∨w.heap.size≤k)∧k≠w.heap.size+1+1)∧k≠g) ka y.subs:=(hlie.mono (ok':=fun k=>(ok k∨w.heap.size≤k)∧k≠w.heap.size+1+1) (fun k hk=>by have:=HS0.out;have:=K8.out.size;rcases hk with hk | hk;exact hk;exact ⟨.inr (by omega),by omega⟩)).under.mono (fun k hk=>⟨hk.1,by have:=hk.2;omega⟩)
  have a9:=At.new w9 (ncells y ka kc) 27;rw [hg] at a9;have HP:=hid (And.intro a9 ((K8.out.trans q9).alloc (.cells (ncells y ka kc) 27)));have N5:=hid (And.intro hle ((hl9.keepF ((Keep.refl (fun _=>False) w9).alloc (.cells (ncells y ka kc) 27))).mono (ok':=fun k=>(ok k∨w.heap.size≤k)∧k≠w.heap.size+1+1) (fun k h=>h.1)))
  have HGs:=hid hg0;clear hle hlie q9 y0 y1 y2 y3 y4 y5 y6 y7 hl9 a9 hg0;go_upto_region 4 with fail
  change Code.wp _ _ _ _ (w9.alloc (.cells (ncells y ka kc) 27))
  generalize (w9.alloc (.cells (ncells y ka kc) 27))=W10 at *;have HK:=hid HP.out.2;have hcy:cnt y≤1000000000:=by
   have h1:=cnt_catT (x::l);have h2:=HX.out.2.1;rw [HY.out] at h1;omega
  have HSz:=hid (fun W (q:Keep (fun _=>False) W10 W)=>size_any y hcy g 0 ka kc W ((NodeP.of_at HP.out.1).keepF q) ((N5.out.2.mono (ok':=fun _=>True) (fun _ _=>trivial)).keepF q))
  have HSq:=hid (fun (W':World) (q:Keep (fun b=>b=w.heap.size+1+1) W10 W')=>(show (W'.cell? ⟨g,0,none⟩=some (.int .i64 y.kind)∧W'.cell? ⟨g,1,none⟩=some (.int .u64 y.set.x0)∧W'.cell? ⟨g,2,none⟩=some (.int .u64 y.set.x1)∧W'.cell? ⟨g,3,none⟩=some (.int .u64 y.set.x2)∧W'.cell? ⟨g,4,none⟩=some (.int .u64 y.set.x3)∧W'.cell? ⟨g,5,none⟩=some (.int .i64 y.mn)∧W'.cell? ⟨g,6,none⟩=some (.int .i64 y.mx)∧W'.cell? ⟨g,7,none⟩=some (.slice ka y.subs.length kc))∧W'.cell? ⟨w.heap.size,1,none⟩=some (.int .i64 M) from
   ⟨((NodeP.of_at HP.out.1).keep q (fun h=>by have h:g=w.heap.size+1+1:=h;have:=HGs.out;have:=HS0.out;omega)).eight,((HA.out.1.keep HK.out (fun h=>h)).keep q (fun h=>by have h:w.heap.size=w.heap.size+1+1:=h;omega)).cell (o:=1) rfl⟩))
  have HS:=hid (fun (W':World) (q:Keep (fun _=>False) W10 W')=>HSq.out W' (q.mono (fun _ h=>h.elim)))
  obtain ⟨cy,hcy'⟩:∃ cy,cnt y=cy:=⟨_,rfl⟩;rw [hcy'] at HSz HB;have hB':=HB.out;clear hcy hcy' hg;refine wp_region_noPanic ?_;refine wp_region_held_drew (S:=(fun W=>(W.cell? ⟨g,0,none⟩=some (.int .i64 y.kind)∧W.cell? ⟨g,1,none⟩=some (.int .u64 y.set.x0)∧W.cell? ⟨g,2,none⟩=some (.int .u64 y.set.x1)∧W.cell? ⟨g,3,none⟩=some (.int .u64 y.set.x2)∧W.cell? ⟨g,4,none⟩=some (.int .u64 y.set.x3)∧W.cell? ⟨g,5,none⟩=some (.int .i64 y.mn)∧W.cell? ⟨g,6,none⟩=some (.int .i64 y.mx)∧W.cell? ⟨g,7,none⟩=some (.slice ka y.subs.length kc))∧W.cell? ⟨w.heap.size,1,none⟩=some (.int .i64 M))) (by kernel_rfl) ?_ (fun hHeld=>?_)
  ·exact HS.out _ ((Keep.refl (fun _=>False) W10).drew)
  refine wpAnyH_take (i:=0) (oi:=⟨_,_,_,_,_,_⟩) (v:=?_) rfl (by kernel_rfl) (by kernel_rfl) (by kernel_rfl) (fun _ _ _ h=>h) (Or.inl ⟨by rfl,?_⟩) (by assumption) ?_
  rotate_left 1
  ·(intro w hSw;(try dsimp only at hSw);go_simp;first | done | with_reducible rfl)
  try simp only [Act.put,List.setIfInBounds_toArray,List.set_cons_zero,List.set_cons_succ]
  refine wpAnyH_take (i:=2) (oi:=⟨_,_,_,_,_,_⟩) (v:=?_) rfl (by kernel_rfl) (by kernel_rfl) (by kernel_rfl) (fun _ _ _ h=>h) (Or.inl ⟨by rfl,?_⟩) (by assumption) ?_
  rotate_left 1
  ·(intro w hSw;(try dsimp only at hSw);go_simp;first | done | with_reducible rfl)
  try simp only [Act.put,List.setIfInBounds_toArray,List.set_cons_zero,List.set_cons_succ]
  refine wpAnyH_take (i:=3) (oi:=⟨_,_,_,_,_,_⟩) (v:=?_) rfl (by kernel_rfl) (by kernel_rfl) (by kernel_rfl) (fun _ _ _ h=>h) (Or.inl ⟨by rfl,?_⟩) (by assumption) ?_
  rotate_left 1
  ·(intro w hSw;(try dsimp only at hSw);go_simp;first | done | with_reducible rfl)
  try simp only [Act.put,List.setIfInBounds_toArray,List.set_cons_zero,List.set_cons_succ]
  refine wpAnyH_ready (rs:=[1]) (by kernel_rfl) (by simp) ?_
  refine (AllReadyH.cons (o:=⟨_,_,_,_,_,_⟩) rfl (fun K hK=>?_) AllReadyH.nil)
  go_simp
  (go_at_call 54;refine (HSz.out _ ((Keep.refl (fun _=>False) W10).drew)).mono ?_;rintro e w5 ⟨rfl,hw5⟩)
  have K5:=hid (show Keep (fun _=>False) W10 w5 by rw [← hw5];exact (Keep.refl _ _).drew)
  clear hw5;refine hK.out _ _ ?_ (fun hHeld'=>?_)
  ·exact HS.out _ K5.out
  clear hK K hHeld;have hHeld:=hHeld';clear hHeld'
  try simp only [Act.put,List.setIfInBounds_toArray,List.set_cons_zero,List.set_cons_succ]
  refine wpAnyH_take (i:=4) (oi:=⟨_,_,_,_,_,_⟩) (v:=?_) rfl (by kernel_rfl) (by kernel_rfl) (by kernel_rfl) (fun _ _ _ h=>h) (Or.inl ⟨by rfl,?_⟩) (by assumption) ?_
  rotate_left 1
  ·(intro w hSw;(try dsimp only at hSw);go_simp;first | done | with_reducible rfl)
  try simp only [Act.put,List.setIfInBounds_toArray,List.set_cons_zero,List.set_cons_succ]
  refine wpAnyH_ready (rs:=[5]) (by kernel_rfl) (by simp) ?_
  refine (AllReadyH.cons (o:=⟨_,_,_,_,_,_⟩) rfl (fun K hK=>?_) AllReadyH.nil)
  have R9:=hid (HR.out.next ((HK.out).trans K5.out));have N9:=hid (And.intro N5.out.1 (N5.out.2.keepF K5.out));obtain ⟨⟨d0,d1,d2,d3,d4,d5,d6,d7⟩,f0,f1,f2,f3,f4,f5,f6,f7⟩:=cells8 R9.out.out;have hlt5:=R9.out.out.lt;have hP:=R9.out.put y ka kc;have hG:=R9.out.gives (ok:=ok) (t:=y) N9.out.1 N9.out.2;have HPG:=hid (And.intro hP.1 hG);have HSP:=hid (HSq.out (putNd w5 (w.heap.size+1+1) 0 y ka kc) ((K5.out.mono (fun _ h=>h.elim)).trans (putNd_keep w5 (w.heap.size+1+1) 0 y ka kc)))
  clear hP hG;go_simp;refine hK.out _ (putNd w5 (w.heap.size+1+1) 0 y ka kc) ?_ (fun hHeld'=>?_)
  ·exact HSP.out
  clear hK K hHeld;have hHeld:=hHeld';clear hHeld';generalize (putNd w5 (w.heap.size+1+1) 0 y ka kc)=W9 at *
  try simp only [Act.put,List.setIfInBounds_toArray,List.set_cons_zero,List.set_cons_succ]
  refine wpAnyH_take (i:=6) (oi:=⟨_,_,_,_,_,_⟩) (v:=?_) rfl (by kernel_rfl) (by kernel_rfl) (by kernel_rfl) (fun _ _ _ h=>h) (Or.inl ⟨by rfl,?_⟩) (by assumption) ?_
  rotate_left 1
  ·(intro w hSw;(try dsimp only at hSw);go_simp;first | done | with_reducible rfl)
  try simp only [Act.put,List.setIfInBounds_toArray,List.set_cons_zero,List.set_cons_succ]
  refine wpAnyH_done (by kernel_rfl) ?_ _
  refine NoPanic.normal ?_;rotate_left 1;obtain ⟨⟨e0,e1,e2,e3,e4,e5,e6,e7⟩,-⟩:=cells8 HPG.out.1;go_wp2_with fail;exact bodyPost_ret (v:=.tuple #[nodeV y ka kc,.bool B]) (by simp [results,Try.results46,go_sem,e0,e1,e2,e3,e4,e5,e6,e7]) rfl (giveB HPG.out.2)
 ·have hx1:=no_is HX.out.1 HX.out.2.2.2.2.2
  have hyx:y=x:=by rw [← HY.out,cat_first_no HX.out.2.2.2.2.2,hx1]
  have hBt:B=true:=by
   rw [← HB.out,hyx,hx1,decide_eq_true_eq,show cnt noT=1 from cnt_clsT _]
   exact HX.out.2.2.2.2.1
  subst hBt;subst hyx;have HE:=hid (And.intro HX.out.2.2.2.1 (HA.out.2.2.1.mono (ok':=fun k=>(ok k∨w.heap.size≤k)∧k≠w.heap.size+1+1) (fun k hk=>⟨.inl hk.1,by omega⟩)))
  obtain ⟨⟨d0,d1,d2,d3,d4,d5,d6,d7⟩,f0,f1,f2,f3,f4,f5,f6,f7⟩:=cells8 HR.out.out;have hlt6:=HR.out.out.lt;clear hx1;go_wp2_with fail
  change bodyPost _ _ _ _ _ (putNd W0 (w.heap.size+1+1) 0 y ja jc)
  have hP:=HR.out.put y ja jc;have hG:=HR.out.gives (ok:=ok) (t:=y) HE.out.1 HE.out.2;generalize (putNd W0 (w.heap.size+1+1) 0 y ja jc)=W8 at hP hG ⊢;obtain ⟨⟨e0,e1,e2,e3,e4,e5,e6,e7⟩,-⟩:=cells8 hP.1;exact bodyPost_ret (v:=.tuple #[nodeV y ja jc,.bool true]) (by simp [results,Try.results46,go_sem,e0,e1,e2,e3,e4,e5,e6,e7]) rfl (giveB hG)
end P12
namespace P12
open Go.RowKit Base Bytes P07 P08 P09 P10
open Sets (ST)
theorem oe_lieP {w:World} {E:Nat→Prop} {v:Value} {L:List T} (h:OE w E v L):∃ a cap,v=.slice a L.length cap∧LieP w E a L:=by
 obtain ⟨a,cap,rfl,-,hl⟩:=h.form;refine ⟨a,cap,rfl,hl.len,fun i t ht=>?_⟩
 obtain ⟨g,cap2,a',c',ev,-,h2,h3,h4,h5,-⟩:=h.get ht;injection ev with ev1;exact ⟨g,0,a',c',ev1,h2,h3,h4,fun j u hu=>by rw [Nat.zero_add];exact h5 j u hu⟩
theorem oe_under {w:World} {E:Nat→Prop} {v:Value} {L:List T} (h:OE w E v L):OE w (fun k=>E k∧k<w.heap.size) v L:=by
 obtain ⟨X,k1,k2,k3⟩:=h;exact ⟨X,k1,fun x hx=>⟨(k2 x hx).1,(k2 x hx).2.under⟩,k3⟩
@[reducible] def smE (ok:Nat→Prop) (n0 s:Nat) (v:Value) (k:Nat):Prop:=(ok k∨n0≤k)∧k≠s∧v.ownBlock≠some k
structure Sm (w:World) (ok:Nat→Prop) (n0 s:Nat) (v:Value) (L:List T) (M:Int):Prop where
 at_:At w s 85 #[v,.int .i64 (cntL L:Nat),.int .i64 M]
 row:OE w (smE ok n0 s v) v L
 own:Own n0 v
 sne:v.ownBlock≠some s
theorem Sm.keepF {w w':World} {ok:Nat→Prop} {n0 s:Nat} {v:Value} {L:List T} {M:Int} (h:Sm w ok n0 s v L M) (q:Keep (fun _=>False) w w'):Sm w' ok n0 s v L M :=
 ⟨h.at_.keep q (fun h=>h),h.row.keep q (fun _ _ h=>h) (fun _ _ h=>h),h.own,h.sne⟩
theorem gives_drew {w:World} {ok:Nat→Prop} {t:T} {e:Ending} {W:World} (h:Gives w ok t e W):Gives w ok t e W.drew:=by
 obtain ⟨⟨v,e1,hv⟩,q⟩:=h;exact ⟨⟨v,e1,hv.keep ((Keep.refl (fun _=>False) W).drew) (fun _ _ h=>h)⟩,q.drew⟩
theorem cells3 {w:World} {b:Nat} {ty:TypeId} {x y z:Value} (h:At w b ty #[x,y,z]):(w.cell? ⟨b,0,none⟩=some x∧w.cell? ⟨b,1,none⟩=some y∧w.cell? ⟨b,2,none⟩=some z)∧w.frozen? ⟨b,0,none⟩=false∧w.frozen? ⟨b,1,none⟩=false∧w.frozen? ⟨b,2,none⟩=false :=
 ⟨⟨h.cell (o:=0) rfl,h.cell (o:=1) rfl,h.cell (o:=2) rfl⟩,h.frozen 0,h.frozen 1,h.frozen 2⟩
theorem rs_sets {L:List T} (h:∀ t ∈ L,Rs t):∀ u ∈ unf 4 L,u.set.Ok:=by
 obtain ⟨d,hd⟩:=unf_rs h;exact fun u hu=>ok_of (hd u hu).1
end P12
namespace P12
open Go.RowKit Base Bytes P07 P08 P09 P10
open Sets (ST)
theorem whole_any {E:Nat→Prop} {s:Nat} {v:Value} {L:List T} {M:Int} (w:World) (hat0:At w s 85 #[v,.int .i64 (cntL L:Nat),.int .i64 M]) (hrow:OE w E v L) (hsne:v.ownBlock≠some s) (hrs:∀ t ∈ L,Rs t) (hcnt:cntL L≤300000) {B:Bool} (hB:decide ((cnt (altT L):Int)≤M)=B) :
  Calls Try.prog 48 #[.pointer (some ⟨s,0,none⟩)] w (GiveB w E (altT L) B):=by
 have r0:Rb w w.heap.size (w.alloc (.cells nzeros 27)):=⟨At.new w nzeros 27,(Keep.refl (fun _=>False) w).alloc _,Nat.le_refl _⟩
 have hat:=hat0.keep r0.keep (fun h=>h)
 have hsl:=hat0.lt;obtain ⟨C,hC⟩:∃ C:Int,((cntL L:Nat):Int)=C:=⟨_,rfl⟩;have hgf:∀ g,v.ownBlock=some g→g≠s:=fun g hg e=>hsne (by rw [hg,e])
 rw [hC] at hat;have HR:=hid r0;have HRs:=hid (And.intro hrs hcnt)
 by_cases hl:L.length=1
 ·obtain ⟨x,rfl⟩:∃ x,L=[x]:=by
   match L,hl with
   | [x],_=>exact ⟨x,rfl⟩
  rw [rs_one (hrs x (by simp))] at hB ⊢
  have hB2:decide (C≤M)=B:=by
   rw [← hB,← hC,show cntL [x]=cnt x from by rw [cntL,cntL,Nat.add_zero]]
  obtain ⟨g,cap,a1,c1,rfl,-,hgl,le1,L1,C1,-⟩:=hrow.get (i:=0) (t:=x) rfl;have NP:NodeP w g 0 x a1 c1:=⟨hgl,fun j u hu=>by have:=C1 j u hu;rw [Nat.zero_mul] at this;exact this⟩
  have hgs:=hgf g rfl;have HE:=hid (And.intro le1 ((L1.under.keepF r0.keep).mono (ok':=fun k=>(E k∨w.heap.size≤k)∧k≠w.heap.size) (fun k hk=>⟨.inl hk.1,by have:=hk.2;omega⟩)))
  have hat:At (w.alloc (.cells nzeros 27)) s 85 #[.slice (some ⟨g,0,none⟩) 1 cap,.int .i64 C,.int .i64 M]:=hat;have HNP:=hid (NP.keepF r0.keep);have HAt:=hid hat;clear hat0 hsne hrow hB hC L1 C1 le1 NP hrs hcnt r0 hgf hl
  go_enter Try.func48,Try.ntmps48
  go_upto_region 1 with fail;generalize (w.alloc (.cells nzeros 27))=W0 at *;obtain ⟨⟨s0,s1,s2⟩,-⟩:=cells3 HAt.out;go_upto_region 2 with fail
  have HSq:=hid (fun (W':World) (q:Keep (fun b=>b=w.heap.size) W0 W')=>(show (W'.cell? ⟨s,0,none⟩=some (.slice (some ⟨g,0,none⟩) 1 cap)∧W'.cell? ⟨s,1,none⟩=some (.int .i64 C)∧W'.cell? ⟨s,2,none⟩=some (.int .i64 M))∧W'.cell? ⟨g,0,none⟩=some (.int .i64 x.kind)∧W'.cell? ⟨g,1,none⟩=some (.int .u64 x.set.x0)∧W'.cell? ⟨g,2,none⟩=some (.int .u64 x.set.x1)∧W'.cell? ⟨g,3,none⟩=some (.int .u64 x.set.x2)∧W'.cell? ⟨g,4,none⟩=some (.int .u64 x.set.x3)∧W'.cell? ⟨g,5,none⟩=some (.int .i64 x.mn)∧W'.cell? ⟨g,6,none⟩=some (.int .i64 x.mx)∧W'.cell? ⟨g,7,none⟩=some (.slice a1 x.subs.length c1) from
   ⟨(cells3 (HAt.out.keep q (fun h=>by have h:s=w.heap.size:=h;omega))).1,(HNP.out.keep q (fun h=>by have h:g=w.heap.size:=h;omega)).eight⟩))
  refine wp_region_noPanic ?_;refine wp_region_held_drew (S:=(fun W=>(W.cell? ⟨s,0,none⟩=some (.slice (some ⟨g,0,none⟩) 1 cap)∧W.cell? ⟨s,1,none⟩=some (.int .i64 C)∧W.cell? ⟨s,2,none⟩=some (.int .i64 M))∧W.cell? ⟨g,0,none⟩=some (.int .i64 x.kind)∧W.cell? ⟨g,1,none⟩=some (.int .u64 x.set.x0)∧W.cell? ⟨g,2,none⟩=some (.int .u64 x.set.x1)∧W.cell? ⟨g,3,none⟩=some (.int .u64 x.set.x2)∧W.cell? ⟨g,4,none⟩=some (.int .u64 x.set.x3)∧W.cell? ⟨g,5,none⟩=some (.int .i64 x.mn)∧W.cell? ⟨g,6,none⟩=some (.int .i64 x.mx)∧W.cell? ⟨g,7,none⟩=some (.slice a1 x.subs.length c1))) (by kernel_rfl) ?_ (fun hHeld=>?_)
  ·exact HSq.out _ ((Keep.refl (fun b=>b=w.heap.size) W0).drew)
  refine wpAnyH_take (i:=0) (oi:=⟨_,_,_,_,_,_⟩) (v:=?_) rfl (by kernel_rfl) (by kernel_rfl) (by kernel_rfl) (fun _ _ _ h=>h) (Or.inl ⟨by rfl,?_⟩) (by assumption) ?_
  rotate_left 1
  ·(intro w hSw;(try dsimp only at hSw);go_simp;first | done | with_reducible rfl)
  try simp only [Act.put,List.setIfInBounds_toArray,List.set_cons_zero,List.set_cons_succ]
  refine wpAnyH_take (i:=1) (oi:=⟨_,_,_,_,_,_⟩) (v:=?_) rfl (by kernel_rfl) (by kernel_rfl) (by kernel_rfl) (fun _ _ _ h=>h) (Or.inl ⟨by rfl,?_⟩) (by assumption) ?_
  rotate_left 1
  ·(intro w hSw;(try dsimp only at hSw);go_simp;first | done | with_reducible rfl)
  try simp only [Act.put,List.setIfInBounds_toArray,List.set_cons_zero,List.set_cons_succ]
  refine wpAnyH_take (i:=2) (oi:=⟨_,_,_,_,_,_⟩) (v:=?_) rfl (by kernel_rfl) (by kernel_rfl) (by kernel_rfl) (fun _ _ _ h=>h) (Or.inl ⟨by rfl,?_⟩) (by assumption) ?_
  rotate_left 1
  ·(intro w hSw;(try dsimp only at hSw);go_simp;first | done | with_reducible rfl)
  try simp only [Act.put,List.setIfInBounds_toArray,List.set_cons_zero,List.set_cons_succ]
  refine wpAnyH_take (i:=3) (oi:=⟨_,_,_,_,_,_⟩) (v:=?_) rfl (by kernel_rfl) (by kernel_rfl) (by kernel_rfl) (fun _ _ _ h=>h) (Or.inl ⟨by rfl,?_⟩) (by assumption) ?_
  rotate_left 1
  ·(intro w hSw;(try dsimp only at hSw);go_simp;first | done | with_reducible rfl)
  try simp only [Act.put,List.setIfInBounds_toArray,List.set_cons_zero,List.set_cons_succ]
  refine wpAnyH_take (i:=4) (oi:=⟨_,_,_,_,_,_⟩) (v:=?_) rfl (by kernel_rfl) (by kernel_rfl) (by kernel_rfl) (fun _ _ _ h=>h) (Or.inl ⟨by rfl,?_⟩) (by assumption) ?_
  rotate_left 1
  ·(intro w hSw;(try dsimp only at hSw);go_simp;first | done | with_reducible rfl)
  try simp only [Act.put,List.setIfInBounds_toArray,List.set_cons_zero,List.set_cons_succ]
  refine wpAnyH_take (i:=5) (oi:=⟨_,_,_,_,_,_⟩) (v:=?_) rfl (by kernel_rfl) (by kernel_rfl) (by kernel_rfl) (fun _ _ _ h=>h) (Or.inl ⟨by rfl,?_⟩) (by assumption) ?_
  rotate_left 1
  ·(intro w hSw;(try dsimp only at hSw);go_simp;first | done | with_reducible rfl)
  try simp only [Act.put,List.setIfInBounds_toArray,List.set_cons_zero,List.set_cons_succ]
  refine wpAnyH_take (i:=6) (oi:=⟨_,_,_,_,_,_⟩) (v:=?_) rfl (by kernel_rfl) (by kernel_rfl) (by kernel_rfl) (fun _ _ _ h=>h) (Or.inl ⟨by rfl,?_⟩) (by assumption) ?_
  rotate_left 1
  ·(intro w hSw;(try dsimp only at hSw);go_simp;first | done | with_reducible rfl)
  try simp only [Act.put,List.setIfInBounds_toArray,List.set_cons_zero,List.set_cons_succ]
  refine wpAnyH_take (i:=7) (oi:=⟨_,_,_,_,_,_⟩) (v:=?_) rfl (by kernel_rfl) (by kernel_rfl) (by kernel_rfl) (fun _ _ _ h=>h) (Or.inl ⟨by rfl,?_⟩) (by assumption) ?_
  rotate_left 1
  ·(intro w hSw;(try dsimp only at hSw);go_simp;first | done | with_reducible rfl)
  try simp only [Act.put,List.setIfInBounds_toArray,List.set_cons_zero,List.set_cons_succ]
  refine wpAnyH_take (i:=8) (oi:=⟨_,_,_,_,_,_⟩) (v:=?_) rfl (by kernel_rfl) (by kernel_rfl) (by kernel_rfl) (fun _ _ _ h=>h) (Or.inl ⟨by rfl,?_⟩) (by assumption) ?_
  rotate_left 1
  ·(intro w hSw;(try dsimp only at hSw);go_simp;first | done | with_reducible rfl)
  try simp only [Act.put,List.setIfInBounds_toArray,List.set_cons_zero,List.set_cons_succ]
  refine wpAnyH_take (i:=9) (oi:=⟨_,_,_,_,_,_⟩) (v:=?_) rfl (by kernel_rfl) (by kernel_rfl) (by kernel_rfl) (fun _ _ _ h=>h) (Or.inl ⟨by rfl,?_⟩) (by assumption) ?_
  rotate_left 1
  ·(intro w hSw;(try dsimp only at hSw);go_simp;first | done | with_reducible rfl)
  try simp only [Act.put,List.setIfInBounds_toArray,List.set_cons_zero,List.set_cons_succ]
  refine wpAnyH_take (i:=10) (oi:=⟨_,_,_,_,_,_⟩) (v:=?_) rfl (by kernel_rfl) (by kernel_rfl) (by kernel_rfl) (fun _ _ _ h=>h) (Or.inl ⟨by rfl,?_⟩) (by assumption) ?_
  rotate_left 1
  ·(intro w hSw;(try dsimp only at hSw);go_simp;first | done | with_reducible rfl)
  try simp only [Act.put,List.setIfInBounds_toArray,List.set_cons_zero,List.set_cons_succ]
  refine wpAnyH_take (i:=11) (oi:=⟨_,_,_,_,_,_⟩) (v:=?_) rfl (by kernel_rfl) (by kernel_rfl) (by kernel_rfl) (fun _ _ _ h=>h) (Or.inl ⟨by rfl,?_⟩) (by assumption) ?_
  rotate_left 1
  ·(intro w hSw;(try dsimp only at hSw);go_simp;first | done | with_reducible rfl)
  try simp only [Act.put,List.setIfInBounds_toArray,List.set_cons_zero,List.set_cons_succ]
  refine wpAnyH_take (i:=12) (oi:=⟨_,_,_,_,_,_⟩) (v:=?_) rfl (by kernel_rfl) (by kernel_rfl) (by kernel_rfl) (fun _ _ _ h=>h) (Or.inl ⟨by rfl,?_⟩) (by assumption) ?_
  rotate_left 1
  ·(intro w hSw;(try dsimp only at hSw);go_simp;first | done | with_reducible rfl)
  try simp only [Act.put,List.setIfInBounds_toArray,List.set_cons_zero,List.set_cons_succ]
  refine wpAnyH_take (i:=13) (oi:=⟨_,_,_,_,_,_⟩) (v:=?_) rfl (by kernel_rfl) (by kernel_rfl) (by kernel_rfl) (fun _ _ _ h=>h) (Or.inl ⟨by rfl,?_⟩) (by assumption) ?_
  rotate_left 1
  ·(intro w hSw;(try dsimp only at hSw);go_simp;first | done | with_reducible rfl)
  try simp only [Act.put,List.setIfInBounds_toArray,List.set_cons_zero,List.set_cons_succ]
  refine wpAnyH_take (i:=14) (oi:=⟨_,_,_,_,_,_⟩) (v:=?_) rfl (by kernel_rfl) (by kernel_rfl) (by kernel_rfl) (fun _ _ _ h=>h) (Or.inl ⟨by rfl,?_⟩) (by assumption) ?_
  rotate_left 1
  ·(intro w hSw;(try dsimp only at hSw);go_simp;first | done | with_reducible rfl)
  try simp only [Act.put,List.setIfInBounds_toArray,List.set_cons_zero,List.set_cons_succ]
  refine wpAnyH_ready (rs:=[15]) (by kernel_rfl) (by simp) ?_
  refine (AllReadyH.cons (o:=⟨_,_,_,_,_,_⟩) rfl (fun K hK=>?_) AllReadyH.nil)
  obtain ⟨⟨d0,d1,d2,d3,d4,d5,d6,d7⟩,f0,f1,f2,f3,f4,f5,f6,f7⟩:=cells8 HR.out.out;have hlt5:=HR.out.out.lt;have hP:=HR.out.put x a1 c1;have hG:=HR.out.gives (ok:=E) (t:=x) HE.out.1 HE.out.2;have HPG:=hid (And.intro (hP.1.keep ((Keep.refl (fun _=>False) (putNd W0 w.heap.size 0 x a1 c1)).drew) (fun h=>h)) (gives_drew hG))
  have HSP:=hid (HSq.out ((putNd W0 w.heap.size 0 x a1 c1).drew) ((putNd_keep W0 w.heap.size 0 x a1 c1).drew));clear hP hG;go_simp;refine hK.out _ ((putNd W0 w.heap.size 0 x a1 c1).drew) ?_ (fun hHeld'=>?_)
  ·exact HSP.out
  clear hK K hHeld;have hHeld:=hHeld';clear hHeld';generalize ((putNd W0 w.heap.size 0 x a1 c1).drew)=W9 at *
  try simp only [Act.put,List.setIfInBounds_toArray,List.set_cons_zero,List.set_cons_succ]
  refine wpAnyH_take (i:=16) (oi:=⟨_,_,_,_,_,_⟩) (v:=?_) rfl (by kernel_rfl) (by kernel_rfl) (by kernel_rfl) (fun _ _ _ h=>h) (Or.inl ⟨by rfl,?_⟩) (by assumption) ?_
  rotate_left 1
  ·(intro w hSw;(try dsimp only at hSw);go_simp;first | done | with_reducible rfl)
  try simp only [Act.put,List.setIfInBounds_toArray,List.set_cons_zero,List.set_cons_succ]
  refine wpAnyH_done (by kernel_rfl) ?_ _
  refine NoPanic.normal ?_;rotate_left 1;obtain ⟨⟨e0,e1,e2,e3,e4,e5,e6,e7⟩,-⟩:=cells8 HPG.out.1;go_wp2_with fail;exact bodyPost_ret (v:=.tuple #[nodeV x a1 c1,.bool B]) (by simp [results,Try.results48,go_sem,e0,e1,e2,e3,e4,e5,e6,e7]) rfl (giveB HPG.out.2)
 ·obtain ⟨a,cap,rfl,hlp⟩:=oe_lieP hrow
  have hl1:¬ (L.length:Int)=1:=by omega
  have hl2:((L.length:Int) == 1)=false:=by simpa using hl1
  have HC:=hid (xalt_par L a cap (fun k=>E k∧k<w.heap.size) _ (hlp.under.keepF r0.keep) (by omega) (rs_sets hrs))
  obtain ⟨y,hy⟩:∃ y,altT L=y:=⟨_,rfl⟩;have hcy:cnt y≤1000000000:=by
   have h1:=cnt_altT L;rw [hy] at h1;omega
  rw [hy] at HC hB ⊢;have HAt:=hid hat;obtain ⟨cy,hcy'⟩:∃ cy,cnt y=cy:=⟨_,rfl⟩;rw [hcy'] at hB;have HB:=hid (And.intro hB hcy');have HCy:=hid hcy;clear hat0 hsne hrow hat hlp hy hC r0 hrs hcnt hgf hl hB hcy' hcy
  go_enter Try.func48,Try.ntmps48
  go_upto_region 1 with fail;generalize (w.alloc (.cells nzeros 27))=W0 at *;obtain ⟨⟨s0,s1,s2⟩,-⟩:=cells3 HAt.out;have hn:=HR.out.out.lt;go_wp2_with fail;refine HC.out.mono ?_;rintro e w4 ⟨⟨v,rfl,ka,kc,rfl,hle,hlie⟩,q4⟩;have R4:=hid (HR.out.next q4);have N4:=hid (And.intro hle (hlie.mono (ok':=fun k=>(E k∨w.heap.size≤k)∧k≠w.heap.size) (fun k hk=>by rcases hk with hk | hk;exact ⟨.inl hk.1,by have:=hk.2;omega⟩;exact ⟨.inr (by omega),by omega⟩)))
  have S4:=hid (HAt.out.keep q4 (fun h=>h))
  clear hle hlie q4 s0 s1 s2;obtain ⟨⟨d0,d1,d2,d3,d4,d5,d6,d7⟩,f0,f1,f2,f3,f4,f5,f6,f7⟩:=cells8 R4.out.out;have hlt4:=R4.out.out.lt;go_upto_region 4 with fail
  change Code.wp _ _ _ _ (putNd w4 w.heap.size 0 y ka kc)
  have HP:=hid (show At (putNd w4 w.heap.size 0 y ka kc) w.heap.size 27 (ncells y ka kc)∧At (putNd w4 w.heap.size 0 y ka kc) s 85 #[.slice a L.length cap,.int .i64 C,.int .i64 M] from
   ⟨set8 R4.out.out (.int .i64 y.kind) (.int .u64 y.set.x0) (.int .u64 y.set.x1) (.int .u64 y.set.x2) (.int .u64 y.set.x3) (.int .i64 y.mn) (.int .i64 y.mx) (.slice ka y.subs.length kc),S4.out.keep (putNd_keep w4 w.heap.size 0 y ka kc) (fun h=>by have h:s=w.heap.size:=h;omega)⟩)
  have HK:=hid (R4.out.keep.next (putNd_keep w4 w.heap.size 0 y ka kc) (fun i h hi=>by have h:i=w.heap.size:=h;omega))
  have N5:=hid (And.intro N4.out.1 (N4.out.2.keep (putNd_keep w4 w.heap.size 0 y ka kc) (fun k h e=>h.2 e)))
  generalize (putNd w4 w.heap.size 0 y ka kc)=W10 at *;clear d0 d1 d2 d3 d4 d5 d6 d7 f0 f1 f2 f3 f4 f5 f6 f7 hlt4;have HSz:=hid (fun W (q:Keep (fun _=>False) W10 W)=>size_any y HCy.out w.heap.size 0 ka kc W ((NodeP.of_at HP.out.1).keepF q) ((N5.out.2.mono (ok':=fun _=>True) (fun _ _=>trivial)).keepF q))
  rw [HB.out.2] at HSz
  have HS:=hid (fun (W':World) (q:Keep (fun _=>False) W10 W')=>(show (W'.cell? ⟨w.heap.size,0,none⟩=some (.int .i64 y.kind)∧W'.cell? ⟨w.heap.size,1,none⟩=some (.int .u64 y.set.x0)∧W'.cell? ⟨w.heap.size,2,none⟩=some (.int .u64 y.set.x1)∧W'.cell? ⟨w.heap.size,3,none⟩=some (.int .u64 y.set.x2)∧W'.cell? ⟨w.heap.size,4,none⟩=some (.int .u64 y.set.x3)∧W'.cell? ⟨w.heap.size,5,none⟩=some (.int .i64 y.mn)∧W'.cell? ⟨w.heap.size,6,none⟩=some (.int .i64 y.mx)∧W'.cell? ⟨w.heap.size,7,none⟩=some (.slice ka y.subs.length kc))∧W'.cell? ⟨s,2,none⟩=some (.int .i64 M) from
   ⟨((NodeP.of_at HP.out.1).keepF q).eight,(HP.out.2.keep q (fun h=>h)).cell (o:=2) rfl⟩))
  have HSq:=hid (fun (w5:World) (q:Keep (fun _=>False) W10 w5)=>(show ((putNd w5 w.heap.size 0 y ka kc).cell? ⟨w.heap.size,0,none⟩=some (.int .i64 y.kind)∧(putNd w5 w.heap.size 0 y ka kc).cell? ⟨w.heap.size,1,none⟩=some (.int .u64 y.set.x0)∧(putNd w5 w.heap.size 0 y ka kc).cell? ⟨w.heap.size,2,none⟩=some (.int .u64 y.set.x1)∧(putNd w5 w.heap.size 0 y ka kc).cell? ⟨w.heap.size,3,none⟩=some (.int .u64 y.set.x2)∧(putNd w5 w.heap.size 0 y ka kc).cell? ⟨w.heap.size,4,none⟩=some (.int .u64 y.set.x3)∧(putNd w5 w.heap.size 0 y ka kc).cell? ⟨w.heap.size,5,none⟩=some (.int .i64 y.mn)∧(putNd w5 w.heap.size 0 y ka kc).cell? ⟨w.heap.size,6,none⟩=some (.int .i64 y.mx)∧(putNd w5 w.heap.size 0 y ka kc).cell? ⟨w.heap.size,7,none⟩=some (.slice ka y.subs.length kc))∧(putNd w5 w.heap.size 0 y ka kc).cell? ⟨s,2,none⟩=some (.int .i64 M) from
   ⟨(NodeP.of_at (set8 (HP.out.1.keep q (fun h=>h)) (.int .i64 y.kind) (.int .u64 y.set.x0) (.int .u64 y.set.x1) (.int .u64 y.set.x2) (.int .u64 y.set.x3) (.int .i64 y.mn) (.int .i64 y.mx) (.slice ka y.subs.length kc))).eight,((HP.out.2.keep q (fun h=>h)).keep (putNd_keep w5 w.heap.size 0 y ka kc) (fun h=>by have h:s=w.heap.size:=h;omega)).cell (o:=2) rfl⟩))
  have hB':=HB.out.1;refine wp_region_noPanic ?_;refine wp_region_held_drew (S:=(fun W=>(W.cell? ⟨w.heap.size,0,none⟩=some (.int .i64 y.kind)∧W.cell? ⟨w.heap.size,1,none⟩=some (.int .u64 y.set.x0)∧W.cell? ⟨w.heap.size,2,none⟩=some (.int .u64 y.set.x1)∧W.cell? ⟨w.heap.size,3,none⟩=some (.int .u64 y.set.x2)∧W.cell? ⟨w.heap.size,4,none⟩=some (.int .u64 y.set.x3)∧W.cell? ⟨w.heap.size,5,none⟩=some (.int .i64 y.mn)∧W.cell? ⟨w.heap.size,6,none⟩=some (.int .i64 y.mx)∧W.cell? ⟨w.heap.size,7,none⟩=some (.slice ka y.subs.length kc))∧W.cell? ⟨s,2,none⟩=some (.int .i64 M))) (by kernel_rfl) ?_ (fun hHeld=>?_)
  ·exact HS.out _ ((Keep.refl (fun _=>False) W10).drew)
  refine wpAnyH_take (i:=0) (oi:=⟨_,_,_,_,_,_⟩) (v:=?_) rfl (by kernel_rfl) (by kernel_rfl) (by kernel_rfl) (fun _ _ _ h=>h) (Or.inl ⟨by rfl,?_⟩) (by assumption) ?_
  rotate_left 1
  ·(intro w hSw;(try dsimp only at hSw);go_simp;first | done | with_reducible rfl)
  try simp only [Act.put,List.setIfInBounds_toArray,List.set_cons_zero,List.set_cons_succ]
  refine wpAnyH_take (i:=2) (oi:=⟨_,_,_,_,_,_⟩) (v:=?_) rfl (by kernel_rfl) (by kernel_rfl) (by kernel_rfl) (fun _ _ _ h=>h) (Or.inl ⟨by rfl,?_⟩) (by assumption) ?_
  rotate_left 1
  ·(intro w hSw;(try dsimp only at hSw);go_simp;first | done | with_reducible rfl)
  try simp only [Act.put,List.setIfInBounds_toArray,List.set_cons_zero,List.set_cons_succ]
  refine wpAnyH_take (i:=3) (oi:=⟨_,_,_,_,_,_⟩) (v:=?_) rfl (by kernel_rfl) (by kernel_rfl) (by kernel_rfl) (fun _ _ _ h=>h) (Or.inl ⟨by rfl,?_⟩) (by assumption) ?_
  rotate_left 1
  ·(intro w hSw;(try dsimp only at hSw);go_simp;first | done | with_reducible rfl)
  try simp only [Act.put,List.setIfInBounds_toArray,List.set_cons_zero,List.set_cons_succ]
  refine wpAnyH_take (i:=4) (oi:=⟨_,_,_,_,_,_⟩) (v:=?_) rfl (by kernel_rfl) (by kernel_rfl) (by kernel_rfl) (fun _ _ _ h=>h) (Or.inl ⟨by rfl,?_⟩) (by assumption) ?_
  rotate_left 1
  ·(intro w hSw;(try dsimp only at hSw);go_simp;first | done | with_reducible rfl)
  try simp only [Act.put,List.setIfInBounds_toArray,List.set_cons_zero,List.set_cons_succ]
  refine wpAnyH_take (i:=5) (oi:=⟨_,_,_,_,_,_⟩) (v:=?_) rfl (by kernel_rfl) (by kernel_rfl) (by kernel_rfl) (fun _ _ _ h=>h) (Or.inl ⟨by rfl,?_⟩) (by assumption) ?_
  rotate_left 1
  ·(intro w hSw;(try dsimp only at hSw);go_simp;first | done | with_reducible rfl)
  try simp only [Act.put,List.setIfInBounds_toArray,List.set_cons_zero,List.set_cons_succ]
  refine wpAnyH_ready (rs:=[1]) (by kernel_rfl) (by simp) ?_
  refine (AllReadyH.cons (o:=⟨_,_,_,_,_,_⟩) rfl (fun K hK=>?_) AllReadyH.nil)
  go_simp
  (go_at_call 54;refine (HSz.out _ ((Keep.refl (fun _=>False) W10).drew)).mono ?_;rintro e w5 ⟨rfl,hw5⟩)
  have K5:=hid (show Keep (fun _=>False) W10 w5 by rw [← hw5];exact (Keep.refl _ _).drew)
  clear hw5;refine hK.out _ _ ?_ (fun hHeld'=>?_)
  ·exact HS.out _ K5.out
  clear hK K hHeld;have hHeld:=hHeld';clear hHeld'
  try simp only [Act.put,List.setIfInBounds_toArray,List.set_cons_zero,List.set_cons_succ]
  refine wpAnyH_take (i:=6) (oi:=⟨_,_,_,_,_,_⟩) (v:=?_) rfl (by kernel_rfl) (by kernel_rfl) (by kernel_rfl) (fun _ _ _ h=>h) (Or.inl ⟨by rfl,?_⟩) (by assumption) ?_
  rotate_left 1
  ·(intro w hSw;(try dsimp only at hSw);go_simp;first | done | with_reducible rfl)
  try simp only [Act.put,List.setIfInBounds_toArray,List.set_cons_zero,List.set_cons_succ]
  refine wpAnyH_ready (rs:=[7]) (by kernel_rfl) (by simp) ?_
  refine (AllReadyH.cons (o:=⟨_,_,_,_,_,_⟩) rfl (fun K hK=>?_) AllReadyH.nil)
  have A5:=hid (HP.out.1.keep K5.out (fun h=>h))
  obtain ⟨⟨d0,d1,d2,d3,d4,d5,d6,d7⟩,f0,f1,f2,f3,f4,f5,f6,f7⟩:=cells8 A5.out;have hlt5:=A5.out.lt;have HPG:=hid (show At (putNd w5 w.heap.size 0 y ka kc) w.heap.size 27 (ncells y ka kc)∧Gives w E y (.returned (nodeV y ka kc)) (putNd w5 w.heap.size 0 y ka kc) from ⟨set8 A5.out (.int .i64 y.kind) (.int .u64 y.set.x0) (.int .u64 y.set.x1) (.int .u64 y.set.x2) (.int .u64 y.set.x3) (.int .i64 y.mn) (.int .i64 y.mx) (.slice ka y.subs.length kc),⟨⟨_,rfl,ka,kc,rfl,N5.out.1,((N5.out.2.keepF K5.out).keep (putNd_keep w5 w.heap.size 0 y ka kc) (fun k h e=>h.2 e)).mono (fun k h=>h.1)⟩,(HK.out.trans K5.out).next (putNd_keep w5 w.heap.size 0 y ka kc) (fun i h hi=>by have h:i=w.heap.size:=h;omega)⟩⟩)
  have HSP:=hid (HSq.out w5 K5.out);go_simp;refine hK.out _ (putNd w5 w.heap.size 0 y ka kc) ?_ (fun hHeld'=>?_)
  ·exact HSP.out
  clear hK K hHeld;have hHeld:=hHeld';clear hHeld';generalize (putNd w5 w.heap.size 0 y ka kc)=W9 at *
  try simp only [Act.put,List.setIfInBounds_toArray,List.set_cons_zero,List.set_cons_succ]
  refine wpAnyH_take (i:=8) (oi:=⟨_,_,_,_,_,_⟩) (v:=?_) rfl (by kernel_rfl) (by kernel_rfl) (by kernel_rfl) (fun _ _ _ h=>h) (Or.inl ⟨by rfl,?_⟩) (by assumption) ?_
  rotate_left 1
  ·(intro w hSw;(try dsimp only at hSw);go_simp;first | done | with_reducible rfl)
  try simp only [Act.put,List.setIfInBounds_toArray,List.set_cons_zero,List.set_cons_succ]
  refine wpAnyH_done (by kernel_rfl) ?_ _
  refine NoPanic.normal ?_;rotate_left 1;obtain ⟨⟨e0,e1,e2,e3,e4,e5,e6,e7⟩,-⟩:=cells8 HPG.out.1;go_wp2_with fail;exact bodyPost_ret (v:=.tuple #[nodeV y ka kc,.bool B]) (by simp [results,Try.results48,go_sem,e0,e1,e2,e3,e4,e5,e6,e7]) rfl (giveB HPG.out.2)
end P12
namespace P12
open Go.RowKit Base Bytes P07 P08 P09 P10
open Sets (ST)
theorem oe_trunc {w:World} {E:Nat→Prop} {g n cap:Nat} {L:List T} (h:OE w E (.slice (some ⟨g,0,none⟩) n cap) L):OE w E (.slice (some ⟨g,0,none⟩) 0 cap) []:=by
 obtain ⟨X,k1,-,-⟩:=h;refine ⟨[],⟨rfl,?_⟩,(by simp),rfl⟩
 rcases k1.2 with ⟨e,-⟩ | ⟨g',cap',cur,e,hb,hc,h5,h6,h7,h8⟩
 ·cases e
 ·have e1:g=g'∧cap=cap':=by
   injection e with e1 e2 e3;injection e1 with e1;injection e1 with e1;exact ⟨e1,e3⟩
  obtain ⟨rfl,rfl⟩:=e1;exact .inr ⟨g,cap,cur,rfl,Nat.zero_le _,hc,Nat.zero_le _,h6,h7,by simp⟩
structure Sn (w:World) (ok:Nat→Prop) (n0 m0 s:Nat) (v:Value) (L:List T) (C M:Int):Prop where
 at_:At w s 85 #[v,.int .i64 C,.int .i64 M]
 row:OE w (smE ok n0 s v) v L
 own:Own m0 v
 sne:v.ownBlock≠some s
theorem Sn.keepF {w w':World} {ok:Nat→Prop} {n0 m0 s:Nat} {v:Value} {L:List T} {C M:Int} (h:Sn w ok n0 m0 s v L C M) (q:Keep (fun _=>False) w w'):Sn w' ok n0 m0 s v L C M :=
 ⟨h.at_.keep q (fun h=>h),h.row.keep q (fun _ _ h=>h) (fun _ _ h=>h),h.own,h.sne⟩
theorem smE_up {ok:Nat→Prop} {n0 n s:Nat} {v:Value} (hn:n0≤n):∀ k,smE (fun k=>(ok k∨n0≤k)∧k<n) (n+1) s v k→smE ok n0 s v k:=fun k hk=>by
 refine ⟨?_,hk.2.1,hk.2.2⟩
 rcases hk.1 with h | h
 ·exact h.1
 ·exact .inr (by omega)
theorem Sn.made {w w':World} {ok:Nat→Prop} {n0 m0 s:Nat} {v v':Value} {L L':List T} {C M:Int} (h:Sn w ok n0 m0 s v L C M) (hs:s<w.heap.size) (hn:m0≤w.heap.size) (hr:OE w' (fun k=>smE ok n0 s v k∧k<w.heap.size) v' L') (q:Keep (fun b=>v.ownBlock=some b) w w') (hg:∀ g,v'.ownBlock=some g→v.ownBlock=some g∨w.heap.size≤g) :
  Sn (w'.setCell ⟨s,0,none⟩ v') ok n0 m0 s v' L' C M∧Keep (fun k=>k=s∨v.ownBlock=some k) w (w'.setCell ⟨s,0,none⟩ v'):=by
 have h1:=h.at_.keep q (fun e=>h.sne e)
 have qs:=(Keep.refl (fun b=>b=s) w').setCell (p:=⟨s,0,none⟩) (fun _=>rfl) v'
 have hne:v'.ownBlock≠some s:=fun e=>by
  rcases hg s e with h2 | h2
  ·exact h.sne h2
  ·omega
 refine ⟨⟨h1.set 0 v',(hr.keep qs (fun g hg2 e=>hne (by rw [hg2,e])) (fun k hk e=>hk.1.2.1 e)).sub (fun k hk=>⟨hk.1.1,hk.1.2.1,fun e=>?_⟩),fun g e=>?_,hne⟩,(q.mono (fun _ h=>.inr h)).trans (qs.mono (fun _ h=>.inl h))⟩
 ·rcases hg k e with h2 | h2
  ·exact hk.1.2.2 h2
  ·have:=hk.2
   omega
 ·rcases hg g e with h2 | h2
  ·exact h.own g h2
  ·omega
theorem lie_made {w w':World} {ok:Nat→Prop} {n0 s:Nat} {v v':Value} {a:Option Addr} {L:List T} (h:Lie w (fun k=>smE ok n0 s v k∧k<w.heap.size) a L) (q:Keep (fun k=>k=s∨v.ownBlock=some k) w w') (hg:∀ g,v'.ownBlock=some g→v.ownBlock=some g∨w.heap.size≤g):Lie w' (fun k=>smE ok n0 s v' k∧k<w.heap.size) a L :=
 (h.keep q (fun b hb e=>by rcases e with e | e;exact hb.1.2.1 e;exact hb.1.2.2 e)).mono fun k hk=>⟨⟨hk.1.1,hk.1.2.1,fun e=>by
  rcases hg k e with h2 | h2
  ·exact hk.1.2.2 h2
  ·have:=hk.2
   omega⟩,hk.2⟩
theorem Sn.put {W:World} {ok:Nat→Prop} {n0 m0 s g m cap:Nat} {L:List T} {C M:Int} (h:Sn W ok n0 m0 s (.slice (some ⟨g,0,none⟩) m cap) L C M) {i:Nat} (hi:i<L.length) (x:T) (xa:Option Addr) (xc:Nat) (hxc:x.subs.length≤xc) (hl:Lie W (smE ok n0 s (.slice (some ⟨g,0,none⟩) m cap)) xa x.subs) :
  Sn (putNd W g (i * 8) x xa xc) ok n0 m0 s (.slice (some ⟨g,0,none⟩) m cap) (L.set i x) C M:=by
 have hgs:s≠g:=fun e=>h.sne (by rw [e];rfl)
 exact ⟨h.at_.keep (putNd_keep W g (i * 8) x xa xc) hgs,OE.setN h.row (fun e=>e.2.2 rfl) hi x xa xc hxc hl,h.own,h.sne⟩
def Added (ok:Nat→Prop) (n0 s:Nat) (v:Value) (L:List T) (x:T) (M:Int) (w:World) (e:Ending) (w':World):Prop :=
 ∃ (B:Bool) (v':Value) (L':List T),e=.returned (.bool B)∧Sm w' ok n0 s v' L' M∧(∀ t ∈ L',Rs t)∧aS L'=aS (L++[x])∧(B=false→M<cnt (altT (L++[x])))∧(B=true→(cntL L'≤cntL L+cnt x∨(2 * M<(cntL L:Int)+cnt x))∧(cntL L':Int)≤2 * M)∧Keep (fun k=>k=s∨v.ownBlock=some k) w w'∧∀ g,v'.ownBlock=some g→v.ownBlock=some g∨w.heap.size≤g
theorem Added.keepF {ok:Nat→Prop} {n0 s:Nat} {v:Value} {L:List T} {x:T} {M:Int} {w:World} {e:Ending} {w' w'':World} (h:Added ok n0 s v L x M w e w') (q:Keep (fun _=>False) w' w''):Added ok n0 s v L x M w e w'':=by
 obtain ⟨B,v',L',h1,h2,h3,h4,h5,h6,h7,h8⟩:=h;exact ⟨B,v',L',h1,h2.keepF q,h3,h4,h5,h6,h7.trans (q.mono (fun _ h=>h.elim)),h8⟩
theorem add_any {ok:Nat→Prop} {n0 s:Nat} {v:Value} {L:List T} {M:Int} (w:World) (h:Sm w ok n0 s v L M) (hrs:∀ t ∈ L,Rs t) (hcnt:cntL L≤240000) (hn2:(cntL L:Int)≤2 * M) (hM:1≤M∧M≤4611686018427387903) (hlow:n0≤s) (x:T) (hx:Rs x) (hcx:cnt x≤4000) (xa:Option Addr) (xc:Nat) (hxc:x.subs.length≤xc) (hlx:Lie w (smE ok n0 s v) xa x.subs) :
  Calls Try.prog 47 #[.pointer (some ⟨s,0,none⟩),nodeV x xa xc] w (Added ok n0 s v L x M w):=by
 have q0:=(Keep.refl (fun _=>False) w).alloc (.cells (ncells x xa xc) 27)
 have a0:=At.new w (ncells x xa xc) 27;have hsl:=h.at_.lt;obtain ⟨n,hn⟩:∃ n,w.heap.size=n:=⟨_,rfl⟩;obtain ⟨C,hC⟩:∃ C:Int,((cntL L:Nat):Int)=C:=⟨_,rfl⟩;have h1:=h.keepF q0;have hn1:Sn (w.alloc (.cells (ncells x xa xc) 27)) (fun k=>(ok k∨n0≤k)∧k<n) (n+1) n0 s v L C M:=⟨by rw [← hC];exact h1.at_,((oe_under h.row).keep q0 (fun _ _ h=>h) (fun _ _ h=>h)).sub (fun k hk=>⟨.inl ⟨hk.1.1,by have:=hk.2;omega⟩,hk.1.2.1,hk.1.2.2⟩),h1.own,h1.sne⟩
 have hs0:(w.alloc (.cells (ncells x xa xc) 27)).heap.size=n+1:=by simp;omega
 have HN:=hid (And.intro hn hs0);rw [hn] at a0;have hsn:s<n:=by omega
 have HA:=hid (And.intro q0 (And.intro a0 (And.intro hn1 (And.intro ((hlx.under.keepF q0).mono (ok':=fun k=>smE (fun k=>(ok k∨n0≤k)∧k<n) (n+1) s v k∧k<w.heap.size) (fun k hk=>⟨⟨.inl ⟨hk.1.1,by have:=hk.2;omega⟩,hk.1.2.1,hk.1.2.2⟩,hk.2⟩)) hxc))))
 have HX:=hid (And.intro hrs (And.intro hcnt (And.intro hn2 (And.intro hM (And.intro hlow (And.intro hx (And.intro hcx hC)))))));have HSm:=hid h;obtain ⟨nx,hnx⟩:∃ nx,isNo x=nx:=⟨_,rfl⟩;have HNx:=hid hnx;clear q0 a0 h h1 hn1 hlx hxc hrs hcnt hn2 hM hlow hx hcx hC hn hs0 hnx hsl
 go_enter Try.func47,Try.ntmps47
 go_upto_region 1 with fail;have hnn:=HN.out.1;generalize (w.alloc (.cells (ncells x xa xc) 27))=W0 at *;have HNo:=hid (isno_any x n 0 xa xc W0 (NodeP.of_at HA.out.2.1));rw [HNx.out] at HNo;go_wp2_with fail;refine HNo.out.mono ?_;rintro e w1 ⟨rfl,rfl⟩
 cases nx
 ·obtain ⟨⟨s0,s1,s2⟩,sf0,sf1,sf2⟩:=cells3 HA.out.2.2.1.at_
  obtain ⟨⟨y0,y1,y2,y3,y4,y5,y6,y7⟩,-⟩:=cells8 HA.out.2.1;go_upto_region 3 with fail
  go_cut [7] (fun t7 wx=>∃ bb:Bool,t7=.bool bb∧Keep (fun _=>False) W0 wx)
  case first =>
   go_region
   all_goals
    go_wp2_with fail
    go_meet
    case rel=>exact ⟨_,rfl,((Keep.refl _ _).alloc _).drew⟩
  case rest =>
   obtain ⟨bb,rfl,K1⟩:=hcut;obtain ⟨wA0,hw⟩:∃ z,z=wc:=⟨_,rfl⟩;subst hw;have hz:=HN.out.2;have hks:=K1.size;have H1:=hid (And.intro (HA.out.2.2.1.keepF K1) (And.intro (HA.out.2.1.keep K1 (fun h=>h)) (And.intro ((HA.out.2.2.2.1.keepF K1).mono (ok':=fun k=>smE (fun k=>(ok k∨n0≤k)∧k<n) (n+1) s v k∧k<wA0.heap.size) (fun k hk=>⟨hk.1,by have:=hk.2;omega⟩)) (show n+1≤wA0.heap.size by omega))))
   have HK1:=hid (HA.out.1.trans K1);clear s0 s1 s2 sf0 sf1 sf2 y0 y1 y2 y3 y4 y5 y6 y7 K1 hz hks;have hLl:L.length≤240000:=by have:=lenL L;have:=HX.out.2.1;omega
   obtain ⟨⟨s0,s1,s2⟩,sf0,sf1,sf2⟩:=cells3 H1.out.1.at_;obtain ⟨⟨y0,y1,y2,y3,y4,y5,y6,y7⟩,-⟩:=cells8 H1.out.2.1;have hsl:=H1.out.1.at_.lt
   go_upto_if 7 with fail
   go_cut [] (fun wx=>∃ v1,Sn wx (fun k=>(ok k∨n0≤k)∧k<n) (n+1) n0 s v1 (L++[x]) C M∧Keep (fun k=>k=s∨v.ownBlock=some k) wA0 wx∧∀ g,v1.ownBlock=some g→v.ownBlock=some g∨wA0.heap.size≤g)
   case first =>
    cases bb
    ·go_upto_region 6 with fail
     refine wp_region_noPanic ?_;refine wp_region_held_drew (S:=(fun _=>True)) (by kernel_rfl) ?_ (fun hHeld=>?_)
     ·trivial
     refine wpAnyH_take (i:=0) (oi:=⟨_,_,_,_,_,_⟩) (v:=?_) rfl (by kernel_rfl) (by kernel_rfl) (by kernel_rfl) (fun _ _ _ h=>h) (Or.inl ⟨by rfl,?_⟩) (by assumption) ?_
     rotate_left 1
     ·(intro w hSw;(try dsimp only at hSw);go_simp;first | done | with_reducible rfl)
     try simp only [Act.put,List.setIfInBounds_toArray,List.set_cons_zero,List.set_cons_succ]
     refine wpAnyH_take (i:=1) (oi:=⟨_,_,_,_,_,_⟩) (v:=?_) rfl (by kernel_rfl) (by kernel_rfl) (by kernel_rfl) (fun _ _ _ h=>h) (Or.inl ⟨by rfl,?_⟩) (by assumption) ?_
     rotate_left 1
     ·(intro w hSw;(try dsimp only at hSw);go_simp;first | done | with_reducible rfl)
     try simp only [Act.put,List.setIfInBounds_toArray,List.set_cons_zero,List.set_cons_succ]
     refine wpAnyH_take (i:=2) (oi:=⟨_,_,_,_,_,_⟩) (v:=?_) rfl (by kernel_rfl) (by kernel_rfl) (by kernel_rfl) (fun _ _ _ h=>h) (Or.inl ⟨by rfl,?_⟩) (by assumption) ?_
     rotate_left 1
     ·(intro w hSw;(try dsimp only at hSw);go_simp;first | done | with_reducible rfl)
     try simp only [Act.put,List.setIfInBounds_toArray,List.set_cons_zero,List.set_cons_succ]
     refine wpAnyH_take (i:=3) (oi:=⟨_,_,_,_,_,_⟩) (v:=?_) rfl (by kernel_rfl) (by kernel_rfl) (by kernel_rfl) (fun _ _ _ h=>h) (Or.inl ⟨by rfl,?_⟩) (by assumption) ?_
     rotate_left 1
     ·(intro w hSw;(try dsimp only at hSw);go_simp;first | done | with_reducible rfl)
     try simp only [Act.put,List.setIfInBounds_toArray,List.set_cons_zero,List.set_cons_succ]
     refine wpAnyH_ready (rs:=[4,5]) (by kernel_rfl) (by simp) ?_
     refine (AllReadyH.cons (o:=⟨_,_,_,_,_,_⟩) rfl (fun K hK=>?_) (AllReadyH.cons (o:=⟨_,_,_,_,_,_⟩) rfl (fun K hK=>?_) AllReadyH.nil))
     go_simp;refine hK.out _ _ ?_ (fun hHeld'=>?_)
     ·trivial
     clear hK K hHeld;have hHeld:=hHeld';clear hHeld'
     try simp only [Act.put,List.setIfInBounds_toArray,List.set_cons_zero,List.set_cons_succ]
     refine wpAnyH_ready (rs:=[5]) (by kernel_rfl) (by simp) ?_
     refine (AllReadyH.cons (o:=⟨_,_,_,_,_,_⟩) rfl (fun K hK=>?_) AllReadyH.nil)
     go_simp;refine hK.out _ _ ?_ (fun hHeld'=>?_)
     ·trivial
     clear hK K hHeld;have hHeld:=hHeld';clear hHeld'
     try simp only [Act.put,List.setIfInBounds_toArray,List.set_cons_zero,List.set_cons_succ]
     refine wpAnyH_ready (rs:=[6]) (by kernel_rfl) (by simp) ?_
     refine (AllReadyH.cons (o:=⟨_,_,_,_,_,_⟩) rfl (fun K hK=>?_) AllReadyH.nil)
     obtain ⟨v1,w1,hrun,g1,g2,g3⟩:=(oe_under ((H1.out.1.row).keep ((Keep.refl (fun _=>False) wA0).drew) (fun _ _ h=>h) (fun _ _ h=>h))).push (fun g hg e=>e.1.2.2 hg) x xa xc HA.out.2.2.2.2 (H1.out.2.2.1.keepF ((Keep.refl (fun _=>False) wA0).drew)) (by omega) 25
     obtain ⟨va,vc,rfl,-⟩:=oe_lieP g1;rw [show (L++[x]).length=L.length+1 from by simp] at hrun g1 g3
     have KB:=hid (((Keep.refl (fun _=>False) wA0).drew).alloc (.cells (ncells x xa xc) 27))
     have HG:=hid (And.intro g1 (And.intro g2 g3));clear g1 g2 g3;have tB:=(H1.out.1.at_.keep KB.out (fun h=>h)).cell (o:=0) rfl
     go_simp;refine hK.out _ (wA0.drew.alloc (.cells (ncells x xa xc) 27)) ?_ (fun hHeld'=>?_)
     ·trivial
     clear hK K hHeld;have hHeld:=hHeld';clear hHeld';generalize (wA0.drew.alloc (.cells (ncells x xa xc) 27))=wB at *
     try simp only [Act.put,List.setIfInBounds_toArray,List.set_cons_zero,List.set_cons_succ]
     refine wpAnyH_ready (rs:=[7]) (by kernel_rfl) (by simp) ?_
     refine (AllReadyH.cons (o:=⟨_,_,_,_,_,_⟩) rfl (fun K hK=>?_) AllReadyH.nil)
     have A1:=H1.out.1.at_.keep ((((Keep.refl (fun _=>False) wA0).drew).mono (fun _ h=>h.elim)).trans HG.out.2.1) (fun e=>H1.out.1.sne e)
     obtain ⟨⟨t0,t1,t2⟩,tf0,tf1,tf2⟩:=cells3 A1;have tl:=A1.lt;have HM:=hid (H1.out.1.made hsl (by have:=HX.out.2.2.2.2.1;omega) HG.out.1 ((((Keep.refl (fun _=>False) wA0).drew).mono (fun _ h=>h.elim)).trans HG.out.2.1) HG.out.2.2)
     clear A1;refine step_append_at _ (by kernel_rfl) (.tmp 23) (.tmp 25) 25 25 rfl _ _ rfl rfl _ _ hrun ?_
     refine hK.out _ _ ?_ (fun hHeld'=>?_)
     ·trivial
     clear hK K hHeld;have hHeld:=hHeld';clear hHeld'
     try simp only [Act.put,List.setIfInBounds_toArray,List.set_cons_zero,List.set_cons_succ]
     refine wpAnyH_take (i:=8) (oi:=⟨_,_,_,_,_,_⟩) (v:=?_) rfl (by kernel_rfl) (by kernel_rfl) (by kernel_rfl) (fun _ _ _ h=>h) (Or.inl ⟨by rfl,?_⟩) (by assumption) ?_
     rotate_left 1
     ·(intro w hSw;(try dsimp only at hSw);go_simp;first | done | with_reducible rfl)
     try simp only [Act.put,List.setIfInBounds_toArray,List.set_cons_zero,List.set_cons_succ]
     refine wpAnyH_take (i:=9) (oi:=⟨_,_,_,_,_,_⟩) (v:=?_) rfl (by kernel_rfl) (by kernel_rfl) (by kernel_rfl) (fun _ _ _ h=>h) (Or.inl ⟨by rfl,?_⟩) (by assumption) ?_
     rotate_left 1
     ·(intro w hSw;(try dsimp only at hSw);go_simp;first | done | with_reducible rfl)
     try simp only [Act.put,List.setIfInBounds_toArray,List.set_cons_zero,List.set_cons_succ]
     refine wpAnyH_ready (rs:=[10]) (by kernel_rfl) (by simp) ?_
     refine (AllReadyH.cons (o:=⟨_,_,_,_,_,_⟩) rfl (fun K hK=>?_) AllReadyH.nil)
     go_simp;refine hK.out _ (w1.setCell ⟨s,0,none⟩ (.slice va (L.length+1) vc)) ?_ (fun hHeld'=>?_)
     ·trivial
     clear hK K hHeld;have hHeld:=hHeld';clear hHeld';generalize (w1.setCell ⟨s,0,none⟩ (.slice va (L.length+1) vc))=W9 at *
     try simp only [Act.put,List.setIfInBounds_toArray,List.set_cons_zero,List.set_cons_succ]
     refine wpAnyH_done (by kernel_rfl) ?_ _
     refine NoPanic.normal ?_;rotate_left 1;go_simp;refine hK.out _ _ ?_ (fun hHeld'=>?_)
     ·trivial
     clear hK K hHeld;have hHeld:=hHeld';clear hHeld'
     try simp only [Act.put,List.setIfInBounds_toArray,List.set_cons_zero,List.set_cons_succ]
     refine wpAnyH_ready (rs:=[4,6]) (by kernel_rfl) (by simp) ?_
     refine (AllReadyH.cons (o:=⟨_,_,_,_,_,_⟩) rfl (fun K hK=>?_) (AllReadyH.cons (o:=⟨_,_,_,_,_,_⟩) rfl (fun K hK=>?_) AllReadyH.nil))
     go_simp;refine hK.out _ _ ?_ (fun hHeld'=>?_)
     ·trivial
     clear hK K hHeld;have hHeld:=hHeld';clear hHeld'
     try simp only [Act.put,List.setIfInBounds_toArray,List.set_cons_zero,List.set_cons_succ]
     refine wpAnyH_ready (rs:=[6]) (by kernel_rfl) (by simp) ?_
     refine (AllReadyH.cons (o:=⟨_,_,_,_,_,_⟩) rfl (fun K hK=>?_) AllReadyH.nil)
     obtain ⟨v1,w1,hrun,g1,g2,g3⟩:=(oe_under ((H1.out.1.row).keep ((Keep.refl (fun _=>False) wA0).drew) (fun _ _ h=>h) (fun _ _ h=>h))).push (fun g hg e=>e.1.2.2 hg) x xa xc HA.out.2.2.2.2 (H1.out.2.2.1.keepF ((Keep.refl (fun _=>False) wA0).drew)) (by omega) 25
     obtain ⟨va,vc,rfl,-⟩:=oe_lieP g1;rw [show (L++[x]).length=L.length+1 from by simp] at hrun g1 g3
     have KB:=hid (((Keep.refl (fun _=>False) wA0).drew).alloc (.cells (ncells x xa xc) 27))
     have HG:=hid (And.intro g1 (And.intro g2 g3));clear g1 g2 g3;have tB:=(H1.out.1.at_.keep KB.out (fun h=>h)).cell (o:=0) rfl
     go_simp;refine hK.out _ (wA0.drew.alloc (.cells (ncells x xa xc) 27)) ?_ (fun hHeld'=>?_)
     ·trivial
     clear hK K hHeld;have hHeld:=hHeld';clear hHeld';generalize (wA0.drew.alloc (.cells (ncells x xa xc) 27))=wB at *
     try simp only [Act.put,List.setIfInBounds_toArray,List.set_cons_zero,List.set_cons_succ]
     refine wpAnyH_ready (rs:=[7]) (by kernel_rfl) (by simp) ?_
     refine (AllReadyH.cons (o:=⟨_,_,_,_,_,_⟩) rfl (fun K hK=>?_) AllReadyH.nil)
     have A1:=H1.out.1.at_.keep ((((Keep.refl (fun _=>False) wA0).drew).mono (fun _ h=>h.elim)).trans HG.out.2.1) (fun e=>H1.out.1.sne e)
     obtain ⟨⟨t0,t1,t2⟩,tf0,tf1,tf2⟩:=cells3 A1;have tl:=A1.lt;have HM:=hid (H1.out.1.made hsl (by have:=HX.out.2.2.2.2.1;omega) HG.out.1 ((((Keep.refl (fun _=>False) wA0).drew).mono (fun _ h=>h.elim)).trans HG.out.2.1) HG.out.2.2)
     clear A1;refine step_append_at _ (by kernel_rfl) (.tmp 23) (.tmp 25) 25 25 rfl _ _ rfl rfl _ _ hrun ?_
     refine hK.out _ _ ?_ (fun hHeld'=>?_)
     ·trivial
     clear hK K hHeld;have hHeld:=hHeld';clear hHeld'
     try simp only [Act.put,List.setIfInBounds_toArray,List.set_cons_zero,List.set_cons_succ]
     refine wpAnyH_take (i:=8) (oi:=⟨_,_,_,_,_,_⟩) (v:=?_) rfl (by kernel_rfl) (by kernel_rfl) (by kernel_rfl) (fun _ _ _ h=>h) (Or.inl ⟨by rfl,?_⟩) (by assumption) ?_
     rotate_left 1
     ·(intro w hSw;(try dsimp only at hSw);go_simp;first | done | with_reducible rfl)
     try simp only [Act.put,List.setIfInBounds_toArray,List.set_cons_zero,List.set_cons_succ]
     refine wpAnyH_take (i:=9) (oi:=⟨_,_,_,_,_,_⟩) (v:=?_) rfl (by kernel_rfl) (by kernel_rfl) (by kernel_rfl) (fun _ _ _ h=>h) (Or.inl ⟨by rfl,?_⟩) (by assumption) ?_
     rotate_left 1
     ·(intro w hSw;(try dsimp only at hSw);go_simp;first | done | with_reducible rfl)
     try simp only [Act.put,List.setIfInBounds_toArray,List.set_cons_zero,List.set_cons_succ]
     refine wpAnyH_ready (rs:=[10]) (by kernel_rfl) (by simp) ?_
     refine (AllReadyH.cons (o:=⟨_,_,_,_,_,_⟩) rfl (fun K hK=>?_) AllReadyH.nil)
     go_simp;refine hK.out _ (w1.setCell ⟨s,0,none⟩ (.slice va (L.length+1) vc)) ?_ (fun hHeld'=>?_)
     ·trivial
     clear hK K hHeld;have hHeld:=hHeld';clear hHeld';generalize (w1.setCell ⟨s,0,none⟩ (.slice va (L.length+1) vc))=W9 at *
     try simp only [Act.put,List.setIfInBounds_toArray,List.set_cons_zero,List.set_cons_succ]
     refine wpAnyH_done (by kernel_rfl) ?_ _
     refine NoPanic.normal ?_;rotate_left 1;obtain ⟨v1,w1,hrun,g1,g2,g3⟩:=(oe_under ((H1.out.1.row).keep ((Keep.refl (fun _=>False) wA0).drew) (fun _ _ h=>h) (fun _ _ h=>h))).push (fun g hg e=>e.1.2.2 hg) x xa xc HA.out.2.2.2.2 (H1.out.2.2.1.keepF ((Keep.refl (fun _=>False) wA0).drew)) (by omega) 25
     obtain ⟨va,vc,rfl,-⟩:=oe_lieP g1;rw [show (L++[x]).length=L.length+1 from by simp] at hrun g1 g3
     have KB:=hid (((Keep.refl (fun _=>False) wA0).drew).alloc (.cells (ncells x xa xc) 27))
     have HG:=hid (And.intro g1 (And.intro g2 g3));clear g1 g2 g3;have tB:=(H1.out.1.at_.keep KB.out (fun h=>h)).cell (o:=0) rfl
     go_simp;refine hK.out _ (wA0.drew.alloc (.cells (ncells x xa xc) 27)) ?_ (fun hHeld'=>?_)
     ·trivial
     clear hK K hHeld;have hHeld:=hHeld';clear hHeld';generalize (wA0.drew.alloc (.cells (ncells x xa xc) 27))=wB at *
     try simp only [Act.put,List.setIfInBounds_toArray,List.set_cons_zero,List.set_cons_succ]
     refine wpAnyH_ready (rs:=[4]) (by kernel_rfl) (by simp) ?_
     refine (AllReadyH.cons (o:=⟨_,_,_,_,_,_⟩) rfl (fun K hK=>?_) AllReadyH.nil)
     go_simp;refine hK.out _ _ ?_ (fun hHeld'=>?_)
     ·trivial
     clear hK K hHeld;have hHeld:=hHeld';clear hHeld'
     try simp only [Act.put,List.setIfInBounds_toArray,List.set_cons_zero,List.set_cons_succ]
     refine wpAnyH_ready (rs:=[7]) (by kernel_rfl) (by simp) ?_
     refine (AllReadyH.cons (o:=⟨_,_,_,_,_,_⟩) rfl (fun K hK=>?_) AllReadyH.nil)
     have A1:=H1.out.1.at_.keep ((((Keep.refl (fun _=>False) wA0).drew).mono (fun _ h=>h.elim)).trans HG.out.2.1) (fun e=>H1.out.1.sne e)
     obtain ⟨⟨t0,t1,t2⟩,tf0,tf1,tf2⟩:=cells3 A1;have tl:=A1.lt;have HM:=hid (H1.out.1.made hsl (by have:=HX.out.2.2.2.2.1;omega) HG.out.1 ((((Keep.refl (fun _=>False) wA0).drew).mono (fun _ h=>h.elim)).trans HG.out.2.1) HG.out.2.2)
     clear A1;refine step_append_at _ (by kernel_rfl) (.tmp 23) (.tmp 25) 25 25 rfl _ _ rfl rfl _ _ hrun ?_
     refine hK.out _ _ ?_ (fun hHeld'=>?_)
     ·trivial
     clear hK K hHeld;have hHeld:=hHeld';clear hHeld'
     try simp only [Act.put,List.setIfInBounds_toArray,List.set_cons_zero,List.set_cons_succ]
     refine wpAnyH_take (i:=8) (oi:=⟨_,_,_,_,_,_⟩) (v:=?_) rfl (by kernel_rfl) (by kernel_rfl) (by kernel_rfl) (fun _ _ _ h=>h) (Or.inl ⟨by rfl,?_⟩) (by assumption) ?_
     rotate_left 1
     ·(intro w hSw;(try dsimp only at hSw);go_simp;first | done | with_reducible rfl)
     try simp only [Act.put,List.setIfInBounds_toArray,List.set_cons_zero,List.set_cons_succ]
     refine wpAnyH_take (i:=9) (oi:=⟨_,_,_,_,_,_⟩) (v:=?_) rfl (by kernel_rfl) (by kernel_rfl) (by kernel_rfl) (fun _ _ _ h=>h) (Or.inl ⟨by rfl,?_⟩) (by assumption) ?_
     rotate_left 1
     ·(intro w hSw;(try dsimp only at hSw);go_simp;first | done | with_reducible rfl)
     try simp only [Act.put,List.setIfInBounds_toArray,List.set_cons_zero,List.set_cons_succ]
     refine wpAnyH_ready (rs:=[10]) (by kernel_rfl) (by simp) ?_
     refine (AllReadyH.cons (o:=⟨_,_,_,_,_,_⟩) rfl (fun K hK=>?_) AllReadyH.nil)
     go_simp;refine hK.out _ (w1.setCell ⟨s,0,none⟩ (.slice va (L.length+1) vc)) ?_ (fun hHeld'=>?_)
     ·trivial
     clear hK K hHeld;have hHeld:=hHeld';clear hHeld';generalize (w1.setCell ⟨s,0,none⟩ (.slice va (L.length+1) vc))=W9 at *
     try simp only [Act.put,List.setIfInBounds_toArray,List.set_cons_zero,List.set_cons_succ]
     refine wpAnyH_done (by kernel_rfl) ?_ _
     refine NoPanic.normal ?_;rotate_left 1
     all_goals
      go_wp2_with fail
      go_meet
      case rel=>exact ⟨_,HM.out.1,HM.out.2,HG.out.2.2⟩
    ·obtain ⟨v1,w1,hrun,g1,g2,g3⟩:=(oe_under H1.out.1.row).push (fun g hg e=>e.1.2.2 hg) zT none 0 (Nat.le_refl 0) (.nil none) (by omega) 25
     obtain ⟨hm1,hm2⟩:=H1.out.1.made hsl (by have:=HX.out.2.2.2.2.1;omega) g1 g2 g3
     have hlx:=lie_made H1.out.2.2.1 hm2 g3;obtain ⟨gr,cap1,za,zc,rfl,-,hgr,-,-,Z1,hfz⟩:=hm1.row.get (i:=L.length) (t:=zT) (by simp)
     have hle:(L++[zT]).length=L.length+1:=by simp
     rw [hle] at hrun hm1 hm2 hlx g1 g3 Z1 hfz hgr;obtain ⟨a,cap,rfl,-⟩:=oe_lieP H1.out.1.row;have hput:=hm1.put (i:=L.length) (by simp) x xa xc HA.out.2.2.2.2 (hlx.mono (fun k hk=>hk.1))
     have hset:(L++[zT]).set L.length x=L++[x]:=by
      rw [List.set_append_right _ _ (Nat.le_refl _),Nat.sub_self]
      rfl
     rw [hset] at hput;have hns:n≠s:=by omega
     have hk1:=H1.out.2.1.keep hm2 (fun e=>by
      rcases e with e | e
      ·omega
      ·have h5:=HSm.out.row
       obtain ⟨X,k1,-⟩:=h5
       rcases k1.2 with ⟨e2,-⟩ | ⟨g',cap',cur',e2,_,hc,-⟩
       ·rw [e2] at e;cases e
       ·rw [e2] at e
        have e:some g'=some n:=e;injection e with e;have:At w g' 27 cur':=hc;have:=this.lt
        omega)
     have hq:=hm2.next (putNd_keep _ gr (L.length * 8) x xa xc) (fun i (e:i=gr) hi=>by
      rcases g3 gr rfl with h5 | h5
      ·exact .inr (by rw [e];exact h5)
      ·omega)
     have HP:=hid (And.intro hput (And.intro hq g3));obtain ⟨⟨u0,u1,u2⟩,uf0,uf1,uf2⟩:=cells3 hm1.at_;obtain ⟨⟨x0,x1,x2,x3,x4,x5,x6,x7⟩,-⟩:=cells8 hk1;obtain ⟨z0,z1,z2,z3,z4,z5,z6,z7⟩:=ncell (o:=L.length * 8) Z1;have f0:=hfz (L.length * 8);have f1:=hfz (L.length * 8+1);have f2:=hfz (L.length * 8+2);have f3:=hfz (L.length * 8+3);have f4:=hfz (L.length * 8+4);have f5:=hfz (L.length * 8+5);have f6:=hfz (L.length * 8+6);have f7:=hfz (L.length * 8+7);obtain ⟨⟨t0,t1,t2⟩,tf0,tf1,tf2⟩:=cells3 (H1.out.1.at_.keep g2 (fun e=>H1.out.1.sne e))
     have hll:(L.length:Int)≤240000:=by omega
     have hl0:(0:Int)≤L.length:=by omega
     have hlb:L.length<L.length+1:=by omega
     clear g1 g2 hm2 hlx hput hq hset hk1 Z1 hfz hns;go_upto_region 5 with (at_builtin;refine Lib.wpList_append_run _ rfl _ _ _ _ rfl _ _ rfl rfl _ _ hrun ?_)
     clear hrun t0 t1 t2 tf0 tf1 tf2 hle g3;generalize (w1.setCell ⟨s,0,none⟩ (.slice (some ⟨gr,0,none⟩) (L.length+1) cap1))=w2 at *;go_wp2_with fail
     go_meet
     case rel=>exact ⟨_,HP.out⟩
   case rest =>
    obtain ⟨v1,hS1,hK1,hg1⟩:=hcut;clear s0 s1 s2 sf0 sf1 sf2 y0 y1 y2 y3 y4 y5 y6 y7;obtain ⟨X,hX⟩:∃ X:Int,((cnt x:Nat):Int)=X:=⟨_,rfl⟩;have hno:¬ (n=s∨v.ownBlock=some n):=fun e=>by
     rcases e with e | e
     ·omega
     ·have h5:=HSm.out.row
      obtain ⟨Y,k1,-⟩:=h5
      rcases k1.2 with ⟨e2,-⟩ | ⟨g',cap',cur',e2,_,hc,-⟩
      ·rw [e2] at e;cases e
      ·rw [e2] at e
       have e:some g'=some n:=e;injection e with e;have:At w g' 27 cur':=hc;have:=this.lt;omega
    have hbx:=H1.out.2.1.keep hK1 hno;have hlx:=lie_made H1.out.2.2.1 hK1 hg1;obtain ⟨va,vc,rfl,-⟩:=oe_lieP hS1.row;rw [show (L++[x]).length=L.length+1 from by simp] at hS1 hg1 hlx
    have H2:=hid (And.intro hS1 (And.intro hK1 (And.intro hg1 (And.intro hbx (And.intro hlx hX)))));have HSz:=hid (fun W (q:Keep (fun _=>False) wc W)=>size_any x (by have:=HX.out.2.2.2.2.2.2.1;omega) n 0 xa xc W ((NodeP.of_at hbx).keepF q) ((hlx.mono (ok':=fun _=>True) (fun _ _=>trivial)).keepF q))
    rw [hX] at HSz;obtain ⟨⟨s0,s1,s2⟩,sf0,sf1,sf2⟩:=cells3 hS1.at_;have hCX:IntKind.i64.wrap (C+X)=C+X:=by
     rw [IntKind.wrap_i64];have:=HX.out.2.1;have:=HX.out.2.2.2.2.2.2.1;have:=HX.out.2.2.2.2.2.2.2;omega
    clear hS1 hK1 hg1 hbx hlx hX hno hsl;go_upto_region 7 with fail;refine wp_region_noPanic ?_;refine wp_region_held_drew (S:=(fun _=>True)) (by kernel_rfl) ?_ (fun hHeld=>?_)
    ·trivial
    refine wpAnyH_take (i:=0) (oi:=⟨_,_,_,_,_,_⟩) (v:=?_) rfl (by kernel_rfl) (by kernel_rfl) (by kernel_rfl) (fun _ _ _ h=>h) (Or.inl ⟨by rfl,?_⟩) (by assumption) ?_
    rotate_left 1
    ·(intro w hSw;(try dsimp only at hSw);go_simp;first | done | with_reducible rfl)
    try simp only [Act.put,List.setIfInBounds_toArray,List.set_cons_zero,List.set_cons_succ]
    refine wpAnyH_take (i:=1) (oi:=⟨_,_,_,_,_,_⟩) (v:=?_) rfl (by kernel_rfl) (by kernel_rfl) (by kernel_rfl) (fun _ _ _ h=>h) (Or.inl ⟨by rfl,?_⟩) (by assumption) ?_
    rotate_left 1
    ·(intro w hSw;(try dsimp only at hSw);go_simp;first | done | with_reducible rfl)
    try simp only [Act.put,List.setIfInBounds_toArray,List.set_cons_zero,List.set_cons_succ]
    refine wpAnyH_take (i:=2) (oi:=⟨_,_,_,_,_,_⟩) (v:=?_) rfl (by kernel_rfl) (by kernel_rfl) (by kernel_rfl) (fun _ _ _ h=>h) (Or.inl ⟨by rfl,?_⟩) (by assumption) ?_
    rotate_left 1
    ·(intro w hSw;(try dsimp only at hSw);go_simp;first | done | with_reducible rfl)
    try simp only [Act.put,List.setIfInBounds_toArray,List.set_cons_zero,List.set_cons_succ]
    refine wpAnyH_ready (rs:=[3,4]) (by kernel_rfl) (by simp) ?_
    refine (AllReadyH.cons (o:=⟨_,_,_,_,_,_⟩) rfl (fun K hK=>?_) (AllReadyH.cons (o:=⟨_,_,_,_,_,_⟩) rfl (fun K hK=>?_) AllReadyH.nil))
    go_simp;refine hK.out _ _ ?_ (fun hHeld'=>?_)
    ·trivial
    clear hK K hHeld;have hHeld:=hHeld';clear hHeld'
    try simp only [Act.put,List.setIfInBounds_toArray,List.set_cons_zero,List.set_cons_succ]
    refine wpAnyH_ready (rs:=[4]) (by kernel_rfl) (by simp) ?_
    refine (AllReadyH.cons (o:=⟨_,_,_,_,_,_⟩) rfl (fun K hK=>?_) AllReadyH.nil)
    go_simp
    (go_at_call 54;refine (HSz.out _ ((Keep.refl (fun _=>False) wc).drew)).mono ?_;rintro e w5 ⟨rfl,hw5⟩)
    have K5:=hid (show Keep (fun _=>False) wc w5 by rw [← hw5];exact (Keep.refl _ _).drew)
    clear hw5;have A5:=H2.out.1.at_.keep K5.out (fun h=>h)
    obtain ⟨⟨t0,t1,t2⟩,tf0,tf1,tf2⟩:=cells3 A5;have tl:=A5.lt;have HM:=hid (show At (w5.setCell ⟨s,1,none⟩ (.int .i64 (C+X))) s 85 #[.slice va (L.length+1) vc,.int .i64 (C+X),.int .i64 M] from A5.set 1 (.int .i64 (C+X)))
    have K9:=hid ((K5.out.mono (T:=fun b=>b=s) (fun _ h=>h.elim)).setCell (p:=⟨s,1,none⟩) (fun _=>rfl) (.int .i64 (C+X)))
    clear A5;refine hK.out _ _ ?_ (fun hHeld'=>?_)
    ·trivial
    clear hK K hHeld;have hHeld:=hHeld';clear hHeld'
    try simp only [Act.put,List.setIfInBounds_toArray,List.set_cons_zero,List.set_cons_succ]
    refine wpAnyH_take (i:=5) (oi:=⟨_,_,_,_,_,_⟩) (v:=?_) rfl (by kernel_rfl) (by kernel_rfl) (by kernel_rfl) (fun _ _ _ h=>h) (Or.inl ⟨by rfl,?_⟩) (by assumption) ?_
    rotate_left 1
    ·(intro w hSw;(try dsimp only at hSw);go_simp;first | done | with_reducible rfl)
    try simp only [Act.put,List.setIfInBounds_toArray,List.set_cons_zero,List.set_cons_succ]
    refine wpAnyH_take (i:=6) (oi:=⟨_,_,_,_,_,_⟩) (v:=?_) rfl (by kernel_rfl) (by kernel_rfl) (by kernel_rfl) (fun _ _ _ h=>h) (Or.inl ⟨by rfl,?_⟩) (by assumption) ?_
    rotate_left 1
    ·(intro w hSw;(try dsimp only at hSw);go_simp;first | done | with_reducible rfl)
    try simp only [Act.put,List.setIfInBounds_toArray,List.set_cons_zero,List.set_cons_succ]
    refine wpAnyH_take (i:=7) (oi:=⟨_,_,_,_,_,_⟩) (v:=?_) rfl (by kernel_rfl) (by kernel_rfl) (by kernel_rfl) (fun _ _ _ h=>h) (Or.inl ⟨by rfl,?_⟩) (by assumption) ?_
    rotate_left 1
    ·(intro w hSw;(try dsimp only at hSw);go_simp;first | done | with_reducible rfl)
    try simp only [Act.put,List.setIfInBounds_toArray,List.set_cons_zero,List.set_cons_succ]
    refine wpAnyH_ready (rs:=[8]) (by kernel_rfl) (by simp) ?_
    refine (AllReadyH.cons (o:=⟨_,_,_,_,_,_⟩) rfl (fun K hK=>?_) AllReadyH.nil)
    go_simp;refine hK.out _ (w5.setCell ⟨s,1,none⟩ (.int .i64 (C+X))) ?_ (fun hHeld'=>?_)
    ·trivial
    clear hK K hHeld;have hHeld:=hHeld';clear hHeld';generalize (w5.setCell ⟨s,1,none⟩ (.int .i64 (C+X)))=W9 at *
    try simp only [Act.put,List.setIfInBounds_toArray,List.set_cons_zero,List.set_cons_succ]
    refine wpAnyH_done (by kernel_rfl) ?_ _
    refine NoPanic.normal ?_;rotate_left 1;go_simp
    (go_at_call 54;refine (HSz.out _ ((Keep.refl (fun _=>False) wc).drew)).mono ?_;rintro e w5 ⟨rfl,hw5⟩)
    have K5:=hid (show Keep (fun _=>False) wc w5 by rw [← hw5];exact (Keep.refl _ _).drew)
    clear hw5;have A5:=H2.out.1.at_.keep K5.out (fun h=>h)
    obtain ⟨⟨t0,t1,t2⟩,tf0,tf1,tf2⟩:=cells3 A5;have tl:=A5.lt;have HM:=hid (show At (w5.setCell ⟨s,1,none⟩ (.int .i64 (C+X))) s 85 #[.slice va (L.length+1) vc,.int .i64 (C+X),.int .i64 M] from A5.set 1 (.int .i64 (C+X)))
    have K9:=hid ((K5.out.mono (T:=fun b=>b=s) (fun _ h=>h.elim)).setCell (p:=⟨s,1,none⟩) (fun _=>rfl) (.int .i64 (C+X)))
    clear A5;refine hK.out _ _ ?_ (fun hHeld'=>?_)
    ·trivial
    clear hK K hHeld;have hHeld:=hHeld';clear hHeld'
    try simp only [Act.put,List.setIfInBounds_toArray,List.set_cons_zero,List.set_cons_succ]
    refine wpAnyH_ready (rs:=[3]) (by kernel_rfl) (by simp) ?_
    refine (AllReadyH.cons (o:=⟨_,_,_,_,_,_⟩) rfl (fun K hK=>?_) AllReadyH.nil)
    go_simp;refine hK.out _ _ ?_ (fun hHeld'=>?_)
    ·trivial
    clear hK K hHeld;have hHeld:=hHeld';clear hHeld'
    try simp only [Act.put,List.setIfInBounds_toArray,List.set_cons_zero,List.set_cons_succ]
    refine wpAnyH_take (i:=5) (oi:=⟨_,_,_,_,_,_⟩) (v:=?_) rfl (by kernel_rfl) (by kernel_rfl) (by kernel_rfl) (fun _ _ _ h=>h) (Or.inl ⟨by rfl,?_⟩) (by assumption) ?_
    rotate_left 1
    ·(intro w hSw;(try dsimp only at hSw);go_simp;first | done | with_reducible rfl)
    try simp only [Act.put,List.setIfInBounds_toArray,List.set_cons_zero,List.set_cons_succ]
    refine wpAnyH_take (i:=6) (oi:=⟨_,_,_,_,_,_⟩) (v:=?_) rfl (by kernel_rfl) (by kernel_rfl) (by kernel_rfl) (fun _ _ _ h=>h) (Or.inl ⟨by rfl,?_⟩) (by assumption) ?_
    rotate_left 1
    ·(intro w hSw;(try dsimp only at hSw);go_simp;first | done | with_reducible rfl)
    try simp only [Act.put,List.setIfInBounds_toArray,List.set_cons_zero,List.set_cons_succ]
    refine wpAnyH_take (i:=7) (oi:=⟨_,_,_,_,_,_⟩) (v:=?_) rfl (by kernel_rfl) (by kernel_rfl) (by kernel_rfl) (fun _ _ _ h=>h) (Or.inl ⟨by rfl,?_⟩) (by assumption) ?_
    rotate_left 1
    ·(intro w hSw;(try dsimp only at hSw);go_simp;first | done | with_reducible rfl)
    try simp only [Act.put,List.setIfInBounds_toArray,List.set_cons_zero,List.set_cons_succ]
    refine wpAnyH_ready (rs:=[8]) (by kernel_rfl) (by simp) ?_
    refine (AllReadyH.cons (o:=⟨_,_,_,_,_,_⟩) rfl (fun K hK=>?_) AllReadyH.nil)
    go_simp;refine hK.out _ (w5.setCell ⟨s,1,none⟩ (.int .i64 (C+X))) ?_ (fun hHeld'=>?_)
    ·trivial
    clear hK K hHeld;have hHeld:=hHeld';clear hHeld';generalize (w5.setCell ⟨s,1,none⟩ (.int .i64 (C+X)))=W9 at *
    try simp only [Act.put,List.setIfInBounds_toArray,List.set_cons_zero,List.set_cons_succ]
    refine wpAnyH_done (by kernel_rfl) ?_ _
    refine NoPanic.normal ?_;rotate_left 1
    all_goals
     have HM3:=hid (show Sn W9 (fun k=>(ok k∨n0≤k)∧k<n) (n+1) n0 s (.slice va (L.length+1) vc) (L++[x]) (C+X) M from
      ⟨HM.out,H2.out.1.row.keep K9.out (fun g hg e=>H2.out.1.sne (by rw [hg,e])) (fun k hk e=>hk.2.1 e),H2.out.1.own,H2.out.1.sne⟩)
     have K3:=hid (H2.out.2.1.trans (K9.out.mono (fun _ h=>.inl h)))
     have hLX:((cntL (L++[x]):Nat):Int)=C+X:=by
      rw [cntL_append,cntL,cntL,← HX.out.2.2.2.2.2.2.2,← H2.out.2.2.2.2.2];omega
     have HL1:=hid (And.intro hLX (show ∀ t ∈ L++[x],Rs t from fun t ht=>by
      rcases List.mem_append.1 ht with ht | ht
      ·exact HX.out.1 t ht
      ·rw [List.mem_singleton.1 ht]
       exact HX.out.2.2.2.2.2.1))
     clear s0 s1 s2 sf0 sf1 sf2 hLX;obtain ⟨⟨s0,s1,s2⟩,-⟩:=cells3 HM.out;have hM2:IntKind.i64.wrap (2 * M)=2 * M:=by
      rw [IntKind.wrap_i64];have:=HX.out.2.2.2.1;omega
     by_cases hle:C+X≤2 * M
     ·have hfin:Added ok n0 s v L x M w (.returned (.bool true)) W9:=by
       refine ⟨true,_,L++[x],rfl,⟨by rw [HL1.out.1];exact HM3.out.at_,HM3.out.row.sub (smE_up (by have:=HX.out.2.2.2.2.1;omega)),HM3.out.own,HM3.out.sne⟩,HL1.out.2,rfl,fun h=>(by cases h),fun _=>⟨.inl (by rw [cntL_append,cntL,cntL];omega),by rw [HL1.out.1];exact hle⟩,(HK1.out.mono (fun _ h=>h.elim)).trans K3.out,fun g h=>?_⟩
       rcases H2.out.2.2.1 g h with h5 | h5
       ·exact .inl h5
       ·exact .inr (Nat.le_trans HK1.out.size h5)
      have HF:=hid hfin;clear hfin;go_wp2_with fail
      go_quiet (fail)
      go_wp2_with fail;go_ret;exact HF.out.keepF (by first | exact (Keep.refl _ _).drewN _ | exact (Keep.refl _ _).drew | exact Keep.refl _ _)
     ·have HLE:=hid hle
      obtain ⟨y,hy⟩:∃ y,altT (L++[x])=y:=⟨_,rfl⟩;obtain ⟨B,hB⟩:∃ B,decide ((cnt y:Int)≤M)=B:=⟨_,rfl⟩;have hcL:cntL (L++[x])≤244000:=by
       have h1:=HL1.out.1;have:=HX.out.2.1;have:=HX.out.2.2.2.2.2.2.1;have h2:=HX.out.2.2.2.2.2.2.2;have h3:=H2.out.2.2.2.2.2;omega
      have HWh:=hid (fun W (q:Keep (fun _=>False) W9 W)=>whole_any W (M:=M) (L:=L++[x]) (by rw [HL1.out.1];exact HM3.out.at_.keep q (fun h=>h)) (HM3.out.row.keep q (fun _ _ h=>h) (fun _ _ h=>h)) HM3.out.sne HL1.out.2 (by omega) (B:=B) (by rw [hy];exact hB))
      rw [hy] at HWh;have hcy:cnt y≤244001:=by
       have h1:=cnt_altT (L++[x]);rw [hy] at h1;omega
      have hry:Rs y:=by rw [← hy];exact rs_alt HL1.out.2
      have HY:=hid (And.intro hy (And.intro hB (And.intro hcy hry)));have hno:¬ (n=s∨v.ownBlock=some n):=fun e=>by
       rcases e with e | e
       ·omega
       ·have h5:=HSm.out.row
        obtain ⟨Y,k1,-⟩:=h5
        rcases k1.2 with ⟨e2,-⟩ | ⟨g',cap',cur',e2,_,hc,-⟩
        ·rw [e2] at e;cases e
        ·rw [e2] at e
         have e:some g'=some n:=e;injection e with e;have:At w g' 27 cur':=hc;have:=this.lt;omega
      have HBx9:=hid (H1.out.2.1.keep K3.out hno);have HNo:=hid hno;clear hy hB hcL hcy hry;go_wp2_with fail
      go_quiet (fail)
      go_wp2_with fail;refine (HWh.out _ (by first | exact (Keep.refl _ _).drewN _ | exact (Keep.refl _ _).drew | exact Keep.refl _ _)).mono ?_
      rintro e w6 ⟨⟨vy,rfl,ka,kc,rfl,hle6,hlie6⟩,q6⟩;have K6:=hid (((Keep.refl (fun _=>False) W9).drewN nq).trans q6)
      have hz9:n+1≤W9.heap.size:=Nat.le_trans H1.out.2.2.2 K3.out.size;have hd9:W9.heap.size≤(W9.drewN nq).heap.size:=((Keep.refl (fun _=>False) W9).drewN nq).size
      obtain ⟨gr,cap9,zz1,zz2,ev,-,hgr,-,-,-,-⟩:=HM3.out.row.get (i:=L.length) (t:=x) (by simp)
      injection ev with ev1 evl evc;clear evl evc;subst ev1
      have N6:=hid (And.intro hle6 (hlie6.mono (ok':=fun k=>smE (fun k=>(ok k∨n0≤k)∧k<n) (n+1) s (.slice (some ⟨gr,0,none⟩) (L.length+1) vc) k) (fun k hk=>by
       rcases hk with hk | hk
       ·exact hk
       ·have h5:=HM3.out.at_.lt
        exact ⟨.inr (by omega),by omega,fun e=>by have e:some gr=some k:=e;injection e with e;omega⟩)))
      obtain ⟨vv,vcap,ev2,hvc,-⟩:=HM3.out.row.form;injection ev2 with ev3 ev4 ev5;subst ev5;have hvc1:L.length+1≤vc:=by simpa using hvc
      have hvc0:¬ vc=0:=by omega
      have hvc2:0<vc:=by omega
      have hgn:gr≠n:=fun e=>by
       rcases H2.out.2.2.1 gr rfl with h5 | h5
       ·exact hno (.inr (by rw [h5,e]))
       ·have:=H1.out.2.2.2
        omega
      have A6:=hid (HBx9.out.keep K6.out (fun h=>h))
      have S6:=hid (HM3.out.keepF K6.out);clear hle6 hlie6 q6 s0 s1 s2 hz9 hd9 ev4 hvc ev3 hno;obtain ⟨⟨d0,d1,d2,d3,d4,d5,d6,d7⟩,f0,f1,f2,f3,f4,f5,f6,f7⟩:=cells8 A6.out;have hlt6:=A6.out.lt;go_upto_region 11 with fail
      change Code.wp _ _ _ _ (putNd w6 n 0 y ka kc)
      have hsn':¬ s=n:=by omega
      have H5:=hid (show Sn (putNd w6 n 0 y ka kc) (fun k=>(ok k∨n0≤k)∧k<n) (n+1) n0 s (.slice (some ⟨gr,0,none⟩) (L.length+1) vc) (L++[x]) (C+X) M∧At (putNd w6 n 0 y ka kc) n 27 (ncells y ka kc)∧y.subs.length≤kc∧Lie (putNd w6 n 0 y ka kc) (fun k=>smE (fun k=>(ok k∨n0≤k)∧k<n) (n+1) s (.slice (some ⟨gr,0,none⟩) (L.length+1) vc) k∧k<(putNd w6 n 0 y ka kc).heap.size) ka y.subs from
       ⟨⟨S6.out.at_.keep (putNd_keep w6 n 0 y ka kc) hsn',S6.out.row.keep (putNd_keep w6 n 0 y ka kc) (fun g hg e=>by have hg:some gr=some g:=hg;injection hg with hg;have e:g=n:=e;omega) (fun k hk e=>by have e:k=n:=e;rcases hk.1 with h | h;have:=h.2;omega;omega),S6.out.own,S6.out.sne⟩,
        set8 A6.out (.int .i64 y.kind) (.int .u64 y.set.x0) (.int .u64 y.set.x1) (.int .u64 y.set.x2) (.int .u64 y.set.x3) (.int .i64 y.mn) (.int .i64 y.mx) (.slice ka y.subs.length kc),N6.out.1,
        (N6.out.2.keep (putNd_keep w6 n 0 y ka kc) (fun k hk e=>by have e:k=n:=e;rcases hk.1 with h | h;have:=h.2;omega;omega)).under⟩)
      have KX:=hid (show Keep (fun k=>k=s∨v.ownBlock=some k) w (putNd w6 n 0 y ka kc) from
       (((HK1.out.mono (fun _ h=>h.elim)).trans K3.out).trans (K6.out.mono (fun _ h=>h.elim))).next (putNd_keep w6 n 0 y ka kc) (fun i (e:i=n) hi=>by omega))
      generalize (putNd w6 n 0 y ka kc)=w8 at *;clear d0 d1 d2 d3 d4 d5 d6 d7 f0 f1 f2 f3 f4 f5 f6 f7 hlt6;have D7:=hid ((Keep.refl (fun _=>False) w8).drew)
      have HNo5:=hid (show ¬ (Value.slice (some ⟨gr,0,none⟩) (L.length+1) vc).ownBlock=some n from fun e=>by have e:some gr=some n:=e;injection e with e;exact hgn e)
      have hsl8:=H5.out.1.at_.lt;have hn8:=hid (show n0≤w8.heap.size by have:=H5.out.2.1.lt;have:=HX.out.2.2.2.2.1;omega)
      have HCy:=hid (show cnt y≤1000000000 by have:=HY.out.2.2.1;omega)
      obtain ⟨Y,hYe⟩:∃ Y:Int,((cnt y:Nat):Int)=Y:=⟨_,rfl⟩;have HYc:=hid hYe;obtain ⟨⟨s0,s1,s2⟩,-⟩:=cells3 H5.out.1.at_;obtain ⟨⟨y0,y1,y2,y3,y4,y5,y6,y7⟩,-⟩:=cells8 H5.out.2.1;clear hYe hgn hsn';refine wp_region_noPanic ?_;refine wp_region_held_drew (S:=(fun _=>True)) (by kernel_rfl) ?_ (fun hHeld=>?_)
      ·trivial
      refine wpAnyH_take (i:=0) (oi:=⟨_,_,_,_,_,_⟩) (v:=?_) rfl (by kernel_rfl) (by kernel_rfl) (by kernel_rfl) (fun _ _ _ h=>h) (Or.inl ⟨by rfl,?_⟩) (by assumption) ?_
      rotate_left 1
      ·(intro w hSw;(try dsimp only at hSw);go_simp;first | done | with_reducible rfl)
      try simp only [Act.put,List.setIfInBounds_toArray,List.set_cons_zero,List.set_cons_succ]
      refine wpAnyH_take (i:=1) (oi:=⟨_,_,_,_,_,_⟩) (v:=?_) rfl (by kernel_rfl) (by kernel_rfl) (by kernel_rfl) (fun _ _ _ h=>h) (Or.inl ⟨by rfl,?_⟩) (by assumption) ?_
      rotate_left 1
      ·(intro w hSw;(try dsimp only at hSw);go_simp;first | done | with_reducible rfl)
      try simp only [Act.put,List.setIfInBounds_toArray,List.set_cons_zero,List.set_cons_succ]
      refine wpAnyH_take (i:=2) (oi:=⟨_,_,_,_,_,_⟩) (v:=?_) rfl (by kernel_rfl) (by kernel_rfl) (by kernel_rfl) (fun _ _ _ h=>h) (Or.inl ⟨by rfl,?_⟩) (by assumption) ?_
      rotate_left 1
      ·(intro w hSw;(try dsimp only at hSw);go_simp;first | done | with_reducible rfl)
      try simp only [Act.put,List.setIfInBounds_toArray,List.set_cons_zero,List.set_cons_succ]
      refine wpAnyH_take (i:=3) (oi:=⟨_,_,_,_,_,_⟩) (v:=?_) rfl (by kernel_rfl) (by kernel_rfl) (by kernel_rfl) (fun _ _ _ h=>h) (Or.inl ⟨by rfl,?_⟩) (by assumption) ?_
      rotate_left 1
      ·(intro w hSw;(try dsimp only at hSw);go_simp;first | done | with_reducible rfl)
      try simp only [Act.put,List.setIfInBounds_toArray,List.set_cons_zero,List.set_cons_succ]
      refine wpAnyH_take (i:=4) (oi:=⟨_,_,_,_,_,_⟩) (v:=?_) rfl (by kernel_rfl) (by kernel_rfl) (by kernel_rfl) (fun _ _ _ h=>h) (Or.inl ⟨by rfl,?_⟩) (by assumption) ?_
      rotate_left 1
      ·(intro w hSw;(try dsimp only at hSw);go_simp;first | done | with_reducible rfl)
      try simp only [Act.put,List.setIfInBounds_toArray,List.set_cons_zero,List.set_cons_succ]
      refine wpAnyH_ready (rs:=[5,7]) (by kernel_rfl) (by simp) ?_
      refine (AllReadyH.cons (o:=⟨_,_,_,_,_,_⟩) rfl (fun K hK=>?_) (AllReadyH.cons (o:=⟨_,_,_,_,_,_⟩) rfl (fun K hK=>?_) AllReadyH.nil))
      go_simp;refine hK.out _ _ ?_ (fun hHeld'=>?_)
      ·trivial
      clear hK K hHeld;have hHeld:=hHeld';clear hHeld'
      try simp only [Act.put,List.setIfInBounds_toArray,List.set_cons_zero,List.set_cons_succ]
      refine wpAnyH_take (i:=6) (oi:=⟨_,_,_,_,_,_⟩) (v:=?_) rfl (by kernel_rfl) (by kernel_rfl) (by kernel_rfl) (fun _ _ _ h=>h) (Or.inl ⟨by rfl,?_⟩) (by assumption) ?_
      rotate_left 1
      ·(intro w hSw;(try dsimp only at hSw);go_simp;first | done | with_reducible rfl)
      try simp only [Act.put,List.setIfInBounds_toArray,List.set_cons_zero,List.set_cons_succ]
      refine wpAnyH_ready (rs:=[7]) (by kernel_rfl) (by simp) ?_
      refine (AllReadyH.cons (o:=⟨_,_,_,_,_,_⟩) rfl (fun K hK=>?_) AllReadyH.nil)
      go_simp;refine hK.out _ _ ?_ (fun hHeld'=>?_)
      ·trivial
      clear hK K hHeld;have hHeld:=hHeld';clear hHeld'
      try simp only [Act.put,List.setIfInBounds_toArray,List.set_cons_zero,List.set_cons_succ]
      refine wpAnyH_ready (rs:=[8]) (by kernel_rfl) (by simp) ?_
      refine (AllReadyH.cons (o:=⟨_,_,_,_,_,_⟩) rfl (fun K hK=>?_) AllReadyH.nil)
      obtain ⟨v2,w7,hrun,g1,g2,g3⟩:=(oe_under ((oe_trunc H5.out.1.row).keep D7.out (fun _ _ h=>h) (fun _ _ h=>h))).push (fun g hg e=>e.1.2.2 hg) y ka kc H5.out.2.2.1 (H5.out.2.2.2.keepF D7.out) (by show (0+1) * 80≤_;omega) 25
      obtain ⟨va2,vc2,rfl,-⟩:=oe_lieP g1;rw [show (([]:List T)++[y]).length=1 from rfl] at hrun g1 g3
      rw [List.nil_append] at g1;have KB:=hid (D7.out.alloc (.cells (ncells y ka kc) 27));have HG:=hid (And.intro g1 (And.intro g2 g3));clear g1 g2 g3;have tB:=(H5.out.1.at_.keep KB.out (fun h=>h)).cell (o:=0) rfl
      go_simp;refine hK.out _ (w8.drew.alloc (.cells (ncells y ka kc) 27)) ?_ (fun hHeld'=>?_)
      ·trivial
      clear hK K hHeld;have hHeld:=hHeld';clear hHeld';generalize (w8.drew.alloc (.cells (ncells y ka kc) 27))=wB at *
      try simp only [Act.put,List.setIfInBounds_toArray,List.set_cons_zero,List.set_cons_succ]
      refine wpAnyH_ready (rs:=[9]) (by kernel_rfl) (by simp) ?_
      refine (AllReadyH.cons (o:=⟨_,_,_,_,_,_⟩) rfl (fun K hK=>?_) AllReadyH.nil)
      have A1:=H5.out.1.at_.keep ((D7.out.mono (fun _ h=>h.elim)).trans HG.out.2.1) (fun e=>H5.out.1.sne e)
      obtain ⟨⟨t0,t1,t2⟩,tf0,tf1,tf2⟩:=cells3 A1;have tl:=A1.lt;have HBx:=hid (H5.out.2.1.keep ((D7.out.mono (fun _ h=>h.elim)).trans HG.out.2.1) HNo5.out)
      have HM:=hid (Sn.made H5.out.1 hsl8 hn8.out HG.out.1 ((D7.out.mono (fun _ h=>h.elim)).trans HG.out.2.1) HG.out.2.2)
      clear A1;refine step_append_at _ (by kernel_rfl) (.tmp 58) (.tmp 60) 25 25 rfl _ _ rfl rfl _ _ hrun ?_
      refine hK.out _ _ ?_ (fun hHeld'=>?_)
      ·trivial
      clear hK K hHeld;have hHeld:=hHeld';clear hHeld'
      try simp only [Act.put,List.setIfInBounds_toArray,List.set_cons_zero,List.set_cons_succ]
      refine wpAnyH_ready (rs:=[10]) (by kernel_rfl) (by simp) ?_
      refine (AllReadyH.cons (o:=⟨_,_,_,_,_,_⟩) rfl (fun K hK=>?_) AllReadyH.nil)
      have HYl:=hid ((H5.out.2.2.2.keep ((D7.out.mono (fun _ h=>h.elim)).trans HG.out.2.1) (fun k hk e=>hk.1.2.2 e)).mono (ok':=fun _=>True) (fun _ _=>trivial))
      have HSz:=hid (size_any y HCy.out n 0 ka kc w7 (NodeP.of_at HBx.out) HYl.out);rw [HYc.out] at HSz;go_simp
      (go_at_call 54;refine HSz.out.mono ?_;rintro e w7' ⟨rfl,rfl⟩)
      refine hK.out _ _ ?_ (fun hHeld'=>?_)
      ·trivial
      clear hK K hHeld;have hHeld:=hHeld';clear hHeld'
      try simp only [Act.put,List.setIfInBounds_toArray,List.set_cons_zero,List.set_cons_succ]
      refine wpAnyH_take (i:=11) (oi:=⟨_,_,_,_,_,_⟩) (v:=?_) rfl (by kernel_rfl) (by kernel_rfl) (by kernel_rfl) (fun _ _ _ h=>h) (Or.inl ⟨by rfl,?_⟩) (by assumption) ?_
      rotate_left 1
      ·(intro w hSw;(try dsimp only at hSw);go_simp;first | done | with_reducible rfl)
      try simp only [Act.put,List.setIfInBounds_toArray,List.set_cons_zero,List.set_cons_succ]
      refine wpAnyH_take (i:=12) (oi:=⟨_,_,_,_,_,_⟩) (v:=?_) rfl (by kernel_rfl) (by kernel_rfl) (by kernel_rfl) (fun _ _ _ h=>h) (Or.inl ⟨by rfl,?_⟩) (by assumption) ?_
      rotate_left 1
      ·(intro w hSw;(try dsimp only at hSw);go_simp;first | done | with_reducible rfl)
      try simp only [Act.put,List.setIfInBounds_toArray,List.set_cons_zero,List.set_cons_succ]
      refine wpAnyH_ready (rs:=[13]) (by kernel_rfl) (by simp) ?_
      refine (AllReadyH.cons (o:=⟨_,_,_,_,_,_⟩) rfl (fun K hK=>?_) AllReadyH.nil)
      go_simp;refine hK.out _ (w7.setCell ⟨s,0,none⟩ (.slice va2 1 vc2)) ?_ (fun hHeld'=>?_)
      ·trivial
      clear hK K hHeld;have hHeld:=hHeld';clear hHeld';generalize (w7.setCell ⟨s,0,none⟩ (.slice va2 1 vc2))=WG at *
      try simp only [Act.put,List.setIfInBounds_toArray,List.set_cons_zero,List.set_cons_succ]
      refine wpAnyH_take (i:=14) (oi:=⟨_,_,_,_,_,_⟩) (v:=?_) rfl (by kernel_rfl) (by kernel_rfl) (by kernel_rfl) (fun _ _ _ h=>h) (Or.inl ⟨by rfl,?_⟩) (by assumption) ?_
      rotate_left 1
      ·(intro w hSw;(try dsimp only at hSw);go_simp;first | done | with_reducible rfl)
      try simp only [Act.put,List.setIfInBounds_toArray,List.set_cons_zero,List.set_cons_succ]
      refine wpAnyH_take (i:=15) (oi:=⟨_,_,_,_,_,_⟩) (v:=?_) rfl (by kernel_rfl) (by kernel_rfl) (by kernel_rfl) (fun _ _ _ h=>h) (Or.inl ⟨by rfl,?_⟩) (by assumption) ?_
      rotate_left 1
      ·(intro w hSw;(try dsimp only at hSw);go_simp;first | done | with_reducible rfl)
      try simp only [Act.put,List.setIfInBounds_toArray,List.set_cons_zero,List.set_cons_succ]
      refine wpAnyH_ready (rs:=[16]) (by kernel_rfl) (by simp) ?_
      refine (AllReadyH.cons (o:=⟨_,_,_,_,_,_⟩) rfl (fun K hK=>?_) AllReadyH.nil)
      have A9:=HM.out.1.at_;obtain ⟨⟨p0,p1,p2⟩,pf0,pf1,pf2⟩:=cells3 A9;have pl:=A9.lt;have HF:=hid (show At (WG.setCell ⟨s,1,none⟩ (.int .i64 Y)) s 85 #[.slice va2 1 vc2,.int .i64 Y,.int .i64 M] from A9.set 1 (.int .i64 Y))
      have KF:=hid ((Keep.refl (fun b=>b=s) WG).setCell (p:=⟨s,1,none⟩) (fun _=>rfl) (.int .i64 Y))
      go_simp;refine hK.out _ (WG.setCell ⟨s,1,none⟩ (.int .i64 Y)) ?_ (fun hHeld'=>?_)
      ·trivial
      clear hK K hHeld;have hHeld:=hHeld';clear hHeld';generalize (WG.setCell ⟨s,1,none⟩ (.int .i64 Y))=WF at *
      try simp only [Act.put,List.setIfInBounds_toArray,List.set_cons_zero,List.set_cons_succ]
      refine wpAnyH_done (by kernel_rfl) ?_ _
      refine NoPanic.normal ?_;rotate_left 1;go_simp;refine hK.out _ _ ?_ (fun hHeld'=>?_)
      ·trivial
      clear hK K hHeld;have hHeld:=hHeld';clear hHeld'
      try simp only [Act.put,List.setIfInBounds_toArray,List.set_cons_zero,List.set_cons_succ]
      refine wpAnyH_ready (rs:=[5,8]) (by kernel_rfl) (by simp) ?_
      refine (AllReadyH.cons (o:=⟨_,_,_,_,_,_⟩) rfl (fun K hK=>?_) (AllReadyH.cons (o:=⟨_,_,_,_,_,_⟩) rfl (fun K hK=>?_) AllReadyH.nil))
      go_simp;refine hK.out _ _ ?_ (fun hHeld'=>?_)
      ·trivial
      clear hK K hHeld;have hHeld:=hHeld';clear hHeld'
      try simp only [Act.put,List.setIfInBounds_toArray,List.set_cons_zero,List.set_cons_succ]
      refine wpAnyH_take (i:=6) (oi:=⟨_,_,_,_,_,_⟩) (v:=?_) rfl (by kernel_rfl) (by kernel_rfl) (by kernel_rfl) (fun _ _ _ h=>h) (Or.inl ⟨by rfl,?_⟩) (by assumption) ?_
      rotate_left 1
      ·(intro w hSw;(try dsimp only at hSw);go_simp;first | done | with_reducible rfl)
      try simp only [Act.put,List.setIfInBounds_toArray,List.set_cons_zero,List.set_cons_succ]
      refine wpAnyH_ready (rs:=[8]) (by kernel_rfl) (by simp) ?_
      refine (AllReadyH.cons (o:=⟨_,_,_,_,_,_⟩) rfl (fun K hK=>?_) AllReadyH.nil)
      obtain ⟨v2,w7,hrun,g1,g2,g3⟩:=(oe_under ((oe_trunc H5.out.1.row).keep D7.out (fun _ _ h=>h) (fun _ _ h=>h))).push (fun g hg e=>e.1.2.2 hg) y ka kc H5.out.2.2.1 (H5.out.2.2.2.keepF D7.out) (by show (0+1) * 80≤_;omega) 25
      obtain ⟨va2,vc2,rfl,-⟩:=oe_lieP g1;rw [show (([]:List T)++[y]).length=1 from rfl] at hrun g1 g3
      rw [List.nil_append] at g1;have KB:=hid (D7.out.alloc (.cells (ncells y ka kc) 27));have HG:=hid (And.intro g1 (And.intro g2 g3));clear g1 g2 g3;have tB:=(H5.out.1.at_.keep KB.out (fun h=>h)).cell (o:=0) rfl
      go_simp;refine hK.out _ (w8.drew.alloc (.cells (ncells y ka kc) 27)) ?_ (fun hHeld'=>?_)
      ·trivial
      clear hK K hHeld;have hHeld:=hHeld';clear hHeld';generalize (w8.drew.alloc (.cells (ncells y ka kc) 27))=wB at *
      try simp only [Act.put,List.setIfInBounds_toArray,List.set_cons_zero,List.set_cons_succ]
      refine wpAnyH_ready (rs:=[9]) (by kernel_rfl) (by simp) ?_
      refine (AllReadyH.cons (o:=⟨_,_,_,_,_,_⟩) rfl (fun K hK=>?_) AllReadyH.nil)
      have A1:=H5.out.1.at_.keep ((D7.out.mono (fun _ h=>h.elim)).trans HG.out.2.1) (fun e=>H5.out.1.sne e)
      obtain ⟨⟨t0,t1,t2⟩,tf0,tf1,tf2⟩:=cells3 A1;have tl:=A1.lt;have HBx:=hid (H5.out.2.1.keep ((D7.out.mono (fun _ h=>h.elim)).trans HG.out.2.1) HNo5.out)
      have HM:=hid (Sn.made H5.out.1 hsl8 hn8.out HG.out.1 ((D7.out.mono (fun _ h=>h.elim)).trans HG.out.2.1) HG.out.2.2)
      clear A1;refine step_append_at _ (by kernel_rfl) (.tmp 58) (.tmp 60) 25 25 rfl _ _ rfl rfl _ _ hrun ?_
      refine hK.out _ _ ?_ (fun hHeld'=>?_)
      ·trivial
      clear hK K hHeld;have hHeld:=hHeld';clear hHeld'
      try simp only [Act.put,List.setIfInBounds_toArray,List.set_cons_zero,List.set_cons_succ]
      refine wpAnyH_ready (rs:=[10]) (by kernel_rfl) (by simp) ?_
      refine (AllReadyH.cons (o:=⟨_,_,_,_,_,_⟩) rfl (fun K hK=>?_) AllReadyH.nil)
      have HYl:=hid ((H5.out.2.2.2.keep ((D7.out.mono (fun _ h=>h.elim)).trans HG.out.2.1) (fun k hk e=>hk.1.2.2 e)).mono (ok':=fun _=>True) (fun _ _=>trivial))
      have HSz:=hid (size_any y HCy.out n 0 ka kc w7 (NodeP.of_at HBx.out) HYl.out);rw [HYc.out] at HSz;go_simp
      (go_at_call 54;refine HSz.out.mono ?_;rintro e w7' ⟨rfl,rfl⟩)
      refine hK.out _ _ ?_ (fun hHeld'=>?_)
      ·trivial
      clear hK K hHeld;have hHeld:=hHeld';clear hHeld'
      try simp only [Act.put,List.setIfInBounds_toArray,List.set_cons_zero,List.set_cons_succ]
      refine wpAnyH_take (i:=11) (oi:=⟨_,_,_,_,_,_⟩) (v:=?_) rfl (by kernel_rfl) (by kernel_rfl) (by kernel_rfl) (fun _ _ _ h=>h) (Or.inl ⟨by rfl,?_⟩) (by assumption) ?_
      rotate_left 1
      ·(intro w hSw;(try dsimp only at hSw);go_simp;first | done | with_reducible rfl)
      try simp only [Act.put,List.setIfInBounds_toArray,List.set_cons_zero,List.set_cons_succ]
      refine wpAnyH_take (i:=12) (oi:=⟨_,_,_,_,_,_⟩) (v:=?_) rfl (by kernel_rfl) (by kernel_rfl) (by kernel_rfl) (fun _ _ _ h=>h) (Or.inl ⟨by rfl,?_⟩) (by assumption) ?_
      rotate_left 1
      ·(intro w hSw;(try dsimp only at hSw);go_simp;first | done | with_reducible rfl)
      try simp only [Act.put,List.setIfInBounds_toArray,List.set_cons_zero,List.set_cons_succ]
      refine wpAnyH_ready (rs:=[13]) (by kernel_rfl) (by simp) ?_
      refine (AllReadyH.cons (o:=⟨_,_,_,_,_,_⟩) rfl (fun K hK=>?_) AllReadyH.nil)
      go_simp;refine hK.out _ (w7.setCell ⟨s,0,none⟩ (.slice va2 1 vc2)) ?_ (fun hHeld'=>?_)
      ·trivial
      clear hK K hHeld;have hHeld:=hHeld';clear hHeld';generalize (w7.setCell ⟨s,0,none⟩ (.slice va2 1 vc2))=WG at *
      try simp only [Act.put,List.setIfInBounds_toArray,List.set_cons_zero,List.set_cons_succ]
      refine wpAnyH_take (i:=14) (oi:=⟨_,_,_,_,_,_⟩) (v:=?_) rfl (by kernel_rfl) (by kernel_rfl) (by kernel_rfl) (fun _ _ _ h=>h) (Or.inl ⟨by rfl,?_⟩) (by assumption) ?_
      rotate_left 1
      ·(intro w hSw;(try dsimp only at hSw);go_simp;first | done | with_reducible rfl)
      try simp only [Act.put,List.setIfInBounds_toArray,List.set_cons_zero,List.set_cons_succ]
      refine wpAnyH_take (i:=15) (oi:=⟨_,_,_,_,_,_⟩) (v:=?_) rfl (by kernel_rfl) (by kernel_rfl) (by kernel_rfl) (fun _ _ _ h=>h) (Or.inl ⟨by rfl,?_⟩) (by assumption) ?_
      rotate_left 1
      ·(intro w hSw;(try dsimp only at hSw);go_simp;first | done | with_reducible rfl)
      try simp only [Act.put,List.setIfInBounds_toArray,List.set_cons_zero,List.set_cons_succ]
      refine wpAnyH_ready (rs:=[16]) (by kernel_rfl) (by simp) ?_
      refine (AllReadyH.cons (o:=⟨_,_,_,_,_,_⟩) rfl (fun K hK=>?_) AllReadyH.nil)
      have A9:=HM.out.1.at_;obtain ⟨⟨p0,p1,p2⟩,pf0,pf1,pf2⟩:=cells3 A9;have pl:=A9.lt;have HF:=hid (show At (WG.setCell ⟨s,1,none⟩ (.int .i64 Y)) s 85 #[.slice va2 1 vc2,.int .i64 Y,.int .i64 M] from A9.set 1 (.int .i64 Y))
      have KF:=hid ((Keep.refl (fun b=>b=s) WG).setCell (p:=⟨s,1,none⟩) (fun _=>rfl) (.int .i64 Y))
      go_simp;refine hK.out _ (WG.setCell ⟨s,1,none⟩ (.int .i64 Y)) ?_ (fun hHeld'=>?_)
      ·trivial
      clear hK K hHeld;have hHeld:=hHeld';clear hHeld';generalize (WG.setCell ⟨s,1,none⟩ (.int .i64 Y))=WF at *
      try simp only [Act.put,List.setIfInBounds_toArray,List.set_cons_zero,List.set_cons_succ]
      refine wpAnyH_done (by kernel_rfl) ?_ _
      refine NoPanic.normal ?_;rotate_left 1;obtain ⟨v2,w7,hrun,g1,g2,g3⟩:=(oe_under ((oe_trunc H5.out.1.row).keep D7.out (fun _ _ h=>h) (fun _ _ h=>h))).push (fun g hg e=>e.1.2.2 hg) y ka kc H5.out.2.2.1 (H5.out.2.2.2.keepF D7.out) (by show (0+1) * 80≤_;omega) 25
      obtain ⟨va2,vc2,rfl,-⟩:=oe_lieP g1;rw [show (([]:List T)++[y]).length=1 from rfl] at hrun g1 g3
      rw [List.nil_append] at g1;have KB:=hid (D7.out.alloc (.cells (ncells y ka kc) 27));have HG:=hid (And.intro g1 (And.intro g2 g3));clear g1 g2 g3;have tB:=(H5.out.1.at_.keep KB.out (fun h=>h)).cell (o:=0) rfl
      go_simp;refine hK.out _ (w8.drew.alloc (.cells (ncells y ka kc) 27)) ?_ (fun hHeld'=>?_)
      ·trivial
      clear hK K hHeld;have hHeld:=hHeld';clear hHeld';generalize (w8.drew.alloc (.cells (ncells y ka kc) 27))=wB at *
      try simp only [Act.put,List.setIfInBounds_toArray,List.set_cons_zero,List.set_cons_succ]
      refine wpAnyH_ready (rs:=[5]) (by kernel_rfl) (by simp) ?_
      refine (AllReadyH.cons (o:=⟨_,_,_,_,_,_⟩) rfl (fun K hK=>?_) AllReadyH.nil)
      go_simp;refine hK.out _ _ ?_ (fun hHeld'=>?_)
      ·trivial
      clear hK K hHeld;have hHeld:=hHeld';clear hHeld'
      try simp only [Act.put,List.setIfInBounds_toArray,List.set_cons_zero,List.set_cons_succ]
      refine wpAnyH_take (i:=6) (oi:=⟨_,_,_,_,_,_⟩) (v:=?_) rfl (by kernel_rfl) (by kernel_rfl) (by kernel_rfl) (fun _ _ _ h=>h) (Or.inl ⟨by rfl,?_⟩) (by assumption) ?_
      rotate_left 1
      ·(intro w hSw;(try dsimp only at hSw);go_simp;first | done | with_reducible rfl)
      try simp only [Act.put,List.setIfInBounds_toArray,List.set_cons_zero,List.set_cons_succ]
      refine wpAnyH_ready (rs:=[9]) (by kernel_rfl) (by simp) ?_
      refine (AllReadyH.cons (o:=⟨_,_,_,_,_,_⟩) rfl (fun K hK=>?_) AllReadyH.nil)
      have A1:=H5.out.1.at_.keep ((D7.out.mono (fun _ h=>h.elim)).trans HG.out.2.1) (fun e=>H5.out.1.sne e)
      obtain ⟨⟨t0,t1,t2⟩,tf0,tf1,tf2⟩:=cells3 A1;have tl:=A1.lt;have HBx:=hid (H5.out.2.1.keep ((D7.out.mono (fun _ h=>h.elim)).trans HG.out.2.1) HNo5.out)
      have HM:=hid (Sn.made H5.out.1 hsl8 hn8.out HG.out.1 ((D7.out.mono (fun _ h=>h.elim)).trans HG.out.2.1) HG.out.2.2)
      clear A1;refine step_append_at _ (by kernel_rfl) (.tmp 58) (.tmp 60) 25 25 rfl _ _ rfl rfl _ _ hrun ?_
      refine hK.out _ _ ?_ (fun hHeld'=>?_)
      ·trivial
      clear hK K hHeld;have hHeld:=hHeld';clear hHeld'
      try simp only [Act.put,List.setIfInBounds_toArray,List.set_cons_zero,List.set_cons_succ]
      refine wpAnyH_ready (rs:=[10]) (by kernel_rfl) (by simp) ?_
      refine (AllReadyH.cons (o:=⟨_,_,_,_,_,_⟩) rfl (fun K hK=>?_) AllReadyH.nil)
      have HYl:=hid ((H5.out.2.2.2.keep ((D7.out.mono (fun _ h=>h.elim)).trans HG.out.2.1) (fun k hk e=>hk.1.2.2 e)).mono (ok':=fun _=>True) (fun _ _=>trivial))
      have HSz:=hid (size_any y HCy.out n 0 ka kc w7 (NodeP.of_at HBx.out) HYl.out);rw [HYc.out] at HSz;go_simp
      (go_at_call 54;refine HSz.out.mono ?_;rintro e w7' ⟨rfl,rfl⟩)
      refine hK.out _ _ ?_ (fun hHeld'=>?_)
      ·trivial
      clear hK K hHeld;have hHeld:=hHeld';clear hHeld'
      try simp only [Act.put,List.setIfInBounds_toArray,List.set_cons_zero,List.set_cons_succ]
      refine wpAnyH_take (i:=11) (oi:=⟨_,_,_,_,_,_⟩) (v:=?_) rfl (by kernel_rfl) (by kernel_rfl) (by kernel_rfl) (fun _ _ _ h=>h) (Or.inl ⟨by rfl,?_⟩) (by assumption) ?_
      rotate_left 1
      ·(intro w hSw;(try dsimp only at hSw);go_simp;first | done | with_reducible rfl)
      try simp only [Act.put,List.setIfInBounds_toArray,List.set_cons_zero,List.set_cons_succ]
      refine wpAnyH_take (i:=12) (oi:=⟨_,_,_,_,_,_⟩) (v:=?_) rfl (by kernel_rfl) (by kernel_rfl) (by kernel_rfl) (fun _ _ _ h=>h) (Or.inl ⟨by rfl,?_⟩) (by assumption) ?_
      rotate_left 1
      ·(intro w hSw;(try dsimp only at hSw);go_simp;first | done | with_reducible rfl)
      try simp only [Act.put,List.setIfInBounds_toArray,List.set_cons_zero,List.set_cons_succ]
      refine wpAnyH_ready (rs:=[13]) (by kernel_rfl) (by simp) ?_
      refine (AllReadyH.cons (o:=⟨_,_,_,_,_,_⟩) rfl (fun K hK=>?_) AllReadyH.nil)
      go_simp;refine hK.out _ (w7.setCell ⟨s,0,none⟩ (.slice va2 1 vc2)) ?_ (fun hHeld'=>?_)
      ·trivial
      clear hK K hHeld;have hHeld:=hHeld';clear hHeld';generalize (w7.setCell ⟨s,0,none⟩ (.slice va2 1 vc2))=WG at *
      try simp only [Act.put,List.setIfInBounds_toArray,List.set_cons_zero,List.set_cons_succ]
      refine wpAnyH_take (i:=14) (oi:=⟨_,_,_,_,_,_⟩) (v:=?_) rfl (by kernel_rfl) (by kernel_rfl) (by kernel_rfl) (fun _ _ _ h=>h) (Or.inl ⟨by rfl,?_⟩) (by assumption) ?_
      rotate_left 1
      ·(intro w hSw;(try dsimp only at hSw);go_simp;first | done | with_reducible rfl)
      try simp only [Act.put,List.setIfInBounds_toArray,List.set_cons_zero,List.set_cons_succ]
      refine wpAnyH_take (i:=15) (oi:=⟨_,_,_,_,_,_⟩) (v:=?_) rfl (by kernel_rfl) (by kernel_rfl) (by kernel_rfl) (fun _ _ _ h=>h) (Or.inl ⟨by rfl,?_⟩) (by assumption) ?_
      rotate_left 1
      ·(intro w hSw;(try dsimp only at hSw);go_simp;first | done | with_reducible rfl)
      try simp only [Act.put,List.setIfInBounds_toArray,List.set_cons_zero,List.set_cons_succ]
      refine wpAnyH_ready (rs:=[16]) (by kernel_rfl) (by simp) ?_
      refine (AllReadyH.cons (o:=⟨_,_,_,_,_,_⟩) rfl (fun K hK=>?_) AllReadyH.nil)
      have A9:=HM.out.1.at_;obtain ⟨⟨p0,p1,p2⟩,pf0,pf1,pf2⟩:=cells3 A9;have pl:=A9.lt;have HF:=hid (show At (WG.setCell ⟨s,1,none⟩ (.int .i64 Y)) s 85 #[.slice va2 1 vc2,.int .i64 Y,.int .i64 M] from A9.set 1 (.int .i64 Y))
      have KF:=hid ((Keep.refl (fun b=>b=s) WG).setCell (p:=⟨s,1,none⟩) (fun _=>rfl) (.int .i64 Y))
      go_simp;refine hK.out _ (WG.setCell ⟨s,1,none⟩ (.int .i64 Y)) ?_ (fun hHeld'=>?_)
      ·trivial
      clear hK K hHeld;have hHeld:=hHeld';clear hHeld';generalize (WG.setCell ⟨s,1,none⟩ (.int .i64 Y))=WF at *
      try simp only [Act.put,List.setIfInBounds_toArray,List.set_cons_zero,List.set_cons_succ]
      refine wpAnyH_done (by kernel_rfl) ?_ _
      refine NoPanic.normal ?_;rotate_left 1
      all_goals
       have hfin:Added ok n0 s v L x M w (.returned (.bool B)) WF:=by
        refine ⟨B,_,[y],rfl,⟨?_,?_,HM.out.1.own,HM.out.1.sne⟩,fun t ht=>by rw [List.mem_singleton.1 ht];exact HY.out.2.2.2,by rw [← HY.out.1];exact aS_again HL1.out.2,fun h=>?_,fun h=>?_,?_,fun g hg=>?_⟩
        ·rw [show ((cntL [y]:Nat):Int)=Y from by rw [← HYc.out,cntL,cntL,Nat.add_zero]]
         exact HF.out
        ·exact (HM.out.1.row.keep KF.out (fun g hg e=>HM.out.1.sne (by rw [hg,e])) (fun k hk e=>hk.2.1 e)).sub (smE_up (by have:=HX.out.2.2.2.2.1;omega))
        ·have h1:=HY.out.2.1
         rw [h] at h1;have:=of_decide_eq_false h1;rw [HY.out.1];omega
        ·have h1:=HY.out.2.1
         rw [h] at h1;have h7:=of_decide_eq_true h1;have h2:cntL [y]=cnt y:=by rw [cntL,cntL,Nat.add_zero]
         rw [h2];have:=HX.out.2.2.2.1;have h8:=HLE.out;have h9:=HX.out.2.2.2.2.2.2.2;have h10:=H2.out.2.2.2.2.2;exact ⟨.inr (by omega),by omega⟩
        ·refine (KX.out.next HM.out.2 (fun i e hi=>?_)).trans (KF.out.mono (fun _ h=>.inl h))
         rcases e with e | e
         ·exact .inl e
         ·rcases H2.out.2.2.1 i e with h5 | h5
          ·exact .inr h5
          ·have:=HK1.out.size
           omega
        ·rcases HG.out.2.2 g hg with h5 | h5
         ·rcases H2.out.2.2.1 g h5 with h6 | h6
          ·exact .inl h6
          ·exact .inr (Nat.le_trans HK1.out.size h6)
         ·exact .inr (Nat.le_trans KX.out.size h5)
       have HFi:=hid hfin;clear hfin;go_wp2_with fail;go_ret;exact HFi.out
 ·have hx1:x=noT:=by
   obtain ⟨d,hd,-⟩:=HX.out.2.2.2.2.2.1;exact no_is hd HNx.out
  have hfin:Added ok n0 s v L x M w (.returned (.bool true)) W0:=by
   refine ⟨true,v,L,rfl,HSm.out.keepF HA.out.1,HX.out.1,?_,fun h=>(by cases h),fun _=>⟨.inl (by omega),HX.out.2.2.1⟩,HA.out.1.mono (fun _ h=>h.elim),fun g h=>.inl h⟩
   rw [hx1,aS_append,unf_one,if_neg (show noT.kind≠4 by decide),List.foldl_cons,List.foldl_nil]
   unfold altS;rw [if_pos isNo_noT]
  have HF:=hid hfin;clear hfin hx1;go_wp2_with fail;go_ret;exact HF.out
end P12
end Go.Proofs.Ytlmfbchgkjgljaa
