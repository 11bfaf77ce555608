/- The code's ofCat (layer 12). -/
import Derived.Test.YtlmfbchgkjgljaaGreatKX46
set_option maxRecDepth 100000
set_option maxHeartbeats 32000000
open Go.Lib (hid)
namespace Go.Proofs.YtlmfbchgkjgljaaGreat
namespace P12
open Go.RowKit Base Bytes P07 P08 P09 P10
open Sets (ST)
theorem ofCat_any (b:Nat) (M:Int) (L:List T) (hOf:∀ t ∈ L,BhOk b M t) (hRs:∀ t ∈ L,Rs t) (hSi:∀ u ∈ L,u.kind≠3∧u.kind≠1∧isNo u=false) (hne0:L≠[]) (hReg:Reg M (cntL L)) (a:Option Addr) (cap:Nat) (ok:Nat→Prop) (w:World) (hL:Lie w ok a L) (hcap:L.length≤cap) :
  Calls Tryz.prog 47 #[bhV b M,.slice a L.length cap] w (Ofd w ok (byC b L) M):=by
 have hlen:=hL.len;obtain ⟨n0,hn0⟩:∃ n0,w.heap.size+1+1=n0:=⟨_,rfl⟩;obtain ⟨tt,htt⟩:∃ tt,byC b L=tt:=⟨_,rfl⟩;rw [htt];rw [byC_pC b L hRs hne0] at htt;have HT:=hid htt;have q0:=(((Keep.refl (fun _=>False) w).alloc (.cells #[.int .u8 (b:Int),.int .i64 M] 56)).alloc (.cells nzeros 27)).alloc (.cells #[.slice none 0 0,.int .i64 0,.int .i64 M] 99)
 have a0:=((At.new w #[.int .u8 (b:Int),.int .i64 M] 56).alloc (.cells nzeros 27)).alloc (.cells #[.slice none 0 0,.int .i64 0,.int .i64 M] 99);have a1:=(At.new (w.alloc (.cells #[.int .u8 (b:Int),.int .i64 M] 56)) nzeros 27).alloc (.cells #[.slice none 0 0,.int .i64 0,.int .i64 M] 99);rw [show (w.alloc (.cells #[.int .u8 (b:Int),.int .i64 M] 56)).heap.size=w.heap.size+1 from by simp] at a1
 have a2:=At.new ((w.alloc (.cells #[.int .u8 (b:Int),.int .i64 M] 56)).alloc (.cells nzeros 27)) #[.slice none 0 0,.int .i64 0,.int .i64 M] 99;rw [show ((w.alloc (.cells #[.int .u8 (b:Int),.int .i64 M] 56)).alloc (.cells nzeros 27)).heap.size=w.heap.size+2 from by simp] at a2
 have HA:=hid (And.intro a0 (And.intro a1 (And.intro a2 q0)));have HL:=hid (And.intro hL.under hcap);have H0:=hid (And.intro hOf (And.intro hRs hReg));have HSi:=hid hSi;have hs0:((((w.alloc (.cells #[.int .u8 (b:Int),.int .i64 M] 56)).alloc (.cells nzeros 27)).alloc (.cells #[.slice none 0 0,.int .i64 0,.int .i64 M] 99))).heap.size=w.heap.size+3:=by simp
 have HS0:=hid (And.intro hs0 (show w.heap.size+2=n0 by omega))
 clear q0 a0 a1 a2 hL hcap hOf hRs hSi hne0 hReg hs0 htt
 go_enter Tryz.func47,Tryz.ntmps47
 go_upto_region 2 with fail;generalize ((w.alloc (.cells #[.int .u8 (b:Int),.int .i64 M] 56)).alloc (.cells nzeros 27)).alloc (.cells #[.slice none 0 0,.int .i64 0,.int .i64 M] 99)=W0 at *
 have I0:=hid (show Sm W0 (fun k=>ok k∧k<w.heap.size) n0 n0 (.slice none 0 0) [] M from
  ⟨by rw [← HS0.out.2];exact HA.out.2.2.1,OE.nil _ _,Own.nil _,(fun e=>by cases e)⟩)
 go_wp2_with fail
 go_loopg [7,8,9,15] L.length (fun gg s7 s8 s9 i wr=>∃ (k:Nat) (v:Value) (X D:List T),i=.int .i64 k∧k+gg=L.length∧Sm wr (fun k=>ok k∧k<w.heap.size) n0 n0 v X M∧(∀ t ∈ X,Rs t)∧aS X=aS D∧D++pC b (L.drop k)=pC b L∧((cntL X:Int)≤2 * M∧(M=4000∨cntL X≤4000 * k))∧Keep (fun k=>k=n0) W0 wr∧At wr w.heap.size 56 #[.int .u8 (b:Int),.int .i64 M]∧At wr (w.heap.size+1) 27 nzeros)
 case atStart=>exact ⟨0,_,[],[],rfl,by omega,I0.out,(by simp),rfl,by rw [List.drop_zero];rfl,⟨by have:=H0.out.2.2.pos;rw [cntL];omega,.inr (by rw [cntL];omega)⟩,Keep.refl _ _,HA.out.1,HA.out.2.1⟩
 case round =>
  obtain ⟨k,v,X,D,rfl,hk,hS,hX,hXa,hXd,hXb,hq,hbx,hrs⟩:=hrel;have k0:(0:Int)≤k:=by omega
  have hz:=HS0.out;have hql:=hq.size;have HZ:=hid (show w.heap.size+2=n0∧n0<wr.heap.size by omega)
  have hb0:=hbx.cell (o:=0) rfl;have hb1:=hbx.cell (o:=1) rfl;have KW:=hid (HA.out.2.2.2.next hq (fun i (e:i=n0) hi=>by omega))
  clear hz hql
  by_cases hlt:k<L.length
  ·have hlt':(k:Int)<L.length:=by omega
   obtain ⟨t,ht⟩:∃ t,L[k]?=some t:=⟨L[k],List.getElem?_eq_getElem hlt⟩;have htm:=List.mem_of_getElem? ht;have hadr:∃ bl off,a=some ⟨bl,off,none⟩:=by
    obtain ⟨bl,off,_,_,e,-⟩:=(HL.out.1.keepF KW.out).get ht;exact ⟨bl,off,e⟩
   obtain ⟨bl,off,rfl⟩:=hadr;obtain ⟨bl',off',a1,c1,ev,hokb,hbl,le1,L1,C1⟩:=(HL.out.1.keepF KW.out).get ht;injection ev with ev;injection ev with ev1 ev2;subst ev1 ev2;have N1:NodeP wr bl (off+k * 8) t a1 c1:=⟨hbl,C1⟩;have hRt:=H0.out.2.1 t htm;have hct:cnt t≤cntL L:=cntL_le ht;have hRegt:=H0.out.2.2.le hct;obtain ⟨lb,hlb⟩:∃ lb,byT b t=lb:=⟨_,rfl⟩;obtain ⟨B,hB⟩:∃ B,decide ((cnt lb:Int)≤M)=B:=⟨_,rfl⟩;have hbr:=by_rs b t hRt;rw [hlb] at hbr;have HOf:=hid (fun W (q:Keep (fun _=>False) wr W)=>H0.out.1 t htm hRt hRegt bl (off+k * 8) a1 c1 (fun k=>ok k∧k<w.heap.size) W (N1.keepF q) (L1.keepF q) le1)
   unfold Ofd at HOf;rw [hlb,hB] at HOf;have HOwn:=hid (show (∀ k,v.ownBlock=some k→n0≤k)∧∀ k,v.ownBlock=some k→k<wr.heap.size from ⟨hS.own,fun k hk=>hS.row.lt hk⟩)
   have hdr:L.drop k=t::L.drop (k+1):=by
    rw [List.drop_eq_getElem_cons hlt];have:=(List.getElem?_eq_some_iff.1 ht).2;rw [this]
   obtain ⟨R,hR⟩:∃ R,L.drop (k+1)=R:=⟨_,rfl⟩;have hRm:∀ u ∈ R,u ∈ L:=fun u hu=>by rw [← hR] at hu;exact List.mem_of_mem_drop hu
   have hcR:cnt t+cntL R≤cntL L:=by
    have h1:=cntL_append (L.take k) (L.drop k);rw [List.take_append_drop,hdr,hR,cntL] at h1;omega
   rw [hdr,hR,pC,hlb] at hXd;obtain ⟨fst,hfst⟩:∃ fst,catT (lb::R)=fst:=⟨_,rfl⟩;have hfr:Rs fst:=by rw [← hfst,← hlb];exact first_rs b hRt fun u hu=>H0.out.2.1 u (hRm u hu)
   rw [hfst] at hXd;have hfc:cnt fst≤cntL L * cntL L+5 * cntL L+1:=by
    have h1:=cnt_catT (lb::R);rw [hfst,cntL] at h1;have h2:=hbr.2;have h3:=Nat.mul_le_mul hct hct;omega
   obtain ⟨nb,hnb⟩:∃ nb,nullB t=nb:=⟨_,rfl⟩;rw [hnb] at hXd;have HI:=hid (And.intro hS (And.intro hX (And.intro hXa (And.intro hXb (And.intro hq (And.intro hbx hrs))))));have hmem:fst ∈ pC b L:=by rw [← hXd];simp
   have HTk:=hid (And.intro hXd (And.intro hbr (And.intro hB (And.intro hmem (And.intro hfr (And.intro hfc (And.intro hfst (And.intro hRm (And.intro hcR (And.intro hR (And.intro hnb hlb)))))))))));have HLR:=hid (lie_drop (HL.out.1.keepF KW.out) (k+1));rw [hR] at HLR;have HRl:=hid (show R.length=L.length - (k+1) by rw [← hR,List.length_drop])
   have HN1:=hid (And.intro N1 (And.intro L1 (And.intro le1 (And.intro hRt hokb.2))));have HS:=hid (fun (W':World) (q:Keep (fun _=>False) wr W')=>(show W'.cell? ⟨w.heap.size,0,none⟩=some (.int .u8 (b:Int))∧W'.cell? ⟨w.heap.size,1,none⟩=some (.int .i64 M) from ⟨(HI.out.2.2.2.2.2.1.keep q (fun h=>h)).cell (o:=0) rfl,(HI.out.2.2.2.2.2.1.keep q (fun h=>h)).cell (o:=1) rfl⟩))
   have Kc:=hid ((Keep.refl (fun _=>False) wr).drew)
   have HR1:=hid hRegt;have hcap:=HL.out.2;clear hS hX hXa hXd hXb hq hbx hrs N1 L1 C1 le1 hdr hbr hlb hB hRt hRegt hct htm ht hokb hbl hR hRm hcR hfst hfr hfc hnb hmem;go_upto_region 5 with fail
   go_cut [8,9] from 16 to 50 (fun x y wx=>∃ g lf ja jc,x=.pointer (some ⟨g,0,none⟩)∧y=.bool B∧(At wx g 27 (ncells lf ja jc)∧lf.subs.length≤jc∧Lie wx (fun k=>smE (fun k=>ok k∧k<w.heap.size) n0 n0 v k∧k≠g) ja lf.subs∧Keep (fun _=>False) wr wx∧wr.heap.size≤g)∧((cnt lb:Int)≤M→lf=lb))
   case first =>
    refine wp_region_noPanic ?_;refine wp_region_held_drew (S:=(fun W=>W.cell? ⟨w.heap.size,0,none⟩=some (.int .u8 b)∧W.cell? ⟨w.heap.size,1,none⟩=some (.int .i64 M))) (by kernel_rfl) ?_ (fun hHeld=>?_)
    ·exact HS.out _ ((Keep.refl _ _).drew)
    refine wpAnyH_take (i:=0) (oi:=⟨_,_,_,_,_,_⟩) (v:=?_) rfl (by kernel_rfl) (by kernel_rfl) (by kernel_rfl) (fun _ _ _ h=>h) (Or.inl ⟨by rfl,?_⟩) (by assumption) ?_
    rotate_left 1
    ·(intro w hSw;(try dsimp only at hSw);go_simp;first | done | with_reducible rfl)
    try simp only [Act.put,List.setIfInBounds_toArray,List.set_cons_zero,List.set_cons_succ]
    refine wpAnyH_take (i:=1) (oi:=⟨_,_,_,_,_,_⟩) (v:=?_) rfl (by kernel_rfl) (by kernel_rfl) (by kernel_rfl) (fun _ _ _ h=>h) (Or.inl ⟨by rfl,?_⟩) (by assumption) ?_
    rotate_left 1
    ·(intro w hSw;(try dsimp only at hSw);go_simp;first | done | with_reducible rfl)
    try simp only [Act.put,List.setIfInBounds_toArray,List.set_cons_zero,List.set_cons_succ]
    refine wpAnyH_take (i:=2) (oi:=⟨_,_,_,_,_,_⟩) (v:=?_) rfl (by kernel_rfl) (by kernel_rfl) (by kernel_rfl) (fun _ _ _ h=>h) (Or.inl ⟨by rfl,?_⟩) (by assumption) ?_
    rotate_left 1
    ·(intro w hSw;(try dsimp only at hSw);go_simp;first | done | with_reducible rfl)
    try simp only [Act.put,List.setIfInBounds_toArray,List.set_cons_zero,List.set_cons_succ]
    refine wpAnyH_take (i:=3) (oi:=⟨_,_,_,_,_,_⟩) (v:=?_) rfl (by kernel_rfl) (by kernel_rfl) (by kernel_rfl) (fun _ _ _ h=>h) (Or.inl ⟨by rfl,?_⟩) (by assumption) ?_
    rotate_left 1
    ·(intro w hSw;(try dsimp only at hSw);go_simp;first | done | with_reducible rfl)
    try simp only [Act.put,List.setIfInBounds_toArray,List.set_cons_zero,List.set_cons_succ]
    refine wpAnyH_ready (rs:=[4,8]) (by kernel_rfl) (by simp) ?_
    refine (AllReadyH.cons (o:=⟨_,_,_,_,_,_⟩) rfl (fun K hK=>?_) (AllReadyH.cons (o:=⟨_,_,_,_,_,_⟩) rfl (fun K hK=>?_) AllReadyH.nil))
    go_simp
    (go_at_call 27;refine (HOf.out _ Kc.out).mono ?_;rintro e w5 ⟨lf,⟨⟨vv,rfl,ja,jc,rfl,hle,hlie⟩,q5⟩,hlf⟩)
    have Nc:=hid (And.intro hle (hlie.mono (ok':=fun k=>smE (fun k=>ok k∧k<w.heap.size) n0 n0 v k) (fun k hk=>by have z1:=Kc.out.size;have z2:=HZ.out;rcases hk with hk | hk;exact ⟨.inl hk,by have:=hk.2;omega,fun e=>by have:=HOwn.out.1 k e;have:=hk.2;omega⟩;exact ⟨.inr (by omega),by omega,fun e=>by have:=HOwn.out.2 k e;omega⟩)))
    have HLf:=hid hlf;have Kc:=hid (Kc.out.trans q5);clear hle hlie q5 hlf;refine hK.out _ _ ?_ (fun hHeld'=>?_)
    ·exact HS.out _ Kc.out
    clear hK K hHeld;have hHeld:=hHeld';clear hHeld'
    try simp only [Act.put,List.setIfInBounds_toArray,List.set_cons_zero,List.set_cons_succ]
    refine wpAnyH_take (i:=5) (oi:=⟨_,_,_,_,_,_⟩) (v:=?_) rfl (by kernel_rfl) (by kernel_rfl) (by kernel_rfl) (fun _ _ _ h=>h) (Or.inl ⟨by rfl,?_⟩) (by assumption) ?_
    rotate_left 1
    ·(intro w hSw;(try dsimp only at hSw);go_simp;first | done | with_reducible rfl)
    try simp only [Act.put,List.setIfInBounds_toArray,List.set_cons_zero,List.set_cons_succ]
    refine wpAnyH_take (i:=6) (oi:=⟨_,_,_,_,_,_⟩) (v:=?_) rfl (by kernel_rfl) (by kernel_rfl) (by kernel_rfl) (fun _ _ _ h=>h) (Or.inl ⟨by rfl,?_⟩) (by assumption) ?_
    rotate_left 1
    ·(intro w hSw;(try dsimp only at hSw);go_simp;first | done | with_reducible rfl)
    try simp only [Act.put,List.setIfInBounds_toArray,List.set_cons_zero,List.set_cons_succ]
    refine wpAnyH_take (i:=7) (oi:=⟨_,_,_,_,_,_⟩) (v:=?_) rfl (by kernel_rfl) (by kernel_rfl) (by kernel_rfl) (fun _ _ _ h=>h) (Or.inl ⟨by rfl,?_⟩) (by assumption) ?_
    rotate_left 1
    ·(intro w hSw;(try dsimp only at hSw);go_simp;first | done | with_reducible rfl)
    try simp only [Act.put,List.setIfInBounds_toArray,List.set_cons_zero,List.set_cons_succ]
    refine wpAnyH_ready (rs:=[8]) (by kernel_rfl) (by simp) ?_
    refine (AllReadyH.cons (o:=⟨_,_,_,_,_,_⟩) rfl (fun K hK=>?_) AllReadyH.nil)
    obtain ⟨g,hg⟩:∃ g,(w5).heap.size=g:=⟨_,rfl⟩;have hA:=At.new (w5) nzeros 27;rw [hg] at hA;have hAg:wr.heap.size≤g:=by rw [← hg];exact Kc.out.size
    have Nc:=hid (And.intro Nc.out.1 ((Nc.out.2.under.keepF ((Keep.refl (fun _=>False) (w5)).alloc (.cells nzeros 27))).mono (ok':=fun k=>smE (fun k=>ok k∧k<w.heap.size) n0 n0 v k∧k≠g) (fun k h=>⟨h.1,by have:=h.2;omega⟩)))
    have Kc:=hid (Kc.out.trans ((Keep.refl (fun _=>False) (w5)).alloc (.cells nzeros 27)))
    have Ac:=hid (And.intro hA hAg);clear hA hAg;go_simp;refine hK.out _ (w5.alloc (.cells nzeros 27)) ?_ (fun hHeld'=>?_)
    ·exact HS.out _ Kc.out
    clear hK K hHeld;have hHeld:=hHeld';clear hHeld';generalize (w5.alloc (.cells nzeros 27))=wA at *
    try simp only [Act.put,List.setIfInBounds_toArray,List.set_cons_zero,List.set_cons_succ]
    refine wpAnyH_ready (rs:=[9]) (by kernel_rfl) (by simp) ?_
    refine (AllReadyH.cons (o:=⟨_,_,_,_,_,_⟩) rfl (fun K hK=>?_) AllReadyH.nil)
    obtain ⟨⟨d0,d1,d2,d3,d4,d5,d6,d7⟩,f0,f1,f2,f3,f4,f5,f6,f7⟩:=cells8 Ac.out.1;have hlt:=Ac.out.1.lt;have HF:=hid (fin_nodeC (X:=lf) (E':=fun k=>smE (fun k=>ok k∧k<w.heap.size) n0 n0 v k∧k≠g) Kc.out Ac.out.1 Ac.out.2 Nc.out.1 Nc.out.2 (fun k h=>⟨⟨h.1,h.2⟩,h.2⟩))
    go_simp;refine hK.out _ (putNd wA g 0 lf ja jc) ?_ (fun hHeld'=>?_)
    ·exact HS.out _ HF.out.2.2.2.1
    clear hK K hHeld;have hHeld:=hHeld';clear hHeld';generalize (putNd wA g 0 lf ja jc)=wP at *
    try simp only [Act.put,List.setIfInBounds_toArray,List.set_cons_zero,List.set_cons_succ]
    refine wpAnyH_take (i:=10) (oi:=⟨_,_,_,_,_,_⟩) (v:=?_) rfl (by kernel_rfl) (by kernel_rfl) (by kernel_rfl) (fun _ _ _ h=>h) (Or.inl ⟨by rfl,?_⟩) (by assumption) ?_
    rotate_left 1
    ·(intro w hSw;(try dsimp only at hSw);go_simp;first | done | with_reducible rfl)
    try simp only [Act.put,List.setIfInBounds_toArray,List.set_cons_zero,List.set_cons_succ]
    refine wpAnyH_done (by kernel_rfl) ?_ _
    refine NoPanic.normal ?_;rotate_left 1;obtain ⟨g,hg⟩:∃ g,(wr.drew).heap.size=g:=⟨_,rfl⟩;have hA:=At.new (wr.drew) nzeros 27;rw [hg] at hA;have hAg:wr.heap.size≤g:=by rw [← hg];exact Kc.out.size
    have Kc:=hid (Kc.out.trans ((Keep.refl (fun _=>False) (wr.drew)).alloc (.cells nzeros 27)))
    have Ac:=hid (And.intro hA hAg);clear hA hAg;go_simp;refine hK.out _ (wr.drew.alloc (.cells nzeros 27)) ?_ (fun hHeld'=>?_)
    ·exact HS.out _ Kc.out
    clear hK K hHeld;have hHeld:=hHeld';clear hHeld';generalize (wr.drew.alloc (.cells nzeros 27))=wA at *
    try simp only [Act.put,List.setIfInBounds_toArray,List.set_cons_zero,List.set_cons_succ]
    refine wpAnyH_ready (rs:=[4]) (by kernel_rfl) (by simp) ?_
    refine (AllReadyH.cons (o:=⟨_,_,_,_,_,_⟩) rfl (fun K hK=>?_) AllReadyH.nil)
    go_simp
    (go_at_call 27;refine (HOf.out _ Kc.out).mono ?_;rintro e w5 ⟨lf,⟨⟨vv,rfl,ja,jc,rfl,hle,hlie⟩,q5⟩,hlf⟩)
    have Nc:=hid (And.intro hle (hlie.mono (ok':=fun k=>smE (fun k=>ok k∧k<w.heap.size) n0 n0 v k∧k≠g) (fun k hk=>by have z1:=Kc.out.size;have z2:=HZ.out;have z3:=Ac.out.1.lt;have z4:=Ac.out.2;rcases hk with hk | hk;exact ⟨⟨.inl hk,by have:=hk.2;omega,fun e=>by have:=HOwn.out.1 k e;have:=hk.2;omega⟩,by have:=hk.2;omega⟩;exact ⟨⟨.inr (by omega),by omega,fun e=>by have:=HOwn.out.2 k e;omega⟩,by omega⟩)))
    have HLf:=hid hlf;have Ac:=hid (And.intro (Ac.out.1.keep q5 (fun h=>h)) Ac.out.2)
    have Kc:=hid (Kc.out.trans q5);clear hle hlie q5 hlf;refine hK.out _ _ ?_ (fun hHeld'=>?_)
    ·exact HS.out _ Kc.out
    clear hK K hHeld;have hHeld:=hHeld';clear hHeld'
    try simp only [Act.put,List.setIfInBounds_toArray,List.set_cons_zero,List.set_cons_succ]
    refine wpAnyH_take (i:=5) (oi:=⟨_,_,_,_,_,_⟩) (v:=?_) rfl (by kernel_rfl) (by kernel_rfl) (by kernel_rfl) (fun _ _ _ h=>h) (Or.inl ⟨by rfl,?_⟩) (by assumption) ?_
    rotate_left 1
    ·(intro w hSw;(try dsimp only at hSw);go_simp;first | done | with_reducible rfl)
    try simp only [Act.put,List.setIfInBounds_toArray,List.set_cons_zero,List.set_cons_succ]
    refine wpAnyH_take (i:=6) (oi:=⟨_,_,_,_,_,_⟩) (v:=?_) rfl (by kernel_rfl) (by kernel_rfl) (by kernel_rfl) (fun _ _ _ h=>h) (Or.inl ⟨by rfl,?_⟩) (by assumption) ?_
    rotate_left 1
    ·(intro w hSw;(try dsimp only at hSw);go_simp;first | done | with_reducible rfl)
    try simp only [Act.put,List.setIfInBounds_toArray,List.set_cons_zero,List.set_cons_succ]
    refine wpAnyH_take (i:=7) (oi:=⟨_,_,_,_,_,_⟩) (v:=?_) rfl (by kernel_rfl) (by kernel_rfl) (by kernel_rfl) (fun _ _ _ h=>h) (Or.inl ⟨by rfl,?_⟩) (by assumption) ?_
    rotate_left 1
    ·(intro w hSw;(try dsimp only at hSw);go_simp;first | done | with_reducible rfl)
    try simp only [Act.put,List.setIfInBounds_toArray,List.set_cons_zero,List.set_cons_succ]
    refine wpAnyH_ready (rs:=[9]) (by kernel_rfl) (by simp) ?_
    refine (AllReadyH.cons (o:=⟨_,_,_,_,_,_⟩) rfl (fun K hK=>?_) AllReadyH.nil)
    obtain ⟨⟨d0,d1,d2,d3,d4,d5,d6,d7⟩,f0,f1,f2,f3,f4,f5,f6,f7⟩:=cells8 Ac.out.1;have hlt:=Ac.out.1.lt;have HF:=hid (fin_nodeC (X:=lf) (E':=fun k=>smE (fun k=>ok k∧k<w.heap.size) n0 n0 v k∧k≠g) Kc.out Ac.out.1 Ac.out.2 Nc.out.1 Nc.out.2 (fun k h=>⟨⟨h.1,h.2⟩,h.2⟩))
    go_simp;refine hK.out _ (putNd w5 g 0 lf ja jc) ?_ (fun hHeld'=>?_)
    ·exact HS.out _ HF.out.2.2.2.1
    clear hK K hHeld;have hHeld:=hHeld';clear hHeld';generalize (putNd w5 g 0 lf ja jc)=wP at *
    try simp only [Act.put,List.setIfInBounds_toArray,List.set_cons_zero,List.set_cons_succ]
    refine wpAnyH_take (i:=10) (oi:=⟨_,_,_,_,_,_⟩) (v:=?_) rfl (by kernel_rfl) (by kernel_rfl) (by kernel_rfl) (fun _ _ _ h=>h) (Or.inl ⟨by rfl,?_⟩) (by assumption) ?_
    rotate_left 1
    ·(intro w hSw;(try dsimp only at hSw);go_simp;first | done | with_reducible rfl)
    try simp only [Act.put,List.setIfInBounds_toArray,List.set_cons_zero,List.set_cons_succ]
    refine wpAnyH_done (by kernel_rfl) ?_ _
    refine NoPanic.normal ?_;rotate_left 1
    all_goals
     go_wp2_with fail
     go_meet
     case rel=>exact ⟨g,lf,ja,jc,rfl,rfl,HF.out,HLf.out⟩
   case rest =>
    obtain ⟨g,lf,ja,jc,rfl,rfl,⟨hA,hle,hlie,hK,hg⟩,hlf⟩:=hcut;obtain ⟨wx,hw⟩:∃ z,z=wc:=⟨_,rfl⟩;subst hw;have HC:=hid (And.intro hA (And.intro hle (And.intro hlie (And.intro hK (And.intro hg hlf)))));obtain ⟨⟨y0,y1,y2,y3,y4,y5,y6,y7⟩,-⟩:=cells8 hA;have hbxx:=HI.out.2.2.2.2.2.1.keep hK (fun h=>h)
    have b0':=hbxx.cell (o:=0) rfl;have b1':=hbxx.cell (o:=1) rfl;clear hA hle hlie hK hg hlf hb0 hb1 hbxx
    go_upto_if 26 with fail
    go_cut [9] from 16 to 50 (fun y wy=>∃ B2 fr fa fc,y=.bool B2∧(At wy g 27 (ncells fr fa fc)∧fr.subs.length≤fc∧Lie wy (fun k=>smE (fun k=>ok k∧k<w.heap.size) n0 n0 v k∧k≠g) fa fr.subs∧Keep (fun k=>k=g) wx wy)∧decide ((cnt fst:Int)≤M)=B2∧(B2=true→fr=fst))
    case first =>
     cases B
     ·have hno:¬ (cnt fst:Int)≤M:=fun h=>by
       have h1:=of_decide_eq_false HTk.out.2.2.1;have hnn:isNo lb=false:=by
        cases e:isNo lb with
        | false=>rfl
        | true =>
         obtain ⟨d,hd,-⟩:=HTk.out.2.1.1;rw [no_is hd e,show cnt noT=1 from cnt_clsT _] at h1
         exact absurd HR1.out.pos.1 h1
       have h2:=cat_ge HTk.out.2.1.1 hnn (l:=R) fun u hu=>⟨H0.out.2.1 u (HTk.out.2.2.2.2.2.2.2.1 u hu),(HSi.out u (HTk.out.2.2.2.2.2.2.2.1 u hu)).2.2⟩
       rw [HTk.out.2.2.2.2.2.2.1] at h2;omega
      have HNo:=hid (decide_eq_false hno);clear hno;go_wp2_with fail
      go_meet
      case rel=>exact ⟨false,lf,ja,jc,rfl,⟨HC.out.1,HC.out.2.1,HC.out.2.2.1,Keep.refl _ _⟩,HNo.out,fun h=>(by cases h)⟩
     ·have hlm:=of_decide_eq_true HTk.out.2.2.1
      obtain rfl:lf=lb:=HC.out.2.2.2.2.2 hlm;obtain ⟨B2,hB2⟩:∃ B2,decide ((cnt fst:Int)≤M)=B2:=⟨_,rfl⟩;have HB2:=hid hB2
      have HFo:=hid (fun (la:Option Addr) (lc:Nat) W (q:Keep (fun _=>False) wx W) (hla:Lie W (fun k=>smE (fun k=>ok k∧k<w.heap.size) n0 n0 v k∧k≠g) la R)=>by
       obtain ⟨d,hRd,-⟩:=HTk.out.2.1.1;have hc4:=HR1.out.cap hlm (by have h1:=HTk.out.2.1.2;omega)
       have:=followed_any b M H0.out.2.2.pos.1 lf hRd R (by rw [cntL];have:=HTk.out.2.2.2.2.2.2.2.2.1;have:=H0.out.2.2.1;omega) (by
        intro u hu
        rcases mem_unf hu with ⟨hm,-⟩ | ⟨z,hz,hk3,hm⟩
        ·rcases List.mem_cons.1 hm with rfl | hm
         ·exact ok_of hRd
         ·obtain ⟨d2,h2,-⟩:=H0.out.2.1 u (HTk.out.2.2.2.2.2.2.2.1 u hm)
          exact ok_of h2
        ·rcases List.mem_cons.1 hz with rfl | hz
         ·exact ok_of (sub_right hRd.subs u hm)
         ·obtain ⟨d2,h2,-⟩:=H0.out.2.1 z (HTk.out.2.2.2.2.2.2.2.1 z hz)
          exact ok_of (sub_right h2.subs u hm)) (B:=B2) (by rw [HTk.out.2.2.2.2.2.2.1];exact HB2.out) ja jc HC.out.2.1 la lc (fun k=>smE (fun k=>ok k∧k<w.heap.size) n0 n0 v k∧k≠g) W (HC.out.2.2.1.keepF q) hla
       rw [HTk.out.2.2.2.2.2.2.1] at this
       exact this)
      obtain ⟨K1,hK1⟩:∃ K1:Nat,k+1=K1:=⟨_,rfl⟩;have hwk:IntKind.i64.wrap ((k:Int)+1)=(K1:Int):=by rw [IntKind.wrap_i64];omega
      have i1:(0:Int)≤(K1:Int):=by omega
      have i2:(K1:Int)≤L.length:=by omega
      obtain ⟨LA,hLA⟩:∃ LA,(if cap=K1 then some (⟨bl,off,none⟩:Addr) else some ⟨bl,off+K1 * 8,none⟩)=LA:=⟨_,rfl⟩
      have HLA:=hid (show Lie wx (fun k=>smE (fun k=>ok k∧k<w.heap.size) n0 n0 v k∧k≠g) LA R from by
       rw [← hLA]
       by_cases hck:cap=K1
       ·rw [if_pos hck]
        have:R=[]:=List.eq_nil_of_length_eq_zero (by rw [HRl.out];omega)
        rw [this];exact .nil _
       ·rw [if_neg hck]
        have h1:=HLR.out;rw [hK1] at h1;refine (h1.keepF HC.out.2.2.2.1).mono fun k hk=>?_
        have h2:=HZ.out;have h3:=HC.out.2.2.2.2.1
        exact ⟨⟨.inl hk,by have:=hk.2;omega,fun e=>by have:=HOwn.out.1 k e;have:=hk.2;omega⟩,by have:=hk.2;omega⟩)
      have HF7:=hid (fun W (q:Keep (fun _=>False) wx W)=>HFo.out LA (cap - K1) W q (HLA.out.keepF q))
      rw [show R.length=L.length - K1 from by rw [HRl.out,hK1]] at HF7
      clear hK1 hlm hB2;go_upto_region 7 with fail;refine wp_region_noPanic ?_;refine wp_region_held_drew (S:=(fun _=>True)) (by kernel_rfl) ?_ (fun hHeld=>?_)
      ·trivial
      refine wpAnyH_take (i:=2) (oi:=⟨_,_,_,_,_,_⟩) (v:=?_) rfl (by kernel_rfl) (by kernel_rfl) (by kernel_rfl) (fun _ _ _ h=>h) (Or.inl ⟨by rfl,?_⟩) (by assumption) ?_
      rotate_left 1
      ·(intro w hSw;(try dsimp only at hSw);go_simp;first | done | with_reducible rfl)
      try simp only [Act.put,List.setIfInBounds_toArray,List.set_cons_zero,List.set_cons_succ]
      refine wpAnyH_take (i:=3) (oi:=⟨_,_,_,_,_,_⟩) (v:=?_) rfl (by kernel_rfl) (by kernel_rfl) (by kernel_rfl) (fun _ _ _ h=>h) (Or.inl ⟨by rfl,?_⟩) (by assumption) ?_
      rotate_left 1
      ·(intro w hSw;(try dsimp only at hSw);go_simp;first | done | with_reducible rfl)
      try simp only [Act.put,List.setIfInBounds_toArray,List.set_cons_zero,List.set_cons_succ]
      refine wpAnyH_take (i:=4) (oi:=⟨_,_,_,_,_,_⟩) (v:=?_) rfl (by kernel_rfl) (by kernel_rfl) (by kernel_rfl) (fun _ _ _ h=>h) (Or.inl ⟨by rfl,?_⟩) (by assumption) ?_
      rotate_left 1
      ·(intro w hSw;(try dsimp only at hSw);go_simp;first | done | with_reducible rfl)
      try simp only [Act.put,List.setIfInBounds_toArray,List.set_cons_zero,List.set_cons_succ]
      refine wpAnyH_take (i:=5) (oi:=⟨_,_,_,_,_,_⟩) (v:=?_) rfl (by kernel_rfl) (by kernel_rfl) (by kernel_rfl) (fun _ _ _ h=>h) (Or.inl ⟨by rfl,?_⟩) (by assumption) ?_
      rotate_left 1
      ·(intro w hSw;(try dsimp only at hSw);go_simp;first | done | with_reducible rfl)
      try simp only [Act.put,List.setIfInBounds_toArray,List.set_cons_zero,List.set_cons_succ]
      refine wpAnyH_ready (rs:=[0,1]) (by kernel_rfl) (by simp) ?_
      refine (AllReadyH.cons (o:=⟨_,_,_,_,_,_⟩) rfl (fun K hK=>?_) (AllReadyH.cons (o:=⟨_,_,_,_,_,_⟩) rfl (fun K hK=>?_) AllReadyH.nil))
      go_simp;refine hK.out _ _ ?_ (fun hHeld'=>?_)
      ·trivial
      clear hK K hHeld;have hHeld:=hHeld';clear hHeld'
      try simp only [Act.put,List.setIfInBounds_toArray,List.set_cons_zero,List.set_cons_succ]
      refine wpAnyH_ready (rs:=[1]) (by kernel_rfl) (by simp) ?_
      refine (AllReadyH.cons (o:=⟨_,_,_,_,_,_⟩) rfl (fun K hK=>?_) AllReadyH.nil)
      go_simp;refine hK.out _ _ ?_ (fun hHeld'=>?_)
      ·trivial
      clear hK K hHeld;have hHeld:=hHeld';clear hHeld'
      try simp only [Act.put,List.setIfInBounds_toArray,List.set_cons_zero,List.set_cons_succ]
      refine wpAnyH_ready (rs:=[6]) (by kernel_rfl) (by simp) ?_
      refine (AllReadyH.cons (o:=⟨_,_,_,_,_,_⟩) rfl (fun K hK=>?_) AllReadyH.nil)
      go_simp
      (go_at_call 65;refine (HF7.out _ ((Keep.refl (fun _=>False) wx).drew)).mono ?_;rintro e w5 ⟨⟨vv,rfl,fa,fc,rfl,hle,hlie⟩,q5⟩)
      have K5:=hid (((Keep.refl (fun _=>False) wx).drew).trans q5)
      have N5:=hid (And.intro hle (hlie.mono (ok':=fun k=>smE (fun k=>ok k∧k<w.heap.size) n0 n0 v k∧k≠g) (fun k hk=>by have z1:=((Keep.refl (fun _=>False) wx).drew).size;have z2:=HZ.out;have z3:=HC.out.2.2.2.1.size;have z4:=HC.out.1.lt;rcases hk with hk | hk;exact hk;exact ⟨⟨.inr (by omega),by omega,fun e=>by have:=HOwn.out.2 k e;omega⟩,by omega⟩)))
      clear hle hlie q5;refine hK.out _ _ ?_ (fun hHeld'=>?_)
      ·trivial
      clear hK K hHeld;have hHeld:=hHeld';clear hHeld'
      try simp only [Act.put,List.setIfInBounds_toArray,List.set_cons_zero,List.set_cons_succ]
      refine wpAnyH_take (i:=7) (oi:=⟨_,_,_,_,_,_⟩) (v:=?_) rfl (by kernel_rfl) (by kernel_rfl) (by kernel_rfl) (fun _ _ _ h=>h) (Or.inl ⟨by rfl,?_⟩) (by assumption) ?_
      rotate_left 1
      ·(intro w hSw;(try dsimp only at hSw);go_simp;first | done | with_reducible rfl)
      try simp only [Act.put,List.setIfInBounds_toArray,List.set_cons_zero,List.set_cons_succ]
      refine wpAnyH_take (i:=8) (oi:=⟨_,_,_,_,_,_⟩) (v:=?_) rfl (by kernel_rfl) (by kernel_rfl) (by kernel_rfl) (fun _ _ _ h=>h) (Or.inl ⟨by rfl,?_⟩) (by assumption) ?_
      rotate_left 1
      ·(intro w hSw;(try dsimp only at hSw);go_simp;first | done | with_reducible rfl)
      try simp only [Act.put,List.setIfInBounds_toArray,List.set_cons_zero,List.set_cons_succ]
      refine wpAnyH_take (i:=9) (oi:=⟨_,_,_,_,_,_⟩) (v:=?_) rfl (by kernel_rfl) (by kernel_rfl) (by kernel_rfl) (fun _ _ _ h=>h) (Or.inl ⟨by rfl,?_⟩) (by assumption) ?_
      rotate_left 1
      ·(intro w hSw;(try dsimp only at hSw);go_simp;first | done | with_reducible rfl)
      try simp only [Act.put,List.setIfInBounds_toArray,List.set_cons_zero,List.set_cons_succ]
      refine wpAnyH_ready (rs:=[10]) (by kernel_rfl) (by simp) ?_
      refine (AllReadyH.cons (o:=⟨_,_,_,_,_,_⟩) rfl (fun K hK=>?_) AllReadyH.nil)
      have A5:=hid (HC.out.1.keep K5.out (fun h=>h))
      have H9:=hid (show At (putNd w5 g 0 fst fa fc) g 27 (ncells fst fa fc)∧fst.subs.length≤fc∧Lie (putNd w5 g 0 fst fa fc) (fun k=>smE (fun k=>ok k∧k<w.heap.size) n0 n0 v k∧k≠g) fa fst.subs∧Keep (fun k=>k=g) wx (putNd w5 g 0 fst fa fc) from ⟨set8 A5.out (.int .i64 fst.kind) (.int .u64 fst.set.x0) (.int .u64 fst.set.x1) (.int .u64 fst.set.x2) (.int .u64 fst.set.x3) (.int .i64 fst.mn) (.int .i64 fst.mx) (.slice fa fst.subs.length fc),N5.out.1,N5.out.2.keep (putNd_keep w5 g 0 fst fa fc) (fun b hb e=>hb.2 e),(K5.out.mono (fun _ h=>h.elim)).trans (putNd_keep w5 g 0 fst fa fc)⟩)
      obtain ⟨⟨d0,d1,d2,d3,d4,d5,d6,d7⟩,f0,f1,f2,f3,f4,f5,f6,f7⟩:=cells8 A5.out;have hlt5:=A5.out.lt;go_simp;refine hK.out _ (putNd w5 g 0 fst fa fc) ?_ (fun hHeld'=>?_)
      ·trivial
      clear hK K hHeld;have hHeld:=hHeld';clear hHeld';generalize (putNd w5 g 0 fst fa fc)=W9 at *
      try simp only [Act.put,List.setIfInBounds_toArray,List.set_cons_zero,List.set_cons_succ]
      refine wpAnyH_take (i:=11) (oi:=⟨_,_,_,_,_,_⟩) (v:=?_) rfl (by kernel_rfl) (by kernel_rfl) (by kernel_rfl) (fun _ _ _ h=>h) (Or.inl ⟨by rfl,?_⟩) (by assumption) ?_
      rotate_left 1
      ·(intro w hSw;(try dsimp only at hSw);go_simp;first | done | with_reducible rfl)
      try simp only [Act.put,List.setIfInBounds_toArray,List.set_cons_zero,List.set_cons_succ]
      refine wpAnyH_done (by kernel_rfl) ?_ _
      refine NoPanic.normal ?_;rotate_left 1;go_simp;refine hK.out _ _ ?_ (fun hHeld'=>?_)
      ·trivial
      clear hK K hHeld;have hHeld:=hHeld';clear hHeld'
      try simp only [Act.put,List.setIfInBounds_toArray,List.set_cons_zero,List.set_cons_succ]
      refine wpAnyH_ready (rs:=[0]) (by kernel_rfl) (by simp) ?_
      refine (AllReadyH.cons (o:=⟨_,_,_,_,_,_⟩) rfl (fun K hK=>?_) AllReadyH.nil)
      go_simp;refine hK.out _ _ ?_ (fun hHeld'=>?_)
      ·trivial
      clear hK K hHeld;have hHeld:=hHeld';clear hHeld'
      try simp only [Act.put,List.setIfInBounds_toArray,List.set_cons_zero,List.set_cons_succ]
      refine wpAnyH_ready (rs:=[6]) (by kernel_rfl) (by simp) ?_
      refine (AllReadyH.cons (o:=⟨_,_,_,_,_,_⟩) rfl (fun K hK=>?_) AllReadyH.nil)
      go_simp
      (go_at_call 65;refine (HF7.out _ ((Keep.refl (fun _=>False) wx).drew)).mono ?_;rintro e w5 ⟨⟨vv,rfl,fa,fc,rfl,hle,hlie⟩,q5⟩)
      have K5:=hid (((Keep.refl (fun _=>False) wx).drew).trans q5)
      have N5:=hid (And.intro hle (hlie.mono (ok':=fun k=>smE (fun k=>ok k∧k<w.heap.size) n0 n0 v k∧k≠g) (fun k hk=>by have z1:=((Keep.refl (fun _=>False) wx).drew).size;have z2:=HZ.out;have z3:=HC.out.2.2.2.1.size;have z4:=HC.out.1.lt;rcases hk with hk | hk;exact hk;exact ⟨⟨.inr (by omega),by omega,fun e=>by have:=HOwn.out.2 k e;omega⟩,by omega⟩)))
      clear hle hlie q5;refine hK.out _ _ ?_ (fun hHeld'=>?_)
      ·trivial
      clear hK K hHeld;have hHeld:=hHeld';clear hHeld'
      try simp only [Act.put,List.setIfInBounds_toArray,List.set_cons_zero,List.set_cons_succ]
      refine wpAnyH_take (i:=7) (oi:=⟨_,_,_,_,_,_⟩) (v:=?_) rfl (by kernel_rfl) (by kernel_rfl) (by kernel_rfl) (fun _ _ _ h=>h) (Or.inl ⟨by rfl,?_⟩) (by assumption) ?_
      rotate_left 1
      ·(intro w hSw;(try dsimp only at hSw);go_simp;first | done | with_reducible rfl)
      try simp only [Act.put,List.setIfInBounds_toArray,List.set_cons_zero,List.set_cons_succ]
      refine wpAnyH_take (i:=8) (oi:=⟨_,_,_,_,_,_⟩) (v:=?_) rfl (by kernel_rfl) (by kernel_rfl) (by kernel_rfl) (fun _ _ _ h=>h) (Or.inl ⟨by rfl,?_⟩) (by assumption) ?_
      rotate_left 1
      ·(intro w hSw;(try dsimp only at hSw);go_simp;first | done | with_reducible rfl)
      try simp only [Act.put,List.setIfInBounds_toArray,List.set_cons_zero,List.set_cons_succ]
      refine wpAnyH_take (i:=9) (oi:=⟨_,_,_,_,_,_⟩) (v:=?_) rfl (by kernel_rfl) (by kernel_rfl) (by kernel_rfl) (fun _ _ _ h=>h) (Or.inl ⟨by rfl,?_⟩) (by assumption) ?_
      rotate_left 1
      ·(intro w hSw;(try dsimp only at hSw);go_simp;first | done | with_reducible rfl)
      try simp only [Act.put,List.setIfInBounds_toArray,List.set_cons_zero,List.set_cons_succ]
      refine wpAnyH_ready (rs:=[10]) (by kernel_rfl) (by simp) ?_
      refine (AllReadyH.cons (o:=⟨_,_,_,_,_,_⟩) rfl (fun K hK=>?_) AllReadyH.nil)
      have A5:=hid (HC.out.1.keep K5.out (fun h=>h))
      have H9:=hid (show At (putNd w5 g 0 fst fa fc) g 27 (ncells fst fa fc)∧fst.subs.length≤fc∧Lie (putNd w5 g 0 fst fa fc) (fun k=>smE (fun k=>ok k∧k<w.heap.size) n0 n0 v k∧k≠g) fa fst.subs∧Keep (fun k=>k=g) wx (putNd w5 g 0 fst fa fc) from ⟨set8 A5.out (.int .i64 fst.kind) (.int .u64 fst.set.x0) (.int .u64 fst.set.x1) (.int .u64 fst.set.x2) (.int .u64 fst.set.x3) (.int .i64 fst.mn) (.int .i64 fst.mx) (.slice fa fst.subs.length fc),N5.out.1,N5.out.2.keep (putNd_keep w5 g 0 fst fa fc) (fun b hb e=>hb.2 e),(K5.out.mono (fun _ h=>h.elim)).trans (putNd_keep w5 g 0 fst fa fc)⟩)
      obtain ⟨⟨d0,d1,d2,d3,d4,d5,d6,d7⟩,f0,f1,f2,f3,f4,f5,f6,f7⟩:=cells8 A5.out;have hlt5:=A5.out.lt;go_simp;refine hK.out _ (putNd w5 g 0 fst fa fc) ?_ (fun hHeld'=>?_)
      ·trivial
      clear hK K hHeld;have hHeld:=hHeld';clear hHeld';generalize (putNd w5 g 0 fst fa fc)=W9 at *
      try simp only [Act.put,List.setIfInBounds_toArray,List.set_cons_zero,List.set_cons_succ]
      refine wpAnyH_take (i:=11) (oi:=⟨_,_,_,_,_,_⟩) (v:=?_) rfl (by kernel_rfl) (by kernel_rfl) (by kernel_rfl) (fun _ _ _ h=>h) (Or.inl ⟨by rfl,?_⟩) (by assumption) ?_
      rotate_left 1
      ·(intro w hSw;(try dsimp only at hSw);go_simp;first | done | with_reducible rfl)
      try simp only [Act.put,List.setIfInBounds_toArray,List.set_cons_zero,List.set_cons_succ]
      refine wpAnyH_done (by kernel_rfl) ?_ _
      refine NoPanic.normal ?_;rotate_left 1
      all_goals
       go_wp2_with fail
       go_meet
       case rel=>exact ⟨B2,fst,fa,fc,rfl,H9.out,HB2.out,fun _=>rfl⟩
    case rest =>
     obtain ⟨B2,fr,fa,fc,rfl,⟨hA,hle,hlie,hK⟩,hB2,hfr⟩:=hcut;have hKc:Keep (fun _=>False) wr wc:=HC.out.2.2.2.1.next hK (fun i (e:i=g) hi=>by have:=HC.out.2.2.2.2.1;omega)
     have R6:=hid (show Rb w (w.heap.size+1) wc from ⟨HI.out.2.2.2.2.2.2.keep hKc (fun h=>h),KW.out.trans hKc,by omega⟩)
     have HKc:=hid (And.intro hKc (And.intro hA (And.intro hle hlie)));clear y0 y1 y2 y3 y4 y5 y6 y7 b0' b1';obtain ⟨⟨y0,y1,y2,y3,y4,y5,y6,y7⟩,-⟩:=cells8 hA;clear hA hle hlie hK hKc
     cases B2
     ·have HNo:=hid (show ¬ (cnt tt:Int)≤M from fun h=>by
       have h1:=of_decide_eq_false hB2;have h3:=alt_ge (pC_rs b L H0.out.2.1) HTk.out.2.2.2.1;rw [HT.out] at h3
       omega)
      clear hfr hB2;obtain ⟨⟨d0,d1,d2,d3,d4,d5,d6,d7⟩,f0,f1,f2,f3,f4,f5,f6,f7⟩:=cells8 R6.out.out;have hlt6:=R6.out.out.lt;go_wp2_with fail
      change bodyPost _ _ _ _ _ (putNd wc (w.heap.size+1) 0 zT none 0)
      have hP:=ofd_no (ok:=ok) (y:=tt) (M:=M) R6.out (by have:=HNo.out;omega)
      generalize (putNd wc (w.heap.size+1) 0 zT none 0)=W8 at hP ⊢;obtain ⟨⟨e0,e1,e2,e3,e4,e5,e6,e7⟩,-⟩:=cells8 hP.1;exact bodyPost_ret (v:=.tuple #[nodeV zT none 0,.bool false]) (by simp [results,Tryz.results47,go_sem,e0,e1,e2,e3,e4,e5,e6,e7]) rfl hP.2
     ·have hlm:=of_decide_eq_true hB2
      obtain rfl:fr=fst:=hfr rfl;have hl4:=H0.out.2.2.cap hlm HTk.out.2.2.2.2.2.1;have HAdd:=hid (add_any wc (HI.out.1.keepF HKc.out.1) HI.out.2.1 (H0.out.2.2.small (k:=k) (by have:=lenL L;omega) HI.out.2.2.2.1) HI.out.2.2.2.1.1 H0.out.2.2.pos (Nat.le_refl n0) fr HTk.out.2.2.2.2.1 hl4 fa fc HKc.out.2.2.1 (HKc.out.2.2.2.mono fun k hk=>hk.1))
      have HL4:=hid hl4;clear hlm hl4 hfr hB2;go_wp2_with fail;refine HAdd.out.mono ?_;rintro e w6 ⟨B3,v',X',rfl,hS',hX',ha',hf',ht',hK',ho'⟩;have haX:aS X'=aS (D++[fr]):=by
       rw [ha'];exact aS_more HI.out.2.2.1 [fr]
      have hn01:=HS0.out;have hown:∀ i,v.ownBlock=some i→n0+1≤i:=fun i e=>by
       have h1:=HOwn.out.1 i e;have h2:i≠n0:=fun e2=>HI.out.1.sne (by rw [e,e2])
       omega
      have hne:∀ i,i<n0→¬ (i=n0∨v.ownBlock=some i):=fun i hi e=>by
       rcases e with e | e
       ·omega
       ·have:=hown i e
        omega
      have R7:=hid (show Rb w (w.heap.size+1) w6 from ⟨R6.out.out.keep hK' (hne _ (by omega)),R6.out.keep.next hK' (fun i e hi=>hne i (by omega) e),R6.out.lt⟩)
      have HF6:=hid (And.intro haX (And.intro hf' ht'))
      have HN6:=hid (show Sm w6 (fun k=>ok k∧k<w.heap.size) n0 n0 v' X' M∧(∀ t ∈ X',Rs t)∧Keep (fun k=>k=n0) W0 w6∧At w6 w.heap.size 56 #[.int .u8 (b:Int),.int .i64 M] from
       ⟨hS',hX',((HI.out.2.2.2.2.1.trans (HKc.out.1.mono (fun _ h=>h.elim))).next hK' (fun i e hi=>by
        rcases e with e | e
        ·exact e
        ·have:=hown i e
         omega)),(HI.out.2.2.2.2.2.1.keep HKc.out.1 (fun h=>h)).keep hK' (hne _ (by omega))⟩)
      obtain ⟨dt,hdt,-⟩:=id HN1.out.2.2.2.1;have HEm:=hid (empty_any t dt hdt bl (off+k * 8) a1 c1 w6 ((HN1.out.1.keepF HKc.out.1).keep hK' (hne _ (by have:=HN1.out.2.2.2.2;omega))) (((HN1.out.2.1.keepF HKc.out.1).keep hK' (fun i hi=>hne i (by have:=hi.2;omega))).mono fun _ _=>trivial))
      rw [HTk.out.2.2.2.2.2.2.2.2.2.2.1] at HEm;clear hS' hX' ha' hf' ht' hK' ho' haX hn01 hown hne y0 y1 y2 y3 y4 y5 y6 y7 hdt
      cases B3
      ·have HNo:=hid (show ¬ (cnt tt:Int)≤M from fun h=>by
        have h1:=HF6.out.2.1 rfl;have h2:=aS_alt (aS_more HI.out.2.2.1 [fr]);rw [h2] at h1;have h3:=alt_mono (D++[fr]) (if nb=true then pC b R else [])
        rw [List.append_assoc,List.singleton_append,HTk.out.1,HT.out] at h3
        omega)
       obtain ⟨⟨d0,d1,d2,d3,d4,d5,d6,d7⟩,f0,f1,f2,f3,f4,f5,f6,f7⟩:=cells8 R7.out.out;have hlt6:=R7.out.out.lt;go_wp2_with fail
       change bodyPost _ _ _ _ _ (putNd w6 (w.heap.size+1) 0 zT none 0)
       have hP:=ofd_no (ok:=ok) (y:=tt) (M:=M) R7.out (by have:=HNo.out;omega)
       generalize (putNd w6 (w.heap.size+1) 0 zT none 0)=W8 at hP ⊢;obtain ⟨⟨e0,e1,e2,e3,e4,e5,e6,e7⟩,-⟩:=cells8 hP.1;exact bodyPost_ret (v:=.tuple #[nodeV zT none 0,.bool false]) (by simp [results,Tryz.results47,go_sem,e0,e1,e2,e3,e4,e5,e6,e7]) rfl hP.2
      ·have HBd:=hid (H0.out.2.2.sum (k:=k) (by have:=lenL L;omega) HI.out.2.2.2.1 HL4.out (HF6.out.2.2 rfl))
       go_wp2_with fail;refine HEm.out.mono ?_;rintro e w7 ⟨rfl,rfl⟩
       cases nb
       ·have hTT:altT X'=tt:=by
         have h1:=HTk.out.1;rw [if_neg (by decide)] at h1
         rw [aS_alt HF6.out.1,h1,HT.out]
        obtain ⟨BE,hBE⟩:∃ B,decide ((cnt tt:Int)≤M)=B:=⟨_,rfl⟩;have HWh:=hid (whole_any w6 HN6.out.1.at_ HN6.out.1.row HN6.out.1.sne HN6.out.2.1 (by have:=H0.out.2.2.small (k:=k+1) (by have:=lenL L;omega) HBd.out;omega) (M:=M) (B:=BE) (by rw [hTT];exact hBE))
        rw [hTT] at HWh;have HB9:=hid hBE;clear hTT hBE;go_wp2_with fail;refine HWh.out.mono ?_;rintro e w8 ⟨⟨vv,rfl,ka,kc,rfl,hle,hlie⟩,q8⟩;have R8:=hid (R7.out.next q8)
        have N8:=hid (And.intro hle (hlie.mono (ok':=fun k=>(ok k∨w.heap.size≤k)∧k≠w.heap.size+1) (fun k hk=>by
         have h1:=HZ.out;have h3:=R7.out.out.lt
         rcases hk with hk | hk
         ·rcases hk.1 with h2 | h2
          ·exact ⟨.inl h2.1,by have:=h2.2;omega⟩
          ·exact ⟨.inr (by omega),by omega⟩
         ·exact ⟨.inr (by omega),by omega⟩)))
        clear hle hlie q8;obtain ⟨⟨d0,d1,d2,d3,d4,d5,d6,d7⟩,f0,f1,f2,f3,f4,f5,f6,f7⟩:=cells8 R8.out.out;have hlt6:=R8.out.out.lt;go_wp2_with fail
        change bodyPost _ _ _ _ _ (putNd w8 (w.heap.size+1) 0 tt ka kc)
        have hP:=R8.out.put tt ka kc;have hG:=R8.out.gives (ok:=ok) (t:=tt) N8.out.1 N8.out.2;generalize (putNd w8 (w.heap.size+1) 0 tt ka kc)=W8 at hP hG ⊢;obtain ⟨⟨e0,e1,e2,e3,e4,e5,e6,e7⟩,-⟩:=cells8 hP.1;exact bodyPost_ret (v:=.tuple #[nodeV tt ka kc,.bool BE]) (by simp [results,Tryz.results47,go_sem,e0,e1,e2,e3,e4,e5,e6,e7]) rfl ⟨tt,by rw [HB9.out];exact giveB hG,fun _=>rfl⟩
       ·have hD:(D++[fr])++pC b (L.drop (k+1))=pC b L:=by
         have h1:=HTk.out.1;rw [if_pos rfl] at h1;rw [List.append_assoc,List.singleton_append,HTk.out.2.2.2.2.2.2.2.2.2.1];exact h1
        have HD:=hid hD;clear hD;go_wp2_with fail
        go_roundg (L.length - (k+1))
        case measure=>omega
        case rel=>exact ⟨k+1,v',X',D++[fr],by go_num,by omega,HN6.out.1,HN6.out.2.1,HF6.out.1,HD.out,HBd.out,HN6.out.2.2.1,HN6.out.2.2.2,R7.out.out⟩
  ·have hke:k=L.length:=by omega
   subst hke;rw [List.drop_length,pC,List.append_nil] at hXd;subst hXd;have hTT:altT X=tt:=by rw [aS_alt hXa,HT.out]
   obtain ⟨BE,hBE⟩:∃ B,decide ((cnt tt:Int)≤M)=B:=⟨_,rfl⟩;have HWh:=hid (whole_any wr hS.at_ hS.row hS.sne hX (by have:=H0.out.2.2.small (k:=L.length) (lenL L) hXb;omega) (M:=M) (B:=BE) (by rw [hTT];exact hBE))
   rw [hTT] at HWh;have R7:=hid (show Rb w (w.heap.size+1) wr from ⟨hrs,KW.out,by omega⟩)
   have HB9:=hid hBE;clear hS hX hXa hXb hq hbx hrs hTT hBE hb0 hb1;go_wp2_with fail;refine HWh.out.mono ?_;rintro e w8 ⟨⟨vv,rfl,ka,kc,rfl,hle,hlie⟩,q8⟩;have R8:=hid (R7.out.next q8)
   have N8:=hid (And.intro hle (hlie.mono (ok':=fun k=>(ok k∨w.heap.size≤k)∧k≠w.heap.size+1) (fun k hk=>by
    have h1:=HZ.out;have h3:=R7.out.out.lt
    rcases hk with hk | hk
    ·rcases hk.1 with h2 | h2
     ·exact ⟨.inl h2.1,by have:=h2.2;omega⟩
     ·exact ⟨.inr (by omega),by omega⟩
    ·exact ⟨.inr (by omega),by omega⟩)))
   clear hle hlie q8;obtain ⟨⟨d0,d1,d2,d3,d4,d5,d6,d7⟩,f0,f1,f2,f3,f4,f5,f6,f7⟩:=cells8 R8.out.out;have hlt6:=R8.out.out.lt;go_wp2_with fail
   change bodyPost _ _ _ _ _ (putNd w8 (w.heap.size+1) 0 tt ka kc)
   have hP:=R8.out.put tt ka kc;have hG:=R8.out.gives (ok:=ok) (t:=tt) N8.out.1 N8.out.2;generalize (putNd w8 (w.heap.size+1) 0 tt ka kc)=W8 at hP hG ⊢;obtain ⟨⟨e0,e1,e2,e3,e4,e5,e6,e7⟩,-⟩:=cells8 hP.1;exact bodyPost_ret (v:=.tuple #[nodeV tt ka kc,.bool BE]) (by simp [results,Tryz.results47,go_sem,e0,e1,e2,e3,e4,e5,e6,e7]) rfl ⟨tt,by rw [HB9.out];exact giveB hG,fun _=>rfl⟩
end P12
end Go.Proofs.YtlmfbchgkjgljaaGreat
