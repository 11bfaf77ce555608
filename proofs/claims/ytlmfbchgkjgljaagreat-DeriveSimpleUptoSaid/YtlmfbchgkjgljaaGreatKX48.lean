/- The code's ofRep (layer 12). -/
import Derived.Test.YtlmfbchgkjgljaaGreatKX47
set_option maxRecDepth 100000
set_option maxHeartbeats 32000000
open Go.Lib (hid)
namespace Go.Proofs.YtlmfbchgkjgljaaGreat
namespace P12
open Go.RowKit Base Bytes P07 P08 P09 P10
open Sets (ST)
theorem not_no {t:T} (h:t.kind≠2):isNo t=false:=by
 cases e:isNo t with
 | false=>rfl
 | true=>exact absurd (is_no e) h
theorem rep_no {t:T} (h:isNo t=false) (lo hi:Int):isNo (repP t lo hi)=false:=by
 unfold repP
 split
 ·exact isNo_epsT
 split
 ·exact h
 split
 ·exact not_no (by rcases star_kind _ t (Nat.lt_succ_self _) with h | h <;> rw [h] <;> decide)
 ·exact not_no (by show (5:Int)≠2;decide)
theorem ofRep_any (b:Nat) (M:Int) (t u:T) (hk:t.kind=5) (hsub:t.subs=[u]) (hRs:Rs t) (hReg:Reg M (cnt t)) (hOf:BhOk b M u) (bl o:Nat) (a:Option Addr) (c:Nat) (ok:Nat→Prop) (w:World) (hN:NodeP w bl o t a c) (hL:Lie w ok a t.subs) (_hc:t.subs.length≤c) :
  Calls Tryz.prog 49 #[bhV b M,.pointer (some ⟨bl,o,none⟩)] w (Ofd w ok (byR b t.mn t.mx t.subs) M):=by
 obtain ⟨d,hR,hS⟩:=id hRs;obtain ⟨u',mn,mx,et,m0,m1,bx,hI⟩:=rep_is hR hk;have huu:u'=u:=by
  rw [et] at hsub;have hsub:[u']=[u]:=hsub;injection hsub
 subst huu;have hsm:t.mx≠0∧isNo u'=false:=by
  have h1:=hS;rw [et,smp_nd] at h1;have h2:=h1.2.2.2 rfl;rw [et];exact ⟨h2.1,(h2.2 u' (by simp)).2.1⟩
 have emn:t.mn=mn:=by rw [et];rfl
 have emx:t.mx=mx:=by rw [et];rfl
 have hu:=hRs.sub u' (by rw [hsub];simp)
 have hSu:Smp u':=smp_subs hS u' (by rw [hsub];simp)
 have hrr:=rs_rep hI hSu m0 m1 bx (by rw [← emx];exact hsm.1)
 have hcu:cnt u'+1≤cnt t:=by rw [cnt_eq t,hsub,cntL,cntL];omega
 have hmx:(if 0<t.mx then t.mx - 1 else t.mx)=max (t.mx - 1) (-1):=by split <;> omega
 rw [hsub,byR];obtain ⟨lb,hlb⟩:∃ lb,byT b u'=lb:=⟨_,rfl⟩;obtain ⟨rp,hrp⟩:∃ rp,repP u' (max (t.mn - 1) 0) (max (t.mx - 1) (-1))=rp:=⟨_,rfl⟩;rw [← emn,← emx,hmx,hrp] at hrr;rw [hmx,hlb,hrp];obtain ⟨tt,htt⟩:∃ tt,catT [lb,rp]=tt:=⟨_,rfl⟩;rw [htt];have hbr:=by_rs b u' hu;rw [hlb] at hbr;have hrn:isNo rp=false:=by rw [← hrp];exact rep_no hsm.2 _ _
 obtain ⟨bs,os,a1,c1,rfl,hokb,hbl,le1,L1,C1⟩:=hL.get (i:=0) (t:=u') (by rw [hsub];rfl)
 have NU:NodeP w bs os u' a1 c1:=⟨hbl,fun j v hv=>by have:=C1 j v hv;rw [Nat.zero_mul,Nat.add_zero] at this;exact this⟩
 have hl1:t.subs.length=1:=by rw [hsub];rfl
 have q0:=((Keep.refl (fun _=>False) w).alloc (.cells #[.int .u8 (b:Int),.int .i64 M] 56)).alloc (.cells nzeros 27)
 have a0:=(At.new w #[.int .u8 (b:Int),.int .i64 M] 56).alloc (.cells nzeros 27);have a2:=At.new (w.alloc (.cells #[.int .u8 (b:Int),.int .i64 M] 56)) nzeros 27;rw [show (w.alloc (.cells #[.int .u8 (b:Int),.int .i64 M] 56)).heap.size=w.heap.size+1 from by simp] at a2
 have hs0:((w.alloc (.cells #[.int .u8 (b:Int),.int .i64 M] 56)).alloc (.cells nzeros 27)).heap.size=w.heap.size+2:=by simp
 have HA:=hid (And.intro a0 (And.intro q0 (And.intro (L1.under.keepF q0) (And.intro (NU.keepF q0) (And.intro (hN.keepF q0) (show bs<w.heap.size∧bl<w.heap.size from ⟨hbl,hN.lt⟩))))))
 have HR:=hid (show Rb w (w.heap.size+1) _ from ⟨a2,q0,by omega⟩)
 have hRegu:=hReg.le (show cnt u'≤cnt t by omega)
 obtain ⟨B,hB⟩:∃ B,decide ((cnt lb:Int)≤M)=B:=⟨_,rfl⟩;have HX:=hid (And.intro hu (And.intro hRegu (And.intro hbr (And.intro hrr (And.intro hrn (And.intro hB (And.intro htt (And.intro le1 (And.intro hReg (And.intro hcu (And.intro hlb hrp)))))))))));have HOf0:=hid hOf;have nmx:(t.mx == 0)=false:=by simpa using hsm.1
 have hwn:IntKind.i64.wrap (t.mn - 1)=t.mn - 1:=by rw [IntKind.wrap_i64];omega
 have hwx:IntKind.i64.wrap (t.mx - 1)=t.mx - 1:=by rw [IntKind.wrap_i64];omega
 have HZ:=hid hs0;clear q0 a0 a2 hL hRs hReg hOf hN hR hS et m0 m1 bx hI hsm emn emx hu hSu hrr hcu hmx hbr hrn hokb hbl le1 L1 C1 NU hs0 hRegu hB htt hlb hrp hsub
 go_enter Tryz.func49,Tryz.ntmps49
 go_upto_region 1 with fail;generalize ((w.alloc (.cells #[.int .u8 (b:Int),.int .i64 M] 56)).alloc (.cells nzeros 27))=W0 at *;obtain ⟨n0,n1,n2,n3,n4,n5,n6,n7⟩:=HA.out.2.2.2.2.1.eight;rw [hl1] at n7;go_upto_region 3 with fail;have HOf:=hid (fun W (q:Keep (fun _=>False) W0 W)=>HOf0.out HX.out.1 HX.out.2.1 bs os a1 c1 (fun k=>ok k∧k<w.heap.size) W (HA.out.2.2.2.1.keepF q) (HA.out.2.2.1.keepF q) HX.out.2.2.2.2.2.2.2.1)
 unfold Ofd at HOf;rw [HX.out.2.2.2.2.2.2.2.2.2.2.1,HX.out.2.2.2.2.2.1] at HOf
 have HS:=hid (fun (W':World) (q:Keep (fun _=>False) W0 W')=>(show (W'.cell? ⟨w.heap.size,0,none⟩=some (.int .u8 b)∧W'.cell? ⟨w.heap.size,1,none⟩=some (.int .i64 M))∧(W'.cell? ⟨bl,o,none⟩=some (.int .i64 t.kind)∧W'.cell? ⟨bl,o+1,none⟩=some (.int .u64 t.set.x0)∧W'.cell? ⟨bl,o+2,none⟩=some (.int .u64 t.set.x1)∧W'.cell? ⟨bl,o+3,none⟩=some (.int .u64 t.set.x2)∧W'.cell? ⟨bl,o+4,none⟩=some (.int .u64 t.set.x3)∧W'.cell? ⟨bl,o+5,none⟩=some (.int .i64 t.mn)∧W'.cell? ⟨bl,o+6,none⟩=some (.int .i64 t.mx)∧W'.cell? ⟨bl,o+7,none⟩=some (.slice (some ⟨bs,os,none⟩) 1 c)) from ⟨⟨(HA.out.1.keep q (fun h=>h)).cell (o:=0) rfl,(HA.out.1.keep q (fun h=>h)).cell (o:=1) rfl⟩,by
  have:=(HA.out.2.2.2.2.1.keepF q).eight;rw [hl1] at this
  exact this⟩))
 have Kc:=hid ((Keep.refl (fun _=>False) W0).drew)
 go_cut [6,7] (fun x y wx=>∃ g lf ja jc,x=.pointer (some ⟨g,0,none⟩)∧y=.bool B∧(At wx g 27 (ncells lf ja jc)∧lf.subs.length≤jc∧Lie wx (fun k=>(ok k∨w.heap.size≤k)∧k≠w.heap.size+1) ja lf.subs∧Keep (fun _=>False) W0 wx∧W0.heap.size≤g)∧((cnt lb:Int)≤M→lf=lb))
 case first =>
   refine wp_region_noPanic ?_;refine wp_region_held_drew (S:=(fun W=>(W.cell? ⟨w.heap.size,0,none⟩=some (.int .u8 b)∧W.cell? ⟨w.heap.size,1,none⟩=some (.int .i64 M))∧(W.cell? ⟨bl,o,none⟩=some (.int .i64 t.kind)∧W.cell? ⟨bl,o+1,none⟩=some (.int .u64 t.set.x0)∧W.cell? ⟨bl,o+2,none⟩=some (.int .u64 t.set.x1)∧W.cell? ⟨bl,o+3,none⟩=some (.int .u64 t.set.x2)∧W.cell? ⟨bl,o+4,none⟩=some (.int .u64 t.set.x3)∧W.cell? ⟨bl,o+5,none⟩=some (.int .i64 t.mn)∧W.cell? ⟨bl,o+6,none⟩=some (.int .i64 t.mx)∧W.cell? ⟨bl,o+7,none⟩=some (.slice (some ⟨bs,os,none⟩) 1 c)))) (by kernel_rfl) ?_ (fun hHeld=>?_)
   ·exact HS.out _ ((Keep.refl _ _).drew)
   refine wpAnyH_take (i:=0) (oi:=⟨_,_,_,_,_,_⟩) (v:=?_) rfl (by kernel_rfl) (by kernel_rfl) (by kernel_rfl) (fun _ _ _ h=>h) (Or.inl ⟨by rfl,?_⟩) (by assumption) ?_
   rotate_left 1
   ·(intro w hSw;(try dsimp only at hSw);go_simp;first | done | with_reducible rfl)
   try simp only [Act.put,List.setIfInBounds_toArray,List.set_cons_zero,List.set_cons_succ]
   refine wpAnyH_take (i:=1) (oi:=⟨_,_,_,_,_,_⟩) (v:=?_) rfl (by kernel_rfl) (by kernel_rfl) (by kernel_rfl) (fun _ _ _ h=>h) (Or.inl ⟨by rfl,?_⟩) (by assumption) ?_
   rotate_left 1
   ·(intro w hSw;(try dsimp only at hSw);go_simp;first | done | with_reducible rfl)
   try simp only [Act.put,List.setIfInBounds_toArray,List.set_cons_zero,List.set_cons_succ]
   refine wpAnyH_take (i:=2) (oi:=⟨_,_,_,_,_,_⟩) (v:=?_) rfl (by kernel_rfl) (by kernel_rfl) (by kernel_rfl) (fun _ _ _ h=>h) (Or.inl ⟨by rfl,?_⟩) (by assumption) ?_
   rotate_left 1
   ·(intro w hSw;(try dsimp only at hSw);go_simp;first | done | with_reducible rfl)
   try simp only [Act.put,List.setIfInBounds_toArray,List.set_cons_zero,List.set_cons_succ]
   refine wpAnyH_take (i:=3) (oi:=⟨_,_,_,_,_,_⟩) (v:=?_) rfl (by kernel_rfl) (by kernel_rfl) (by kernel_rfl) (fun _ _ _ h=>h) (Or.inl ⟨by rfl,?_⟩) (by assumption) ?_
   rotate_left 1
   ·(intro w hSw;(try dsimp only at hSw);go_simp;first | done | with_reducible rfl)
   try simp only [Act.put,List.setIfInBounds_toArray,List.set_cons_zero,List.set_cons_succ]
   refine wpAnyH_take (i:=4) (oi:=⟨_,_,_,_,_,_⟩) (v:=?_) rfl (by kernel_rfl) (by kernel_rfl) (by kernel_rfl) (fun _ _ _ h=>h) (Or.inl ⟨by rfl,?_⟩) (by assumption) ?_
   rotate_left 1
   ·(intro w hSw;(try dsimp only at hSw);go_simp;first | done | with_reducible rfl)
   try simp only [Act.put,List.setIfInBounds_toArray,List.set_cons_zero,List.set_cons_succ]
   refine wpAnyH_take (i:=5) (oi:=⟨_,_,_,_,_,_⟩) (v:=?_) rfl (by kernel_rfl) (by kernel_rfl) (by kernel_rfl) (fun _ _ _ h=>h) (Or.inl ⟨by rfl,?_⟩) (by assumption) ?_
   rotate_left 1
   ·(intro w hSw;(try dsimp only at hSw);go_simp;first | done | with_reducible rfl)
   try simp only [Act.put,List.setIfInBounds_toArray,List.set_cons_zero,List.set_cons_succ]
   refine wpAnyH_ready (rs:=[6,10]) (by kernel_rfl) (by simp) ?_
   refine (AllReadyH.cons (o:=⟨_,_,_,_,_,_⟩) rfl (fun K hK=>?_) (AllReadyH.cons (o:=⟨_,_,_,_,_,_⟩) rfl (fun K hK=>?_) AllReadyH.nil))
   go_simp
   (go_at_call 27;refine (HOf.out _ Kc.out).mono ?_;rintro e w5 ⟨lf,⟨⟨vv,rfl,ja,jc,rfl,hle,hlie⟩,q5⟩,hlf⟩)
   have Nc:=hid (And.intro hle (hlie.mono (ok':=fun k=>(ok k∨w.heap.size≤k)∧k≠w.heap.size+1∧k≠w.heap.size+1) (fun k hk=>by have z1:=Kc.out.size;have z2:=HZ.out;rcases hk with hk | hk;exact ⟨.inl hk.1,by have:=hk.2;omega,by have:=hk.2;omega⟩;exact ⟨.inr (by omega),by omega,by omega⟩)))
   have HLf:=hid hlf;have Kc:=hid (Kc.out.trans q5);clear hle hlie q5 hlf;refine hK.out _ _ ?_ (fun hHeld'=>?_)
   ·exact HS.out _ Kc.out
   clear hK K hHeld;have hHeld:=hHeld';clear hHeld'
   try simp only [Act.put,List.setIfInBounds_toArray,List.set_cons_zero,List.set_cons_succ]
   refine wpAnyH_take (i:=7) (oi:=⟨_,_,_,_,_,_⟩) (v:=?_) rfl (by kernel_rfl) (by kernel_rfl) (by kernel_rfl) (fun _ _ _ h=>h) (Or.inl ⟨by rfl,?_⟩) (by assumption) ?_
   rotate_left 1
   ·(intro w hSw;(try dsimp only at hSw);go_simp;first | done | with_reducible rfl)
   try simp only [Act.put,List.setIfInBounds_toArray,List.set_cons_zero,List.set_cons_succ]
   refine wpAnyH_take (i:=8) (oi:=⟨_,_,_,_,_,_⟩) (v:=?_) rfl (by kernel_rfl) (by kernel_rfl) (by kernel_rfl) (fun _ _ _ h=>h) (Or.inl ⟨by rfl,?_⟩) (by assumption) ?_
   rotate_left 1
   ·(intro w hSw;(try dsimp only at hSw);go_simp;first | done | with_reducible rfl)
   try simp only [Act.put,List.setIfInBounds_toArray,List.set_cons_zero,List.set_cons_succ]
   refine wpAnyH_take (i:=9) (oi:=⟨_,_,_,_,_,_⟩) (v:=?_) rfl (by kernel_rfl) (by kernel_rfl) (by kernel_rfl) (fun _ _ _ h=>h) (Or.inl ⟨by rfl,?_⟩) (by assumption) ?_
   rotate_left 1
   ·(intro w hSw;(try dsimp only at hSw);go_simp;first | done | with_reducible rfl)
   try simp only [Act.put,List.setIfInBounds_toArray,List.set_cons_zero,List.set_cons_succ]
   refine wpAnyH_ready (rs:=[10]) (by kernel_rfl) (by simp) ?_
   refine (AllReadyH.cons (o:=⟨_,_,_,_,_,_⟩) rfl (fun K hK=>?_) AllReadyH.nil)
   obtain ⟨g,hg⟩:∃ g,(w5).heap.size=g:=⟨_,rfl⟩;have hA:=At.new (w5) nzeros 27;rw [hg] at hA;have hAg:W0.heap.size≤g:=by rw [← hg];exact Kc.out.size
   have Nc:=hid (And.intro Nc.out.1 ((Nc.out.2.under.keepF ((Keep.refl (fun _=>False) (w5)).alloc (.cells nzeros 27))).mono (ok':=fun k=>(ok k∨w.heap.size≤k)∧k≠w.heap.size+1∧k≠g) (fun k h=>⟨h.1.1,h.1.2.1,by have:=h.2;omega⟩)))
   have Kc:=hid (Kc.out.trans ((Keep.refl (fun _=>False) (w5)).alloc (.cells nzeros 27)))
   have Ac:=hid (And.intro hA hAg);clear hA hAg;go_simp;refine hK.out _ (w5.alloc (.cells nzeros 27)) ?_ (fun hHeld'=>?_)
   ·exact HS.out _ Kc.out
   clear hK K hHeld;have hHeld:=hHeld';clear hHeld';generalize (w5.alloc (.cells nzeros 27))=wA at *
   try simp only [Act.put,List.setIfInBounds_toArray,List.set_cons_zero,List.set_cons_succ]
   refine wpAnyH_ready (rs:=[11]) (by kernel_rfl) (by simp) ?_
   refine (AllReadyH.cons (o:=⟨_,_,_,_,_,_⟩) rfl (fun K hK=>?_) AllReadyH.nil)
   obtain ⟨⟨d0,d1,d2,d3,d4,d5,d6,d7⟩,f0,f1,f2,f3,f4,f5,f6,f7⟩:=cells8 Ac.out.1;have hlt:=Ac.out.1.lt;have HF:=hid (fin_nodeC (X:=lf) (E':=(fun k=>(ok k∨w.heap.size≤k)∧k≠w.heap.size+1)) Kc.out Ac.out.1 Ac.out.2 Nc.out.1 Nc.out.2 (fun k h=>⟨⟨h.1,h.2.1⟩,h.2.2⟩))
   go_simp;refine hK.out _ (putNd wA g 0 lf ja jc) ?_ (fun hHeld'=>?_)
   ·exact HS.out _ HF.out.2.2.2.1
   clear hK K hHeld;have hHeld:=hHeld';clear hHeld';generalize (putNd wA g 0 lf ja jc)=wP at *
   try simp only [Act.put,List.setIfInBounds_toArray,List.set_cons_zero,List.set_cons_succ]
   refine wpAnyH_take (i:=12) (oi:=⟨_,_,_,_,_,_⟩) (v:=?_) rfl (by kernel_rfl) (by kernel_rfl) (by kernel_rfl) (fun _ _ _ h=>h) (Or.inl ⟨by rfl,?_⟩) (by assumption) ?_
   rotate_left 1
   ·(intro w hSw;(try dsimp only at hSw);go_simp;first | done | with_reducible rfl)
   try simp only [Act.put,List.setIfInBounds_toArray,List.set_cons_zero,List.set_cons_succ]
   refine wpAnyH_done (by kernel_rfl) ?_ _
   refine NoPanic.normal ?_;rotate_left 1;obtain ⟨g,hg⟩:∃ g,(W0.drew).heap.size=g:=⟨_,rfl⟩;have hA:=At.new (W0.drew) nzeros 27;rw [hg] at hA;have hAg:W0.heap.size≤g:=by rw [← hg];exact Kc.out.size
   have Kc:=hid (Kc.out.trans ((Keep.refl (fun _=>False) (W0.drew)).alloc (.cells nzeros 27)))
   have Ac:=hid (And.intro hA hAg);clear hA hAg;go_simp;refine hK.out _ (W0.drew.alloc (.cells nzeros 27)) ?_ (fun hHeld'=>?_)
   ·exact HS.out _ Kc.out
   clear hK K hHeld;have hHeld:=hHeld';clear hHeld';generalize (W0.drew.alloc (.cells nzeros 27))=wA at *
   try simp only [Act.put,List.setIfInBounds_toArray,List.set_cons_zero,List.set_cons_succ]
   refine wpAnyH_ready (rs:=[6]) (by kernel_rfl) (by simp) ?_
   refine (AllReadyH.cons (o:=⟨_,_,_,_,_,_⟩) rfl (fun K hK=>?_) AllReadyH.nil)
   go_simp
   (go_at_call 27;refine (HOf.out _ Kc.out).mono ?_;rintro e w5 ⟨lf,⟨⟨vv,rfl,ja,jc,rfl,hle,hlie⟩,q5⟩,hlf⟩)
   have Nc:=hid (And.intro hle (hlie.mono (ok':=fun k=>(ok k∨w.heap.size≤k)∧k≠w.heap.size+1∧k≠g) (fun k hk=>by have z1:=Kc.out.size;have z2:=HZ.out;have z3:=Ac.out.1.lt;have z4:=Ac.out.2;rcases hk with hk | hk;exact ⟨.inl hk.1,by have:=hk.2;omega,by have:=hk.2;omega⟩;exact ⟨.inr (by omega),by omega,by omega⟩)))
   have HLf:=hid hlf;have Ac:=hid (And.intro (Ac.out.1.keep q5 (fun h=>h)) Ac.out.2)
   have Kc:=hid (Kc.out.trans q5);clear hle hlie q5 hlf;refine hK.out _ _ ?_ (fun hHeld'=>?_)
   ·exact HS.out _ Kc.out
   clear hK K hHeld;have hHeld:=hHeld';clear hHeld'
   try simp only [Act.put,List.setIfInBounds_toArray,List.set_cons_zero,List.set_cons_succ]
   refine wpAnyH_take (i:=7) (oi:=⟨_,_,_,_,_,_⟩) (v:=?_) rfl (by kernel_rfl) (by kernel_rfl) (by kernel_rfl) (fun _ _ _ h=>h) (Or.inl ⟨by rfl,?_⟩) (by assumption) ?_
   rotate_left 1
   ·(intro w hSw;(try dsimp only at hSw);go_simp;first | done | with_reducible rfl)
   try simp only [Act.put,List.setIfInBounds_toArray,List.set_cons_zero,List.set_cons_succ]
   refine wpAnyH_take (i:=8) (oi:=⟨_,_,_,_,_,_⟩) (v:=?_) rfl (by kernel_rfl) (by kernel_rfl) (by kernel_rfl) (fun _ _ _ h=>h) (Or.inl ⟨by rfl,?_⟩) (by assumption) ?_
   rotate_left 1
   ·(intro w hSw;(try dsimp only at hSw);go_simp;first | done | with_reducible rfl)
   try simp only [Act.put,List.setIfInBounds_toArray,List.set_cons_zero,List.set_cons_succ]
   refine wpAnyH_take (i:=9) (oi:=⟨_,_,_,_,_,_⟩) (v:=?_) rfl (by kernel_rfl) (by kernel_rfl) (by kernel_rfl) (fun _ _ _ h=>h) (Or.inl ⟨by rfl,?_⟩) (by assumption) ?_
   rotate_left 1
   ·(intro w hSw;(try dsimp only at hSw);go_simp;first | done | with_reducible rfl)
   try simp only [Act.put,List.setIfInBounds_toArray,List.set_cons_zero,List.set_cons_succ]
   refine wpAnyH_ready (rs:=[11]) (by kernel_rfl) (by simp) ?_
   refine (AllReadyH.cons (o:=⟨_,_,_,_,_,_⟩) rfl (fun K hK=>?_) AllReadyH.nil)
   obtain ⟨⟨d0,d1,d2,d3,d4,d5,d6,d7⟩,f0,f1,f2,f3,f4,f5,f6,f7⟩:=cells8 Ac.out.1;have hlt:=Ac.out.1.lt;have HF:=hid (fin_nodeC (X:=lf) (E':=(fun k=>(ok k∨w.heap.size≤k)∧k≠w.heap.size+1)) Kc.out Ac.out.1 Ac.out.2 Nc.out.1 Nc.out.2 (fun k h=>⟨⟨h.1,h.2.1⟩,h.2.2⟩))
   go_simp;refine hK.out _ (putNd w5 g 0 lf ja jc) ?_ (fun hHeld'=>?_)
   ·exact HS.out _ HF.out.2.2.2.1
   clear hK K hHeld;have hHeld:=hHeld';clear hHeld';generalize (putNd w5 g 0 lf ja jc)=wP at *
   try simp only [Act.put,List.setIfInBounds_toArray,List.set_cons_zero,List.set_cons_succ]
   refine wpAnyH_take (i:=12) (oi:=⟨_,_,_,_,_,_⟩) (v:=?_) rfl (by kernel_rfl) (by kernel_rfl) (by kernel_rfl) (fun _ _ _ h=>h) (Or.inl ⟨by rfl,?_⟩) (by assumption) ?_
   rotate_left 1
   ·(intro w hSw;(try dsimp only at hSw);go_simp;first | done | with_reducible rfl)
   try simp only [Act.put,List.setIfInBounds_toArray,List.set_cons_zero,List.set_cons_succ]
   refine wpAnyH_done (by kernel_rfl) ?_ _
   refine NoPanic.normal ?_;rotate_left 1
   all_goals
    go_wp2_with fail
    go_meet
    case rel=>exact ⟨g,lf,ja,jc,rfl,rfl,HF.out,HLf.out⟩
 case rest =>
  obtain ⟨g,lf,ja,jc,rfl,rfl,⟨hA,hle,hlie,hK,hg⟩,hlf⟩:=hcut;obtain ⟨wx,hw⟩:∃ z,z=wc:=⟨_,rfl⟩;subst hw;have HC:=hid (And.intro hA (And.intro hle (And.intro hlie (And.intro hK hg))));have R6:=hid (HR.out.next hK);clear n0 n1 n2 n3 n4 n5 n6 n7;obtain ⟨⟨y0,y1,y2,y3,y4,y5,y6,y7⟩,-⟩:=cells8 hA;clear hA hle hlie hK hg;have hone:(show Prop from True):=trivial
  cases B
  ·have hno:¬ (cnt tt:Int)≤M:=fun h=>by
    have h1:=of_decide_eq_false HX.out.2.2.2.2.2.1;have hnn:isNo lb=false:=by
     cases e:isNo lb with
     | false=>rfl
     | true =>
      obtain ⟨d,hd,-⟩:=HX.out.2.2.1.1;rw [no_is hd e,show cnt noT=1 from cnt_clsT _] at h1
      exact absurd HX.out.2.1.pos.1 h1
    have h2:=cat_ge HX.out.2.2.1.1 hnn (l:=[rp]) fun z hz=>by rw [List.mem_singleton.1 hz];exact ⟨HX.out.2.2.2.1.1,HX.out.2.2.2.2.1⟩
    rw [HX.out.2.2.2.2.2.2.1] at h2;omega
   have HNo:=hid (decide_eq_false hno);have HNN:=hid hno;clear hno hlf;obtain ⟨⟨d0,d1,d2,d3,d4,d5,d6,d7⟩,f0,f1,f2,f3,f4,f5,f6,f7⟩:=cells8 R6.out.out;have hlt6:=R6.out.out.lt;go_wp2_with fail
   change bodyPost _ _ _ _ _ (putNd wx (w.heap.size+1) 0 lf ja jc)
   have hP:=R6.out.put lf ja jc;have hG:=R6.out.gives (ok:=ok) (t:=lf) HC.out.2.1 HC.out.2.2.1;generalize (putNd wx (w.heap.size+1) 0 lf ja jc)=W8 at hP hG ⊢;obtain ⟨⟨e0,e1,e2,e3,e4,e5,e6,e7⟩,-⟩:=cells8 hP.1;exact bodyPost_ret (v:=.tuple #[nodeV lf ja jc,.bool false]) (by simp [results,Tryz.results49,go_sem,e0,e1,e2,e3,e4,e5,e6,e7]) rfl ⟨lf,by rw [HNo.out];exact giveB hG,fun h=>absurd h (by have:=HNo.out;exact of_decide_eq_false this)⟩
  ·have hlm:=of_decide_eq_true HX.out.2.2.2.2.2.1
   obtain rfl:lf=lb:=hlf hlm;obtain ⟨nl,hnl⟩:∃ nl,isNo lf=nl:=⟨_,rfl⟩;have HNl:=hid (isno_any lf g 0 ja jc wx (NodeP.of_at HC.out.1));rw [hnl] at HNl;have HLM:=hid (And.intro hlm hnl);clear hlm hlf hnl;go_wp2_with fail;refine HNl.out.mono ?_;rintro e w7 ⟨rfl,rfl⟩
   cases nl
   ·obtain ⟨B9,hB9⟩:∃ B,decide ((cnt tt:Int)≤M)=B:=⟨_,rfl⟩
    have HB9:=hid hB9;have HZX:=hid (show w.heap.size+2≤wx.heap.size by have:=HC.out.2.2.2.1.size;have:=HZ.out;omega)
    have hcl:cnt lf≤4000:=HX.out.2.1.cap HLM.out.1 (by have:=HX.out.2.2.1.2;omega)
    have hcr:cnt rp≤1+cnt u':=HX.out.2.2.2.1.2;have hcu4:cnt u'≤4000:=HX.out.2.1.1
    have HRe:=hid (fun W (q:Keep (fun _=>False) wx W)=>by
     obtain ⟨d,hd,-⟩:=HX.out.1;have:=xrep_any u' d hd (max (t.mn - 1) 0) (max (t.mx - 1) (-1)) a1 c1 (fun k=>ok k∧k<w.heap.size) W (HA.out.2.2.1.keepF (HC.out.2.2.2.1.trans q)) HX.out.2.2.2.2.2.2.2.1 (by omega)
     rw [HX.out.2.2.2.2.2.2.2.2.2.2.2] at this
     exact this)
    have HFol:=hid (fun (la:Option Addr) (W:World) (q:Keep (fun _=>False) wx W) (hla:Lie W (fun k=>(ok k∨w.heap.size≤k)∧k≠w.heap.size+1) la [rp])=>by
     obtain ⟨d,hd,-⟩:=HX.out.2.2.1.1
     have:=followed_any b M HX.out.2.1.pos.1 lf hd [rp] (by rw [cntL,cntL,cntL];omega) (by
      intro z hz
      rcases mem_unf hz with ⟨hm,-⟩ | ⟨y,hy,-,hm⟩
      ·simp only [List.mem_cons,List.not_mem_nil,or_false] at hm
       rcases hm with rfl | rfl
       ·exact ok_of hd
       ·obtain ⟨d2,h2,-⟩:=HX.out.2.2.2.1.1
        exact ok_of h2
      ·simp only [List.mem_cons,List.not_mem_nil,or_false] at hy
       rcases hy with rfl | rfl
       ·exact ok_of (sub_right hd.subs z hm)
       ·obtain ⟨d2,h2,-⟩:=HX.out.2.2.2.1.1
        exact ok_of (sub_right h2.subs z hm)) (B:=B9) (by rw [HX.out.2.2.2.2.2.2.1];exact HB9.out) ja jc HC.out.2.1 la 1 (fun k=>(ok k∨w.heap.size≤k)∧k≠w.heap.size+1) W (HC.out.2.2.1.keepF q) hla
     rw [HX.out.2.2.2.2.2.2.1] at this
     exact this)
    have HSX:=hid (fun (W':World) (q:Keep (fun b=>b=w.heap.size+1) wx W')=>(show (W'.cell? ⟨w.heap.size,0,none⟩=some (.int .u8 b)∧W'.cell? ⟨w.heap.size,1,none⟩=some (.int .i64 M))∧(W'.cell? ⟨bl,o,none⟩=some (.int .i64 t.kind)∧W'.cell? ⟨bl,o+1,none⟩=some (.int .u64 t.set.x0)∧W'.cell? ⟨bl,o+2,none⟩=some (.int .u64 t.set.x1)∧W'.cell? ⟨bl,o+3,none⟩=some (.int .u64 t.set.x2)∧W'.cell? ⟨bl,o+4,none⟩=some (.int .u64 t.set.x3)∧W'.cell? ⟨bl,o+5,none⟩=some (.int .i64 t.mn)∧W'.cell? ⟨bl,o+6,none⟩=some (.int .i64 t.mx)∧W'.cell? ⟨bl,o+7,none⟩=some (.slice (some ⟨bs,os,none⟩) 1 c))∧(W'.cell? ⟨bs,os,none⟩=some (.int .i64 u'.kind)∧W'.cell? ⟨bs,os+1,none⟩=some (.int .u64 u'.set.x0)∧W'.cell? ⟨bs,os+2,none⟩=some (.int .u64 u'.set.x1)∧W'.cell? ⟨bs,os+3,none⟩=some (.int .u64 u'.set.x2)∧W'.cell? ⟨bs,os+4,none⟩=some (.int .u64 u'.set.x3)∧W'.cell? ⟨bs,os+5,none⟩=some (.int .i64 u'.mn)∧W'.cell? ⟨bs,os+6,none⟩=some (.int .i64 u'.mx)∧W'.cell? ⟨bs,os+7,none⟩=some (.slice a1 u'.subs.length c1))∧(W'.cell? ⟨g,0,none⟩=some (.int .i64 lf.kind)∧W'.cell? ⟨g,1,none⟩=some (.int .u64 lf.set.x0)∧W'.cell? ⟨g,2,none⟩=some (.int .u64 lf.set.x1)∧W'.cell? ⟨g,3,none⟩=some (.int .u64 lf.set.x2)∧W'.cell? ⟨g,4,none⟩=some (.int .u64 lf.set.x3)∧W'.cell? ⟨g,5,none⟩=some (.int .i64 lf.mn)∧W'.cell? ⟨g,6,none⟩=some (.int .i64 lf.mx)∧W'.cell? ⟨g,7,none⟩=some (.slice ja lf.subs.length jc)) from by
     have hz:=HC.out.2.2.2.1.size;have hz0:=HZ.out;have hbx:=(HA.out.1.keep HC.out.2.2.2.1 (fun h=>h)).keep q (fun h=>by have h:w.heap.size=w.heap.size+1:=h;omega)
     have hnd:=((HA.out.2.2.2.2.1.keepF HC.out.2.2.2.1).keep q (fun h=>by have h:bl=w.heap.size+1:=h;have:=HA.out.2.2.2.2.2.2;omega)).eight
     have hud:=((HA.out.2.2.2.1.keepF HC.out.2.2.2.1).keep q (fun h=>by have h:bs=w.heap.size+1:=h;have:=HA.out.2.2.2.2.2.1;omega)).eight
     have hfd:=((NodeP.of_at HC.out.1).keep q (fun h=>by have h:g=w.heap.size+1:=h;have:=HC.out.2.2.2.2;omega)).eight
     rw [hl1] at hnd
     exact ⟨⟨hbx.cell (o:=0) rfl,hbx.cell (o:=1) rfl⟩,hnd,hud,hfd⟩))
    clear hcl hcr hcu4 hB9 y0 y1 y2 y3 y4 y5 y6 y7;go_upto_region 6 with fail;refine wp_region_noPanic ?_;refine wp_region_held_drew (S:=(fun W=>(W.cell? ⟨w.heap.size,0,none⟩=some (.int .u8 b)∧W.cell? ⟨w.heap.size,1,none⟩=some (.int .i64 M))∧(W.cell? ⟨bl,o,none⟩=some (.int .i64 t.kind)∧W.cell? ⟨bl,o+1,none⟩=some (.int .u64 t.set.x0)∧W.cell? ⟨bl,o+2,none⟩=some (.int .u64 t.set.x1)∧W.cell? ⟨bl,o+3,none⟩=some (.int .u64 t.set.x2)∧W.cell? ⟨bl,o+4,none⟩=some (.int .u64 t.set.x3)∧W.cell? ⟨bl,o+5,none⟩=some (.int .i64 t.mn)∧W.cell? ⟨bl,o+6,none⟩=some (.int .i64 t.mx)∧W.cell? ⟨bl,o+7,none⟩=some (.slice (some ⟨bs,os,none⟩) 1 c))∧(W.cell? ⟨bs,os,none⟩=some (.int .i64 u'.kind)∧W.cell? ⟨bs,os+1,none⟩=some (.int .u64 u'.set.x0)∧W.cell? ⟨bs,os+2,none⟩=some (.int .u64 u'.set.x1)∧W.cell? ⟨bs,os+3,none⟩=some (.int .u64 u'.set.x2)∧W.cell? ⟨bs,os+4,none⟩=some (.int .u64 u'.set.x3)∧W.cell? ⟨bs,os+5,none⟩=some (.int .i64 u'.mn)∧W.cell? ⟨bs,os+6,none⟩=some (.int .i64 u'.mx)∧W.cell? ⟨bs,os+7,none⟩=some (.slice a1 u'.subs.length c1))∧(W.cell? ⟨g,0,none⟩=some (.int .i64 lf.kind)∧W.cell? ⟨g,1,none⟩=some (.int .u64 lf.set.x0)∧W.cell? ⟨g,2,none⟩=some (.int .u64 lf.set.x1)∧W.cell? ⟨g,3,none⟩=some (.int .u64 lf.set.x2)∧W.cell? ⟨g,4,none⟩=some (.int .u64 lf.set.x3)∧W.cell? ⟨g,5,none⟩=some (.int .i64 lf.mn)∧W.cell? ⟨g,6,none⟩=some (.int .i64 lf.mx)∧W.cell? ⟨g,7,none⟩=some (.slice ja lf.subs.length jc)))) (by kernel_rfl) ?_ (fun hHeld=>?_)
    ·exact HSX.out _ ((Keep.refl (fun b=>b=w.heap.size+1) wx).drew)
    refine wpAnyH_take (i:=0) (oi:=⟨_,_,_,_,_,_⟩) (v:=?_) rfl (by kernel_rfl) (by kernel_rfl) (by kernel_rfl) (fun _ _ _ h=>h) (Or.inl ⟨by rfl,?_⟩) (by assumption) ?_
    rotate_left 1
    ·(intro w hSw;(try dsimp only at hSw);go_simp;first | done | with_reducible rfl)
    try simp only [Act.put,List.setIfInBounds_toArray,List.set_cons_zero,List.set_cons_succ]
    refine wpAnyH_take (i:=1) (oi:=⟨_,_,_,_,_,_⟩) (v:=?_) rfl (by kernel_rfl) (by kernel_rfl) (by kernel_rfl) (fun _ _ _ h=>h) (Or.inl ⟨by rfl,?_⟩) (by assumption) ?_
    rotate_left 1
    ·(intro w hSw;(try dsimp only at hSw);go_simp;first | done | with_reducible rfl)
    try simp only [Act.put,List.setIfInBounds_toArray,List.set_cons_zero,List.set_cons_succ]
    refine wpAnyH_take (i:=2) (oi:=⟨_,_,_,_,_,_⟩) (v:=?_) rfl (by kernel_rfl) (by kernel_rfl) (by kernel_rfl) (fun _ _ _ h=>h) (Or.inl ⟨by rfl,?_⟩) (by assumption) ?_
    rotate_left 1
    ·(intro w hSw;(try dsimp only at hSw);go_simp;first | done | with_reducible rfl)
    try simp only [Act.put,List.setIfInBounds_toArray,List.set_cons_zero,List.set_cons_succ]
    refine wpAnyH_take (i:=3) (oi:=⟨_,_,_,_,_,_⟩) (v:=?_) rfl (by kernel_rfl) (by kernel_rfl) (by kernel_rfl) (fun _ _ _ h=>h) (Or.inl ⟨by rfl,?_⟩) (by assumption) ?_
    rotate_left 1
    ·(intro w hSw;(try dsimp only at hSw);go_simp;first | done | with_reducible rfl)
    try simp only [Act.put,List.setIfInBounds_toArray,List.set_cons_zero,List.set_cons_succ]
    refine wpAnyH_take (i:=4) (oi:=⟨_,_,_,_,_,_⟩) (v:=?_) rfl (by kernel_rfl) (by kernel_rfl) (by kernel_rfl) (fun _ _ _ h=>h) (Or.inl ⟨by rfl,?_⟩) (by assumption) ?_
    rotate_left 1
    ·(intro w hSw;(try dsimp only at hSw);go_simp;first | done | with_reducible rfl)
    try simp only [Act.put,List.setIfInBounds_toArray,List.set_cons_zero,List.set_cons_succ]
    refine wpAnyH_take (i:=5) (oi:=⟨_,_,_,_,_,_⟩) (v:=?_) rfl (by kernel_rfl) (by kernel_rfl) (by kernel_rfl) (fun _ _ _ h=>h) (Or.inl ⟨by rfl,?_⟩) (by assumption) ?_
    rotate_left 1
    ·(intro w hSw;(try dsimp only at hSw);go_simp;first | done | with_reducible rfl)
    try simp only [Act.put,List.setIfInBounds_toArray,List.set_cons_zero,List.set_cons_succ]
    refine wpAnyH_take (i:=6) (oi:=⟨_,_,_,_,_,_⟩) (v:=?_) rfl (by kernel_rfl) (by kernel_rfl) (by kernel_rfl) (fun _ _ _ h=>h) (Or.inl ⟨by rfl,?_⟩) (by assumption) ?_
    rotate_left 1
    ·(intro w hSw;(try dsimp only at hSw);go_simp;first | done | with_reducible rfl)
    try simp only [Act.put,List.setIfInBounds_toArray,List.set_cons_zero,List.set_cons_succ]
    refine wpAnyH_take (i:=7) (oi:=⟨_,_,_,_,_,_⟩) (v:=?_) rfl (by kernel_rfl) (by kernel_rfl) (by kernel_rfl) (fun _ _ _ h=>h) (Or.inl ⟨by rfl,?_⟩) (by assumption) ?_
    rotate_left 1
    ·(intro w hSw;(try dsimp only at hSw);go_simp;first | done | with_reducible rfl)
    try simp only [Act.put,List.setIfInBounds_toArray,List.set_cons_zero,List.set_cons_succ]
    refine wpAnyH_take (i:=8) (oi:=⟨_,_,_,_,_,_⟩) (v:=?_) rfl (by kernel_rfl) (by kernel_rfl) (by kernel_rfl) (fun _ _ _ h=>h) (Or.inl ⟨by rfl,?_⟩) (by assumption) ?_
    rotate_left 1
    ·(intro w hSw;(try dsimp only at hSw);go_simp;first | done | with_reducible rfl)
    try simp only [Act.put,List.setIfInBounds_toArray,List.set_cons_zero,List.set_cons_succ]
    refine wpAnyH_take (i:=9) (oi:=⟨_,_,_,_,_,_⟩) (v:=?_) rfl (by kernel_rfl) (by kernel_rfl) (by kernel_rfl) (fun _ _ _ h=>h) (Or.inl ⟨by rfl,?_⟩) (by assumption) ?_
    rotate_left 1
    ·(intro w hSw;(try dsimp only at hSw);go_simp;first | done | with_reducible rfl)
    try simp only [Act.put,List.setIfInBounds_toArray,List.set_cons_zero,List.set_cons_succ]
    refine wpAnyH_take (i:=10) (oi:=⟨_,_,_,_,_,_⟩) (v:=?_) rfl (by kernel_rfl) (by kernel_rfl) (by kernel_rfl) (fun _ _ _ h=>h) (Or.inl ⟨by rfl,?_⟩) (by assumption) ?_
    rotate_left 1
    ·(intro w hSw;(try dsimp only at hSw);go_simp;first | done | with_reducible rfl)
    try simp only [Act.put,List.setIfInBounds_toArray,List.set_cons_zero,List.set_cons_succ]
    refine wpAnyH_take (i:=11) (oi:=⟨_,_,_,_,_,_⟩) (v:=?_) rfl (by kernel_rfl) (by kernel_rfl) (by kernel_rfl) (fun _ _ _ h=>h) (Or.inl ⟨by rfl,?_⟩) (by assumption) ?_
    rotate_left 1
    ·(intro w hSw;(try dsimp only at hSw);go_simp;first | done | with_reducible rfl)
    try simp only [Act.put,List.setIfInBounds_toArray,List.set_cons_zero,List.set_cons_succ]
    refine wpAnyH_take (i:=12) (oi:=⟨_,_,_,_,_,_⟩) (v:=?_) rfl (by kernel_rfl) (by kernel_rfl) (by kernel_rfl) (fun _ _ _ h=>h) (Or.inl ⟨by rfl,?_⟩) (by assumption) ?_
    rotate_left 1
    ·(intro w hSw;(try dsimp only at hSw);go_simp;first | done | with_reducible rfl)
    try simp only [Act.put,List.setIfInBounds_toArray,List.set_cons_zero,List.set_cons_succ]
    refine wpAnyH_take (i:=13) (oi:=⟨_,_,_,_,_,_⟩) (v:=?_) rfl (by kernel_rfl) (by kernel_rfl) (by kernel_rfl) (fun _ _ _ h=>h) (Or.inl ⟨by rfl,?_⟩) (by assumption) ?_
    rotate_left 1
    ·(intro w hSw;(try dsimp only at hSw);go_simp;first | done | with_reducible rfl)
    try simp only [Act.put,List.setIfInBounds_toArray,List.set_cons_zero,List.set_cons_succ]
    refine wpAnyH_take (i:=14) (oi:=⟨_,_,_,_,_,_⟩) (v:=?_) rfl (by kernel_rfl) (by kernel_rfl) (by kernel_rfl) (fun _ _ _ h=>h) (Or.inl ⟨by rfl,?_⟩) (by assumption) ?_
    rotate_left 1
    ·(intro w hSw;(try dsimp only at hSw);go_simp;first | done | with_reducible rfl)
    try simp only [Act.put,List.setIfInBounds_toArray,List.set_cons_zero,List.set_cons_succ]
    refine wpAnyH_take (i:=15) (oi:=⟨_,_,_,_,_,_⟩) (v:=?_) rfl (by kernel_rfl) (by kernel_rfl) (by kernel_rfl) (fun _ _ _ h=>h) (Or.inl ⟨by rfl,?_⟩) (by assumption) ?_
    rotate_left 1
    ·(intro w hSw;(try dsimp only at hSw);go_simp;first | done | with_reducible rfl)
    try simp only [Act.put,List.setIfInBounds_toArray,List.set_cons_zero,List.set_cons_succ]
    refine wpAnyH_take (i:=16) (oi:=⟨_,_,_,_,_,_⟩) (v:=?_) rfl (by kernel_rfl) (by kernel_rfl) (by kernel_rfl) (fun _ _ _ h=>h) (Or.inl ⟨by rfl,?_⟩) (by assumption) ?_
    rotate_left 1
    ·(intro w hSw;(try dsimp only at hSw);go_simp;first | done | with_reducible rfl)
    try simp only [Act.put,List.setIfInBounds_toArray,List.set_cons_zero,List.set_cons_succ]
    refine wpAnyH_take (i:=17) (oi:=⟨_,_,_,_,_,_⟩) (v:=?_) rfl (by kernel_rfl) (by kernel_rfl) (by kernel_rfl) (fun _ _ _ h=>h) (Or.inl ⟨by rfl,?_⟩) (by assumption) ?_
    rotate_left 1
    ·(intro w hSw;(try dsimp only at hSw);go_simp;first | done | with_reducible rfl)
    try simp only [Act.put,List.setIfInBounds_toArray,List.set_cons_zero,List.set_cons_succ]
    refine wpAnyH_take (i:=18) (oi:=⟨_,_,_,_,_,_⟩) (v:=?_) rfl (by kernel_rfl) (by kernel_rfl) (by kernel_rfl) (fun _ _ _ h=>h) (Or.inl ⟨by rfl,?_⟩) (by assumption) ?_
    rotate_left 1
    ·(intro w hSw;(try dsimp only at hSw);go_simp;first | done | with_reducible rfl)
    try simp only [Act.put,List.setIfInBounds_toArray,List.set_cons_zero,List.set_cons_succ]
    refine wpAnyH_take (i:=19) (oi:=⟨_,_,_,_,_,_⟩) (v:=?_) rfl (by kernel_rfl) (by kernel_rfl) (by kernel_rfl) (fun _ _ _ h=>h) (Or.inl ⟨by rfl,?_⟩) (by assumption) ?_
    rotate_left 1
    ·(intro w hSw;(try dsimp only at hSw);go_simp;first | done | with_reducible rfl)
    try simp only [Act.put,List.setIfInBounds_toArray,List.set_cons_zero,List.set_cons_succ]
    refine wpAnyH_ready (rs:=[20]) (by kernel_rfl) (by simp) ?_
    refine (AllReadyH.cons (o:=⟨_,_,_,_,_,_⟩) rfl (fun K hK=>?_) AllReadyH.nil)
    go_simp
    (go_at_call 68;refine (HRe.out _ ((Keep.refl (fun _=>False) wx).drew)).mono ?_;rintro e w5 ⟨⟨vv,rfl,ka,kc,rfl,hle,hlie⟩,q5⟩)
    have K5:=hid (((Keep.refl (fun _=>False) wx).drew).trans q5)
    have N5:=hid (And.intro hle (hlie.mono (ok':=(fun k=>(ok k∨w.heap.size≤k)∧k≠w.heap.size+1)) (fun k hk=>by have z1:=((Keep.refl (fun _=>False) wx).drew).size;have z2:=HZX.out;rcases hk with hk | hk;exact ⟨.inl hk.1,by have:=hk.2;omega⟩;exact ⟨.inr (by omega),by omega⟩)))
    clear hle hlie q5;refine hK.out _ _ ?_ (fun hHeld'=>?_)
    ·exact HSX.out _ (K5.out.mono (fun _ h=>h.elim))
    clear hK K hHeld;have hHeld:=hHeld';clear hHeld'
    try simp only [Act.put,List.setIfInBounds_toArray,List.set_cons_zero,List.set_cons_succ]
    refine wpAnyH_ready (rs:=[21]) (by kernel_rfl) (by simp) ?_
    refine (AllReadyH.cons (o:=⟨_,_,_,_,_,_⟩) rfl (fun K hK=>?_) AllReadyH.nil)
    have A6:=At.new w5 (ncells rp ka kc) 27;have L6:=hid (lie_one (ok:=(fun k=>(ok k∨w.heap.size≤k)∧k≠w.heap.size+1)) A6 ⟨.inr (by have:=K5.out.size;have:=HZX.out;omega),by have:=K5.out.size;have:=HZX.out;omega⟩ N5.out.1 (N5.out.2.keepF ((Keep.refl (fun _=>False) w5).alloc (.cells (ncells rp ka kc) 27))))
    have K6:=hid (K5.out.alloc (.cells (ncells rp ka kc) 27));clear A6;go_simp;refine hK.out _ (w5.alloc (.cells (ncells rp ka kc) 27)) ?_ (fun hHeld'=>?_)
    ·exact HSX.out _ (K6.out.mono (fun _ h=>h.elim))
    clear hK K hHeld;have hHeld:=hHeld';clear hHeld';generalize (w5.alloc (.cells (ncells rp ka kc) 27))=wB at *
    try simp only [Act.put,List.setIfInBounds_toArray,List.set_cons_zero,List.set_cons_succ]
    refine wpAnyH_ready (rs:=[22]) (by kernel_rfl) (by simp) ?_
    refine (AllReadyH.cons (o:=⟨_,_,_,_,_,_⟩) rfl (fun K hK=>?_) AllReadyH.nil)
    have HFo:=hid (HFol.out _ _ K6.out L6.out);go_simp
    (go_at_call 65;refine HFo.out.mono ?_;rintro e w9 ⟨⟨vv,rfl,xa,xc,rfl,hle,hlie⟩,q9⟩)
    have K9:=hid (K6.out.trans q9);have R9:=hid (R6.out.next K9.out);have N9:=hid (And.intro hle (hlie.mono (ok':=(fun k=>(ok k∨w.heap.size≤k)∧k≠w.heap.size+1)) (fun k hk=>by have z1:=K6.out.size;have z2:=HZX.out;rcases hk with hk | hk;exact hk;exact ⟨.inr (by omega),by omega⟩)))
    clear hle hlie q9;refine hK.out _ _ ?_ (fun hHeld'=>?_)
    ·exact HSX.out _ (K9.out.mono (fun _ h=>h.elim))
    clear hK K hHeld;have hHeld:=hHeld';clear hHeld'
    try simp only [Act.put,List.setIfInBounds_toArray,List.set_cons_zero,List.set_cons_succ]
    refine wpAnyH_take (i:=23) (oi:=⟨_,_,_,_,_,_⟩) (v:=?_) rfl (by kernel_rfl) (by kernel_rfl) (by kernel_rfl) (fun _ _ _ h=>h) (Or.inl ⟨by rfl,?_⟩) (by assumption) ?_
    rotate_left 1
    ·(intro w hSw;(try dsimp only at hSw);go_simp;first | done | with_reducible rfl)
    try simp only [Act.put,List.setIfInBounds_toArray,List.set_cons_zero,List.set_cons_succ]
    refine wpAnyH_take (i:=24) (oi:=⟨_,_,_,_,_,_⟩) (v:=?_) rfl (by kernel_rfl) (by kernel_rfl) (by kernel_rfl) (fun _ _ _ h=>h) (Or.inl ⟨by rfl,?_⟩) (by assumption) ?_
    rotate_left 1
    ·(intro w hSw;(try dsimp only at hSw);go_simp;first | done | with_reducible rfl)
    try simp only [Act.put,List.setIfInBounds_toArray,List.set_cons_zero,List.set_cons_succ]
    refine wpAnyH_ready (rs:=[25]) (by kernel_rfl) (by simp) ?_
    refine (AllReadyH.cons (o:=⟨_,_,_,_,_,_⟩) rfl (fun K hK=>?_) AllReadyH.nil)
    obtain ⟨⟨d0,d1,d2,d3,d4,d5,d6,d7⟩,f0,f1,f2,f3,f4,f5,f6,f7⟩:=cells8 R9.out.out;have hlt5:=R9.out.out.lt;have hP:=R9.out.put tt xa xc;have hG:=R9.out.gives (ok:=ok) (t:=tt) N9.out.1 N9.out.2;have HPG:=hid (And.intro hP.1 hG);have HSP:=hid (HSX.out (putNd w9 (w.heap.size+1) 0 tt xa xc) ((K9.out.mono (fun _ h=>h.elim)).trans (putNd_keep w9 (w.heap.size+1) 0 tt xa xc)))
    clear hP hG;go_simp;refine hK.out _ (putNd w9 (w.heap.size+1) 0 tt xa xc) ?_ (fun hHeld'=>?_)
    ·exact HSP.out
    clear hK K hHeld;have hHeld:=hHeld';clear hHeld';generalize (putNd w9 (w.heap.size+1) 0 tt xa xc)=W9 at *
    try simp only [Act.put,List.setIfInBounds_toArray,List.set_cons_zero,List.set_cons_succ]
    refine wpAnyH_take (i:=26) (oi:=⟨_,_,_,_,_,_⟩) (v:=?_) rfl (by kernel_rfl) (by kernel_rfl) (by kernel_rfl) (fun _ _ _ h=>h) (Or.inl ⟨by rfl,?_⟩) (by assumption) ?_
    rotate_left 1
    ·(intro w hSw;(try dsimp only at hSw);go_simp;first | done | with_reducible rfl)
    try simp only [Act.put,List.setIfInBounds_toArray,List.set_cons_zero,List.set_cons_succ]
    refine wpAnyH_done (by kernel_rfl) ?_ _
    refine NoPanic.normal ?_;rotate_left 1;obtain ⟨⟨e0,e1,e2,e3,e4,e5,e6,e7⟩,-⟩:=cells8 HPG.out.1;go_wp2_with fail;exact bodyPost_ret (v:=.tuple #[nodeV tt xa xc,.bool B9]) (by simp [results,Tryz.results49,go_sem,e0,e1,e2,e3,e4,e5,e6,e7]) rfl ⟨tt,by rw [HB9.out];exact giveB HPG.out.2,fun _=>rfl⟩
   ·have htl:tt=lf:=by
     obtain ⟨d,hd,-⟩:=HX.out.2.2.1.1;rw [← HX.out.2.2.2.2.2.2.1,cat_first_no HLM.out.2];exact (no_is hd HLM.out.2).symm
    have HE:=hid (decide_eq_true (show (cnt tt:Int)≤M by rw [htl];exact HLM.out.1))
    have HTl:=hid htl;clear htl;obtain ⟨⟨d0,d1,d2,d3,d4,d5,d6,d7⟩,f0,f1,f2,f3,f4,f5,f6,f7⟩:=cells8 R6.out.out;have hlt6:=R6.out.out.lt;go_wp2_with fail
    change bodyPost _ _ _ _ _ (putNd wx (w.heap.size+1) 0 lf ja jc)
    have hP:=R6.out.put lf ja jc;have hG:=R6.out.gives (ok:=ok) (t:=lf) HC.out.2.1 HC.out.2.2.1;generalize (putNd wx (w.heap.size+1) 0 lf ja jc)=W8 at hP hG ⊢;obtain ⟨⟨e0,e1,e2,e3,e4,e5,e6,e7⟩,-⟩:=cells8 hP.1;exact bodyPost_ret (v:=.tuple #[nodeV lf ja jc,.bool true]) (by simp [results,Tryz.results49,go_sem,e0,e1,e2,e3,e4,e5,e6,e7]) rfl ⟨lf,by rw [HE.out];exact giveB hG,fun _=>HTl.out.symm⟩
end P12
end Go.Proofs.YtlmfbchgkjgljaaGreat
