/- The code's enter (layer 12). -/
import Derived.Test.YtlmfbchgkjgljaaKF36
import Derived.Test.YtlmfbchgkjgljaaKF29
import Derived.Test.YtlmfbchgkjgljaaKF45
import Derived.Laws.IdiomStrings
set_option maxRecDepth 100000
set_option maxHeartbeats 32000000
open Go.Lib (hid)
namespace Go.Proofs.Ytlmfbchgkjgljaa
namespace P12
open Go.RowKit Base Bytes P07 P08 P09 P10
open Sets (ST)
theorem conv_key {w:World} {u:Value} {K:List UInt8} (h:BL w u K):(convert 91 9 u).run Try.prog w=.ok (str K) w:=by
 obtain ⟨a,cap,rfl,hc⟩:=h.form
 cases K with
 | nil =>
  rcases h.2 with ⟨e,-⟩ | ⟨g,cap',cur,e,-⟩
  ·rw [e]
   kernel_rfl
  ·rw [e]
   exact run_convert_bytes_back (P:=Try.prog) w _ _ 5 ⟨g,0,none⟩ cap' [] Try.underlying91 Try.underlying5 Try.underlying9 (fun j hj=>absurd hj (Nat.not_lt_zero _))
 | cons x K =>
  obtain ⟨g,-,rfl,-⟩:=hc 0 x rfl;refine run_convert_bytes_back (P:=Try.prog) w _ _ 5 ⟨g,0,none⟩ cap (x::K) Try.underlying91 Try.underlying5 Try.underlying9 (fun j hj=>?_)
  obtain ⟨g',-,e,hc⟩:=hc j (x::K)[j] (List.getElem?_eq_getElem hj);injection e with e;injection e with e _ _;subst e
  rw [show (⟨g,0,none⟩:Addr).add j=⟨g,j,none⟩ from by
   unfold Addr.add
   split
   ·rename_i hz
    rw [hz]
   ·simp]
  exact hc
def Zc (cb kb nb:Nat) (v:Value) (j:Nat):Prop:=j=cb∨j=kb∨j=nb∨v.ownBlock=some j
theorem hnx {L:List T} {w w1 w7:World} {cb kb nb q:Nat} {v:Value} (h:MP 79 (RE L) w nb q) (qa:Keep (fun j=>j=cb∨v.ownBlock=some j) w w1) (q7:Keep (fun j=>j=kb) w1 w7) {n0 m1 m2 m3:Nat} (hap:cb<m1∧kb<m2∧nb<m3∧kb≠cb∧nb≠cb∧kb≠nb∧∀ g,v.ownBlock=some g→g<m1∧n0≤g∧g≠cb∧g≠kb∧g≠nb) (M:List T):MP 79 (RE (L++M)) w7 nb q :=
 ((h.keep qa (fun e=>by rcases e with e | e;exact hap.2.2.2.2.1 e;exact (hap.2.2.2.2.2.2 nb e).2.2.2.2 rfl)).keep q7 (fun e=>hap.2.2.2.2.2.1 e.symm)).mono (fun _ _=>RE.app M) (Nat.le_refl q)
def Ent (n0:Nat) (ok:Nat→Prop) (cb kb nb:Nat) (v:Value) (L:List T) (q:Nat) (t:T) (w w':World):Prop :=
 ∃ v' M k' q',Cs n0 ok w' cb kb nb v' (L++M) k' q'∧(L++M)[k']?=some t∧q'≤q+cnt t∧Keep (Zc cb kb nb v) w w'
theorem enter_any {n0:Nat} {ok:Nat→Prop} {w:World} {cb kb nb:Nat} {v:Value} {L:List T} {k q:Nat} (h:Cs n0 ok w cb kb nb v L k q) (t:T) (hR:Rs t) (hc:cnt t≤4000) (hq:q≤262144) (a:Option Addr) (c:Nat) (hcap:t.subs.length≤c) (hL:Lie w (fun j=>Ec n0 ok cb kb nb j∧v.ownBlock≠some j) a t.subs) :
  Calls Try.prog 41 #[.pointer (some ⟨cb,0,none⟩),nodeV t a c] w fun e w'=>e=.returned (.tuple #[])∧Ent n0 ok cb kb nb v L q t w w':=by
 obtain ⟨n,hn⟩:∃ n,w.heap.size=n:=⟨_,rfl⟩;have q0:=(Keep.refl (fun _=>False) w).alloc (.cells (ncells t a c) 27)
 have a0:=At.new w (ncells t a c) 27;rw [hn] at a0;have hs0:(w.alloc (.cells (ncells t a c) 27)).heap.size=n+1:=by simp;omega
 have hap:=h.apart;have hpos:=cnt_pos t;have HX:=hid (And.intro hR (And.intro hc (And.intro hq (And.intro hcap (And.intro hap (And.intro h.len hpos))))));have HC0:=h.keepF q0;have hkey:=keyed_any t hR [] (.slice none 0 0) (fun j=>j<n+1) n 0 a c (w.alloc (.cells (ncells t a c) 27)) (by simp;omega) (BL.nil _) (fun j hj=>⟨by omega,fun e=>by cases e⟩) (by omega) (NodeP.of_at a0) ((hL.under.keepF q0).mono fun j hj=>by have:=hj.2;omega)
 have H0:=hid (And.intro q0 (And.intro a0 (And.intro (hL.under.keepF q0) (And.intro HC0 hkey))));have HN:=hid (And.intro hn hs0);clear q0 a0 hs0 hR hc hq hcap hap hpos hL HC0 hkey h
 go_enter Try.func41,Try.ntmps41
 go_upto_region 1 with fail;generalize (w.alloc (.cells (ncells t a c) 27))=W0 at *;go_wp2_with fail;refine H0.out.2.2.2.2.mono ?_;rintro e w1 ⟨u,rfl,hu⟩;rw [List.nil_append] at hu;have K1:Keep (fun _=>False) W0 w1:=hu.keep.mono fun _ h=>by cases h
 have hcv:=conv_key hu.row;have hks:(keyT t).length≤1000000:=by have:=keyT_len t HX.out.1 (by have:=HX.out.2.1;omega);have:=HX.out.2.1;omega
 have hcs:=H0.out.2.2.2.1.keepF K1;obtain ⟨⟨c0,c1,c2,c3,c4⟩,f0,f1,f4⟩:=cells5 hcs.blk;have hlt1:=hcs.blk.lt;obtain ⟨j,B,hlk,hB⟩:=hcs.kn.look lawS Try.underlying72 (key_of (keyT t) hks);have hlook:=hlk w1 (Keep.refl _ w1);have H1:=hid (And.intro hcs (And.intro K1 (And.intro hB hks)));clear hcs K1 hB hks hu hlk;obtain ⟨K,hK⟩:∃ K,str (keyT t)=K:=⟨_,rfl⟩;rw [hK] at hcv hlook
 cases B
 ·obtain ⟨va,vc,hv,hvc⟩:=H1.out.1.row.form
  rw [hv] at c0;go_upto_region 5 with fail;clear c0 c1 c2 c3 c4 f0 f1 f4 hlook hcv
  go_cut [] (fun wx=>∃ v1,Keep (fun j=>j=cb∨v.ownBlock=some j) w1 wx∧At wx cb 76 #[v1,.int .i64 k,.map (some kb),.map (some nb),.int .i64 q]∧OS wx (Ec n0 ok cb kb nb) v1 (L++[t])∧∀ g,v1.ownBlock=some g→n0≤g)
  case first =>
   have hnl:∀ g,v.ownBlock=some g→g≠n:=fun g hg e=>by have:=(HX.out.2.2.2.2.1.2.2.2.2.2.2 g hg).1;omega
   have hcn:cb≠n:=by have:=HX.out.2.2.2.2.1.1;omega
   have HNd:=hid (H0.out.2.1.keep H1.out.2.1 (fun h=>h))
   have HS:=hid (fun W' (qq:Keep (fun j=>j≠n) w1 W')=>show W'.cell? ⟨n,0,none⟩=some (.int .i64 t.kind)∧W'.cell? ⟨n,1,none⟩=some (.int .u64 t.set.x0)∧W'.cell? ⟨n,2,none⟩=some (.int .u64 t.set.x1)∧W'.cell? ⟨n,3,none⟩=some (.int .u64 t.set.x2)∧W'.cell? ⟨n,4,none⟩=some (.int .u64 t.set.x3)∧W'.cell? ⟨n,5,none⟩=some (.int .i64 t.mn)∧W'.cell? ⟨n,6,none⟩=some (.int .i64 t.mx)∧W'.cell? ⟨n,7,none⟩=some (.slice a t.subs.length c) from by
    have h1:=HNd.out.keep qq (fun e=>e rfl)
    obtain ⟨x,-⟩:=cells8 h1
    exact x)
   have HEm:=hid (fun W' (qq:Keep (fun _=>False) w1 W')=>by
    obtain ⟨d,hd,-⟩:=HX.out.1
    exact empty_any t d hd n 0 a c W' (NodeP.of_at (HNd.out.keep qq (fun h=>h))) ((H0.out.2.2.1.keepF (H1.out.2.1.trans qq)).mono fun _ _=>trivial))
   have HT:=hid (fun W' (qq:Keep (fun _=>False) w1 W')=>(H1.out.1.blk.keep qq (fun h=>h)).cell (o:=0) rfl)
   have tA:=HT.out _ ((Keep.refl (fun _=>False) w1).drew)
   rw [hv] at tA;refine wp_region_noPanic ?_;refine wp_region_held_drew (S:=(fun W=>W.cell? ⟨n,0,none⟩=some (.int .i64 t.kind)∧W.cell? ⟨n,1,none⟩=some (.int .u64 t.set.x0)∧W.cell? ⟨n,2,none⟩=some (.int .u64 t.set.x1)∧W.cell? ⟨n,3,none⟩=some (.int .u64 t.set.x2)∧W.cell? ⟨n,4,none⟩=some (.int .u64 t.set.x3)∧W.cell? ⟨n,5,none⟩=some (.int .i64 t.mn)∧W.cell? ⟨n,6,none⟩=some (.int .i64 t.mx)∧W.cell? ⟨n,7,none⟩=some (.slice a t.subs.length c))) (by kernel_rfl) ?_ (fun hHeld=>?_)
   ·exact HS.out _ ((Keep.refl (fun j=>j≠n) w1).drew)
   refine wpAnyH_take (i:=0) (oi:=⟨_,_,_,_,_,_⟩) (v:=?_) rfl (by kernel_rfl) (by kernel_rfl) (by kernel_rfl) (fun _ _ _ h=>h) (Or.inl ⟨by rfl,?_⟩) (by assumption) ?_
   rotate_left 1
   ·(intro w hSw;(try dsimp only at hSw);go_simp;first | done | with_reducible rfl)
   try simp only [Act.put,List.setIfInBounds_toArray,List.set_cons_zero,List.set_cons_succ]
   refine wpAnyH_take (i:=1) (oi:=⟨_,_,_,_,_,_⟩) (v:=?_) rfl (by kernel_rfl) (by kernel_rfl) (by kernel_rfl) (fun _ _ _ h=>h) (Or.inl ⟨by rfl,?_⟩) (by assumption) ?_
   rotate_left 1
   ·(intro w hSw;(try dsimp only at hSw);go_simp;first | done | with_reducible rfl)
   try simp only [Act.put,List.setIfInBounds_toArray,List.set_cons_zero,List.set_cons_succ]
   refine wpAnyH_take (i:=2) (oi:=⟨_,_,_,_,_,_⟩) (v:=?_) rfl (by kernel_rfl) (by kernel_rfl) (by kernel_rfl) (fun _ _ _ h=>h) (Or.inl ⟨by rfl,?_⟩) (by assumption) ?_
   rotate_left 1
   ·(intro w hSw;(try dsimp only at hSw);go_simp;first | done | with_reducible rfl)
   try simp only [Act.put,List.setIfInBounds_toArray,List.set_cons_zero,List.set_cons_succ]
   refine wpAnyH_take (i:=3) (oi:=⟨_,_,_,_,_,_⟩) (v:=?_) rfl (by kernel_rfl) (by kernel_rfl) (by kernel_rfl) (fun _ _ _ h=>h) (Or.inl ⟨by rfl,?_⟩) (by assumption) ?_
   rotate_left 1
   ·(intro w hSw;(try dsimp only at hSw);go_simp;first | done | with_reducible rfl)
   try simp only [Act.put,List.setIfInBounds_toArray,List.set_cons_zero,List.set_cons_succ]
   refine wpAnyH_take (i:=5) (oi:=⟨_,_,_,_,_,_⟩) (v:=?_) rfl (by kernel_rfl) (by kernel_rfl) (by kernel_rfl) (fun _ _ _ h=>h) (Or.inl ⟨by rfl,?_⟩) (by assumption) ?_
   rotate_left 1
   ·(intro w hSw;(try dsimp only at hSw);go_simp;first | done | with_reducible rfl)
   try simp only [Act.put,List.setIfInBounds_toArray,List.set_cons_zero,List.set_cons_succ]
   refine wpAnyH_ready (rs:=[4,6]) (by kernel_rfl) (by simp) ?_
   refine (AllReadyH.cons (o:=⟨_,_,_,_,_,_⟩) rfl (fun K hK=>?_) (AllReadyH.cons (o:=⟨_,_,_,_,_,_⟩) rfl (fun K hK=>?_) AllReadyH.nil))
   go_simp;refine hK.out _ _ ?_ (fun hHeld'=>?_)
   ·exact hHeld
   clear hK K hHeld;have hHeld:=hHeld';clear hHeld'
   try simp only [Act.put,List.setIfInBounds_toArray,List.set_cons_zero,List.set_cons_succ]
   refine wpAnyH_ready (rs:=[6]) (by kernel_rfl) (by simp) ?_
   refine (AllReadyH.cons (o:=⟨_,_,_,_,_,_⟩) rfl (fun K hK=>?_) AllReadyH.nil)
   go_simp
   (go_at_call 27;refine (HEm.out _ ((Keep.refl (fun _=>False) w1).drew)).mono ?_;rintro e w5 ⟨rfl,hw5⟩)
   have K5:=hid (show Keep (fun _=>False) w1 w5 by rw [← hw5];exact (Keep.refl _ _).drew)
   clear hw5;have tC:=HT.out _ K5.out;rw [hv] at tC;refine hK.out _ _ ?_ (fun hHeld'=>?_)
   ·exact HS.out _ (K5.out.mono fun _ h=>h.elim)
   clear hK K hHeld;have hHeld:=hHeld';clear hHeld'
   try simp only [Act.put,List.setIfInBounds_toArray,List.set_cons_zero,List.set_cons_succ]
   refine wpAnyH_take (i:=7) (oi:=⟨_,_,_,_,_,_⟩) (v:=?_) rfl (by kernel_rfl) (by kernel_rfl) (by kernel_rfl) (fun _ _ _ h=>h) (Or.inl ⟨by rfl,?_⟩) (by assumption) ?_
   rotate_left 1
   ·(intro w hSw;(try dsimp only at hSw);go_simp;first | done | with_reducible rfl)
   try simp only [Act.put,List.setIfInBounds_toArray,List.set_cons_zero,List.set_cons_succ]
   refine wpAnyH_ready (rs:=[8]) (by kernel_rfl) (by simp) ?_
   refine (AllReadyH.cons (o:=⟨_,_,_,_,_,_⟩) rfl (fun K hK=>?_) AllReadyH.nil)
   obtain ⟨v1,w6,hrun,g1,g2,g3⟩:=(H1.out.1.row.keepF K5.out).push t a c HX.out.2.2.2.1 ((H0.out.2.2.1.keepF (H1.out.2.1.trans K5.out)).mono fun j hj=>⟨hj.1.1,hj.1.2⟩) (by have:=HX.out.2.2.2.2.2.1;have:=HX.out.2.2.1;omega) (fun g hg=>by have:=HX.out.2.2.2.2.1;have:=K5.out.size;have:=H1.out.2.1.size;have:=HN.out;exact ⟨.inr (by have:=H1.out.1.low;omega),by omega,by omega,by omega⟩) 74
   obtain ⟨xa,xc,rfl,-⟩:=g1.form;rw [show (L++[t]).length=L.length+1 from by simp] at hrun g1 g3
   rw [hv] at hrun;have HG:=hid (And.intro g1 (And.intro g2 g3));clear g1 g2 g3;have tB:=HT.out _ (K5.out.alloc (.cells (scells t a c) 59));rw [hv] at tB;go_simp;refine hK.out _ (w5.alloc (.cells (scells t a c) 59)) ?_ (fun hHeld'=>?_)
   ·exact HS.out _ ((K5.out.alloc _).mono fun _ h=>h.elim)
   clear hK K hHeld;have hHeld:=hHeld';clear hHeld';generalize (w5.alloc (.cells (scells t a c) 59))=wB at *
   try simp only [Act.put,List.setIfInBounds_toArray,List.set_cons_zero,List.set_cons_succ]
   refine wpAnyH_ready (rs:=[9]) (by kernel_rfl) (by simp) ?_
   refine (AllReadyH.cons (o:=⟨_,_,_,_,_,_⟩) rfl (fun K hK=>?_) AllReadyH.nil)
   have K6:=(K5.out.mono (T:=fun j=>v.ownBlock=some j) (fun _ h=>h.elim)).trans HG.out.2.1
   have A6:=H1.out.1.blk.keep K6 (fun e=>(HX.out.2.2.2.2.1.2.2.2.2.2.2 cb e).2.2.1 rfl)
   obtain ⟨⟨t0,t1,t2,t3,t4⟩,tf0,-⟩:=cells5 A6;have tl:=A6.lt;have HM:=hid (show Keep (fun j=>j=cb∨v.ownBlock=some j) w1 (w6.setCell ⟨cb,0,none⟩ (.slice xa (L.length+1) xc))∧At (w6.setCell ⟨cb,0,none⟩ (.slice xa (L.length+1) xc)) cb 76 #[.slice xa (L.length+1) xc,.int .i64 k,.map (some kb),.map (some nb),.int .i64 q]∧OS (w6.setCell ⟨cb,0,none⟩ (.slice xa (L.length+1) xc)) (Ec n0 ok cb kb nb) (.slice xa (L.length+1) xc) (L++[t])∧∀ g,(Value.slice xa (L.length+1) xc).ownBlock=some g→n0≤g from ⟨(K6.mono fun _ h=>.inr h).setCell (p:=⟨cb,0,none⟩) (fun _=>.inl rfl) _,A6.set 0 _,HG.out.1.keep ((Keep.refl (fun j=>j=cb) w6).setCell (p:=⟨cb,0,none⟩) (fun _=>rfl) _) (fun j hj e=>hj.2.1 e),fun g hg=>by rcases HG.out.2.2 g hg with h | h;exact H1.out.1.own g h;have:=K5.out.size;have:=H1.out.2.1.size;have:=HN.out;have:=H1.out.1.low;have:=HX.out.2.2.2.2.1;omega⟩)
   have HSA:=hid (HS.out w6 (K6.mono fun j h e=>hnl j h e))
   clear A6 K6;refine step_append_at _ (by kernel_rfl) (.tmp 29) (.tmp 33) 74 74 rfl _ _ rfl rfl _ _ hrun ?_
   refine hK.out _ _ ?_ (fun hHeld'=>?_)
   ·exact HSA.out
   clear hK K hHeld;have hHeld:=hHeld';clear hHeld'
   try simp only [Act.put,List.setIfInBounds_toArray,List.set_cons_zero,List.set_cons_succ]
   refine wpAnyH_take (i:=10) (oi:=⟨_,_,_,_,_,_⟩) (v:=?_) rfl (by kernel_rfl) (by kernel_rfl) (by kernel_rfl) (fun _ _ _ h=>h) (Or.inl ⟨by rfl,?_⟩) (by assumption) ?_
   rotate_left 1
   ·(intro w hSw;(try dsimp only at hSw);go_simp;first | done | with_reducible rfl)
   try simp only [Act.put,List.setIfInBounds_toArray,List.set_cons_zero,List.set_cons_succ]
   refine wpAnyH_take (i:=11) (oi:=⟨_,_,_,_,_,_⟩) (v:=?_) rfl (by kernel_rfl) (by kernel_rfl) (by kernel_rfl) (fun _ _ _ h=>h) (Or.inl ⟨by rfl,?_⟩) (by assumption) ?_
   rotate_left 1
   ·(intro w hSw;(try dsimp only at hSw);go_simp;first | done | with_reducible rfl)
   try simp only [Act.put,List.setIfInBounds_toArray,List.set_cons_zero,List.set_cons_succ]
   refine wpAnyH_ready (rs:=[12]) (by kernel_rfl) (by simp) ?_
   refine (AllReadyH.cons (o:=⟨_,_,_,_,_,_⟩) rfl (fun K hK=>?_) AllReadyH.nil)
   have HSB:=hid (HS.out (w6.setCell ⟨cb,0,none⟩ (.slice xa (L.length+1) xc)) (HM.out.1.mono fun j h e=>by rcases h with h | h;exact hcn (h.symm.trans e);exact hnl j h e))
   go_simp;refine hK.out _ (w6.setCell ⟨cb,0,none⟩ (.slice xa (L.length+1) xc)) ?_ (fun hHeld'=>?_)
   ·exact HSB.out
   clear hK K hHeld;have hHeld:=hHeld';clear hHeld';generalize (w6.setCell ⟨cb,0,none⟩ (.slice xa (L.length+1) xc))=W9 at *
   try simp only [Act.put,List.setIfInBounds_toArray,List.set_cons_zero,List.set_cons_succ]
   refine wpAnyH_done (by kernel_rfl) ?_ _
   refine NoPanic.normal ?_;rotate_left 1;go_simp
   (go_at_call 27;refine (HEm.out _ ((Keep.refl (fun _=>False) w1).drew)).mono ?_;rintro e w5 ⟨rfl,hw5⟩)
   have K5:=hid (show Keep (fun _=>False) w1 w5 by rw [← hw5];exact (Keep.refl _ _).drew)
   clear hw5;have tC:=HT.out _ K5.out;rw [hv] at tC;refine hK.out _ _ ?_ (fun hHeld'=>?_)
   ·exact HS.out _ (K5.out.mono fun _ h=>h.elim)
   clear hK K hHeld;have hHeld:=hHeld';clear hHeld'
   try simp only [Act.put,List.setIfInBounds_toArray,List.set_cons_zero,List.set_cons_succ]
   refine wpAnyH_take (i:=7) (oi:=⟨_,_,_,_,_,_⟩) (v:=?_) rfl (by kernel_rfl) (by kernel_rfl) (by kernel_rfl) (fun _ _ _ h=>h) (Or.inl ⟨by rfl,?_⟩) (by assumption) ?_
   rotate_left 1
   ·(intro w hSw;(try dsimp only at hSw);go_simp;first | done | with_reducible rfl)
   try simp only [Act.put,List.setIfInBounds_toArray,List.set_cons_zero,List.set_cons_succ]
   refine wpAnyH_ready (rs:=[4,8]) (by kernel_rfl) (by simp) ?_
   refine (AllReadyH.cons (o:=⟨_,_,_,_,_,_⟩) rfl (fun K hK=>?_) (AllReadyH.cons (o:=⟨_,_,_,_,_,_⟩) rfl (fun K hK=>?_) AllReadyH.nil))
   go_simp;refine hK.out _ _ ?_ (fun hHeld'=>?_)
   ·exact hHeld
   clear hK K hHeld;have hHeld:=hHeld';clear hHeld'
   try simp only [Act.put,List.setIfInBounds_toArray,List.set_cons_zero,List.set_cons_succ]
   refine wpAnyH_ready (rs:=[8]) (by kernel_rfl) (by simp) ?_
   refine (AllReadyH.cons (o:=⟨_,_,_,_,_,_⟩) rfl (fun K hK=>?_) AllReadyH.nil)
   obtain ⟨v1,w6,hrun,g1,g2,g3⟩:=(H1.out.1.row.keepF K5.out).push t a c HX.out.2.2.2.1 ((H0.out.2.2.1.keepF (H1.out.2.1.trans K5.out)).mono fun j hj=>⟨hj.1.1,hj.1.2⟩) (by have:=HX.out.2.2.2.2.2.1;have:=HX.out.2.2.1;omega) (fun g hg=>by have:=HX.out.2.2.2.2.1;have:=K5.out.size;have:=H1.out.2.1.size;have:=HN.out;exact ⟨.inr (by have:=H1.out.1.low;omega),by omega,by omega,by omega⟩) 74
   obtain ⟨xa,xc,rfl,-⟩:=g1.form;rw [show (L++[t]).length=L.length+1 from by simp] at hrun g1 g3
   rw [hv] at hrun;have HG:=hid (And.intro g1 (And.intro g2 g3));clear g1 g2 g3;have tB:=HT.out _ (K5.out.alloc (.cells (scells t a c) 59));rw [hv] at tB;go_simp;refine hK.out _ (w5.alloc (.cells (scells t a c) 59)) ?_ (fun hHeld'=>?_)
   ·exact HS.out _ ((K5.out.alloc _).mono fun _ h=>h.elim)
   clear hK K hHeld;have hHeld:=hHeld';clear hHeld';generalize (w5.alloc (.cells (scells t a c) 59))=wB at *
   try simp only [Act.put,List.setIfInBounds_toArray,List.set_cons_zero,List.set_cons_succ]
   refine wpAnyH_ready (rs:=[9]) (by kernel_rfl) (by simp) ?_
   refine (AllReadyH.cons (o:=⟨_,_,_,_,_,_⟩) rfl (fun K hK=>?_) AllReadyH.nil)
   have K6:=(K5.out.mono (T:=fun j=>v.ownBlock=some j) (fun _ h=>h.elim)).trans HG.out.2.1
   have A6:=H1.out.1.blk.keep K6 (fun e=>(HX.out.2.2.2.2.1.2.2.2.2.2.2 cb e).2.2.1 rfl)
   obtain ⟨⟨t0,t1,t2,t3,t4⟩,tf0,-⟩:=cells5 A6;have tl:=A6.lt;have HM:=hid (show Keep (fun j=>j=cb∨v.ownBlock=some j) w1 (w6.setCell ⟨cb,0,none⟩ (.slice xa (L.length+1) xc))∧At (w6.setCell ⟨cb,0,none⟩ (.slice xa (L.length+1) xc)) cb 76 #[.slice xa (L.length+1) xc,.int .i64 k,.map (some kb),.map (some nb),.int .i64 q]∧OS (w6.setCell ⟨cb,0,none⟩ (.slice xa (L.length+1) xc)) (Ec n0 ok cb kb nb) (.slice xa (L.length+1) xc) (L++[t])∧∀ g,(Value.slice xa (L.length+1) xc).ownBlock=some g→n0≤g from ⟨(K6.mono fun _ h=>.inr h).setCell (p:=⟨cb,0,none⟩) (fun _=>.inl rfl) _,A6.set 0 _,HG.out.1.keep ((Keep.refl (fun j=>j=cb) w6).setCell (p:=⟨cb,0,none⟩) (fun _=>rfl) _) (fun j hj e=>hj.2.1 e),fun g hg=>by rcases HG.out.2.2 g hg with h | h;exact H1.out.1.own g h;have:=K5.out.size;have:=H1.out.2.1.size;have:=HN.out;have:=H1.out.1.low;have:=HX.out.2.2.2.2.1;omega⟩)
   have HSA:=hid (HS.out w6 (K6.mono fun j h e=>hnl j h e))
   clear A6 K6;refine step_append_at _ (by kernel_rfl) (.tmp 29) (.tmp 33) 74 74 rfl _ _ rfl rfl _ _ hrun ?_
   refine hK.out _ _ ?_ (fun hHeld'=>?_)
   ·exact HSA.out
   clear hK K hHeld;have hHeld:=hHeld';clear hHeld'
   try simp only [Act.put,List.setIfInBounds_toArray,List.set_cons_zero,List.set_cons_succ]
   refine wpAnyH_take (i:=10) (oi:=⟨_,_,_,_,_,_⟩) (v:=?_) rfl (by kernel_rfl) (by kernel_rfl) (by kernel_rfl) (fun _ _ _ h=>h) (Or.inl ⟨by rfl,?_⟩) (by assumption) ?_
   rotate_left 1
   ·(intro w hSw;(try dsimp only at hSw);go_simp;first | done | with_reducible rfl)
   try simp only [Act.put,List.setIfInBounds_toArray,List.set_cons_zero,List.set_cons_succ]
   refine wpAnyH_take (i:=11) (oi:=⟨_,_,_,_,_,_⟩) (v:=?_) rfl (by kernel_rfl) (by kernel_rfl) (by kernel_rfl) (fun _ _ _ h=>h) (Or.inl ⟨by rfl,?_⟩) (by assumption) ?_
   rotate_left 1
   ·(intro w hSw;(try dsimp only at hSw);go_simp;first | done | with_reducible rfl)
   try simp only [Act.put,List.setIfInBounds_toArray,List.set_cons_zero,List.set_cons_succ]
   refine wpAnyH_ready (rs:=[12]) (by kernel_rfl) (by simp) ?_
   refine (AllReadyH.cons (o:=⟨_,_,_,_,_,_⟩) rfl (fun K hK=>?_) AllReadyH.nil)
   have HSB:=hid (HS.out (w6.setCell ⟨cb,0,none⟩ (.slice xa (L.length+1) xc)) (HM.out.1.mono fun j h e=>by rcases h with h | h;exact hcn (h.symm.trans e);exact hnl j h e))
   go_simp;refine hK.out _ (w6.setCell ⟨cb,0,none⟩ (.slice xa (L.length+1) xc)) ?_ (fun hHeld'=>?_)
   ·exact HSB.out
   clear hK K hHeld;have hHeld:=hHeld';clear hHeld';generalize (w6.setCell ⟨cb,0,none⟩ (.slice xa (L.length+1) xc))=W9 at *
   try simp only [Act.put,List.setIfInBounds_toArray,List.set_cons_zero,List.set_cons_succ]
   refine wpAnyH_done (by kernel_rfl) ?_ _
   refine NoPanic.normal ?_;rotate_left 1;obtain ⟨v1,w6,hrun,g1,g2,g3⟩:=(H1.out.1.row.keepF K5.out).push t a c HX.out.2.2.2.1 ((H0.out.2.2.1.keepF (H1.out.2.1.trans K5.out)).mono fun j hj=>⟨hj.1.1,hj.1.2⟩) (by have:=HX.out.2.2.2.2.2.1;have:=HX.out.2.2.1;omega) (fun g hg=>by have:=HX.out.2.2.2.2.1;have:=K5.out.size;have:=H1.out.2.1.size;have:=HN.out;exact ⟨.inr (by have:=H1.out.1.low;omega),by omega,by omega,by omega⟩) 74
   obtain ⟨xa,xc,rfl,-⟩:=g1.form;rw [show (L++[t]).length=L.length+1 from by simp] at hrun g1 g3
   rw [hv] at hrun;have HG:=hid (And.intro g1 (And.intro g2 g3));clear g1 g2 g3;have tB:=HT.out _ (K5.out.alloc (.cells (scells t a c) 59));rw [hv] at tB;go_simp;refine hK.out _ (w5.alloc (.cells (scells t a c) 59)) ?_ (fun hHeld'=>?_)
   ·exact HS.out _ ((K5.out.alloc _).mono fun _ h=>h.elim)
   clear hK K hHeld;have hHeld:=hHeld';clear hHeld';generalize (w5.alloc (.cells (scells t a c) 59))=wB at *
   try simp only [Act.put,List.setIfInBounds_toArray,List.set_cons_zero,List.set_cons_succ]
   refine wpAnyH_ready (rs:=[4]) (by kernel_rfl) (by simp) ?_
   refine (AllReadyH.cons (o:=⟨_,_,_,_,_,_⟩) rfl (fun K hK=>?_) AllReadyH.nil)
   go_simp;refine hK.out _ _ ?_ (fun hHeld'=>?_)
   ·exact hHeld
   clear hK K hHeld;have hHeld:=hHeld';clear hHeld'
   try simp only [Act.put,List.setIfInBounds_toArray,List.set_cons_zero,List.set_cons_succ]
   refine wpAnyH_ready (rs:=[9]) (by kernel_rfl) (by simp) ?_
   refine (AllReadyH.cons (o:=⟨_,_,_,_,_,_⟩) rfl (fun K hK=>?_) AllReadyH.nil)
   have K6:=(K5.out.mono (T:=fun j=>v.ownBlock=some j) (fun _ h=>h.elim)).trans HG.out.2.1
   have A6:=H1.out.1.blk.keep K6 (fun e=>(HX.out.2.2.2.2.1.2.2.2.2.2.2 cb e).2.2.1 rfl)
   obtain ⟨⟨t0,t1,t2,t3,t4⟩,tf0,-⟩:=cells5 A6;have tl:=A6.lt;have HM:=hid (show Keep (fun j=>j=cb∨v.ownBlock=some j) w1 (w6.setCell ⟨cb,0,none⟩ (.slice xa (L.length+1) xc))∧At (w6.setCell ⟨cb,0,none⟩ (.slice xa (L.length+1) xc)) cb 76 #[.slice xa (L.length+1) xc,.int .i64 k,.map (some kb),.map (some nb),.int .i64 q]∧OS (w6.setCell ⟨cb,0,none⟩ (.slice xa (L.length+1) xc)) (Ec n0 ok cb kb nb) (.slice xa (L.length+1) xc) (L++[t])∧∀ g,(Value.slice xa (L.length+1) xc).ownBlock=some g→n0≤g from ⟨(K6.mono fun _ h=>.inr h).setCell (p:=⟨cb,0,none⟩) (fun _=>.inl rfl) _,A6.set 0 _,HG.out.1.keep ((Keep.refl (fun j=>j=cb) w6).setCell (p:=⟨cb,0,none⟩) (fun _=>rfl) _) (fun j hj e=>hj.2.1 e),fun g hg=>by rcases HG.out.2.2 g hg with h | h;exact H1.out.1.own g h;have:=K5.out.size;have:=H1.out.2.1.size;have:=HN.out;have:=H1.out.1.low;have:=HX.out.2.2.2.2.1;omega⟩)
   have HSA:=hid (HS.out w6 (K6.mono fun j h e=>hnl j h e))
   clear A6 K6;refine step_append_at _ (by kernel_rfl) (.tmp 29) (.tmp 33) 74 74 rfl _ _ rfl rfl _ _ hrun ?_
   refine hK.out _ _ ?_ (fun hHeld'=>?_)
   ·exact HSA.out
   clear hK K hHeld;have hHeld:=hHeld';clear hHeld'
   try simp only [Act.put,List.setIfInBounds_toArray,List.set_cons_zero,List.set_cons_succ]
   refine wpAnyH_take (i:=10) (oi:=⟨_,_,_,_,_,_⟩) (v:=?_) rfl (by kernel_rfl) (by kernel_rfl) (by kernel_rfl) (fun _ _ _ h=>h) (Or.inl ⟨by rfl,?_⟩) (by assumption) ?_
   rotate_left 1
   ·(intro w hSw;(try dsimp only at hSw);go_simp;first | done | with_reducible rfl)
   try simp only [Act.put,List.setIfInBounds_toArray,List.set_cons_zero,List.set_cons_succ]
   refine wpAnyH_take (i:=11) (oi:=⟨_,_,_,_,_,_⟩) (v:=?_) rfl (by kernel_rfl) (by kernel_rfl) (by kernel_rfl) (fun _ _ _ h=>h) (Or.inl ⟨by rfl,?_⟩) (by assumption) ?_
   rotate_left 1
   ·(intro w hSw;(try dsimp only at hSw);go_simp;first | done | with_reducible rfl)
   try simp only [Act.put,List.setIfInBounds_toArray,List.set_cons_zero,List.set_cons_succ]
   refine wpAnyH_ready (rs:=[12]) (by kernel_rfl) (by simp) ?_
   refine (AllReadyH.cons (o:=⟨_,_,_,_,_,_⟩) rfl (fun K hK=>?_) AllReadyH.nil)
   have HSB:=hid (HS.out (w6.setCell ⟨cb,0,none⟩ (.slice xa (L.length+1) xc)) (HM.out.1.mono fun j h e=>by rcases h with h | h;exact hcn (h.symm.trans e);exact hnl j h e))
   go_simp;refine hK.out _ (w6.setCell ⟨cb,0,none⟩ (.slice xa (L.length+1) xc)) ?_ (fun hHeld'=>?_)
   ·exact HSB.out
   clear hK K hHeld;have hHeld:=hHeld';clear hHeld';generalize (w6.setCell ⟨cb,0,none⟩ (.slice xa (L.length+1) xc))=W9 at *
   try simp only [Act.put,List.setIfInBounds_toArray,List.set_cons_zero,List.set_cons_succ]
   refine wpAnyH_done (by kernel_rfl) ?_ _
   refine NoPanic.normal ?_;rotate_left 1
   all_goals
    go_wp2_with fail
    go_meet
    case rel=>exact ⟨_,HM.out⟩
  case rest =>
   obtain ⟨v1,qa,ha,hrow,hown⟩:=hcut;have hap:=HX.out.2.2.2.2.1;have hkn:=(H1.out.1.kn.keep qa (fun e=>by rcases e with e | e;exact hap.2.2.2.1 e;exact (hap.2.2.2.2.2.2 kb e).2.2.2.1 rfl)).mono (fun v c=>RK.app [t]) (Nat.le_refl q)
   have hlen:L.length≤q:=HX.out.2.2.2.2.2.1;have hq0:q≤262144:=HX.out.2.2.1;have hl0:(0:Int)≤L.length:=by omega
   have hl1:(L.length:Int)≤262144:=by omega
   obtain ⟨w7,hput,hkn7,q7⟩:=hkn.put lawS Try.underlying72 (key_of (keyT t) H1.out.2.2.2) (c:=L.length) (WalkArith.wf_i64 (by omega)) (by simp only [maxLen];omega) (fun s e=>⟨L.length,t,rfl,by simp,(str_key e).symm⟩)
   rw [hK] at hput;have h7:=ha.keep q7 (fun e=>hap.2.2.2.1 e.symm)
   have hx7:=hnx (H1.out.1.nx) qa q7 hap [t];have hr7:=hrow.keep q7 (fun j hj e=>hj.2.2.1 e)
   have hnd:At w7 n 27 (ncells t a c):=((H0.out.2.1.keep H1.out.2.1 (fun h=>h)).keep qa (fun e=>by rcases e with e | e;have:=hap.1;omega;have:=(hap.2.2.2.2.2.2 n e).1;omega)).keep q7 (fun e=>by have:=hap.2.1;omega)
   have hld:Lie w7 (fun _=>True) a t.subs:=(((H0.out.2.2.1.keepF H1.out.2.1).keep qa (fun j hj e=>by rcases e with e | e;exact hj.1.1.2.1 e;exact hj.1.2 e)).keep q7 (fun j hj e=>hj.1.1.2.2.1 e)).mono fun _ _=>trivial
   obtain ⟨X,hX⟩:∃ X:Int,((cnt t:Nat):Int)=X:=⟨_,rfl⟩;have HSz:=hid (fun W (qq:Keep (fun _=>False) w7 W)=>size_any t (by have:=HX.out.2.1;omega) n 0 a c W ((NodeP.of_at hnd).keepF qq) (hld.keepF qq))
   rw [hX] at HSz;have H7:=hid (And.intro (show Keep (Zc cb kb nb v) w1 w7 from (qa.mono fun j hj=>by rcases hj with h | h;exact .inl h;exact .inr (.inr (.inr h))).trans (q7.mono fun j hj=>.inr (.inl hj))) (And.intro h7 (And.intro hr7 (And.intro hkn7 (And.intro hx7 (And.intro hown hX))))))
   have hX0:1≤X∧X≤4000:=by have:=HX.out.2.1;have:=HX.out.2.2.2.2.2.2;omega
   obtain ⟨X0,X1⟩:=hX0;have hq1:(q:Int)≤262144:=by omega
   have hq2:(0:Int)≤q:=by omega
   obtain ⟨⟨c0,c1,c2,c3,c4⟩,f0,f1,f4⟩:=cells5 ha;have tl7:=ha.lt;clear qa ha hrow hown hap hkn hkn7 q7 hx7 hr7 hnd hld hX hlen hq0;go_upto_region 7 with fail;clear c0 c1 c2 c3 c4 f0 f1 f4 tl7 hput;have hw:IntKind.i64.wrap ((q:Int)+X)=(q:Int)+X:=by
    rw [IntKind.wrap_i64];omega
   go_cut [] (fun wx=>Keep (fun j=>j=cb) w7 wx∧At wx cb 76 #[v1,.int .i64 k,.map (some kb),.map (some nb),.int .i64 ((q:Int)+X)])
   case first =>
    have t7:=H7.out.2.1.cell (o:=4) rfl;have HT4:=hid (fun W (qq:Keep (fun _=>False) w7 W)=>(H7.out.2.1.keep qq (fun h=>h)).cell (o:=4) rfl)
    refine wp_region_noPanic ?_;refine wp_region_held_drew (S:=(fun _=>True)) (by kernel_rfl) ?_ (fun hHeld=>?_)
    ·trivial
    refine wpAnyH_take (i:=0) (oi:=⟨_,_,_,_,_,_⟩) (v:=?_) rfl (by kernel_rfl) (by kernel_rfl) (by kernel_rfl) (fun _ _ _ h=>h) (Or.inl ⟨by rfl,?_⟩) (by assumption) ?_
    rotate_left 1
    ·(intro w hSw;(try dsimp only at hSw);go_simp;first | done | with_reducible rfl)
    try simp only [Act.put,List.setIfInBounds_toArray,List.set_cons_zero,List.set_cons_succ]
    refine wpAnyH_take (i:=1) (oi:=⟨_,_,_,_,_,_⟩) (v:=?_) rfl (by kernel_rfl) (by kernel_rfl) (by kernel_rfl) (fun _ _ _ h=>h) (Or.inl ⟨by rfl,?_⟩) (by assumption) ?_
    rotate_left 1
    ·(intro w hSw;(try dsimp only at hSw);go_simp;first | done | with_reducible rfl)
    try simp only [Act.put,List.setIfInBounds_toArray,List.set_cons_zero,List.set_cons_succ]
    refine wpAnyH_take (i:=2) (oi:=⟨_,_,_,_,_,_⟩) (v:=?_) rfl (by kernel_rfl) (by kernel_rfl) (by kernel_rfl) (fun _ _ _ h=>h) (Or.inl ⟨by rfl,?_⟩) (by assumption) ?_
    rotate_left 1
    ·(intro w hSw;(try dsimp only at hSw);go_simp;first | done | with_reducible rfl)
    try simp only [Act.put,List.setIfInBounds_toArray,List.set_cons_zero,List.set_cons_succ]
    refine wpAnyH_ready (rs:=[3,4]) (by kernel_rfl) (by simp) ?_
    refine (AllReadyH.cons (o:=⟨_,_,_,_,_,_⟩) rfl (fun K hK=>?_) (AllReadyH.cons (o:=⟨_,_,_,_,_,_⟩) rfl (fun K hK=>?_) AllReadyH.nil))
    go_simp;refine hK.out _ _ ?_ (fun hHeld'=>?_)
    ·trivial
    clear hK K hHeld;have hHeld:=hHeld';clear hHeld'
    try simp only [Act.put,List.setIfInBounds_toArray,List.set_cons_zero,List.set_cons_succ]
    refine wpAnyH_ready (rs:=[4]) (by kernel_rfl) (by simp) ?_
    refine (AllReadyH.cons (o:=⟨_,_,_,_,_,_⟩) rfl (fun K hK=>?_) AllReadyH.nil)
    go_simp
    (go_at_call 54;refine (HSz.out _ ((Keep.refl (fun _=>False) w7).drew)).mono ?_;rintro e w8 ⟨rfl,hw8⟩)
    have K8:=hid (show Keep (fun _=>False) w7 w8 by rw [← hw8];exact (Keep.refl _ _).drew)
    clear hw8;have A8:=H7.out.2.1.keep K8.out (fun h=>h)
    obtain ⟨⟨t0,t1,t2,t3,t4⟩,-,-,tf4⟩:=cells5 A8;have tl:=A8.lt;have HM:=hid (show At (w8.setCell ⟨cb,4,none⟩ (.int .i64 (q+X))) cb 76 #[v1,.int .i64 k,.map (some kb),.map (some nb),.int .i64 (q+X)] from A8.set 4 (.int .i64 (q+X)))
    have K9:=hid ((K8.out.mono (T:=fun b=>b=cb) (fun _ h=>h.elim)).setCell (p:=⟨cb,4,none⟩) (fun _=>rfl) (.int .i64 (q+X)))
    clear A8;refine hK.out _ _ ?_ (fun hHeld'=>?_)
    ·trivial
    clear hK K hHeld;have hHeld:=hHeld';clear hHeld'
    try simp only [Act.put,List.setIfInBounds_toArray,List.set_cons_zero,List.set_cons_succ]
    refine wpAnyH_take (i:=5) (oi:=⟨_,_,_,_,_,_⟩) (v:=?_) rfl (by kernel_rfl) (by kernel_rfl) (by kernel_rfl) (fun _ _ _ h=>h) (Or.inl ⟨by rfl,?_⟩) (by assumption) ?_
    rotate_left 1
    ·(intro w hSw;(try dsimp only at hSw);go_simp;first | done | with_reducible rfl)
    try simp only [Act.put,List.setIfInBounds_toArray,List.set_cons_zero,List.set_cons_succ]
    refine wpAnyH_take (i:=6) (oi:=⟨_,_,_,_,_,_⟩) (v:=?_) rfl (by kernel_rfl) (by kernel_rfl) (by kernel_rfl) (fun _ _ _ h=>h) (Or.inl ⟨by rfl,?_⟩) (by assumption) ?_
    rotate_left 1
    ·(intro w hSw;(try dsimp only at hSw);go_simp;first | done | with_reducible rfl)
    try simp only [Act.put,List.setIfInBounds_toArray,List.set_cons_zero,List.set_cons_succ]
    refine wpAnyH_take (i:=7) (oi:=⟨_,_,_,_,_,_⟩) (v:=?_) rfl (by kernel_rfl) (by kernel_rfl) (by kernel_rfl) (fun _ _ _ h=>h) (Or.inl ⟨by rfl,?_⟩) (by assumption) ?_
    rotate_left 1
    ·(intro w hSw;(try dsimp only at hSw);go_simp;first | done | with_reducible rfl)
    try simp only [Act.put,List.setIfInBounds_toArray,List.set_cons_zero,List.set_cons_succ]
    refine wpAnyH_ready (rs:=[8]) (by kernel_rfl) (by simp) ?_
    refine (AllReadyH.cons (o:=⟨_,_,_,_,_,_⟩) rfl (fun K hK=>?_) AllReadyH.nil)
    go_simp;refine hK.out _ (w8.setCell ⟨cb,4,none⟩ (.int .i64 (q+X))) ?_ (fun hHeld'=>?_)
    ·trivial
    clear hK K hHeld;have hHeld:=hHeld';clear hHeld';generalize (w8.setCell ⟨cb,4,none⟩ (.int .i64 (q+X)))=W9 at *
    try simp only [Act.put,List.setIfInBounds_toArray,List.set_cons_zero,List.set_cons_succ]
    refine wpAnyH_done (by kernel_rfl) ?_ _
    refine NoPanic.normal ?_;rotate_left 1;go_simp
    (go_at_call 54;refine (HSz.out _ ((Keep.refl (fun _=>False) w7).drew)).mono ?_;rintro e w8 ⟨rfl,hw8⟩)
    have K8:=hid (show Keep (fun _=>False) w7 w8 by rw [← hw8];exact (Keep.refl _ _).drew)
    clear hw8;have A8:=H7.out.2.1.keep K8.out (fun h=>h)
    obtain ⟨⟨t0,t1,t2,t3,t4⟩,-,-,tf4⟩:=cells5 A8;have tl:=A8.lt;have HM:=hid (show At (w8.setCell ⟨cb,4,none⟩ (.int .i64 (q+X))) cb 76 #[v1,.int .i64 k,.map (some kb),.map (some nb),.int .i64 (q+X)] from A8.set 4 (.int .i64 (q+X)))
    have K9:=hid ((K8.out.mono (T:=fun b=>b=cb) (fun _ h=>h.elim)).setCell (p:=⟨cb,4,none⟩) (fun _=>rfl) (.int .i64 (q+X)))
    clear A8;refine hK.out _ _ ?_ (fun hHeld'=>?_)
    ·trivial
    clear hK K hHeld;have hHeld:=hHeld';clear hHeld'
    try simp only [Act.put,List.setIfInBounds_toArray,List.set_cons_zero,List.set_cons_succ]
    refine wpAnyH_ready (rs:=[3]) (by kernel_rfl) (by simp) ?_
    refine (AllReadyH.cons (o:=⟨_,_,_,_,_,_⟩) rfl (fun K hK=>?_) AllReadyH.nil)
    go_simp;refine hK.out _ _ ?_ (fun hHeld'=>?_)
    ·trivial
    clear hK K hHeld;have hHeld:=hHeld';clear hHeld'
    try simp only [Act.put,List.setIfInBounds_toArray,List.set_cons_zero,List.set_cons_succ]
    refine wpAnyH_take (i:=5) (oi:=⟨_,_,_,_,_,_⟩) (v:=?_) rfl (by kernel_rfl) (by kernel_rfl) (by kernel_rfl) (fun _ _ _ h=>h) (Or.inl ⟨by rfl,?_⟩) (by assumption) ?_
    rotate_left 1
    ·(intro w hSw;(try dsimp only at hSw);go_simp;first | done | with_reducible rfl)
    try simp only [Act.put,List.setIfInBounds_toArray,List.set_cons_zero,List.set_cons_succ]
    refine wpAnyH_take (i:=6) (oi:=⟨_,_,_,_,_,_⟩) (v:=?_) rfl (by kernel_rfl) (by kernel_rfl) (by kernel_rfl) (fun _ _ _ h=>h) (Or.inl ⟨by rfl,?_⟩) (by assumption) ?_
    rotate_left 1
    ·(intro w hSw;(try dsimp only at hSw);go_simp;first | done | with_reducible rfl)
    try simp only [Act.put,List.setIfInBounds_toArray,List.set_cons_zero,List.set_cons_succ]
    refine wpAnyH_take (i:=7) (oi:=⟨_,_,_,_,_,_⟩) (v:=?_) rfl (by kernel_rfl) (by kernel_rfl) (by kernel_rfl) (fun _ _ _ h=>h) (Or.inl ⟨by rfl,?_⟩) (by assumption) ?_
    rotate_left 1
    ·(intro w hSw;(try dsimp only at hSw);go_simp;first | done | with_reducible rfl)
    try simp only [Act.put,List.setIfInBounds_toArray,List.set_cons_zero,List.set_cons_succ]
    refine wpAnyH_ready (rs:=[8]) (by kernel_rfl) (by simp) ?_
    refine (AllReadyH.cons (o:=⟨_,_,_,_,_,_⟩) rfl (fun K hK=>?_) AllReadyH.nil)
    go_simp;refine hK.out _ (w8.setCell ⟨cb,4,none⟩ (.int .i64 (q+X))) ?_ (fun hHeld'=>?_)
    ·trivial
    clear hK K hHeld;have hHeld:=hHeld';clear hHeld';generalize (w8.setCell ⟨cb,4,none⟩ (.int .i64 (q+X)))=W9 at *
    try simp only [Act.put,List.setIfInBounds_toArray,List.set_cons_zero,List.set_cons_succ]
    refine wpAnyH_done (by kernel_rfl) ?_ _
    refine NoPanic.normal ?_;rotate_left 1
    all_goals
     go_wp2_with fail
     go_meet
     case rel=>exact ⟨K9.out,HM.out⟩
   case rest =>
    obtain ⟨q8,h8⟩:=hcut;have hap:=HX.out.2.2.2.2.1;obtain ⟨⟨c0,c1,c2,c3,c4⟩,f0,f1,f4⟩:=cells5 h8;have tl8:=h8.lt;have H8:=hid (And.intro q8 (And.intro h8 hap));clear q8 h8 hap;go_wp2_with fail
    go_end0
    refine ⟨rfl,v1,[t],L.length,q+cnt t,?_,by simp,Nat.le_refl _,?_⟩
    ·obtain ⟨q8,h8,hap⟩:=H8.out
     obtain ⟨-,h7,hr7,hkn7,hx7,hown,hX⟩:=H7.out;have q9:Keep (fun j=>j=cb) w7 (wc.setCell ⟨cb,1,none⟩ (.int .i64 L.length)):=q8.setCell (p:=⟨cb,1,none⟩) (fun _=>rfl) _
     have hpos:=HX.out.2.2.2.2.2.2;have hlen:=HX.out.2.2.2.2.2.1;have h9:=h8.set 1 (.int .i64 L.length);rw [← hX,show ((q:Int)+(cnt t:Int))=((q+cnt t:Nat):Int) from by omega] at h9
     refine ⟨h9,hr7.keep q9 (fun j hj e=>hj.2.1 e),hown,(hkn7.keep q9 (fun e=>hap.2.2.2.1 e)).mono (fun _ _ h=>h) (by omega),(hx7.keep q9 (fun e=>hap.2.2.2.2.1 e)).mono (fun _ _ h=>h) (by omega),H1.out.1.low,H1.out.1.okn,.inl (by simp),by simp;omega,fun y hy=>?_⟩
     rcases List.mem_append.1 hy with hy | hy
     ·exact H1.out.1.rs y hy
     ·rw [List.mem_singleton.1 hy]
      exact ⟨HX.out.1,HX.out.2.1⟩
    ·exact (((H0.out.1.mono fun _ h=>h.elim).trans (H1.out.2.1.mono fun _ h=>h.elim)).trans H7.out.1).trans (((H8.out.1.setCell (p:=⟨cb,1,none⟩) (fun _=>rfl) _)).mono fun j hj=>.inl hj)
 ·obtain ⟨jj,t',rfl,hj,e⟩:=H1.out.2.2.1 rfl (keyT t) rfl
  obtain rfl:t=t':=key_inj HX.out.1 (H1.out.1.rs t' (List.mem_of_getElem? hj)).1 e;have HJ:=hid hj;clear hj e;go_wp2_with fail
  go_end0
  refine ⟨rfl,v,[],jj,q,?_,by rw [List.append_nil];exact HJ.out,by omega,?_⟩
  ·have hap:=HX.out.2.2.2.2.1
   have h1:=H1.out.1;have q9:Keep (fun j=>j=cb) w1 (w1.setCell ⟨cb,1,none⟩ (.int .i64 jj)):=(Keep.refl (fun j=>j=cb) w1).setCell (p:=⟨cb,1,none⟩) (fun _=>rfl) _
   rw [List.append_nil];exact ⟨h1.blk.set 1 (.int .i64 jj),h1.row.keep q9 (fun j hj e=>hj.2.1 e),h1.own,h1.kn.keep q9 (fun e=>hap.2.2.2.1 e),h1.nx.keep q9 (fun e=>hap.2.2.2.2.1 e),h1.low,h1.okn,.inl (List.getElem?_eq_some_iff.1 HJ.out).1,h1.len,h1.rs⟩
  ·exact ((H0.out.1.mono fun _ h=>h.elim).trans (H1.out.2.1.mono fun _ h=>h.elim)).setCell (p:=⟨cb,1,none⟩) (fun _=>.inl rfl) _
end P12
end Go.Proofs.Ytlmfbchgkjgljaa
