/- The code's begin and step (layer 12). -/
import Derived.Test.YtlmfbchgkjgljaaKF47
import Derived.Test.YtlmfbchgkjgljaaKF51
set_option maxRecDepth 100000
set_option maxHeartbeats 32000000
open Go.Lib (hid)
namespace Go.Proofs.Ytlmfbchgkjgljaa
namespace P12
open Go.RowKit Base Bytes P07 P08 P09 P10
open Sets (ST)
theorem begin_any (t:T) (hR:Rs t) (hc:cnt t≤4000) (a:Option Addr) (c:Nat) (hcap:t.subs.length≤c) (ok:Nat→Prop) (w:World) (hL:Lie w ok a t.subs) :
  Calls Try.prog 24 #[nodeV t a c] w fun e w'=>∃ cb kb nb v L k q,e=.returned (.pointer (some ⟨cb,0,none⟩))∧Cs w.heap.size (fun j=>ok j∧j<w.heap.size) w' cb kb nb v L k q∧L[k]?=some t∧q≤cnt t∧Keep (fun _=>False) w w':=by
 obtain ⟨n,hn⟩:∃ n,w.heap.size=n:=⟨_,rfl⟩;have q1:=(Keep.refl (fun _=>False) w).alloc (.cells (ncells t a c) 27)
 have a1:=At.new w (ncells t a c) 27;have s1:(w.alloc (.cells (ncells t a c) 27)).heap.size=n+1:=by simp;omega
 have m2:=MP.new 9 (RK []) (w.alloc (.cells (ncells t a c) 27));have s2:((w.alloc (.cells (ncells t a c) 27)).alloc (.map #[] 0)).heap.size=n+2:=by simp;omega
 have m3:=MP.new 79 (RE []) ((w.alloc (.cells (ncells t a c) 27)).alloc (.map #[] 0));have s3:(((w.alloc (.cells (ncells t a c) 27)).alloc (.map #[] 0)).alloc (.map #[] 0)).heap.size=n+3:=by simp;omega
 have a4:=At.new (((w.alloc (.cells (ncells t a c) 27)).alloc (.map #[] 0)).alloc (.map #[] 0)) #[.slice none 0 0,.int .i64 ((0:Nat):Int),.map (some (n+1)),.map (some (n+2)),.int .i64 ((0:Nat):Int)] 76;rw [s1] at m2;rw [s2] at m3;rw [s3] at a4;rw [hn] at a1;have q4:=((q1.alloc (.map #[] 0)).alloc (.map #[] 0)).alloc (.cells #[.slice none 0 0,.int .i64 ((0:Nat):Int),.map (some (n+1)),.map (some (n+2)),.int .i64 ((0:Nat):Int)] 76);have b4:=((a1.alloc (.map #[] 0)).alloc (.map #[] 0)).alloc (.cells #[.slice none 0 0,.int .i64 ((0:Nat):Int),.map (some (n+1)),.map (some (n+2)),.int .i64 ((0:Nat):Int)] 76);have m2':=(m2.keep ((Keep.refl (fun _=>False) _).alloc (.map #[] 0)) (fun h=>h)).keep ((Keep.refl (fun _=>False) _).alloc (.cells #[.slice none 0 0,.int .i64 ((0:Nat):Int),.map (some (n+1)),.map (some (n+2)),.int .i64 ((0:Nat):Int)] 76)) (fun h=>h)
 have m3':=m3.keep ((Keep.refl (fun _=>False) _).alloc (.cells #[.slice none 0 0,.int .i64 ((0:Nat):Int),.map (some (n+1)),.map (some (n+2)),.int .i64 ((0:Nat):Int)] 76)) (fun h=>h)
 have H0:=hid (And.intro hR (And.intro hc (And.intro hcap (And.intro (hL.under.keepF q4) (And.intro q4 (And.intro b4 (And.intro a4 (And.intro m2' m3'))))))));have HN:=hid hn;have hmm:=@run_makeMap Try.prog;clear q1 a1 m2 m3 a4 q4 b4 m2' m3' s1 s2 s3 hL hR hc hcap
 go_enter Try.func24,Try.ntmps24
 go_upto_region 2 with fail;clear hmm
 change Code.wp _ _ _ _ ((((w.alloc (.cells (ncells t a c) 27)).alloc (.map #[] 0)).alloc (.map #[] 0)).alloc (.cells #[.slice none 0 0,.int .i64 ((0:Nat):Int),.map (some (n+1)),.map (some (n+2)),.int .i64 ((0:Nat):Int)] 76))
 generalize ((((w.alloc (.cells (ncells t a c) 27)).alloc (.map #[] 0)).alloc (.map #[] 0)).alloc (.cells #[.slice none 0 0,.int .i64 ((0:Nat):Int),.map (some (n+1)),.map (some (n+2)),.int .i64 ((0:Nat):Int)] 76))=W at *;obtain ⟨⟨y0,y1,y2,y3,y4,y5,y6,y7⟩,-⟩:=cells8 H0.out.2.2.2.2.2.1;have hcs:Cs n (fun j=>ok j∧j<n) W (n+3) (n+1) (n+2) (.slice none 0 0) [] 0 0 :=
  ⟨H0.out.2.2.2.2.2.2.1,OS.nil _ _,fun g hg=>(by cases hg),H0.out.2.2.2.2.2.2.2.1,H0.out.2.2.2.2.2.2.2.2,⟨by omega,by omega,by omega,by omega⟩,fun j hj=>hj.2,.inr ⟨rfl,rfl⟩,Nat.le_refl _,fun x hx=>(by cases hx)⟩
 have HE:=hid (enter_any hcs t H0.out.1 H0.out.2.1 (by omega) a c H0.out.2.2.1 (H0.out.2.2.2.1.mono fun j hj=>⟨⟨.inl ⟨hj.1,by have:=hj.2;have:=HN.out;omega⟩,by have:=hj.2;have:=HN.out;omega,by have:=hj.2;have:=HN.out;omega,by have:=hj.2;have:=HN.out;omega⟩,fun e=>by cases e⟩))
 clear hcs;go_wp2_with fail;refine HE.out.mono ?_;rintro e w5 ⟨rfl,v',M,k',q',hc5,hk5,hq5,qq⟩;have H5:=hid (And.intro hc5 (And.intro hk5 (And.intro hq5 qq)));clear hc5 hk5 hq5 qq y0 y1 y2 y3 y4 y5 y6 y7;go_wp2_with fail;go_ret
 refine ⟨n+3,n+1,n+2,v',[]++M,k',q',rfl,?_,H5.out.2.1,by have:=H5.out.2.2.1;omega,H0.out.2.2.2.2.1.next H5.out.2.2.2 fun i hi hlt=>by
  have:=HN.out
  rcases hi with e | e | e | e
  ·omega
  ·omega
  ·omega
  ·cases e⟩
 first
 | exact H5.out.1
 | (rw [HN.out];exact H5.out.1)
theorem step_any {n0:Nat} {ok:Nat→Prop} {w:World} {cb kb nb:Nat} {v:Value} {L:List T} {k q:Nat} (h:Cs n0 ok w cb kb nb v L k q) (t:T) (hk:L[k]?=some t) (hq:q≤262144) (b:Nat) (hb:b<256) {D:Bool} (hD:decide (cnt (byT b t)≤4000)=D) :
  Calls Try.prog 25 #[.pointer (some ⟨cb,0,none⟩),.int .u8 (b:Int)] w fun e w'=>e=.returned (.bool D)∧Keep (fun j=>n0≤j) w w'∧(D=true→∃ v' M k' q',Cs n0 ok w' cb kb nb v' (L++M) k' q'∧(L++M)[k']?=some (byT b t)∧q'≤q+4001):=by
 obtain ⟨n,hn⟩:∃ n,w.heap.size=n:=⟨_,rfl⟩;have q0:=(Keep.refl (fun _=>False) w).alloc (.cells #[.int .i64 k,.int .u8 (b:Int)] 79)
 have a0:=At.new w #[.int .i64 k,.int .u8 (b:Int)] 79;rw [hn] at a0;have hap:=h.apart;have hcs:=h.keepF q0;obtain ⟨⟨c0,c1,c2,c3,c4⟩,f0,f1,f4⟩:=cells5 h.blk;have hkl:k<L.length:=(List.getElem?_eq_some_iff.1 hk).1;obtain ⟨l,hl⟩:=key_edge k b (by have:=h.len;omega) hb
 obtain ⟨j,B,hlk,hB⟩:=hcs.nx.look lawE Try.underlying73 hl;have hyr:=(h.rs t (List.mem_of_getElem? hk));obtain ⟨y,hy⟩:∃ y,byT b t=y:=⟨_,rfl⟩;have hyy:Rs y:=by rw [← hy];exact (by_rs b t hyr.1).1
 rw [hy] at hD ⊢;have hbi0:(0:Int)≤b:=by omega
 have hbi1:(b:Int)≤255:=by omega
 have H0:=hid (And.intro q0 (And.intro a0 (And.intro hcs hlk)));have HX:=hid (And.intro hB (And.intro hap (And.intro hk (And.intro hq (And.intro hb (And.intro hl (And.intro hyr (And.intro hy (And.intro hyy (And.intro hD hkl))))))))));have HN:=hid hn;clear q0 a0 hap hcs hlk hB hyr hy hyy hD hk hq h hl hkl hb
 go_enter Try.func25,Try.ntmps25
 go_upto_region 2 with fail
 change Code.wp _ _ _ _ (w.alloc (.cells #[.int .i64 k,.int .u8 (b:Int)] 79))
 clear c0 c1 c2 c3 c4 f0 f1 f4;generalize (w.alloc (.cells #[.int .i64 k,.int .u8 (b:Int)] 79))=W1 at *;have HS:=hid (fun W (qq:Keep (fun _=>False) W1 W)=>show W.cell? ⟨cb,3,none⟩=some (.map (some nb))∧W.cell? ⟨n,0,none⟩=some (.int .i64 k)∧W.cell? ⟨n,1,none⟩=some (.int .u8 (b:Int))∧(Instr.lookup 73 (.map (some nb)) (.agg #[.int .i64 k,.int .u8 (b:Int)]) true).run Try.prog W=.ok (.tuple #[.int .i64 j,.bool B]) W from ⟨(H0.out.2.2.1.blk.keep qq (fun h=>h)).cell (o:=3) rfl,(H0.out.2.1.keep qq (fun h=>h)).cell (o:=0) rfl,(H0.out.2.1.keep qq (fun h=>h)).cell (o:=1) rfl,H0.out.2.2.2 W qq⟩)
 refine wp_region_noPanic ?_;refine wp_region_held_drew (S:=(fun W=>W.cell? ⟨cb,3,none⟩=some (.map (some nb))∧W.cell? ⟨n,0,none⟩=some (.int .i64 k)∧W.cell? ⟨n,1,none⟩=some (.int .u8 (b:Int))∧(Instr.lookup 73 (.map (some nb)) (.agg #[.int .i64 k,.int .u8 (b:Int)]) true).run Try.prog W=.ok (.tuple #[.int .i64 j,.bool B]) W)) (by kernel_rfl) ?_ (fun hHeld=>?_)
 ·exact HS.out _ ((Keep.refl (fun _=>False) W1).drew)
 refine wpAnyH_take (i:=0) (oi:=⟨_,_,_,_,_,_⟩) (v:=?_) rfl (by kernel_rfl) (by kernel_rfl) (by kernel_rfl) (fun _ _ _ h=>h) (Or.inl ⟨by rfl,?_⟩) (by assumption) ?_
 rotate_left 1
 ·(intro w hSw;(try dsimp only at hSw);go_simp;first | done | with_reducible rfl)
 try simp only [Act.put,List.setIfInBounds_toArray,List.set_cons_zero,List.set_cons_succ]
 refine wpAnyH_take (i:=1) (oi:=⟨_,_,_,_,_,_⟩) (v:=?_) rfl (by kernel_rfl) (by kernel_rfl) (by kernel_rfl) (fun _ _ _ h=>h) (Or.inl ⟨by rfl,?_⟩) (by assumption) ?_
 rotate_left 1
 ·(intro w hSw;(try dsimp only at hSw);go_simp;first | done | with_reducible rfl)
 try simp only [Act.put,List.setIfInBounds_toArray,List.set_cons_zero,List.set_cons_succ]
 refine wpAnyH_take (i:=2) (oi:=⟨_,_,_,_,_,_⟩) (v:=?_) rfl (by kernel_rfl) (by kernel_rfl) (by kernel_rfl) (fun _ _ _ h=>h) (Or.inl ⟨by rfl,?_⟩) (by assumption) ?_
 rotate_left 1
 ·(intro w hSw;(try dsimp only at hSw);go_simp;first | done | with_reducible rfl)
 try simp only [Act.put,List.setIfInBounds_toArray,List.set_cons_zero,List.set_cons_succ]
 refine wpAnyH_take (i:=3) (oi:=⟨_,_,_,_,_,_⟩) (v:=?_) rfl (by kernel_rfl) (by kernel_rfl) (by kernel_rfl) (fun _ _ _ h=>h) (Or.inl ⟨by rfl,?_⟩) (by assumption) ?_
 rotate_left 1
 ·(intro w hSw;(try dsimp only at hSw);go_simp;first | done | with_reducible rfl)
 try simp only [Act.put,List.setIfInBounds_toArray,List.set_cons_zero,List.set_cons_succ]
 refine wpAnyH_take (i:=4) (oi:=⟨_,_,_,_,_,_⟩) (v:=?_) rfl (by kernel_rfl) (by kernel_rfl) (by kernel_rfl) (fun _ _ _ h=>h) (Or.inl ⟨by rfl,?_⟩) (by assumption) ?_
 rotate_left 1
 ·(intro w hSw;(try dsimp only at hSw);go_simp;first | done | with_reducible rfl)
 try simp only [Act.put,List.setIfInBounds_toArray,List.set_cons_zero,List.set_cons_succ]
 refine wpAnyH_take (i:=5) (oi:=⟨_,_,_,_,_,_⟩) (v:=?_) rfl (by kernel_rfl) (by kernel_rfl) (by kernel_rfl) (fun _ _ _ h=>h) (Or.inl ⟨by rfl,?_⟩) (by assumption) ?_
 rotate_left 1
 ·(intro w hSw;(try dsimp only at hSw);go_simp;first | done | with_reducible rfl)
 try simp only [Act.put,List.setIfInBounds_toArray,List.set_cons_zero,List.set_cons_succ]
 refine wpAnyH_take (i:=6) (oi:=⟨_,_,_,_,_,_⟩) (v:=?_) rfl (by kernel_rfl) (by kernel_rfl) (by kernel_rfl) (fun _ _ _ h=>h) (Or.inl ⟨by rfl,?_⟩) (by assumption) ?_
 rotate_left 1
 ·(intro w hSw;(try dsimp only at hSw);go_simp;first | done | with_reducible rfl)
 try simp only [Act.put,List.setIfInBounds_toArray,List.set_cons_zero,List.set_cons_succ]
 refine wpAnyH_take (i:=7) (oi:=⟨_,_,_,_,_,_⟩) (v:=?_) rfl (by kernel_rfl) (by kernel_rfl) (by kernel_rfl) (fun _ _ _ h=>h) (Or.inl ⟨by rfl,?_⟩) (by assumption) ?_
 rotate_left 1
 ·(intro w hSw;(try dsimp only at hSw);go_simp;first | done | with_reducible rfl)
 try simp only [Act.put,List.setIfInBounds_toArray,List.set_cons_zero,List.set_cons_succ]
 refine wpAnyH_take (i:=8) (oi:=⟨_,_,_,_,_,_⟩) (v:=?_) rfl (by kernel_rfl) (by kernel_rfl) (by kernel_rfl) (fun _ _ _ h=>h) (Or.inl ⟨by rfl,?_⟩) (by assumption) ?_
 rotate_left 1
 ·(intro w hSw;(try dsimp only at hSw);go_simp;first | done | with_reducible rfl)
 try simp only [Act.put,List.setIfInBounds_toArray,List.set_cons_zero,List.set_cons_succ]
 refine wpAnyH_take (i:=9) (oi:=⟨_,_,_,_,_,_⟩) (v:=?_) rfl (by kernel_rfl) (by kernel_rfl) (by kernel_rfl) (fun _ _ _ h=>h) (Or.inl ⟨by rfl,?_⟩) (by assumption) ?_
 rotate_left 1
 ·(intro w hSw;(try dsimp only at hSw);go_simp;first | done | with_reducible rfl)
 try simp only [Act.put,List.setIfInBounds_toArray,List.set_cons_zero,List.set_cons_succ]
 refine wpAnyH_take (i:=10) (oi:=⟨_,_,_,_,_,_⟩) (v:=?_) rfl (by kernel_rfl) (by kernel_rfl) (by kernel_rfl) (fun _ _ _ h=>h) (Or.inl ⟨by rfl,?_⟩) (by assumption) ?_
 rotate_left 1
 ·(intro w hSw;(try dsimp only at hSw);go_simp;first | done | with_reducible rfl)
 try simp only [Act.put,List.setIfInBounds_toArray,List.set_cons_zero,List.set_cons_succ]
 refine wpAnyH_done (by kernel_rfl) ?_ _
 refine NoPanic.normal ?_;rotate_left 1;have Q1:=hid ((Keep.refl (fun _=>False) W1).drew)
 clear hHeld;generalize W1.drew=W2 at *;have hcs2:=H0.out.2.2.1.keepF Q1.out;have hlt2:=hcs2.blk.lt
 cases B
 ·obtain ⟨g,cap,na,nc,hv,hg,hnd,-,hcap,hlie⟩:=hcs2.row.get HX.out.2.2.1
  have HH:=hid (here_any W2 cb g L.length cap k (.map (some kb)) (.map (some nb)) (.int .i64 q) (by rw [← hv];exact hcs2.blk) HX.out.2.2.2.2.2.2.2.2.2.2)
  have H2:=hid (And.intro hcs2 (And.intro hnd (And.intro hlie hcap)));clear hcs2 hv hg hnd hcap hlie;go_wp2_with fail;refine HH.out.mono ?_;rintro e w3 ⟨rfl,q3⟩;have HOf:=hid (bh_any b HX.out.2.2.2.2.1 4000 t HX.out.2.2.2.2.2.2.1.1 ⟨HX.out.2.2.2.2.2.2.1.2,.inl rfl⟩ g (k * 9) na nc (fun j=>Ec n0 ok cb kb nb j∧v.ownBlock≠some j) w3 (H2.out.2.1.keepF q3) (H2.out.2.2.1.keepF q3) H2.out.2.2.2)
  unfold Ofd at HOf;rw [HX.out.2.2.2.2.2.2.2.1,show decide ((cnt y:Int)≤4000)=D from by rw [← HX.out.2.2.2.2.2.2.2.2.2.1];exact decide_eq_decide.2 (by omega)] at HOf
  have Q3:=hid q3;clear q3;go_wp2_with fail;refine HOf.out.mono ?_;rintro e w4 ⟨z,⟨⟨vv,rfl,xa,xc,rfl,hle,hlie⟩,q4⟩,hz⟩;have qa:=(Keep.refl (fun _=>False) w4).alloc (.cells (ncells z xa xc) 27)
  have aa:=At.new w4 (ncells z xa xc) 27;obtain ⟨n4,hn4⟩:∃ n4,w4.heap.size=n4:=⟨_,rfl⟩;rw [hn4] at aa;have q14:=(Q1.out.trans Q3.out).trans q4;have hap:=HX.out.2.1;have s1:=H0.out.1.size;have s3:=((Q1.out.trans Q3.out)).size
  have H4:=hid (And.intro (H0.out.2.2.1.keepF (q14.trans qa)) (And.intro aa (And.intro hle (And.intro ((hlie.keepF qa).mono (ok':=fun j=>Ec n0 ok cb kb nb j∧v.ownBlock≠some j) (fun j hj=>by
   rcases hj with hj | hj
   ·exact hj
   ·have hlow:=H0.out.2.2.1.low
    exact ⟨⟨.inr (by omega),by omega,by omega,by omega⟩,fun e=>by have:=(hap.2.2.2.2.2.2 j e).1;omega⟩)) (And.intro hz (And.intro (H0.out.1.trans (q14.trans qa)) (H0.out.2.1.keep (q14.trans qa) (fun h=>h))))))))
  clear hle hlie hz q4 qa aa q14 hap s1 s3;go_upto_region 7 with fail
  change Code.wp _ _ _ _ (w4.alloc (.cells (ncells z xa xc) 27))
  generalize (w4.alloc (.cells (ncells z xa xc) 27))=W5 at *
  cases D
  ·go_wp2_with fail
   go_ret;exact ⟨rfl,H4.out.2.2.2.2.2.1.mono fun _ h=>h.elim,fun h=>by cases h⟩
  ·obtain rfl:z=y:=H4.out.2.2.2.2.1 (by have:=of_decide_eq_true HX.out.2.2.2.2.2.2.2.2.2.1;omega)
   have hqb:¬ (262144:Int)<q:=by have:=HX.out.2.2.2.1;omega
   obtain ⟨⟨c0,c1,c2,c3,c4⟩,f0,f1,f4⟩:=cells5 H4.out.1.blk;obtain ⟨⟨y0,y1,y2,y3,y4,y5,y6,y7⟩,-⟩:=cells8 H4.out.2.1;have HEn:=hid (enter_any H4.out.1 z HX.out.2.2.2.2.2.2.2.2.1 (of_decide_eq_true HX.out.2.2.2.2.2.2.2.2.2.1) HX.out.2.2.2.1 xa xc H4.out.2.2.1 H4.out.2.2.2.1);go_wp2_with fail;refine HEn.out.mono ?_;rintro e w6 ⟨rfl,v',M,k',q',hc6,hk6,hq6,q6⟩;clear c0 c1 c2 c3 c4 f0 f1 f4 y0 y1 y2 y3 y4 y5 y6 y7 hqb;have hq'b:q'≤266144:=by have:=of_decide_eq_true HX.out.2.2.2.2.2.2.2.2.2.1;have:=HX.out.2.2.2.1;omega
   have hk'b:k'<(L++M).length:=(List.getElem?_eq_some_iff.1 hk6).1;have hll:=hc6.len
   obtain ⟨w7,hput,hm7,q7⟩:=(hc6.nx.keep ((Keep.refl (fun _=>False) w6).drew) (fun h=>h)).put lawE Try.underlying73 HX.out.2.2.2.2.2.1 (c:=k') (WalkArith.wf_i64 (by omega)) (by simp only [maxLen];omega) (fun f b' e=>by
    injection e with e;injection e with e;injection e with e1 e2;injection e2 with e2 _;injection e1 with _ e1;injection e2 with _ e2;have e1:k=f:=by omega
    have e2:b=b':=by omega
    subst e1 e2
    exact ⟨k',t,get_app HX.out.2.2.1,rfl,by rw [HX.out.2.2.2.2.2.2.2.1];exact hk6⟩)
   have hedge:∀ W,Keep (fun j=>j=nb) w6 W→At W n 79 #[.int .i64 k,.int .u8 (b:Int)]:=fun W qq=>by
    have hap:=HX.out.2.1;have hnn:=HN.out;refine (H4.out.2.2.2.2.2.2.keep q6 (fun e=>?_)).keep qq (fun e=>by have:=hap.2.2.1;omega)
    rcases e with e | e | e | e
    ·have:=hap.1
     omega
    ·have:=hap.2.1
     omega
    ·have:=hap.2.2.1
     omega
    ·have:=(hap.2.2.2.2.2.2 n e).1
     omega
   have HS6:=hid (fun W (qq:Keep (fun j=>j=nb) w6 W)=>show W.cell? ⟨cb,1,none⟩=some (.int .i64 k')∧W.cell? ⟨cb,3,none⟩=some (.map (some nb))∧W.cell? ⟨n,0,none⟩=some (.int .i64 k)∧W.cell? ⟨n,1,none⟩=some (.int .u8 (b:Int)) from ⟨(hc6.blk.keep qq (fun e=>hc6.apart.2.2.2.2.1 e.symm)).cell (o:=1) rfl,(hc6.blk.keep qq (fun e=>hc6.apart.2.2.2.2.1 e.symm)).cell (o:=3) rfl,(hedge W qq).cell (o:=0) rfl,(hedge W qq).cell (o:=1) rfl⟩)
   have H7:=hid (And.intro hm7 (And.intro q7 (And.intro hc6 (And.intro hk6 (And.intro hq6 q6)))));clear hm7 q7 hc6 hk6 hq6 q6 hedge;go_upto_region 13 with fail;refine wp_region_noPanic ?_;refine wp_region_held_drew (S:=(fun W=>W.cell? ⟨cb,1,none⟩=some (.int .i64 k')∧W.cell? ⟨cb,3,none⟩=some (.map (some nb))∧W.cell? ⟨n,0,none⟩=some (.int .i64 k)∧W.cell? ⟨n,1,none⟩=some (.int .u8 (b:Int)))) (by kernel_rfl) ?_ (fun hHeld=>?_)
   ·exact HS6.out _ ((Keep.refl (fun j=>j=nb) w6).drew)
   refine wpAnyH_take (i:=0) (oi:=⟨_,_,_,_,_,_⟩) (v:=?_) rfl (by kernel_rfl) (by kernel_rfl) (by kernel_rfl) (fun _ _ _ h=>h) (Or.inl ⟨by rfl,?_⟩) (by assumption) ?_
   rotate_left 1
   ·(intro w hSw;(try dsimp only at hSw);go_simp;first | done | with_reducible rfl)
   try simp only [Act.put,List.setIfInBounds_toArray,List.set_cons_zero,List.set_cons_succ]
   refine wpAnyH_take (i:=1) (oi:=⟨_,_,_,_,_,_⟩) (v:=?_) rfl (by kernel_rfl) (by kernel_rfl) (by kernel_rfl) (fun _ _ _ h=>h) (Or.inl ⟨by rfl,?_⟩) (by assumption) ?_
   rotate_left 1
   ·(intro w hSw;(try dsimp only at hSw);go_simp;first | done | with_reducible rfl)
   try simp only [Act.put,List.setIfInBounds_toArray,List.set_cons_zero,List.set_cons_succ]
   refine wpAnyH_take (i:=2) (oi:=⟨_,_,_,_,_,_⟩) (v:=?_) rfl (by kernel_rfl) (by kernel_rfl) (by kernel_rfl) (fun _ _ _ h=>h) (Or.inl ⟨by rfl,?_⟩) (by assumption) ?_
   rotate_left 1
   ·(intro w hSw;(try dsimp only at hSw);go_simp;first | done | with_reducible rfl)
   try simp only [Act.put,List.setIfInBounds_toArray,List.set_cons_zero,List.set_cons_succ]
   refine wpAnyH_take (i:=3) (oi:=⟨_,_,_,_,_,_⟩) (v:=?_) rfl (by kernel_rfl) (by kernel_rfl) (by kernel_rfl) (fun _ _ _ h=>h) (Or.inl ⟨by rfl,?_⟩) (by assumption) ?_
   rotate_left 1
   ·(intro w hSw;(try dsimp only at hSw);go_simp;first | done | with_reducible rfl)
   try simp only [Act.put,List.setIfInBounds_toArray,List.set_cons_zero,List.set_cons_succ]
   refine wpAnyH_take (i:=4) (oi:=⟨_,_,_,_,_,_⟩) (v:=?_) rfl (by kernel_rfl) (by kernel_rfl) (by kernel_rfl) (fun _ _ _ h=>h) (Or.inl ⟨by rfl,?_⟩) (by assumption) ?_
   rotate_left 1
   ·(intro w hSw;(try dsimp only at hSw);go_simp;first | done | with_reducible rfl)
   try simp only [Act.put,List.setIfInBounds_toArray,List.set_cons_zero,List.set_cons_succ]
   refine wpAnyH_take (i:=5) (oi:=⟨_,_,_,_,_,_⟩) (v:=?_) rfl (by kernel_rfl) (by kernel_rfl) (by kernel_rfl) (fun _ _ _ h=>h) (Or.inl ⟨by rfl,?_⟩) (by assumption) ?_
   rotate_left 1
   ·(intro w hSw;(try dsimp only at hSw);go_simp;first | done | with_reducible rfl)
   try simp only [Act.put,List.setIfInBounds_toArray,List.set_cons_zero,List.set_cons_succ]
   refine wpAnyH_take (i:=6) (oi:=⟨_,_,_,_,_,_⟩) (v:=?_) rfl (by kernel_rfl) (by kernel_rfl) (by kernel_rfl) (fun _ _ _ h=>h) (Or.inl ⟨by rfl,?_⟩) (by assumption) ?_
   rotate_left 1
   ·(intro w hSw;(try dsimp only at hSw);go_simp;first | done | with_reducible rfl)
   try simp only [Act.put,List.setIfInBounds_toArray,List.set_cons_zero,List.set_cons_succ]
   refine wpAnyH_take (i:=7) (oi:=⟨_,_,_,_,_,_⟩) (v:=?_) rfl (by kernel_rfl) (by kernel_rfl) (by kernel_rfl) (fun _ _ _ h=>h) (Or.inl ⟨by rfl,?_⟩) (by assumption) ?_
   rotate_left 1
   ·(intro w hSw;(try dsimp only at hSw);go_simp;first | done | with_reducible rfl)
   try simp only [Act.put,List.setIfInBounds_toArray,List.set_cons_zero,List.set_cons_succ]
   refine wpAnyH_take (i:=8) (oi:=⟨_,_,_,_,_,_⟩) (v:=?_) rfl (by kernel_rfl) (by kernel_rfl) (by kernel_rfl) (fun _ _ _ h=>h) (Or.inl ⟨by rfl,?_⟩) (by assumption) ?_
   rotate_left 1
   ·(intro w hSw;(try dsimp only at hSw);go_simp;first | done | with_reducible rfl)
   try simp only [Act.put,List.setIfInBounds_toArray,List.set_cons_zero,List.set_cons_succ]
   refine wpAnyH_ready (rs:=[9]) (by kernel_rfl) (by simp) ?_
   refine (AllReadyH.cons (o:=⟨_,_,_,_,_,_⟩) rfl (fun K hK=>?_) AllReadyH.nil)
   have HSM:=hid (HS6.out w7 (((Keep.refl (fun j=>j=nb) w6).drew).trans H7.out.2.1))
   go_simp;refine hK.out _ _ ?_ (fun hHeld'=>?_)
   ·exact HSM.out
   clear hK K hHeld;have hHeld:=hHeld';clear hHeld'
   try simp only [Act.put,List.setIfInBounds_toArray,List.set_cons_zero,List.set_cons_succ]
   refine wpAnyH_done (by kernel_rfl) ?_ _
   refine NoPanic.normal ?_;rotate_left 1;have K7:=hid ((((Keep.refl (fun j=>j=nb) w6).drew)).trans H7.out.2.1)
   have hb7:=H7.out.2.2.1.blk.keep K7.out (fun e=>H7.out.2.2.1.apart.2.2.2.2.1 e.symm)
   obtain ⟨⟨c0,c1,c2,c3,c4⟩,f0,f1,f4⟩:=cells5 hb7;have tl7:=hb7.lt;have hq0:(0:Int)≤q':=by omega
   have hq1:(q':Int)≤266144:=by omega
   have HB7:=hid hb7;clear hb7 hHeld;go_wp2_with fail;go_ret;refine ⟨rfl,?_,⟨v',M,k',q'+1,?_,H7.out.2.2.2.1,by have:=H7.out.2.2.2.2.1;have:=of_decide_eq_true HX.out.2.2.2.2.2.2.2.2.2.1;omega⟩⟩
   ·have hlow:=H7.out.2.2.1.low
    have hz0:∀ j,Zc cb kb nb v j→n0≤j:=fun j hj=>by
     rcases hj with rfl | rfl | rfl | e
     ·exact hlow.1
     ·exact hlow.2.1
     ·exact hlow.2.2.1
     ·exact (HX.out.2.1.2.2.2.2.2.2 j e).2.1
    exact (((H4.out.2.2.2.2.2.1.mono fun _ h=>h.elim).trans (H7.out.2.2.2.2.2.mono fun j hj=>hz0 j hj)).trans (K7.out.mono fun j hj=>by rw [hj];exact hlow.2.2.1)).setCell (p:=⟨cb,4,none⟩) (fun _=>hlow.1) _
   ·have h6:=H7.out.2.2.1
    have hap:=h6.apart;have q8:Keep (fun j=>j=cb) w7 (w7.setCell ⟨cb,4,none⟩ (.int .i64 ((q':Int)+1))):=(Keep.refl (fun j=>j=cb) w7).setCell (p:=⟨cb,4,none⟩) (fun _=>rfl) _
    have hb8:=HB7.out.set 4 (.int .i64 ((q':Int)+1));rw [show ((q':Int)+1)=((q'+1:Nat):Int) from by omega] at hb8 q8 ⊢
    exact ⟨hb8,(h6.row.keep K7.out (fun j hj e=>hj.2.2.2 e)).keep q8 (fun j hj e=>hj.2.1 e),h6.own,((h6.kn.keep K7.out (fun e=>hap.2.2.2.2.2.1 e)).keep q8 (fun e=>hap.2.2.2.1 e)).mono (fun _ _ h=>h) (by omega),(H7.out.1.keep q8 (fun e=>hap.2.2.2.2.1 e)).mono (fun _ _ h=>h) (by omega),h6.low,h6.okn,h6.num,by have:=h6.len;omega,h6.rs⟩
 ·obtain ⟨jj,t',h1,rfl,h3⟩:=HX.out.1 rfl k b rfl
  obtain rfl:t=t':=by
   rw [HX.out.2.2.1] at h1;injection h1
  rw [HX.out.2.2.2.2.2.2.2.1] at h3;have hcy:=(H0.out.2.2.1.rs y (List.mem_of_getElem? h3)).2;obtain rfl:D=true:=by rw [← HX.out.2.2.2.2.2.2.2.2.2.1];exact decide_eq_true hcy
  have HJ:=hid (And.intro h3 hcs2);obtain ⟨⟨c0,c1,c2,c3,c4⟩,f0,f1,f4⟩:=cells5 hcs2.blk;clear h1 h3 hcy hcs2;go_wp2_with fail;go_ret;have h2:=HJ.out.2;have hap:=h2.apart;have q9:Keep (fun j=>j=cb) W2 (W2.setCell ⟨cb,1,none⟩ (.int .i64 jj)):=(Keep.refl (fun j=>j=cb) W2).setCell (p:=⟨cb,1,none⟩) (fun _=>rfl) _
  refine ⟨rfl,((H0.out.1.trans Q1.out).mono fun _ h=>h.elim).trans (q9.mono fun j hj=>by rw [hj];exact h2.low.1),⟨v,[],jj,q,?_,by rw [List.append_nil];exact HJ.out.1,by omega⟩⟩
  rw [List.append_nil];exact ⟨h2.blk.set 1 (.int .i64 jj),h2.row.keep q9 (fun j hj e=>hj.2.1 e),h2.own,h2.kn.keep q9 (fun e=>hap.2.2.2.1 e),h2.nx.keep q9 (fun e=>hap.2.2.2.2.1 e),h2.low,h2.okn,.inl (List.getElem?_eq_some_iff.1 HJ.out.1).1,h2.len,h2.rs⟩
end P12
namespace P12
open Go.RowKit Base Bytes P07 P08 P09 P10
open Sets (ST)
theorem Cs.at_ {n0:Nat} {ok:Nat→Prop} {w:World} {cb kb nb:Nat} {v:Value} {L:List T} {k q:Nat} (h:Cs n0 ok w cb kb nb v L k q) {t:T} (hk:L[k]?=some t) :
  ∃ g a c,NodeP w g (k * 9) t a c∧w.cell? ⟨g,k * 9+8,none⟩=some (.bool (nullB t))∧t.subs.length≤c∧Lie w (Ec n0 ok cb kb nb) a t.subs∧∀ W,Keep (fun _=>False) w W→Calls Try.prog 26 #[.pointer (some ⟨cb,0,none⟩)] W fun e w'=>e=.returned (.pointer (some ⟨g,k * 9,none⟩))∧Keep (fun _=>False) W w':=by
 obtain ⟨g,cap,na,nc,hv,hg,hnd,h8,hcap,hlie⟩:=h.row.get hk;refine ⟨g,na,nc,hnd,h8,hcap,hlie.mono fun j hj=>hj.1,fun W qq=>?_⟩
 exact here_any W cb g L.length cap k (.map (some kb)) (.map (some nb)) (.int .i64 q) (by rw [← hv];exact h.blk.keep qq (fun h=>h)) (List.getElem?_eq_some_iff.1 hk).1
theorem cword_right (s:List UInt8) (hsl:s.length≤60) (t:T) (hR:RT 12 t) (hcnt:cnt t≤4000) (o:Option T) (ho:wordG (simT t) s=o) (a:Option Addr) (c:Nat) (ok:Nat→Prop) (w:World) (hL:Lie w ok a t.subs) (hc:t.subs.length≤c) :
  Calls Try.prog 11 #[nodeV t a c,str s] w (Gives2 w ok (o.getD zT) (cond o.isSome 0 11)):=by
 have ba:=(At.new w (ncells t a c) 27).alloc (.cells nzeros 27);have r0:Rb w (w.heap.size+1) ((w.alloc (.cells (ncells t a c) 27)).alloc (.cells nzeros 27)):=by
  refine ⟨?_,((Keep.refl (fun _=>False) w).alloc _).alloc _,by omega⟩
  have:=At.new (w.alloc (.cells (ncells t a c) 27)) nzeros 27;rw [show (w.alloc (.cells (ncells t a c) 27)).heap.size=w.heap.size+1 from by simp] at this
  exact this
 have hsm:=(sim_ok t 12 hR).1;have HIX:=hid (P07.index_run s);have HL:=hid (hL.under.keepF r0.keep);have HB:=hid ba;have HR:=hid r0;obtain ⟨n,hn⟩:∃ n,w.heap.size=n:=⟨_,rfl⟩;obtain ⟨u0,hu0⟩:∃ u0,simT t=u0:=⟨_,rfl⟩;rw [hu0] at ho;have H0:=hid (And.intro hR (And.intro hcnt (And.intro hc (And.intro (show Rs u0∧cnt u0≤4000 by rw [← hu0];exact ⟨⟨12,hsm.rt,hsm.smp⟩,Nat.le_trans hsm.cnt hcnt⟩) (And.intro ho (And.intro hu0 (And.intro hsl hn)))))))
 have hs0:((w.alloc (.cells (ncells t a c) 27)).alloc (.cells nzeros 27)).heap.size=w.heap.size+2:=by simp
 have HZ:=hid hs0;clear ba r0 hL hR hcnt hc hsm ho hu0 hs0 hn
 go_enter Try.func11,Try.ntmps11
 go_upto_region 1 with fail;generalize ((w.alloc (.cells (ncells t a c) 27)).alloc (.cells nzeros 27))=W0 at *;obtain ⟨⟨y0,y1,y2,y3,y4,y5,y6,y7⟩,-⟩:=cells8 HB.out;have HS:=hid (csimple_right t H0.out.1 (by have:=H0.out.2.1;omega) a c (fun k=>ok k∧k<w.heap.size) W0 HL.out H0.out.2.2.1)
 rw [H0.out.2.2.2.2.2.1] at HS;go_wp2_with fail;refine HS.out.mono ?_;rintro e w2 ⟨⟨v0,rfl,ka,kc,rfl,hle,hlie⟩,q2⟩;have R2:=hid (HR.out.next q2);have hlie2:=hlie.mono (ok':=fun k=>(ok k∨w.heap.size≤k)∧k≠w.heap.size+1) (fun k hk=>by have z0:=HZ.out;rcases hk with hk | hk;exact ⟨.inl hk.1,by have:=hk.2;omega⟩;exact ⟨.inr (by omega),by omega⟩)
 have a9:=At.new w2 (ncells u0 ka kc) 27;have q9:=(Keep.refl (fun _=>False) w2).alloc (.cells (ncells u0 ka kc) 27)
 have A9:=hid (And.intro a9 (And.intro (R2.out.next q9) (And.intro (hlie2.keepF q9) hle)));obtain ⟨g,hg⟩:∃ g,w2.heap.size=g:=⟨_,rfl⟩;rw [hg] at A9;clear hle hlie hlie2 q2 y0 y1 y2 y3 y4 y5 y6 y7 a9 q9;go_upto_region 4 with fail
 change Code.wp _ _ _ _ (w2.alloc (.cells (ncells u0 ka kc) 27))
 generalize (w2.alloc (.cells (ncells u0 ka kc) 27))=W3 at *;obtain ⟨⟨d0,d1,d2,d3,d4,d5,d6,d7⟩,-⟩:=cells8 A9.out.1;have HBg:=hid (begin_any u0 H0.out.2.2.2.1.1 H0.out.2.2.2.1.2 ka kc A9.out.2.2.2 (fun k=>(ok k∨w.heap.size≤k)∧k≠w.heap.size+1) W3 A9.out.2.2.1)
 have hz3:=A9.out.2.1.out.lt;obtain ⟨n3,hn3⟩:∃ n3,W3.heap.size=n3:=⟨_,rfl⟩;rw [hn3] at HBg hz3;clear hg;go_wp2_with fail;refine HBg.out.mono ?_;rintro e w4 ⟨cb,kb,nb,v,L,k0,q0,rfl,hcs,hk0,hq0,q4⟩;have H4:=hid (And.intro hcs (And.intro hk0 (And.intro hq0 (A9.out.2.1.next q4))));clear hcs hk0 hq0 q4 d0 d1 d2 d3 d4 d5 d6 d7;go_wp2_with fail
 go_loopg [9,23] s.length (fun gg x i wr=>∃ (k:Nat) (v:Value) (L:List T) (kk q:Nat) (u:T),i=.int .i64 k∧k+gg=s.length∧Cs n3 (fun j=>((ok j∨w.heap.size≤j)∧j≠w.heap.size+1)∧j<n3) wr cb kb nb v L kk q∧L[kk]?=some u∧wordG u (s.drop k)=o∧q≤4000+4001 * k∧Keep (fun j=>n3≤j) w4 wr)
 case atStart=>exact ⟨0,v,L,k0,q0,u0,rfl,by omega,H4.out.1,H4.out.2.1,by rw [List.drop_zero];exact H0.out.2.2.2.2.1,by have:=H4.out.2.2.1;have:=H0.out.2.2.2.1.2;omega,Keep.refl _ _⟩
 case round =>
  obtain ⟨k,v,L,kk,q,u,rfl,hk,hcs,hkk,hwd,hq,hK⟩:=hrel;have k0:(0:Int)≤k:=by omega
  have hRz:Rb w (w.heap.size+1) wr:=⟨H4.out.2.2.2.out.keep hK (fun e=>by omega),H4.out.2.2.2.keep.next hK (fun i hi hlt=>by omega),H4.out.2.2.2.lt⟩
  by_cases hlt:k<s.length
  ·have hlt':(k:Int)<s.length:=by omega
   have hixk:=HIX.out k hlt;rw [word_drop hlt] at hwd;have hbl:=P07.byteAt_lt s k;obtain ⟨b,hb⟩:∃ b,P07.byteAt s k=b:=⟨_,rfl⟩;rw [hb] at hixk hwd hbl;obtain ⟨D,hD⟩:∃ D,decide (cnt (byT b u)≤4000)=D:=⟨_,rfl⟩;have HSt:=hid (step_any hcs u hkk (by have:=H0.out.2.2.2.2.2.2.1;omega) b hbl hD)
   have HQ:=hid (And.intro hwd (And.intro hD (And.intro hq (And.intro hK hRz))));clear hcs hkk hwd hq hK hRz hD hb;go_wp2_with fail;refine HSt.out.mono ?_;rintro e w5 ⟨rfl,q5,hst⟩;have H5:=hid (And.intro q5 hst);clear q5 hst
   cases D
   ·have ho:o=none:=by rw [← HQ.out.1,if_pos (by have:=of_decide_eq_false HQ.out.2.1;omega)]
    subst ho;have R5:=hid (show Rb w (w.heap.size+1) w5 from ⟨HQ.out.2.2.2.2.out.keep H5.out.1 (fun e=>by omega),HQ.out.2.2.2.2.keep.next H5.out.1 (fun i hi hlt=>by omega),HQ.out.2.2.2.2.lt⟩)
    obtain ⟨⟨d0,d1,d2,d3,d4,d5,d6,d7⟩,f0,f1,f2,f3,f4,f5,f6,f7⟩:=cells8 R5.out.out;have hlt5:=R5.out.out.lt;go_wp2_with fail
    change bodyPost _ _ _ _ _ (putNd w5 (w.heap.size+1) 0 zT none 0)
    have hP:=R5.out.put zT none 0;have hG:=R5.out.gives (ok:=ok) (t:=zT) (Nat.le_refl 0) (.nil none);generalize (putNd w5 (w.heap.size+1) 0 zT none 0)=W8 at hP hG ⊢;obtain ⟨⟨e0,e1,e2,e3,e4,e5,e6,e7⟩,-⟩:=cells8 hP.1;exact bodyPost_ret (v:=.tuple #[nodeV zT none 0,.int .i64 11]) (by simp [results,Try.results11,go_sem,e0,e1,e2,e3,e4,e5,e6,e7]) rfl (gives2 hG)
   ·obtain ⟨v',M,k',q',hc',hk',hq'⟩:=H5.out.2 rfl
    have HN:=hid (And.intro hc' (And.intro hk' (And.intro (show wordG (byT b u) (s.drop (k+1))=o by rw [← HQ.out.1,if_neg (by have:=of_decide_eq_true HQ.out.2.1;omega)]) (And.intro (show q'≤4000+4001 * (k+1) by have:=HQ.out.2.2.1;omega) (HQ.out.2.2.2.1.trans H5.out.1)))))
    clear hc' hk' hq';go_wp2_with fail
    go_roundg (s.length - (k+1))
    case measure=>omega
    case rel=>exact ⟨k+1,v',L++M,k',q',byT b u,by go_num,by omega,HN.out⟩
  ·have hke:k=s.length:=by omega
   subst hke;rw [List.drop_length,wordG] at hwd;subst hwd;obtain ⟨gs,na,nc,hnd,-,hcap,hlie,hh⟩:=hcs.at_ hkk;have HH:=hid (And.intro (hh wr (Keep.refl _ wr)) (And.intro hnd (And.intro hcap (And.intro hlie hRz))));clear hcs hkk hq hK hRz hnd hcap hlie hh;go_wp2_with fail;refine HH.out.1.mono ?_;rintro e w6 ⟨rfl,q6⟩;have R6:=hid (HH.out.2.2.2.2.next q6);obtain ⟨x0,x1,x2,x3,x4,x5,x6,x7⟩:=(HH.out.2.1.keepF q6).eight;obtain ⟨⟨d0,d1,d2,d3,d4,d5,d6,d7⟩,f0,f1,f2,f3,f4,f5,f6,f7⟩:=cells8 R6.out.out;have hlt6:=R6.out.out.lt;have hlie6:=hid ((HH.out.2.2.2.1.keepF q6).mono (ok':=fun j=>(ok j∨w.heap.size≤j)∧j≠w.heap.size+1) (fun j hj=>by rcases hj.1 with h | h;exact h.1;exact ⟨.inr (by omega),by omega⟩))
   clear q6;go_wp2_with fail
   change bodyPost _ _ _ _ _ (putNd w6 (w.heap.size+1) 0 u na nc)
   have hP:=R6.out.put u na nc;have hG:=R6.out.gives (ok:=ok) (t:=u) HH.out.2.2.1 hlie6.out;generalize (putNd w6 (w.heap.size+1) 0 u na nc)=W8 at hP hG ⊢;obtain ⟨⟨e0,e1,e2,e3,e4,e5,e6,e7⟩,-⟩:=cells8 hP.1;exact bodyPost_ret (v:=.tuple #[nodeV u na nc,.int .i64 0]) (by simp [results,Try.results11,go_sem,e0,e1,e2,e3,e4,e5,e6,e7]) rfl (gives2 hG)
end P12
namespace P12
open Go.RowKit Base Bytes P07 P08 P09 P10
open Sets (ST)
theorem isno_same {u:T} {d:Nat} (h:RT d u):isNo u=sameB u noT:=by
 rw [Bool.eq_iff_iff,sameB_iff];exact ⟨fun hn=>no_is h hn,fun e=>by rw [e];exact isNo_noT⟩
theorem clong_right (s:List UInt8) (hsl:s.length≤60) (t:T) (hR:RT 12 t) (hcnt:cnt t≤4000) (f:Nat) (hf:f≤s.length) (o:Option Int) (ho:longG (simT t) (-1) f (s.drop f)=o) (a:Option Addr) (c:Nat) (ok:Nat→Prop) (w:World) (hL:Lie w ok a t.subs) (hc:t.subs.length≤c) :
  Calls Try.prog 13 #[nodeV t a c,str s,.int .i64 (f:Int)] w fun e w'=>e=.returned (.tuple #[.int .i64 (o.getD 0),.int .i64 (cond o.isSome 0 11)])∧Keep (fun _=>False) w w':=by
 have ba:=At.new w (ncells t a c) 27;have q0:=(Keep.refl (fun _=>False) w).alloc (.cells (ncells t a c) 27)
 have hsm:=(sim_ok t 12 hR).1;have HIX:=hid (P07.index_run s);have HB:=hid (And.intro ba (And.intro q0 (hL.keepF q0)));obtain ⟨u0,hu0⟩:∃ u0,simT t=u0:=⟨_,rfl⟩;rw [hu0] at ho;have H0:=hid (And.intro hR (And.intro hcnt (And.intro hc (And.intro (show Rs u0∧cnt u0≤4000 by rw [← hu0];exact ⟨⟨12,hsm.rt,hsm.smp⟩,Nat.le_trans hsm.cnt hcnt⟩) (And.intro ho (And.intro hu0 hsl))))))
 have hf0:¬ (f:Int)<0:=by omega
 have hf1:¬ (s.length:Int)<f:=by omega
 have hsz:=P07.size_str s;clear ba q0 hL hR hcnt hc hsm ho hu0
 go_enter Try.func13,Try.ntmps13
 go_upto_region 1 with fail;generalize (w.alloc (.cells (ncells t a c) 27))=W0 at *;obtain ⟨⟨y0,y1,y2,y3,y4,y5,y6,y7⟩,-⟩:=cells8 HB.out.1;have HS:=hid (csimple_right t H0.out.1 (by have:=H0.out.2.1;omega) a c ok W0 HB.out.2.2 H0.out.2.2.1)
 rw [H0.out.2.2.2.2.2.1] at HS;go_wp2_with fail;refine HS.out.mono ?_;rintro e w2 ⟨⟨v0,rfl,ka,kc,rfl,hle,hlie⟩,q2⟩;have a9:=At.new w2 (ncells u0 ka kc) 27;have q9:=(Keep.refl (fun _=>False) w2).alloc (.cells (ncells u0 ka kc) 27)
 have A9:=hid (And.intro a9 (And.intro ((HB.out.2.1.trans q2).trans q9) (And.intro (hlie.keepF q9) hle)));obtain ⟨g,hg⟩:∃ g,w2.heap.size=g:=⟨_,rfl⟩;rw [hg] at A9;clear hle hlie q2 y0 y1 y2 y3 y4 y5 y6 y7 a9 q9;go_upto_region 4 with fail
 change Code.wp _ _ _ _ (w2.alloc (.cells (ncells u0 ka kc) 27))
 generalize (w2.alloc (.cells (ncells u0 ka kc) 27))=W3 at *;obtain ⟨⟨d0,d1,d2,d3,d4,d5,d6,d7⟩,-⟩:=cells8 A9.out.1;have HBg:=hid (begin_any u0 H0.out.2.2.2.1.1 H0.out.2.2.2.1.2 ka kc A9.out.2.2.2 (fun k=>ok k∨W0.heap.size≤k) W3 A9.out.2.2.1)
 obtain ⟨n3,hn3⟩:∃ n3,W3.heap.size=n3:=⟨_,rfl⟩;have hz3:=A9.out.2.1.size;rw [hn3] at HBg hz3;clear hg;go_wp2_with fail;refine HBg.out.mono ?_;rintro e w4 ⟨cb,kb,nb,v,L,k0,q0,rfl,hcs,hk0,hq0,q4⟩;have H4:=hid (And.intro hcs (And.intro hk0 (And.intro hq0 (A9.out.2.1.trans q4))));clear hcs hk0 hq0 q4 d0 d1 d2 d3 d4 d5 d6 d7 hf0 hf1;go_wp2_with fail
 go_loopg [6,10] (s.length - f) (fun gg x i wr=>∃ (k:Nat) (tt:Int) (v:Value) (L:List T) (kk q:Nat) (u:T),i=.int .i64 k∧x=.int .i64 tt∧k+gg=s.length∧Cs n3 (fun j=>(ok j∨W0.heap.size≤j)∧j<n3) wr cb kb nb v L kk q∧L[kk]?=some u∧longG u tt k (s.drop k)=o∧q≤4000+4001 * k∧Keep (fun j=>n3≤j) w4 wr)
 case atStart=>exact ⟨f,-1,v,L,k0,q0,u0,rfl,rfl,by omega,H4.out.1,H4.out.2.1,H0.out.2.2.2.2.1,by have:=H4.out.2.2.1;have:=H0.out.2.2.2.1.2;omega,Keep.refl _ _⟩
 case round =>
  obtain ⟨k,tt,v,L,kk,q,u,rfl,rfl,hk,hcs,hkk,hwd,hq,hK⟩:=hrel;have k0:(0:Int)≤k:=by omega
  have kl:(k:Int)≤s.length:=by omega
  obtain ⟨gs,na,nc,hnd,h8,hcap,hlie,hh⟩:=hcs.at_ hkk;obtain ⟨nu,hnu⟩:∃ nu,nullB u=nu:=⟨_,rfl⟩;rw [hnu] at h8;obtain ⟨t2,ht2⟩:∃ t2,(if nu=true then (k:Int) else tt)=t2:=⟨_,rfl⟩
  have HT2:=hid ht2;have HQ:=hid (And.intro hcs (And.intro hkk (And.intro hwd (And.intro hq (And.intro hK (And.intro hnd (And.intro h8 (And.intro hnu hh))))))));have HH:=hid (hh wr (Keep.refl _ wr));clear hcs hkk hwd hq hK hnd h8 hcap hlie hh hnu ht2;go_wp2_with fail;refine HH.out.mono ?_;rintro e w5 ⟨rfl,q5⟩;have g8:=((Keep.cell q5 (a:=⟨gs,kk * 9+8,none⟩) HQ.out.2.2.2.2.2.1.lt (fun h=>h)).trans HQ.out.2.2.2.2.2.2.1)
  have Q5:=hid q5;clear q5
  go_upto_if 36 with fail
  clear g8
  go_cut [6] from 30 to 55 (fun x wx=>x=.int .i64 t2∧w5=wx)
  case first =>
   cases nu
   ·have hT:=hid (show tt=t2 by rw [← HT2.out];rfl)
    go_wp2_with fail
    go_meet
    case rel=>exact ⟨by rw [hT.out],rfl⟩
   ·have hT:=hid (show (k:Int)=t2 by rw [← HT2.out];rfl)
    go_wp2_with fail
    go_meet
    case rel=>exact ⟨by rw [hT.out],rfl⟩
  case rest =>
   obtain ⟨rfl,rfl⟩:=hcut
   by_cases hlt:k<s.length
   ·have hlt':(k:Int)<s.length:=by omega
    have hne:¬ (k:Int)=s.length:=by omega
    have hneb:((k:Int) == s.length)=false:=by simpa using hne
    have hcs5:=HQ.out.1.keepF Q5.out;have hwd:=HQ.out.2.2.1;rw [long_drop hlt,HQ.out.2.2.2.2.2.2.2.1,HT2.out] at hwd;have HH2:=hid (HQ.out.2.2.2.2.2.2.2.2 w5 Q5.out);have HW:=hid hwd;obtain ⟨Z,hZ⟩:∃ Z,isNo u=Z:=⟨_,rfl⟩;have HIs:=hid (fun W (qq:Keep (fun _=>False) w5 W)=>isno_any u gs (kk * 9) na nc W ((HQ.out.2.2.2.2.2.1.keepF Q5.out).keepF qq))
    rw [hZ] at HIs;have HZ:=hid (And.intro hZ hcs5);clear hwd hZ hcs5;go_wp2_with fail;refine HH2.out.mono ?_;rintro e w6 ⟨rfl,q6⟩;have Q6:=hid q6;have HI6:=hid (HIs.out w6 q6);clear q6;go_wp2_with fail;refine HI6.out.mono ?_;rintro e w7 ⟨rfl,rfl⟩;have hsame:sameB u noT=Z:=by
     obtain ⟨d,hd,-⟩:=(HQ.out.1.rs u (List.mem_of_getElem? HQ.out.2.1)).1;rw [← HZ.out.1,isno_same hd]
    have HS2:=hid hsame;clear hsame
    cases Z
    ·have hwd:=HW.out
     rw [HS2.out,if_neg (by decide)] at hwd
     have hixk:=HIX.out k hlt;have hbl:=P07.byteAt_lt s k;obtain ⟨b,hb⟩:∃ b,P07.byteAt s k=b:=⟨_,rfl⟩;rw [hb] at hixk hwd hbl;obtain ⟨D,hD⟩:∃ D,decide (cnt (byT b u)≤4000)=D:=⟨_,rfl⟩;have HSt:=hid (step_any (HZ.out.2.keepF Q6.out) u HQ.out.2.1 (by have:=HQ.out.2.2.2.1;have:=H0.out.2.2.2.2.2.2;omega) b hbl hD)
     have HV:=hid (And.intro hwd hD);clear hwd hD hb;go_wp2_with fail;refine HSt.out.mono ?_;rintro e w8 ⟨rfl,q8,hst⟩;have H8:=hid (And.intro ((HQ.out.2.2.2.2.1.trans ((Q5.out.trans Q6.out).mono fun _ h=>h.elim)).trans q8) hst)
     clear q8 hst
     cases D
     ·have ho:o=none:=by rw [← HV.out.1,if_pos (by have:=of_decide_eq_false HV.out.2;omega)]
      subst ho;go_wp2_with fail;exact bodyPost_ret (v:=.tuple #[.int .i64 0,.int .i64 11]) (by simp [results,Try.results13,go_sem]) rfl ⟨rfl,H4.out.2.2.2.next H8.out.1 (fun i hi hlt=>by omega)⟩
     ·obtain ⟨v',M,k',q',hc',hk',hq'⟩:=H8.out.2 rfl
      have HN:=hid (And.intro hc' (And.intro hk' (And.intro (show longG (byT b u) t2 (k+1:Nat) (s.drop (k+1))=o by rw [← HV.out.1,if_neg (by have:=of_decide_eq_true HV.out.2;omega)];rfl) (And.intro (show q'≤4000+4001 * (k+1) by have:=HQ.out.2.2.2.1;omega) H8.out.1))))
      clear hc' hk' hq';go_wp2_with fail
      go_roundg (s.length - (k+1))
      case measure=>omega
      case rel=>exact ⟨k+1,t2,v',L++M,k',q',byT b u,by go_num,rfl,by omega,HN.out⟩
    ·have ho:o=some t2:=by rw [← HW.out,HS2.out,if_pos rfl]
     subst ho;go_wp2_with fail;exact bodyPost_ret (v:=.tuple #[.int .i64 t2,.int .i64 0]) (by simp [results,Try.results13,go_sem]) rfl ⟨rfl,(H4.out.2.2.2.next HQ.out.2.2.2.2.1 (fun i hi hlt=>by omega)).trans (Q5.out.trans Q6.out)⟩
   ·have hke:k=s.length:=by omega
    subst hke;have hwd:=HQ.out.2.2.1;rw [List.drop_length,longG,HQ.out.2.2.2.2.2.2.2.1,HT2.out] at hwd;subst hwd;go_wp2_with fail;exact bodyPost_ret (v:=.tuple #[.int .i64 t2,.int .i64 0]) (by simp [results,Try.results13,go_sem]) rfl ⟨rfl,(H4.out.2.2.2.next HQ.out.2.2.2.2.1 (fun i hi hlt=>by omega)).trans Q5.out⟩
theorem clong_range (s:List UInt8) (t:T) (hR:RT 12 t) (hcnt:cnt t≤4000) (f:Int) (hf:¬ (0≤f∧f≤s.length)) (a:Option Addr) (c:Nat) (ok:Nat→Prop) (w:World) (hL:Lie w ok a t.subs) (hc:t.subs.length≤c) :
  Calls Try.prog 13 #[nodeV t a c,str s,.int .i64 f] w fun e w'=>e=.returned (.tuple #[.int .i64 0,.int .i64 2])∧Keep (fun _=>False) w w':=by
 have ba:=At.new w (ncells t a c) 27;have q0:=(Keep.refl (fun _=>False) w).alloc (.cells (ncells t a c) 27)
 have HB:=hid (And.intro ba (And.intro q0 (hL.keepF q0)));have H0:=hid (And.intro hR (And.intro hcnt hc));have hsz:=P07.size_str s;have HF:=hid hf;clear ba q0 hL hR hcnt hc hf
 go_enter Try.func13,Try.ntmps13
 go_upto_region 1 with fail;generalize (w.alloc (.cells (ncells t a c) 27))=W0 at *;obtain ⟨⟨y0,y1,y2,y3,y4,y5,y6,y7⟩,-⟩:=cells8 HB.out.1;have HS:=hid (csimple_right t H0.out.1 (by have:=H0.out.2.1;omega) a c ok W0 HB.out.2.2 H0.out.2.2)
 go_wp2_with fail;refine HS.out.mono ?_;rintro e w2 ⟨⟨v0,rfl,ka,kc,rfl,hle,hlie⟩,q2⟩;have Q9:=hid ((HB.out.2.1.trans q2).trans ((Keep.refl (fun _=>False) w2).alloc (.cells (ncells (simT t) ka kc) 27)))
 clear hle hlie q2 y0 y1 y2 y3 y4 y5 y6 y7;go_upto_region 4 with fail
 change Code.wp _ _ _ _ (w2.alloc (.cells (ncells (simT t) ka kc) 27))
 generalize (w2.alloc (.cells (ncells (simT t) ka kc) 27))=W3 at *
 by_cases h0:f<0
 ·go_wp2_with fail
  exact bodyPost_ret (v:=.tuple #[.int .i64 0,.int .i64 2]) (by simp [results,Try.results13,go_sem]) rfl ⟨rfl,Q9.out⟩
 ·have h1:(s.length:Int)<f:=by have:=HF.out;omega
  go_wp2_with fail;exact bodyPost_ret (v:=.tuple #[.int .i64 0,.int .i64 2]) (by simp [results,Try.results13,go_sem]) rfl ⟨rfl,Q9.out⟩
theorem cmatch12_right (s:List UInt8) (hsl:s.length≤60) (t:T) (hR:RT 12 t) (hcnt:cnt t≤4000) (o:Option T) (ho:wordG (simT t) s=o) (a:Option Addr) (c:Nat) (ok:Nat→Prop) (w:World) (hL:Lie w ok a t.subs) (hc:t.subs.length≤c) :
  Calls Try.prog 12 #[nodeV t a c,str s] w fun e w'=>e=.returned (.tuple #[.bool (match o with | some u=>nullB u | none=>false),.int .i64 (cond o.isSome 0 11)])∧Keep (fun _=>False) w w':=by
 refine cmatch_of s t (o.getD zT) (cond o.isSome 0 11) _ a c ok w hL (fun W hW=>cword_right s hsl t hR hcnt o ho a c ok W hW hc) ?_
 cases o with
 | none=>exact fun bl o a c W hP _=>zero_any bl o a c W hP
 | some u =>
  obtain ⟨⟨d,hd,-⟩,-⟩:=word_ok s _ u (by have:=(sim_ok t 12 hR).1;exact ⟨12,this.rt,this.smp⟩) ho
  exact fun bl o a c W hP hL=>empty_any u d hd bl o a c W hP hL
end P12
end Go.Proofs.Ytlmfbchgkjgljaa
