/- The code's add (layer 10): wasn't the same one there? -/
import Derived.Test.YtlmfbchgkjgljaaKF46
import Derived.Test.YtlmfbchgkjgljaaKF35
import Derived.Test.YtlmfbchgkjgljaaKF41
import Derived.Test.YtlmfbchgkjgljaaKF27
set_option maxRecDepth 100000
set_option maxHeartbeats 32000000
open Go.Lib (hid)
namespace Go.Proofs.Ytlmfbchgkjgljaa
namespace P10
open Go.RowKit Base Bytes P07 P08
open Sets (ST)
theorem any_filter (t:T) (M:List T):(M.filter (inD (dg t))).any (sameB t)=M.any (sameB t):=by
 rw [Bool.eq_iff_iff,any_same,any_same,List.mem_filter]
 constructor
 ·exact fun h=>h.1
 ·exact fun h=>⟨h,by unfold inD;simp⟩
theorem add_any (t:T) (a:Option Addr) (c:Nat) (n0:Nat) (ok:Nat→Prop) (m:Nat) (Z:Nat→Prop) (M:List T) (w:World) (h:Kn n0 ok m Z M w) (hl:Lie w (fun j=>ok j∧j<n0) a t.subs) (hc:t.subs.length≤c) (hcnt:cnt t≤500000) (hM:M.length≤500000) :
  Calls Try.prog 63 #[.map (some m),nodeV t a c] w fun e w'=>e=.returned (.bool (!(M.any (sameB t))))∧∃ Z',Kn n0 ok m Z' (if M.any (sameB t)=true then M else M++[t]) w'∧Keep Z w w'∧∀ b,Z' b→Z b∨w.heap.size≤b:=by
 obtain ⟨r,hr⟩:∃ r,M.any (sameB t)=r:=⟨_,rfl⟩;rw [hr];rw [← any_filter] at hr;obtain ⟨rv,hrv⟩:∃ rv,(!r)=rv:=⟨_,rfl⟩;obtain ⟨N,hN⟩:∃ N,(if r=true then M else M++[t])=N:=⟨_,rfl⟩
 rw [hrv,hN];have q0:=(Keep.refl (fun _=>False) w).alloc (.cells (ncells t a c) 27)
 have b0:=At.new w (ncells t a c) 27;have H0:=hid (And.intro (h.keepF q0) (And.intro (hl.keepF q0) (And.intro b0 (And.intro q0 (And.intro hc (And.intro hM hcnt))))));have HR:=hid hr;have HV:=hid (And.intro hrv hN);have HZ:=hid h.zlt;clear h hl hc hM hcnt q0 b0 hr hrv hN
 go_enter Try.func63,Try.ntmps63
 go_upto_region 1 with fail;generalize (w.alloc (.cells (ncells t a c) 27))=W0 at *;obtain ⟨⟨y0,y1,y2,y3,y4,y5,y6,y7⟩,-⟩:=cells8 H0.out.2.2.1;go_wp2_with fail;refine (digest_any t a c _ W0 H0.out.2.1 H0.out.2.2.2.2.1 H0.out.2.2.2.2.2.2).mono ?_;rintro e w1 ⟨rfl,q1⟩;obtain ⟨la,lc,hlook,hlie⟩:=(H0.out.1.keepF q1).look t;obtain ⟨F,hF⟩:∃ F,M.filter (inD (dg t))=F:=⟨_,rfl⟩;have hlk:=hlook w1 (Keep.refl _ _);rw [hF] at hlk hlie;have hFl:F.length≤M.length:=by rw [← hF];exact List.length_filter_le _ _
 have J:=hid (And.intro (H0.out.1.keepF q1) (And.intro (H0.out.2.1.keepF q1) (And.intro (H0.out.2.2.1.keep q1 (fun h=>h)) (And.intro (H0.out.2.2.2.1.trans q1) (And.intro hF hlie)))))
 have hFi:(F.length:Int)≤500000:=by have:=H0.out.2.2.2.2.2.1;omega
 rw [hF] at HR;obtain ⟨D,hD⟩:∃ D,dg t=D:=⟨_,rfl⟩;have HD:=hid hD;rw [hD] at hlk;rw [hD];clear q1 hlook hlie hF hFl hD y0 y1 y2 y3 y4 y5 y6 y7;go_wp2_with fail
 go_loopg [14] F.length (fun gg i wr=>∃ j:Nat,i=.int .i64 j∧j+gg=F.length∧Keep (fun _=>False) w1 wr∧(F.take j).any (sameB t)=false)
 case atStart=>exact ⟨0,rfl,by omega,Keep.refl _ _,rfl⟩
 case round =>
  obtain ⟨j,rfl,hj,hq,hany⟩:=hrel;have j0:(0:Int)≤j:=by omega
  by_cases hlt:j<F.length
  ·have hlt':(j:Int)<F.length:=by omega
   obtain ⟨u,hu⟩:∃ u,F[j]?=some u:=⟨F[j],List.getElem?_eq_getElem hlt⟩;obtain ⟨bl,off,a1,c1,rfl,-,hbl,le1,L1,C1⟩:=(J.out.2.2.2.2.2.keepF hq).get hu;obtain ⟨x0,x1,x2,x3,x4,x5,x6,x7⟩:=ncell C1;have q2:=(Keep.refl (fun _=>False) wr).alloc (.cells (ncells u a1 c1) 27)
   have ub:=At.new wr (ncells u a1 c1) 27;have K:=hid (And.intro (hq.trans q2) (And.intro hany (And.intro hu (And.intro (L1.keepF q2) (And.intro le1 ub)))));have HS:=hid (rsame_any t u a c a1 c1 (wr.alloc (.cells (ncells u a1 c1) 27)) ((J.out.2.1.keepF (hq.trans q2)).mono fun _ _=>trivial) (L1.keepF q2) H0.out.2.2.2.2.1 le1 (by have:=H0.out.2.2.2.2.2.2;omega))
   have bb:=J.out.2.2.1.keep (hq.trans q2) (fun h=>h)
   clear hq hany hu L1 C1 q2 hbl;go_upto_region 5 with fail;generalize (wr.alloc (.cells (ncells u a1 c1) 27))=wb at *;generalize wr.heap.size=nb at *;obtain ⟨⟨y0,y1,y2,y3,y4,y5,y6,y7⟩,-⟩:=cells8 bb;obtain ⟨⟨z0,z1,z2,z3,z4,z5,z6,z7⟩,-⟩:=cells8 K.out.2.2.2.2.2;clear x0 x1 x2 x3 x4 x5 x6 x7 ub bb;go_wp2_with fail;refine HS.out.mono ?_;rintro e w3 ⟨v,rfl,hv,q3⟩;have Q3:=hid (And.intro q3 hv);clear q3 hv y0 y1 y2 y3 y4 y5 y6 y7 z0 z1 z2 z3 z4 z5 z6 z7
   cases v with
   | true =>
    have hru:r=true:=by
     rw [← HR.out];exact List.any_eq_true.2 ⟨u,List.mem_of_getElem? K.out.2.2.1,(sameB_iff t u).2 (Q3.out.2.1 rfl)⟩
    have HX:=hid hru;clear hru;go_wp2_with fail;go_ret;have qq:=J.out.2.2.2.1.trans (K.out.1.trans Q3.out.1);have hv1:=HV.out.1;have hv2:=HV.out.2;rw [HX.out] at hv1 hv2;rw [if_pos rfl] at hv2;subst hv1 hv2;exact ⟨rfl,Z,J.out.1.keepF (K.out.1.trans Q3.out.1),qq.mono fun _ h=>h.elim,fun b hb=>.inl hb⟩
   | false =>
    have HX:=hid (show sameB t u=false by
     cases e:sameB t u with
     | false=>rfl
     | true=>cases Q3.out.2.2 ((sameB_iff t u).1 e))
    go_wp2_with fail
    go_roundg (F.length - (j+1))
    case measure=>omega
    case rel=>exact ⟨j+1,by go_num,by omega,K.out.1.trans Q3.out.1,any_take K.out.2.2.1 K.out.2.1 HX.out⟩
  ·have hje:j=F.length:=by omega
   rw [hje,List.take_length] at hany;have hru:r=false:=by rw [← HR.out];exact hany
   have bb:=J.out.2.2.1.keep hq (fun h=>h)
   obtain ⟨v,e,w4,w5,e1,e2,e3,Z',hK,hq5,hZ'⟩:=(J.out.1.keepF hq).add t a c H0.out.2.2.2.2.1 (J.out.2.1.keepF hq) (by have:=H0.out.2.2.2.2.2.1;omega) 25
   have HX:=hid (And.intro hru (And.intro hK (And.intro ((J.out.2.2.2.1.trans hq).mono (T:=Z) (fun _ h=>h.elim) |>.trans hq5) (And.intro hZ' (J.out.2.2.2.1.trans hq).size))))
   rw [HD.out] at e1 e3;clear hru hany hje hK hq5 hZ' hq;obtain ⟨⟨y0,y1,y2,y3,y4,y5,y6,y7⟩,-⟩:=cells8 bb;clear bb;go_wp2_with (at_builtin;refine Lib.wpList_append_run _ rfl _ _ _ _ rfl _ _ rfl rfl _ _ e2 ?_);go_wp2_with fail;go_ret;have hv1:=HV.out.1;have hv2:=HV.out.2;rw [HX.out.1] at hv1 hv2;rw [if_neg (by decide)] at hv2
   subst hv1 hv2
   exact ⟨rfl,Z',HX.out.2.1,HX.out.2.2.1,fun b hb=>by
    rcases HX.out.2.2.2.1 b hb with h | h
    ·exact .inl h
    ·exact .inr (Nat.le_trans HX.out.2.2.2.2 h)⟩
end P10
namespace P10
open Go.RowKit Base Bytes P07 P08
open Sets (ST)
def cI:Option Nat→Int
 | none=>-1
 | some i=>i
theorem altS_len (A:List T × Option Nat) (t:T):(altS A t).1.length≤A.1.length+1:=by
 unfold altS
 split
 ·omega
 ·split
  ·split
   ·simp
   ·simp
  ·split
   ·omega
   ·simp
theorem fold_len:∀ (L:List T) (A:List T × Option Nat),(L.foldl altS A).1.length≤A.1.length+L.length
 | [],A=>Nat.le_refl _
 | t::L,A=>by
  have h1:=fold_len L (altS A t);have h2:=altS_len A t;rw [List.foldl_cons,List.length_cons];omega
theorem fold_take {L:List T} {i:Nat} {t:T} (h:L[i]?=some t) (A:List T × Option Nat):(L.take (i+1)).foldl altS A=altS ((L.take i).foldl altS A) t:=by
 rw [List.take_add_one,h,List.foldl_append]
 rfl
theorem same_cls {t:T} (h:t.kind≠2) (s:ST):sameB t (clsT s)=false:=by
 cases e:sameB t (clsT s) with
 | false=>rfl
 | true =>
  rw [(sameB_iff _ _).1 e] at h;exact absurd rfl h
theorem any_set {L:List T} {i:Nat} {s s':ST} (hi:L[i]?=some (clsT s)) {t:T} (h:t.kind≠2):(L.set i (clsT s')).any (sameB t)=L.any (sameB t):=by
 rw [Bool.eq_iff_iff,any_same,any_same];have hil:=(List.getElem?_eq_some_iff.1 hi).1
 constructor
 ·intro hm
  rcases List.mem_or_eq_of_mem_set hm with hm | hm
  ·exact hm
  ·rw [hm] at h
   exact absurd rfl h
 ·intro hm
  obtain ⟨j,hj⟩:=List.mem_iff_getElem?.1 hm;have hji:j≠i:=fun e=>by
   rw [e,hi] at hj;injection hj with hj;rw [← hj] at h;exact absurd rfl h
  exact List.mem_iff_getElem?.2 ⟨j,by rw [List.getElem?_set_ne (fun e=>hji e.symm)];exact hj⟩
def Sm (N L:List T):Prop:=∀ t,t.kind≠2→N.any (sameB t)=L.any (sameB t)
theorem Sm.cls {N L:List T} (h:Sm N L) (s:ST):Sm N (L++[clsT s]):=fun t ht=>by
 rw [h t ht,List.any_append]
 show _=(L.any (sameB t) || (sameB t (clsT s) || false))
 rw [same_cls ht]
 simp
theorem Sm.set {N L:List T} (h:Sm N L) {i:Nat} {s s':ST} (hi:L[i]?=some (clsT s)):Sm N (L.set i (clsT s')):=fun t ht=>by
 rw [h t ht,any_set hi ht]
theorem Sm.push {N L:List T} (h:Sm N L) (u:T):Sm (N++[u]) (L++[u]):=fun t ht=>by
 rw [List.any_append,List.any_append,h t ht]
structure Al (w:World) (ok:Nat→Prop) (base:Nat) (v:Value) (M:List T) (A:List T × Option Nat) (N:List T) (Z:Nat→Prop) (u:Value) (W:World):Prop where
 row:OE W (fun b=>ok b∧b<w.heap.size) u A.1
 own:Own base u
 kn:Kn (w.heap.size+1) (fun b=>ok b∧b<w.heap.size) (w.heap.size+1) Z N W
 z1:∀ b,Z b→b=w.heap.size+1∨base≤b
 z2:∀ b,Z b→u.ownBlock≠some b
 rb:Rb w w.heap.size W
 lv:OE W (fun b=>ok b∧b<w.heap.size) v M
 lo:∀ g,v.ownBlock=some g→w.heap.size+2≤g∧g<base
 bs:w.heap.size+2≤base∧base≤W.heap.size
 cls:∀ i,A.2=some i→∃ s:ST,s.Ok∧A.1[i]?=some (clsT s)
theorem Al.quiet {w:World} {ok:Nat→Prop} {base:Nat} {v:Value} {M:List T} {A:List T × Option Nat} {N:List T} {Z:Nat→Prop} {u:Value} {W W':World} (h:Al w ok base v M A N Z u W) (q:Keep (fun _=>False) W W'):Al w ok base v M A N Z u W' :=
 ⟨h.row.keep q (fun _ _ h=>h) (fun _ _ h=>h),h.own,h.kn.keepF q,h.z1,h.z2,h.rb.next q,h.lv.keep q (fun _ _ h=>h) (fun _ _ h=>h),h.lo,⟨h.bs.1,Nat.le_trans h.bs.2 q.size⟩,h.cls⟩
theorem Al.turn {w:World} {ok:Nat→Prop} {base:Nat} {v:Value} {M:List T} {A:List T × Option Nat} {N:List T} {Z:Nat→Prop} {u:Value} {W W':World} (h:Al w ok base v M A N Z u W) {S:Nat→Prop} (q:Keep S W W') (hS:∀ b,S b→b=w.heap.size+1∨base≤b):Rb w w.heap.size W'∧OE W' (fun b=>ok b∧b<w.heap.size) v M∧(w.heap.size+2≤base∧base≤W'.heap.size):=by
 have hb:=h.bs;have hn:¬ S w.heap.size:=fun e=>by have:=hS _ e;omega
 refine ⟨⟨h.rb.out.keep q hn,h.rb.keep.next q (fun i hi e=>by have:=hS i hi;omega),h.rb.lt⟩,h.lv.keep q (fun g hg e=>by have:=h.lo g hg;have:=hS g e;omega) (fun b hb e=>by have:=hS b e;omega),hb.1,Nat.le_trans hb.2 q.size⟩
theorem Al.push {w:World} {ok:Nat→Prop} {base:Nat} {v:Value} {M:List T} {A:List T × Option Nat} {N:List T} {Z:Nat→Prop} {u:Value} {W:World} (h:Al w ok base v M A N Z u W) (t:T) (a:Option Addr) (c:Nat) (hc:t.subs.length≤c) (hl:Lie W (fun b=>ok b∧b<w.heap.size) a t.subs) (hlen:A.1.length≤1000000) (c':Option Nat) (hcl:∀ i,c'=some i→∃ s:ST,s.Ok∧(A.1++[t])[i]?=some (clsT s)) (ty:TypeId) :
  ∃ v' w',(Builtin.append_ #[25,25] ty #[u,.slice (some ⟨W.heap.size,0,none⟩) 1 1]).run Try.prog (W.alloc (.cells (ncells t a c) 27))=.ok v' w'∧Al w ok base v M (A.1++[t],c') N Z v' w':=by
 have hb:=h.bs;obtain ⟨v',w',hrun,g1,g2,g3⟩:=h.row.push (fun g hg e=>by have:=h.own g hg;omega) t a c hc hl (by omega) ty
 have hS:∀ b,u.ownBlock=some b→b=w.heap.size+1∨base≤b:=fun b hb=>.inr (h.own b hb)
 obtain ⟨r1,r2,r3⟩:=h.turn g2 hS;refine ⟨v',w',hrun,g1,fun g hg=>?_,h.kn.keep g2 (fun b hb e=>h.z2 b hb e) (fun b hb e=>by have:=h.own b e;omega),h.z1,fun b hb e=>?_,r1,r2,h.lo,r3,hcl⟩
 ·rcases g3 g hg with h1 | h1
  ·exact h.own g h1
  ·omega
 ·rcases g3 b e with h1 | h1
  ·exact h.z2 b hb h1
  ·have:=(h.kn.zlt b hb).2
   omega
theorem Al.setS {w:World} {ok:Nat→Prop} {base:Nat} {v:Value} {M:List T} {L:List T} {i:Nat} {N:List T} {Z:Nat→Prop} {g n cap:Nat} {W:World} (h:Al w ok base v M (L,some i) N Z (.slice (some ⟨g,0,none⟩) n cap) W) {s:ST} (hi:L[i]?=some (clsT s)) {s':ST} (hs:s'.Ok):Al w ok base v M (L.set i (clsT s'),some i) N Z (.slice (some ⟨g,0,none⟩) n cap) (putS W g (i * 8) s'):=by
 have hb:=h.bs;have hg:base≤g:=h.own g rfl;have q:=putS_keep W g (i * 8) s';obtain ⟨r1,r2,r3⟩:=h.turn q (fun b hb=>.inr (by omega))
 have hil:=(List.getElem?_eq_some_iff.1 hi).1;refine ⟨h.row.setS (fun e=>by omega) hi s',h.own,h.kn.keep q (fun b hb e=>h.z2 b hb (by rw [e];rfl)) (fun b hb e=>by omega),h.z1,h.z2,r1,r2,h.lo,r3,fun k hk=>?_⟩
 injection hk with hk;subst hk;exact ⟨s',hs,by rw [List.getElem?_set_self hil]⟩
theorem Al.known {w:World} {ok:Nat→Prop} {base:Nat} {v:Value} {M:List T} {A:List T × Option Nat} {N:List T} {Z:Nat→Prop} {u:Value} {W W':World} (h:Al w ok base v M A N Z u W) {N':List T} {Z':Nat→Prop} (hk:Kn (w.heap.size+1) (fun b=>ok b∧b<w.heap.size) (w.heap.size+1) Z' N' W') (q:Keep Z W W') (hz:∀ b,Z' b→Z b∨W.heap.size≤b):Al w ok base v M A N' Z' u W':=by
 have hb:=h.bs;obtain ⟨r1,r2,r3⟩:=h.turn q h.z1;refine ⟨h.row.keep q (fun g hg e=>h.z2 g e hg) (fun b hb e=>by have:=(h.kn.zlt b e).1;omega),h.own,hk,fun b hb=>?_,fun b hb e=>?_,r1,r2,h.lo,r3,h.cls⟩
 ·rcases hz b hb with h1 | h1
  ·exact h.z1 b h1
  ·omega
 ·rcases hz b hb with h1 | h1
  ·exact h.z2 b h1 e
  ·have:=h.row.lt e
   omega
theorem OE.set4 {w:World} {E:Nat→Prop} {g n cap:Nat} {L:List T} (h:OE w E (.slice (some ⟨g,0,none⟩) n cap) L) {i:Nat} {s:ST} (hi:L[i]?=some (clsT s)) :
  (w.cell? ⟨g,i * 8+1,none⟩=some (.int .u64 s.x0)∧w.cell? ⟨g,i * 8+2,none⟩=some (.int .u64 s.x1)∧w.cell? ⟨g,i * 8+3,none⟩=some (.int .u64 s.x2)∧w.cell? ⟨g,i * 8+4,none⟩=some (.int .u64 s.x3))∧(w.frozen? ⟨g,i * 8+1,none⟩=false∧w.frozen? ⟨g,i * 8+2,none⟩=false∧w.frozen? ⟨g,i * 8+3,none⟩=false∧w.frozen? ⟨g,i * 8+4,none⟩=false)∧g<w.heap.size∧n=L.length:=by
 obtain ⟨g',cap',a,c,e,-,hg,-,-,C,hf⟩:=h.get hi;injection e with e1 e2 e3;injection e1 with e1;injection e1 with e1;subst e1;exact ⟨⟨C 1 _ rfl,C 2 _ rfl,C 3 _ rfl,C 4 _ rfl⟩,⟨hf _,hf _,hf _,hf _⟩,hg,e2⟩
theorem KnStart {w W0:World} {ok:Nat→Prop} (h:Rb w w.heap.size W0) (hs:W0.heap.size=w.heap.size+1):Rb w w.heap.size (W0.alloc (.map #[] 0))∧Kn (w.heap.size+1) (fun b=>ok b∧b<w.heap.size) (w.heap.size+1) (fun b=>b=w.heap.size+1) [] (W0.alloc (.map #[] 0)):=by
 have k:=Kn.new W0 (fun b=>ok b∧b<w.heap.size) (w.heap.size+1) (by omega)
 rw [hs] at k;exact ⟨h.next ((Keep.refl _ _).alloc _),k⟩
theorem calt_par (L:List T) (a:Option Addr) (cap:Nat) (ok:Nat→Prop) (w:World) (hL:LieP w ok a L) (hcnt:cntL L≤500000) (hsets:∀ t ∈ unf 4 L,t.set.Ok) :
  Calls Try.prog 44 #[.slice a L.length cap] w (Gives w ok (altT L)):=by
 have r0:Rb w w.heap.size (w.alloc (.cells nzeros 27)):=⟨At.new w nzeros 27,(Keep.refl (fun _=>False) w).alloc _,Nat.le_refl _⟩
 have hM:=unf_len 4 L L.length;have hMc:=cntL_unf 4 L;rw [List.take_length] at hM;obtain ⟨M,hMe⟩:∃ M,unf 4 L=M:=⟨_,rfl⟩;obtain ⟨tt,htt⟩:∃ tt,altT L=tt:=⟨_,rfl⟩;rw [htt];unfold altT at htt;have hL1:=hL.under.keepF r0.keep;rw [hMe] at hM hsets htt hMc;have hMM:=hid (And.intro (show M.length≤500000 by omega) (And.intro (show cntL M≤500000 by omega) (And.intro hcnt hMe)))
 have HH:=hid (And.intro htt hsets);have HL:=hid hL1;have HR:=hid r0;clear hL r0 hM hMc hL1 hMe htt hsets hcnt
 go_enter Try.func44,Try.ntmps44
 go_upto_region 1 with fail;have hs0:(w.alloc (.cells nzeros 27)).heap.size=w.heap.size+1:=by simp
 generalize (w.alloc (.cells nzeros 27))=W0 at *;have hmm:=@run_makeMap Try.prog;have b1:=KnStart (ok:=ok) HR.out hs0;have HB1:=hid (And.intro b1 (HL.out.keepF ((Keep.refl (fun _=>False) W0).alloc (.map #[] 0))))
 have hs1:(W0.alloc (.map #[] 0)).heap.size=w.heap.size+2:=by simp;omega
 clear b1;go_upto_region 4 with fail;clear hmm;generalize (W0.alloc (.map #[] 0))=W1 at *;have HU:=hid (unfolded_par 4 L a cap (fun k=>ok k∧k<w.heap.size) W1 HB1.out.2 hMM.out.2.2.1)
 rw [hMM.out.2.2.2] at HU;go_wp2_with fail;refine HU.out.mono ?_;rintro e W2 ⟨v,rfl,I1⟩;obtain ⟨ra,rc,rfl,-,hl1⟩:=I1.form;have hMl:(M.length:Int)≤500000:=by have:=hMM.out.1;omega
 have hI0:Al w ok W2.heap.size (.slice ra M.length rc) M ([],none) [] (fun b=>b=w.heap.size+1) (.slice none 0 0) W2:=by
  have hk:=HB1.out.1.2.keepF I1.keep;have hsz:=I1.keep.size;exact ⟨OE.nil _ _,Own.nil _,hk,(fun b hb=>.inl hb),(fun _ _ h=>by cases h),HB1.out.1.1.next I1.keep,I1.row.sub (fun j hj=>hj.1),(fun g hg=>⟨by have:=I1.own g hg;omega,I1.row.lt hg⟩),⟨by omega,Nat.le_refl _⟩,fun i hi=>by cases hi⟩
 have HI0:=hid hI0;clear I1 hl1 hI0 hs0 hs1;go_wp2_with fail
 go_loopg [3,4,12] M.length (fun gg u cc i wr=>∃ (j:Nat) (A:List T × Option Nat) (N:List T) (Z:Nat→Prop),i=.int .i64 j∧j+gg=M.length∧cc=.int .i64 (cI A.2)∧Al w ok W2.heap.size (.slice ra M.length rc) M A N Z u wr∧(M.take j).foldl altS ([],none)=A∧Sm N A.1∧N.length≤j)
 case atStart=>exact ⟨0,([],none),[],_,rfl,by omega,rfl,HI0.out,rfl,fun _ _=>rfl,Nat.le_refl 0⟩
 case round =>
  obtain ⟨j,A,N,Z,rfl,hj,hcc,I,hA,hSm,hNj⟩:=hrel;obtain ⟨x,hx⟩:∃ x,cI A.2=x:=⟨_,rfl⟩;rw [hx] at hcc;subst hcc;have HX:=hid hx;clear hx;have HSm:=hid (And.intro hSm hNj);clear hSm hNj;have j0:(0:Int)≤j:=by omega
  by_cases hlt:j<M.length
  ·have hlt':(j:Int)<M.length:=by omega
   obtain ⟨t,ht⟩:∃ t,M[j]?=some t:=⟨M[j],List.getElem?_eq_getElem hlt⟩;obtain ⟨bl,cap',a1,c1,ev,hM63,-,le1,L1,C1,-⟩:=I.lv.get ht;injection ev with ev1 ev2 ev3;subst ev1 ev3;clear ev2 hM63;obtain ⟨x0,x1,x2,x3,x4,x5,x6,x7⟩:=ncell (o:=j * 8) C1;have q:=(Keep.refl (fun _=>False) wr).alloc (.cells (ncells t a1 c1) 27)
   have b0:=At.new wr (ncells t a1 c1) 27;have hLen:A.1.length≤500000:=by
    have h1:=fold_len (M.take j) ([],none);rw [hA,List.length_take] at h1;have h2:=hMM.out.1
    simp at h1
    omega
   have hstp:=fold_take ht ([],none);rw [hA] at hstp;have hct:cnt t≤500000:=by
    have:=cntL_le ht;have:=hMM.out.2.1;omega
   have II:=hid (And.intro (I.quiet q) (And.intro ht (And.intro (L1.keepF q) (And.intro le1 (And.intro b0 (And.intro hstp hLen))))));have HCT:=hid (And.intro hct (fun b hb=>(I.kn.zlt b hb).2))
   clear I L1 C1 q ht hA hstp hLen b0 hct;go_upto_region 7 with fail;generalize (wr.alloc (.cells (ncells t a1 c1) 27))=wb at *;generalize wr.heap.size=nb at *;obtain ⟨⟨y0,y1,y2,y3,y4,y5,y6,y7⟩,-⟩:=cells8 II.out.2.2.2.2.1;clear x0 x1 x2 x3 x4 x5 x6 x7;go_wp2_with fail;refine (cno_any t (HH.out.2 t (List.mem_of_getElem? II.out.2.1)) a1 c1 wb).mono ?_;rintro e w2 ⟨rfl,q2⟩;have J:=hid (And.intro (II.out.1.quiet q2) (And.intro II.out.2.1 (And.intro (II.out.2.2.1.keepF q2) (And.intro II.out.2.2.2.1 (And.intro (II.out.2.2.2.2.1.keep q2 (fun h=>h)) (And.intro II.out.2.2.2.2.2.1 II.out.2.2.2.2.2.2))))))
   clear q2 y0 y1 y2 y3 y4 y5 y6 y7
   cases hno:isNo t with
   | true =>
    have HN:=hid (show altS A t=A by unfold altS;rw [if_pos hno])
    clear hno;go_wp2_with fail
    go_roundg (M.length - (j+1))
    case measure=>omega
    case rel=>exact ⟨j+1,A,N,Z,by go_num,by omega,by rw [HX.out],J.out.1,by rw [J.out.2.2.2.2.2.1,HN.out],HSm.out.1,by have:=HSm.out.2;omega⟩
   | false =>
    obtain ⟨⟨y0,y1,y2,y3,y4,y5,y6,y7⟩,-⟩:=cells8 J.out.2.2.2.2.1;have HNo:=hid hno;clear hno
    by_cases hk:t.kind=2
    ·have hk':(t.kind == 2)=true:=by simpa using hk
     have HK:=hid hk;clear hk;have HSo:=hid (HH.out.2 t (List.mem_of_getElem? J.out.2.1));obtain ⟨AL,Ac⟩:=A
     cases Ac with
     | none =>
      have hx1:x=-1:=HX.out.symm;subst hx1;have hst:altS (AL,none) t=(AL++[clsT t.set],some AL.length):=by
       unfold altS;rw [if_neg (by rw [HNo.out];decide),if_pos HK.out]
      obtain ⟨g,lcap,hu,-⟩:=J.out.1.row.lie J.out.1.own;obtain ⟨v',w9,hrun,hI⟩:=J.out.1.push (clsT t.set) none 0 (Nat.le_refl 0) (.nil none) (by have:=J.out.2.2.2.2.2.2;omega) (some AL.length) (fun i hi=>by injection hi with hi;subst hi;exact ⟨t.set,HSo.out,by simp⟩) 25
      have H9:=hid (And.intro hI hst);subst hu;clear hI hst;go_wp2_with (at_builtin;refine Lib.wpList_append_run _ rfl _ _ _ _ rfl _ _ rfl rfl _ _ hrun ?_);clear hrun;go_wp2_with fail
      go_roundg (M.length - (j+1))
      case measure=>omega
      case rel=>exact ⟨j+1,_,N,Z,by go_num,by omega,rfl,H9.out.1,by rw [J.out.2.2.2.2.2.1,H9.out.2],HSm.out.1.cls _,by have:=HSm.out.2;omega⟩
     | some i =>
      have hx1:x=i:=HX.out.symm;subst hx1;have i0:(0:Int)≤i:=by omega
      obtain ⟨s,hs,hsi⟩:=J.out.1.cls i rfl;obtain ⟨g,lcap,a2,c2,hu,-⟩:=J.out.1.row.get hsi;subst hu;have hil:i<AL.length:=(List.getElem?_eq_some_iff.1 hsi).1;have hil':(i:Int)<AL.length:=by omega
      obtain ⟨⟨z1,z2,z3,z4⟩,-,hgl,-⟩:=J.out.1.row.set4 hsi;have hst:altS (AL,some i) t=(AL.set i (clsT (s.or t.set)),some i):=by
       unfold altS;rw [if_neg (by rw [HNo.out];decide),if_pos HK.out]
       dsimp only
       rw [getD_cls hsi]
      have HS:=hid (And.intro hs (And.intro hsi hst));have HO:=hid (fun W=>or_any s t.set hs HSo.out W)
      have hALl:(AL.length:Int)≤500000:=by have:AL.length≤500000:=J.out.2.2.2.2.2.2;omega
      clear hs hsi hst hil hgl;go_wp2_with fail
      go_region_with (go_at_call 62;refine (HO.out _).mono ?_;rintro e w4 ⟨rfl,q4⟩;have I4:=hid (J.out.1.quiet (by first | exact ((Keep.refl _ _).drewN _).trans q4 | exact ((Keep.refl _ _).drew).trans q4 | exact q4));clear q4;obtain ⟨⟨z1,z2,z3,z4⟩,⟨f1,f2,f3,f4⟩,hgl,-⟩:=I4.out.row.set4 HS.out.2.1)
      all_goals
       have I6:=hid (I4.out.setS HS.out.2.1 (ST.or_ok HS.out.1 HSo.out));unfold putS at I6;generalize World.setCell _ _ _=W6 at *;clear z1 z2 z3 z4 f1 f2 f3 f4 hgl;go_wp2_with fail
       go_roundg (M.length - (j+1))
       case measure=>omega
       case rel=>exact ⟨j+1,_,N,Z,by go_num,by omega,rfl,I6.out,by rw [J.out.2.2.2.2.2.1,HS.out.2.2],HSm.out.1.set HS.out.2.1,by have:=HSm.out.2;omega⟩
    ·have hk':(t.kind == 2)=false:=by simpa using hk
     have HK:=hid hk;clear hk;have HAd:=hid (add_any t a1 c1 (w.heap.size+1) (fun b=>ok b∧b<w.heap.size) (w.heap.size+1) Z N w2 J.out.1.kn (J.out.2.2.1.mono fun b hb=>⟨hb,by omega⟩) J.out.2.2.2.1 HCT.out.1 (by have:=HSm.out.2;have:=hMM.out.1;omega))
     rw [HSm.out.1 t HK.out] at HAd;have hnl:nb<w2.heap.size:=J.out.2.2.2.2.1.lt
     cases hr:A.1.any (sameB t) with
     | true =>
      rw [hr] at HAd;have HRr:=hid (show altS A t=A by unfold altS;rw [if_neg (by rw [HNo.out];decide),if_neg HK.out,if_pos hr])
      clear hr;go_wp2_with fail;refine HAd.out.mono ?_;rintro e w3 ⟨rfl,Z',hK,q3,hz⟩
      simp only [if_true] at hK
      have K:=hid (J.out.1.known hK q3 hz);clear hK q3 hz y0 y1 y2 y3 y4 y5 y6 y7;go_wp2_with fail
      go_roundg (M.length - (j+1))
      case measure=>omega
      case rel=>exact ⟨j+1,A,N,Z',by go_num,by omega,by rw [HX.out],K.out,by rw [J.out.2.2.2.2.2.1,HRr.out],HSm.out.1,by have:=HSm.out.2;omega⟩
     | false =>
      rw [hr] at HAd;have HRr:=hid (show altS A t=(A.1++[t],A.2) by unfold altS;rw [if_neg (by rw [HNo.out];decide),if_neg HK.out,if_neg (by rw [hr];decide)])
      clear hr;go_wp2_with fail;refine HAd.out.mono ?_;rintro e w3 ⟨rfl,Z',hK,q3,hz⟩
      simp only [Bool.false_eq_true,if_false] at hK
      have hzn:¬ Z nb:=fun e=>by have:=HCT.out.2 nb e;omega
      have bb:=J.out.2.2.2.2.1.keep q3 hzn;have hl3:=J.out.2.2.1.keep q3 (fun b hb e=>by have:=(J.out.1.kn.zlt b e).1;omega)
      obtain ⟨g,lcap,hu,-⟩:=J.out.1.row.lie J.out.1.own
      obtain ⟨v',w9,hrun,hI⟩:=(J.out.1.known hK q3 hz).push t a1 c1 J.out.2.2.2.1 hl3 (by have:=J.out.2.2.2.2.2.2;omega) A.2 (fun i hi=>by
       obtain ⟨s,hs,he⟩:=J.out.1.cls i hi
       exact ⟨s,hs,by rw [List.getElem?_append_left (List.getElem?_eq_some_iff.1 he).1];exact he⟩) 25
      have H9:=hid hI;subst hu;clear hK q3 hz y0 y1 y2 y3 y4 y5 y6 y7 hI hl3 hzn;obtain ⟨⟨y0,y1,y2,y3,y4,y5,y6,y7⟩,-⟩:=cells8 bb;clear bb;go_wp2_with (at_builtin;refine Lib.wpList_append_run _ rfl _ _ _ _ rfl _ _ rfl rfl _ _ hrun ?_);clear hrun;go_wp2_with fail
      go_roundg (M.length - (j+1))
      case measure=>omega
      case rel=>exact ⟨j+1,_,N++[t],Z',by go_num,by omega,by rw [← HX.out],H9.out,by rw [J.out.2.2.2.2.2.1,HRr.out],HSm.out.1.push t,by rw [List.length_append];have:=HSm.out.2;simp;omega⟩
  ·have hje:j=M.length:=by omega
   rw [hje,List.take_length] at hA;have hT:tt=joinT 4 A.1 noT:=by
    rw [← HH.out.1]
    show joinT 4 (M.foldl altS ([],none)).1 noT=_
    rw [hA]
   have HT:=hid hT;have II:=hid I;clear I hje hT hA;go_wp2_with fail;refine (cnothing_any (fun _=>False) wr).mono ?_
   rintro e w3 ⟨⟨v,rfl,na,nc,rfl,hle,hlie⟩,q3⟩;have I3:=II.out.quiet q3;obtain ⟨fa,fc,hu,hfc,hlf⟩:=I3.row.lie I3.own;have R3:=hid I3.rb;have hn2:=I3.bs;have hn5:=q3.size;have hn6:=II.out.bs
   have HC:=hid (cjoin_any 4 A.1 fa fc noT na nc (fun k=>(ok k∨w.heap.size≤k)∧k≠w.heap.size) w3 (hlf.mono fun k hk=>by
    rcases hk with hk | hk
    ·exact ⟨.inl hk.1,by omega⟩
    ·exact ⟨.inr (by omega),by omega⟩) hfc (lie_of (w:=w) (ok:=ok) (n:=w.heap.size) hlie (by omega) (by omega) (fun k h=>h.elim)) hle)
   subst hu;clear hlf hlie I3 q3;go_wp2_with fail;refine HC.out.mono ?_;rintro e w4 ⟨⟨v,rfl,ja,jc,rfl,hle,hlie⟩,q4⟩;have R4:=hid (R3.out.next q4);have HE:=hid (And.intro hle (lie_of (w:=w) (ok:=ok) (n:=w.heap.size) hlie (by omega) (by omega) (fun k h=>h)))
   clear q4 hlie hle hn2 hn5 hn6;generalize joinT 4 A.1 noT=tj at *;obtain ⟨⟨d0,d1,d2,d3,d4,d5,d6,d7⟩,f0,f1,f2,f3,f4,f5,f6,f7⟩:=cells8 R4.out.out;have hlt:=R4.out.out.lt;go_wp2_with fail
   change bodyPost _ _ _ _ _ (putNd (w4) (w.heap.size) 0 (tj) (ja) (jc))
   have hP:=R4.out.put (tj) (ja) (jc);have hG:=(by rw [HT.out];exact R4.out.gives (ok:=ok) HE.out.1 HE.out.2:Gives w ok tt (.returned (nodeV tj ja jc)) (putNd w4 w.heap.size 0 tj ja jc))
   generalize (putNd (w4) (w.heap.size) 0 (tj) (ja) (jc))=W9 at hP hG ⊢;obtain ⟨⟨e0,e1,e2,e3,e4,e5,e6,e7⟩,-⟩:=cells8 hP.1;exact bodyPost_ret (v:=nodeV (tj) (ja) (jc)) (by simp [results,Try.results44,go_sem,e0,e1,e2,e3,e4,e5,e6,e7]) rfl hG
theorem calt_any (L:List T) (a:Option Addr) (cap:Nat) (ok:Nat→Prop) (w:World) (hL:Lie w ok a L) (hcnt:cntL L≤500000) (hsets:∀ t ∈ unf 4 L,t.set.Ok) :
  Calls Try.prog 44 #[.slice a L.length cap] w (Gives w ok (altT L)):=calt_par L a cap ok w (LieP.of hL) hcnt hsets
end P10
namespace P10
open Go.RowKit Base Bytes P07 P08
open Sets (ST)
theorem OE.setN {w:World} {E:Nat→Prop} {g n cap:Nat} {L:List T} (h:OE w E (.slice (some ⟨g,0,none⟩) n cap) L) (hE:¬ E g) {i:Nat} (hi:i<L.length) (t:T) (a:Option Addr) (c:Nat) (hc:t.subs.length≤c) (hl:Lie w E a t.subs) :
  OE (putNd w g (i * 8) t a c) E (.slice (some ⟨g,0,none⟩) n cap) (L.set i t):=by
 obtain ⟨X,h1,h3,rfl⟩:=h;rw [List.length_map] at hi;have hn:n=X.length:=by
  rcases h1.2 with ⟨e,h0⟩ | ⟨g',cap',cur,e,-⟩
  ·cases e
  ·injection e
 subst hn;have hlie:∀ {a':Option Addr} {M:List T},Lie w E a' M→Lie (putNd w g (i * 8) t a c) E a' M:=fun {a' M} h=>h.keep (putNd_keep w g (i * 8) t a c) (fun k hk e=>hE (by rw [← e];exact hk))
 refine ⟨X.set i (t,a,c),?_,fun x hx=>?_,by rw [List.map_set]⟩
 ·rw [List.length_set]
  exact rowN_set h1 hi t a c
 ·rcases List.mem_or_eq_of_mem_set hx with hx | rfl
  ·exact ⟨(h3 x hx).1,hlie (h3 x hx).2⟩
  ·exact ⟨hc,hlie hl⟩
theorem make_nodesE (n:Nat) (hn:n≤1000000) (E:Nat→Prop) (w:World) :
  ∃ w',(Instr.makeSlice 25 (.int .i64 (n:Int)) (.int .i64 (n:Int))).run Try.prog w=.ok (.slice (some ⟨w.heap.size,0,none⟩) n n) w'∧OE w' E (.slice (some ⟨w.heap.size,0,none⟩) n n) (List.replicate n zT)∧Keep (fun _=>False) w w':=by
 obtain ⟨i0,hi0,hz0,hz1,hz2⟩:=info_parts infoN;obtain ⟨w',hr,h1,h2⟩:=run_make_full (P:=Try.prog) (w:=w) 0 25 27 i0 (.agg #[.int .i64 0,.int .u64 0,.int .u64 0,.int .u64 0,.int .u64 0,.int .i64 0,.int .i64 0,.slice none 0 0]) 8 Try.underlying25 hi0 hz0 hz1 .i64 .i64 n (by rw [hz2];omega) (by simp only [maxLen];omega) (Nat.zero_le _)
 refine ⟨w',hr,⟨List.replicate n (zT,none,0),?_,fun x hx=>?_,by simp⟩,(nkeep_grown h2).mono (fun _ h=>by cases h)⟩
 ·rw [← makeN_cells,List.length_replicate]
  exact h1
 ·rw [List.eq_of_mem_replicate hx]
  exact ⟨Nat.le_refl _,.nil _⟩
theorem set_next {A:List T} {m:Nat} {x:T}:(A++List.replicate (m+1) zT).set A.length x=(A++[x])++List.replicate m zT:=by
 rw [List.set_append_right _ _ (Nat.le_refl _),Nat.sub_self,List.replicate_succ,List.set_cons_zero,List.append_assoc]
 rfl
theorem sets_ok {k:Int} {d:Nat} {L:List T} (h:∀ t ∈ L,RT d t):∀ t ∈ unf k L,t.set.Ok:=fun t ht=>by
 have:RT d t:=by
  rcases mem_unf ht with ⟨h1,-⟩ | ⟨u,hu,-,h1⟩
  ·exact h t h1
  ·exact sub_right (h u hu).subs t h1
 have:=RT_sok t d this
 cases t
 rw [SOk] at this;exact this.1
theorem Gives.drew {w:World} {ok:Nat→Prop} {t:T} {e:Ending} {W:World} (h:Gives w ok t e W):Gives w ok t e W.drew:=by
 obtain ⟨⟨v,h1,h2⟩,h3⟩:=h;exact ⟨⟨v,h1,h2.keep ((Keep.refl (fun _=>False) W).drew) (fun _ _ h=>h)⟩,h3.drew⟩
theorem end12 {w wr:World} {ok:Nat→Prop} {tt:T} {k:Int} {st:ST} (h:Rb w w.heap.size wr) (hT:tt=.nd k st 0 0 []) :
  At ((put8 wr w.heap.size (.int .i64 k) (.int .u64 st.x0) (.int .u64 st.x1) (.int .u64 st.x2) (.int .u64 st.x3) (.int .i64 0) (.int .i64 0) (.slice none 0 0)).drew) w.heap.size 27 #[.int .i64 k,.int .u64 st.x0,.int .u64 st.x1,.int .u64 st.x2,.int .u64 st.x3,.int .i64 0,.int .i64 0,.slice none 0 0]
  ∧ Gives w ok tt (.returned (.agg #[.int .i64 k,.int .u64 st.x0,.int .u64 st.x1,.int .u64 st.x2,.int .u64 st.x3,.int .i64 0,.int .i64 0,.slice none 0 0])) ((put8 wr w.heap.size (.int .i64 k) (.int .u64 st.x0) (.int .u64 st.x1) (.int .u64 st.x2) (.int .u64 st.x3) (.int .i64 0) (.int .i64 0) (.slice none 0 0)).drew):=by
 subst hT;have h1:=(h.put (.nd k st 0 0 []) none 0).1;have h2:=h.gives (ok:=ok) (t:=.nd k st 0 0 []) (a:=none) (c:=0) (Nat.le_refl 0) (.nil none);have e:putNd wr w.heap.size 0 (.nd k st 0 0 []) none 0=put8 wr w.heap.size (.int .i64 k) (.int .u64 st.x0) (.int .u64 st.x1) (.int .u64 st.x2) (.int .u64 st.x3) (.int .i64 0) (.int .i64 0) (.slice none 0 0):=rfl;rw [e] at h1 h2;generalize put8 wr w.heap.size (.int .i64 k) (.int .u64 st.x0) (.int .u64 st.x1) (.int .u64 st.x2) (.int .u64 st.x3) (.int .i64 0) (.int .i64 0) (.slice none 0 0)=V at *;exact ⟨h1,h2.drew⟩
theorem Rb.turnN {w:World} {n:Nat} {W W':World} {g:Nat} (h:Rb w n W) (q:Keep (fun b=>b=g) W W') (hg:n<g):Rb w n W' :=
 ⟨h.out.keep q (by omega),h.keep.next q (fun i hi hl=>by have:=h.lt;omega),h.lt⟩
def SimpOk (t:T):Prop:=∀ (d:Nat),RT d t→cnt t≤250000→∀ (bl o:Nat) (a:Option Addr) (c:Nat) (ok:Nat→Prop) (w:World),NodeP w bl o t a c→ok bl→Lie w ok a t.subs→t.subs.length≤c →
 Calls Try.prog 33 #[.pointer (some ⟨bl,o,none⟩)] w (Gives w ok (simT t))
theorem simple_step (n:Nat) (ih:∀ t:T,SizeOf.sizeOf t<n→SimpOk t) (t:T) (hsz:SizeOf.sizeOf t<n+1):SimpOk t:=by
 intro d hR hB bl o a c ok w hP hokb hL hc;have r0:Rb w w.heap.size (w.alloc (.cells nzeros 27)):=⟨At.new w nzeros 27,(Keep.refl (fun _=>False) w).alloc _,Nat.le_refl _⟩
 obtain ⟨tt,htt⟩:∃ tt,simT t=tt:=⟨_,rfl⟩;rw [htt];have hlen:t.subs.length≤250000:=by
  have h1:=len_cntL t.subs;rw [cnt_eq] at hB;omega
 have hli:(t.subs.length:Int)≤250000:=by omega
 have HTT:=hid htt;have hP0:=hP.keepF r0.keep;have hs0:(w.alloc (.cells nzeros 27)).heap.size=w.heap.size+1:=by simp
 have H0:=hid (And.intro r0 (And.intro hP0 (And.intro (hL.under.keepF r0.keep) (And.intro hokb (And.intro hR (And.intro hc (And.intro ih (And.intro hsz (And.intro hB (show bl<w.heap.size from hP.lt))))))))))
 clear r0 hP hP0 hL htt hR hc hsz hB hlen
 go_enter Try.func33,Try.ntmps33
 go_upto_region 1 with fail;generalize (w.alloc (.cells nzeros 27))=W0 at *;obtain ⟨y0,y1,y2,y3,y4,y5,y6,y7⟩:=H0.out.2.1.eight;obtain ⟨W1,hmk,ho1,q1⟩:=make_nodesE t.subs.length (by omega) (fun b=>(ok b∧b<w.heap.size)∨w.heap.size+1<b) W0
 rw [hs0] at hmk ho1;have H1:=hid (And.intro ho1 q1);clear ho1 q1;go_upto_region 2 with fail;clear hmk y0 y1 y2 y3 y4 y5 y6 y7;obtain ⟨y0,y1,y2,y3,y4,y5,y6,y7⟩:=(H0.out.2.1.keepF H1.out.2).eight;go_wp2_with fail
 go_loopg [4,16] t.subs.length (fun gg i4 i wr=>∃ k:Nat,i=.int .i64 k∧k+gg=t.subs.length∧OE wr (fun b=>(ok b∧b<w.heap.size)∨w.heap.size+1<b) (.slice (some ⟨w.heap.size+1,0,none⟩) t.subs.length t.subs.length) (((t.subs.take k).map simT)++List.replicate (t.subs.length - k) zT)∧Rb w w.heap.size wr∧Keep (fun b=>b=w.heap.size+1) W1 wr)
 case atStart=>exact ⟨0,rfl,by omega,H1.out.1,H0.out.1.next H1.out.2,Keep.refl _ _⟩
 case round =>
  obtain ⟨k,rfl,hk,hrow,hrb,hkp⟩:=hrel;have k0:(0:Int)≤k:=by omega
  by_cases hlt:k<t.subs.length
  ·have hlt':(k:Int)<t.subs.length:=by omega
   obtain ⟨u,hu⟩:∃ u,t.subs[k]?=some u:=⟨t.subs[k],List.getElem?_eq_getElem hlt⟩;have hLr:=H0.out.2.2.1.keepF H1.out.2;have hq:Keep (fun b=>b=w.heap.size+1) W1 wr:=hkp
   obtain ⟨bl2,off,a1,c1,ea,hok2,hbl2,le1,L1,C1⟩:=(hLr.keep hq (fun b hb e=>by omega)).get hu
   have hPt:=H0.out.2.1.keepF H1.out.2;have hPt2:=hPt.keep hq (by have:=H0.out.2.2.2.2.2.2.2.2.2;omega)
   have hN:NodeP wr bl2 (off+k * 8) u a1 c1:=⟨hbl2,C1⟩;have hIH:=H0.out.2.2.2.2.2.2.1 u (by have:=sub_less hu;have:=H0.out.2.2.2.2.2.2.2.1;omega) d (sub_right H0.out.2.2.2.2.1.subs u (List.mem_of_getElem? hu)) (by have:=cntL_le hu;have h2:=H0.out.2.2.2.2.2.2.2.2.1;rw [cnt_eq t] at h2;omega) bl2 (off+k * 8) a1 c1 (fun b=>ok b∧b<w.heap.size) wr hN hok2 L1 le1
   have hgz:w.heap.size+1<wr.heap.size:=hrow.lt rfl;have hz:(((t.subs.take k).map simT)++List.replicate (t.subs.length - k) zT)[k]?=some zT:=by
    rw [List.getElem?_append_right (by rw [List.length_map,List.length_take];omega),List.length_map,List.length_take,Nat.min_eq_left (by omega),Nat.sub_self,List.getElem?_replicate,if_pos (by omega)]
   have J:=hid (And.intro hrow (And.intro hrb (And.intro hu (And.intro hz (And.intro hkp (And.intro hgz hIH))))));have ea':a=some ⟨bl2,off,none⟩:=ea;obtain ⟨y0,y1,y2,y3,y4,y5,y6,y7⟩:=hPt2.eight;clear hrow hrb hu hz hkp hq hLr L1 C1 hbl2 hok2 le1 hPt hPt2 hN hIH ea;subst ea';go_upto_region 5 with fail;go_wp2_with fail;refine J.out.2.2.2.2.2.2.mono ?_;rintro e w2 ⟨⟨v,rfl,ra,rc,rfl,hle,hlie⟩,q2⟩;obtain ⟨g',cap',a3,c3,ev,-,hgl,-,-,C3,hfz⟩:=(J.out.1.keep q2 (fun _ _ h=>h) (fun _ _ h=>h)).get J.out.2.2.2.1
   injection ev with ev1 ev2 ev3;injection ev1 with ev1;injection ev1 with ev1;subst ev1;obtain ⟨z0,z1,z2,z3,z4,z5,z6,z7⟩:=ncell (o:=k * 8) C3;have f0:=hfz (k * 8);have f1:=hfz (k * 8+1);have f2:=hfz (k * 8+2);have f3:=hfz (k * 8+3);have f4:=hfz (k * 8+4);have f5:=hfz (k * 8+5);have f6:=hfz (k * 8+6);have f7:=hfz (k * 8+7)
   have K:=hid (And.intro (OE.setN (J.out.1.keep q2 (fun _ _ h=>h) (fun _ _ h=>h)) (fun e=>by omega) (i:=k) (by simp;omega) (simT u) ra rc hle (hlie.mono fun b hb=>by
     rcases hb with hb | hb
     ·exact .inl hb
     ·exact .inr (by have:=J.out.2.2.2.2.2.1;omega))) (And.intro (J.out.2.1.next q2) (And.intro (putNd_keep w2 (w.heap.size+1) (k * 8) (simT u) ra rc) (J.out.2.2.2.2.1.trans (q2.mono (fun _ h=>h.elim))))))
   clear C3 hfz hlie hle q2 ev2 ev3;obtain ⟨X,hX⟩:∃ X,simT u=X:=⟨_,rfl⟩;rw [hX] at K ⊢;have HX:=hid hX;clear hX;go_wp2_with fail;unfold putNd at K;generalize World.setCell _ _ _=W6 at *
   go_roundg (t.subs.length - (k+1))
   case measure=>omega
   case rel =>
    have hn:w.heap.size<w.heap.size+1:=by omega
    refine ⟨k+1,by go_num,by omega,?_,K.out.2.1.turnN K.out.2.2.1 (by omega),K.out.2.2.2.trans K.out.2.2.1⟩
    have e1:=K.out.1;have e2:t.subs.length - k=(t.subs.length - (k+1))+1:=by omega
    rw [e2] at e1;have e3:=set_next (A:=(t.subs.take k).map simT) (m:=t.subs.length - (k+1)) (x:=X);rw [List.length_map,List.length_take,Nat.min_eq_left (by omega)] at e3
    rw [e3] at e1;have e4:(t.subs.take (k+1)).map simT=(t.subs.take k).map simT++[X]:=by
     rw [List.take_add_one,J.out.2.2.1,List.map_append,← HX.out]
     rfl
    rw [e4];exact e1
  ·have hke:k=t.subs.length:=by omega
   subst hke;rw [List.take_length,Nat.sub_self,List.replicate_zero,List.append_nil] at hrow;have hall:∀ m ∈ t.subs.map simT,RT d m∧cnt m≤250000:=fun m hm=>by
    obtain ⟨u,hu,rfl⟩:=List.mem_map.1 hm;have h1:=sim_ok u d (sub_right H0.out.2.2.2.2.1.subs u hu);obtain ⟨i,hi⟩:=List.mem_iff_getElem?.1 hu;have h2:=cntL_le hi;have h3:=H0.out.2.2.2.2.2.2.2.2.1;rw [cnt_eq t] at h3;have h4:=h1.1.cnt;exact ⟨h1.1.rt,by omega⟩
   have hcl:cntL (t.subs.map simT)≤500000:=by
    have h1:=cntL_map (f:=simT) t.subs fun u hu=>(sim_ok u d (sub_right H0.out.2.2.2.2.1.subs u hu)).1.cnt
    have h3:=H0.out.2.2.2.2.2.2.2.2.1;rw [cnt_eq t] at h3;omega
   have hlieR:Lie wr (fun b=>(ok b∨w.heap.size≤b)∧b≠w.heap.size) (some ⟨w.heap.size+1,0,none⟩) (t.subs.map simT):=by
    obtain ⟨ra,rc,e1,-,e2⟩:=hrow.lie (n0:=w.heap.size+1) (fun g (hg:some (w.heap.size+1)=some g)=>by injection hg with hg;omega)
    injection e1 with e1;subst e1;exact e2.mono fun b hb=>by
     rcases hb with (hb | hb) | hb
     ·exact ⟨.inl hb.1,by omega⟩
     ·exact ⟨.inr (by omega),by omega⟩
     ·exact ⟨.inr (by omega),by omega⟩
   have hPt2:=(H0.out.2.1.keepF H1.out.2).keep (S:=fun b=>b=w.heap.size+1) hkp (by have:=H0.out.2.2.2.2.2.2.2.2.2;omega)
   have J:=hid (And.intro hrb (And.intro hlieR (And.intro hcl (And.intro hall (And.intro hrow hPt2)))));obtain ⟨y0,y1,y2,y3,y4,y5,y6,y7⟩:=hPt2.eight;clear hrow hrb hkp hall hcl hlieR hPt2;have hsets3:=sets_ok (k:=3) (L:=t.subs.map simT) (d:=d) fun m hm=>(J.out.2.2.2.1 m hm).1
   have hsets4:=sets_ok (k:=4) (L:=t.subs.map simT) (d:=d) fun m hm=>(J.out.2.2.2.1 m hm).1
   have HS:=hid (And.intro hsets3 hsets4);clear hsets3 hsets4
   by_cases h3:t.kind=3
   ·have hb3:(t.kind == 3)=true:=by simpa using h3
    have HT:=hid (show tt=catT (t.subs.map simT) by rw [← HTT.out,simT_eq,if_pos h3])
    have HC:=hid (ccat_any (t.subs.map simT) (some ⟨w.heap.size+1,0,none⟩) t.subs.length (fun b=>(ok b∨w.heap.size≤b)∧b≠w.heap.size) wr J.out.2.1 J.out.2.2.1 HS.out.1)
    rw [List.length_map] at HC;clear h3;go_wp2_with fail;refine HC.out.mono ?_;rintro e w4 ⟨⟨v,rfl,ja,jc,rfl,hle,hlie⟩,q4⟩;have R4:=hid (J.out.1.next q4);have hn2:=J.out.1.out.lt;have hn3:=J.out.1.keep.size;have HE:=hid (And.intro hle (lie_of (w:=w) (ok:=ok) (n:=w.heap.size) hlie (by omega) (by omega) (fun k h=>h)))
    clear q4 hlie hle hn2 hn3;generalize catT (t.subs.map simT)=tj at *;obtain ⟨⟨d0,d1,d2,d3,d4,d5,d6,d7⟩,f0,f1,f2,f3,f4,f5,f6,f7⟩:=cells8 R4.out.out;have hlt:=R4.out.out.lt;go_wp2_with fail
    change bodyPost _ _ _ _ _ (putNd (w4) (w.heap.size) 0 (tj) (ja) (jc))
    have hP:=R4.out.put (tj) (ja) (jc);have hG:=(by rw [HT.out];exact R4.out.gives (ok:=ok) HE.out.1 HE.out.2:Gives w ok tt (.returned (nodeV tj ja jc)) (putNd w4 w.heap.size 0 tj ja jc))
    generalize (putNd (w4) (w.heap.size) 0 (tj) (ja) (jc))=W9 at hP hG ⊢;obtain ⟨⟨e0,e1,e2,e3,e4,e5,e6,e7⟩,-⟩:=cells8 hP.1;exact bodyPost_ret (v:=nodeV (tj) (ja) (jc)) (by simp [results,Try.results33,go_sem,e0,e1,e2,e3,e4,e5,e6,e7]) rfl hG
   have hb3:(t.kind == 3)=false:=by simpa using h3
   by_cases h4:t.kind=4
   ·have hb4:(t.kind == 4)=true:=by simpa using h4
    have HT:=hid (show tt=altT (t.subs.map simT) by rw [← HTT.out,simT_eq,if_neg h3,if_pos h4])
    have HC:=hid (calt_any (t.subs.map simT) (some ⟨w.heap.size+1,0,none⟩) t.subs.length (fun b=>(ok b∨w.heap.size≤b)∧b≠w.heap.size) wr J.out.2.1 J.out.2.2.1 HS.out.2)
    rw [List.length_map] at HC;clear h3 h4;go_wp2_with fail;refine HC.out.mono ?_;rintro e w4 ⟨⟨v,rfl,ja,jc,rfl,hle,hlie⟩,q4⟩;have R4:=hid (J.out.1.next q4);have hn2:=J.out.1.out.lt;have hn3:=J.out.1.keep.size;have HE:=hid (And.intro hle (lie_of (w:=w) (ok:=ok) (n:=w.heap.size) hlie (by omega) (by omega) (fun k h=>h)))
    clear q4 hlie hle hn2 hn3;generalize altT (t.subs.map simT)=tj at *;obtain ⟨⟨d0,d1,d2,d3,d4,d5,d6,d7⟩,f0,f1,f2,f3,f4,f5,f6,f7⟩:=cells8 R4.out.out;have hlt:=R4.out.out.lt;go_wp2_with fail
    change bodyPost _ _ _ _ _ (putNd (w4) (w.heap.size) 0 (tj) (ja) (jc))
    have hP:=R4.out.put (tj) (ja) (jc);have hG:=(by rw [HT.out];exact R4.out.gives (ok:=ok) HE.out.1 HE.out.2:Gives w ok tt (.returned (nodeV tj ja jc)) (putNd w4 w.heap.size 0 tj ja jc))
    generalize (putNd (w4) (w.heap.size) 0 (tj) (ja) (jc))=W9 at hP hG ⊢;obtain ⟨⟨e0,e1,e2,e3,e4,e5,e6,e7⟩,-⟩:=cells8 hP.1;exact bodyPost_ret (v:=nodeV (tj) (ja) (jc)) (by simp [results,Try.results33,go_sem,e0,e1,e2,e3,e4,e5,e6,e7]) rfl hG
   have hb4:(t.kind == 4)=false:=by simpa using h4
   by_cases h5:t.kind=5
   ·have hb5:(t.kind == 5)=true:=by simpa using h5
    obtain ⟨u,mn,mx,et,b0,b1,bx,hI⟩:=rep_is H0.out.2.2.2.2.1 h5;have hsub:t.subs=[u]:=by rw [et];rfl
    have hmn:t.mn=mn:=by rw [et];rfl
    have hmx:t.mx=mx:=by rw [et];rfl
    have hl1:t.subs.length=1:=by rw [hsub];rfl
    have HT:=hid (show tt=repP (simT u) t.mn t.mx by rw [← HTT.out,simT_eq,if_neg h3,if_neg h4,if_pos h5,hsub,simH])
    have hru:=(J.out.2.2.2.1 (simT u) (by rw [hsub];simp)).1
    obtain ⟨g',cap',a3,c3,ev,-,hgl,le3,L3,C3,-⟩:=J.out.2.2.2.2.1.get (i:=0) (t:=simT u) (by rw [hsub];rfl)
    injection ev with ev1 ev2 ev3;injection ev1 with ev1;injection ev1 with ev1;subst ev1;obtain ⟨z0,z1,z2,z3,z4,z5,z6,z7⟩:=ncell (o:=0 * 8) C3;rw [Nat.zero_mul] at z0 z1 z2 z3 z4 z5 z6 z7
    simp only [Nat.zero_add] at z1 z2 z3 z4 z5 z6 z7
    have HC:=hid (fun W (q:Keep (fun _=>False) wr W)=>crep_any (simT u) d hru t.mn t.mx a3 c3 (fun b=>(ok b∨w.heap.size≤b)∧b≠w.heap.size) W ((L3.mono fun b hb=>by
     rcases hb with hb | hb
     ·exact ⟨.inl hb.1,by omega⟩
     ·exact ⟨.inr (by omega),by omega⟩).keepF q) le3)
    obtain ⟨X,hX⟩:∃ X,simT u=X:=⟨_,rfl⟩;rw [hX] at z0 z1 z2 z3 z4 z5 z6 z7 HC HT;obtain ⟨tj,htj⟩:∃ tj,repP X t.mn t.mx=tj:=⟨_,rfl⟩;rw [htj] at HC HT;rw [hl1] at *;clear h3 h4 h5 et hsub hmn hmx b0 b1 bx hI hru L3 C3 hX htj hgl le3 ev2 ev3;go_wp2_with fail;have HW:=hid (And.intro J.out.1.out.lt J.out.1.keep.size)
    go_region_with (go_at_call 45;refine (HC.out _ (by first | exact ((Keep.refl _ _).drewN _) | exact ((Keep.refl _ _).drew) | exact Keep.refl _ _)).mono ?_;rintro e w4 ⟨⟨v,rfl,ja,jc,rfl,hle,hlie⟩,q4⟩;have R4:=hid (J.out.1.next (by first | exact ((Keep.refl _ _).drewN _).trans q4 | exact ((Keep.refl _ _).drew).trans q4 | exact q4));have HE:=hid (And.intro hle (lie_of (w:=w) (ok:=ok) (n:=w.heap.size) hlie (by first | exact HW.out.1) (by first | exact HW.out.2) (fun k h=>h)));clear q4 hlie hle;obtain ⟨⟨d0,d1,d2,d3,d4,d5,d6,d7⟩,f0,f1,f2,f3,f4,f5,f6,f7⟩:=cells8 R4.out.out;have hlt:=R4.out.out.lt)
    all_goals
     have hG:Gives w ok tt (.returned (nodeV tj ja jc)) (putNd w4 w.heap.size 0 tj ja jc):=by rw [HT.out];exact R4.out.gives (ok:=ok) (t:=tj) HE.out.1 HE.out.2
     have hP:At (put8 w4 w.heap.size (.int .i64 (T.kind tj)) (.int .u64 (T.set tj).x0) (.int .u64 (T.set tj).x1) (.int .u64 (T.set tj).x2) (.int .u64 (T.set tj).x3) (.int .i64 (T.mn tj)) (.int .i64 (T.mx tj)) (.slice ja (T.subs tj).length jc)) w.heap.size 27 (ncells tj ja jc)∧Gives w ok tt (.returned (nodeV tj ja jc)) (put8 w4 w.heap.size (.int .i64 (T.kind tj)) (.int .u64 (T.set tj).x0) (.int .u64 (T.set tj).x1) (.int .u64 (T.set tj).x2) (.int .u64 (T.set tj).x3) (.int .i64 (T.mn tj)) (.int .i64 (T.mx tj)) (.slice ja (T.subs tj).length jc)):=⟨(R4.out.put tj ja jc).1,hG⟩;clear hG;unfold put8 at hP;generalize World.setCell _ _ _=W9 at *;clear d0 d1 d2 d3 d4 d5 d6 d7 f0 f1 f2 f3 f4 f5 f6 f7;obtain ⟨⟨e0,e1,e2,e3,e4,e5,e6,e7⟩,-⟩:=cells8 hP.1;have HP:=hid hP;clear hP;go_wp2_with fail;exact bodyPost_ret (v:=nodeV tj ja jc) (by simp [results,Try.results33,go_sem,e0,e1,e2,e3,e4,e5,e6,e7]) rfl HP.out.2
   ·have hb5:(t.kind == 5)=false:=by simpa using h5
    have HT:=hid (show tt=.nd t.kind t.set 0 0 [] by
     rw [← HTT.out,simT_eq,if_neg h3,if_neg h4,if_neg h5];have hk:=kinds H0.out.2.2.2.2.1
     by_cases h1:t.kind=1
     ·have:=eps_is H0.out.2.2.2.2.1 h1
      rw [this]
      rfl
     ·have:=(cls_is H0.out.2.2.2.2.1 (by omega)).1
      rw [this]
      rfl)
    have R4:=hid J.out.1;obtain ⟨⟨d0,d1,d2,d3,d4,d5,d6,d7⟩,f0,f1,f2,f3,f4,f5,f6,f7⟩:=cells8 R4.out.out;have hlt:=R4.out.out.lt;clear h3 h4 h5;go_wp2_with fail
    go_region
    all_goals
     have hP:=end12 (ok:=ok) R4.out HT.out;unfold put8 at hP;generalize World.drew _=W9 at *;clear d0 d1 d2 d3 d4 d5 d6 d7 f0 f1 f2 f3 f4 f5 f6 f7;obtain ⟨⟨e0,e1,e2,e3,e4,e5,e6,e7⟩,-⟩:=cells8 hP.1;have HP:=hid hP;clear hP;go_wp2_with fail;exact bodyPost_ret (v:=.agg #[.int .i64 t.kind,.int .u64 t.set.x0,.int .u64 t.set.x1,.int .u64 t.set.x2,.int .u64 t.set.x3,.int .i64 0,.int .i64 0,.slice none 0 0]) (by simp [results,Try.results33,go_sem,e0,e1,e2,e3,e4,e5,e6,e7,T.kind,T.set,T.subs]) rfl HP.out.2
theorem simple_all:∀ (n:Nat) (t:T),SizeOf.sizeOf t<n→SimpOk t
 | 0,_,h=>absurd h (Nat.not_lt_zero _)
 | n+1,t,h=>simple_step n (simple_all n) t h
theorem simple_any (t:T):SimpOk t:=simple_all _ t (Nat.lt_succ_self _)
end P10
namespace P10
open Go.RowKit Base Bytes P07 P08
open Sets (ST)
def Gives2 (w:World) (ok:Nat→Prop) (t:T) (er:Int) (e:Ending) (w':World):Prop:=(∃ v,e=.returned (.tuple #[v,.int .i64 er])∧NodeV w' (fun k=>ok k∨w.heap.size≤k) v t)∧Keep (fun _=>False) w w'
theorem csimple_right (t:T) (hR:RT 12 t) (hcnt:cnt t≤250000) (a:Option Addr) (c:Nat) (ok:Nat→Prop) (w:World) (hL:Lie w ok a t.subs) (hc:t.subs.length≤c) :
  Calls Try.prog 18 #[nodeV t a c] w (Gives2 w ok (simT t) 0):=by
 have b0:=(At.new w (ncells t a c) 27).alloc (.cells nzeros 27);have r0:Rb w (w.heap.size+1) ((w.alloc (.cells (ncells t a c) 27)).alloc (.cells nzeros 27)):=by
  refine ⟨?_,((Keep.refl (fun _=>False) w).alloc _).alloc _,by omega⟩
  have:=At.new (w.alloc (.cells (ncells t a c) 27)) nzeros 27;rw [show (w.alloc (.cells (ncells t a c) 27)).heap.size=w.heap.size+1 from by simp] at this
  exact this
 have hl0:=hL.under.keepF r0.keep;have H0:=hid (And.intro r0 (And.intro b0 (And.intro hl0 (And.intro hR (And.intro hcnt hc)))));clear r0 b0 hl0 hL hR hcnt hc
 go_enter Try.func18,Try.ntmps18
 go_upto_region 1 with fail;generalize ((w.alloc (.cells (ncells t a c) 27)).alloc (.cells nzeros 27))=W at *;obtain ⟨⟨y0,y1,y2,y3,y4,y5,y6,y7⟩,-⟩:=cells8 H0.out.2.1;go_wp2_with fail;refine (cRight_any t (RT_sok t 12 H0.out.2.2.2.1) a c W (H0.out.2.2.1.mono fun _ _=>trivial)).mono ?_
 rintro e w1 ⟨rfl,q1⟩;rw [(rightB_iff (RT_sok t 12 H0.out.2.2.2.1)).2 H0.out.2.2.2.1];have HS:=hid (simple_any t 12 H0.out.2.2.2.1 H0.out.2.2.2.2.1 w.heap.size 0 a c (fun b=>(ok b∧b<w.heap.size)∨b=w.heap.size) w1 (NodeP.of_at (H0.out.2.1.keep q1 (fun h=>h))) (.inr rfl) ((H0.out.2.2.1.keepF q1).mono fun b hb=>.inl hb) H0.out.2.2.2.2.2)
 have R1:=hid (H0.out.1.next q1);clear q1 y0 y1 y2 y3 y4 y5 y6 y7;go_wp2_with fail;refine HS.out.mono ?_;rintro e w2 ⟨⟨v,rfl,ja,jc,rfl,hle,hlie⟩,q2⟩;have R2:=hid (R1.out.next q2);have hn2:=R1.out.out.lt
 have HE:=hid (And.intro hle (hlie.mono (ok':=fun k=>(ok k∨w.heap.size≤k)∧k≠w.heap.size+1) fun b hb=>by
  rcases hb with (hb | hb) | hb
  ·exact ⟨.inl hb.1,by omega⟩
  ·exact ⟨.inr (by omega),by omega⟩
  ·exact ⟨.inr (by omega),by omega⟩))
 clear q2 hle hlie hn2;generalize simT t=tj at *;obtain ⟨⟨d0,d1,d2,d3,d4,d5,d6,d7⟩,f0,f1,f2,f3,f4,f5,f6,f7⟩:=cells8 R2.out.out;have hlt:=R2.out.out.lt;go_wp2_with fail
 change bodyPost _ _ _ _ _ (putNd w2 (w.heap.size+1) 0 tj ja jc)
 have hP:=R2.out.put tj ja jc;have hG:=R2.out.gives (ok:=ok) (t:=tj) HE.out.1 HE.out.2;generalize (putNd w2 (w.heap.size+1) 0 tj ja jc)=W9 at hP hG ⊢;obtain ⟨⟨e0,e1,e2,e3,e4,e5,e6,e7⟩,-⟩:=cells8 hP.1;obtain ⟨⟨v,ev,hv⟩,hq⟩:=hG;injection ev with ev;subst ev;exact bodyPost_ret (v:=.tuple #[nodeV tj ja jc,.int .i64 0]) (by simp [results,Try.results18,go_sem,e0,e1,e2,e3,e4,e5,e6,e7]) rfl ⟨⟨_,rfl,hv⟩,hq⟩
theorem csimple_wrong (t:T) (hs:SOk t) (hR:¬ RT 12 t) (a:Option Addr) (c:Nat) (ok:Nat→Prop) (w:World) (hL:Lie w ok a t.subs) :
  Calls Try.prog 18 #[nodeV t a c] w (Gives2 w ok zT 1):=by
 have b0:=(At.new w (ncells t a c) 27).alloc (.cells nzeros 27);have r0:Rb w (w.heap.size+1) ((w.alloc (.cells (ncells t a c) 27)).alloc (.cells nzeros 27)):=by
  refine ⟨?_,((Keep.refl (fun _=>False) w).alloc _).alloc _,by omega⟩
  have:=At.new (w.alloc (.cells (ncells t a c) 27)) nzeros 27;rw [show (w.alloc (.cells (ncells t a c) 27)).heap.size=w.heap.size+1 from by simp] at this
  exact this
 have hl0:=hL.under.keepF r0.keep;have hw:rightB t=false:=by
  cases e:rightB t with
  | false=>rfl
  | true=>exact absurd ((rightB_iff hs).1 e) hR
 have H0:=hid (And.intro r0 (And.intro b0 (And.intro hl0 (And.intro hs hw))));clear r0 b0 hl0 hL hR hs hw
 go_enter Try.func18,Try.ntmps18
 go_upto_region 1 with fail;generalize ((w.alloc (.cells (ncells t a c) 27)).alloc (.cells nzeros 27))=W at *;obtain ⟨⟨y0,y1,y2,y3,y4,y5,y6,y7⟩,-⟩:=cells8 H0.out.2.1;go_wp2_with fail;refine (cRight_any t H0.out.2.2.2.1 a c W (H0.out.2.2.1.mono fun _ _=>trivial)).mono ?_
 rintro e w1 ⟨rfl,q1⟩;rw [H0.out.2.2.2.2];have R2:=hid (H0.out.1.next q1);clear q1 y0 y1 y2 y3 y4 y5 y6 y7;obtain ⟨⟨d0,d1,d2,d3,d4,d5,d6,d7⟩,f0,f1,f2,f3,f4,f5,f6,f7⟩:=cells8 R2.out.out;have hlt:=R2.out.out.lt;go_wp2_with fail
 change bodyPost _ _ _ _ _ (putNd w1 (w.heap.size+1) 0 zT none 0)
 have hP:=R2.out.put zT none 0;have hG:=R2.out.gives (ok:=ok) (t:=zT) (Nat.le_refl 0) (.nil none);generalize (putNd w1 (w.heap.size+1) 0 zT none 0)=W9 at hP hG ⊢;obtain ⟨⟨e0,e1,e2,e3,e4,e5,e6,e7⟩,-⟩:=cells8 hP.1;obtain ⟨⟨v,ev,hv⟩,hq⟩:=hG;injection ev with ev;subst ev;exact bodyPost_ret (v:=.tuple #[nodeV zT none 0,.int .i64 1]) (by simp [results,Try.results18,go_sem,e0,e1,e2,e3,e4,e5,e6,e7]) rfl ⟨⟨_,rfl,hv⟩,hq⟩
end P10
namespace P10
open Go.RowKit Base Bytes P07 P08
open Sets (ST)
theorem xcat_any (L:List T) (a:Option Addr) (cap:Nat) (ok:Nat→Prop) (w:World) (hL:Lie w ok a L) (hcnt:cntL L≤400000) (hsets:∀ t ∈ unf 3 L,t.set.Ok) :
  Calls Try.prog 66 #[.slice a L.length cap] w (Gives w ok (catT L)):=by
 have r0:Rb w w.heap.size (w.alloc (.cells nzeros 27)):=⟨At.new w nzeros 27,(Keep.refl (fun _=>False) w).alloc _,Nat.le_refl _⟩
 have hL1:=hL.under.keepF r0.keep;have hct:=cnt_catT L;have HC:=hid (fun W (q:Keep (fun _=>False) (w.alloc (.cells nzeros 27)) W)=>ccat_any L a cap (fun k=>ok k∧k<w.heap.size) W (hL1.keepF q) (by omega) hsets)
 obtain ⟨tj,htj⟩:∃ tj,catT L=tj:=⟨_,rfl⟩;rw [htj] at HC hct ⊢;have HR:=hid r0;have HT:=hid (show cnt tj≤500000 by omega)
 clear hL r0 hL1 hct htj
 go_enter Try.func66,Try.ntmps66
 go_upto_region 1 with fail;generalize (w.alloc (.cells nzeros 27))=W0 at *;go_wp2_with fail;refine (HC.out W0 (Keep.refl _ _)).mono ?_;rintro e w1 ⟨⟨v,rfl,ja,jc,rfl,hle,hlie⟩,q1⟩;have R1:=hid (HR.out.next q1);have hn:=HR.out.out.lt;have hn2:=HR.out.keep.size;have HCp:=hid (copied_any tj ja jc (fun k=>(ok k∨w.heap.size≤k)∧k≠w.heap.size) w1 (lie_of (w:=w) (ok:=ok) (n:=w.heap.size) hlie (by omega) (by omega) (fun k h=>⟨.inl h.1,by omega⟩)) hle HT.out)
 have hn3:=q1.size;clear hle hlie q1;go_wp2_with fail;refine HCp.out.mono ?_;rintro e w2 ⟨⟨v,rfl,ka,kc,rfl,hle,hlie⟩,q2⟩;have R2:=hid (R1.out.next q2);have HE:=hid (And.intro hle (lie_of (w:=w) (ok:=ok) (n:=w.heap.size) hlie (by omega) (by omega) (fun k h=>h)))
 clear hle hlie q2 hn hn2 hn3;obtain ⟨⟨d0,d1,d2,d3,d4,d5,d6,d7⟩,f0,f1,f2,f3,f4,f5,f6,f7⟩:=cells8 R2.out.out;have hlt:=R2.out.out.lt;go_wp2_with fail
 change bodyPost _ _ _ _ _ (putNd (w2) (w.heap.size) 0 (tj) (ka) (kc))
 have hP:=R2.out.put (tj) (ka) (kc);have hG:=R2.out.gives (ok:=ok) HE.out.1 HE.out.2;generalize (putNd (w2) (w.heap.size) 0 (tj) (ka) (kc))=W9 at hP hG ⊢;obtain ⟨⟨e0,e1,e2,e3,e4,e5,e6,e7⟩,-⟩:=cells8 hP.1;exact bodyPost_ret (v:=nodeV (tj) (ka) (kc)) (by simp [results,Try.results66,go_sem,e0,e1,e2,e3,e4,e5,e6,e7]) rfl hG
theorem xalt_par (L:List T) (a:Option Addr) (cap:Nat) (ok:Nat→Prop) (w:World) (hL:LieP w ok a L) (hcnt:cntL L≤400000) (hsets:∀ t ∈ unf 4 L,t.set.Ok) :
  Calls Try.prog 67 #[.slice a L.length cap] w (Gives w ok (altT L)):=by
 have r0:Rb w w.heap.size (w.alloc (.cells nzeros 27)):=⟨At.new w nzeros 27,(Keep.refl (fun _=>False) w).alloc _,Nat.le_refl _⟩
 have hL1:=hL.under.keepF r0.keep;have hct:=cnt_altT L;have HC:=hid (fun W (q:Keep (fun _=>False) (w.alloc (.cells nzeros 27)) W)=>calt_par L a cap (fun k=>ok k∧k<w.heap.size) W (hL1.keepF q) (by omega) hsets)
 obtain ⟨tj,htj⟩:∃ tj,altT L=tj:=⟨_,rfl⟩;rw [htj] at HC hct ⊢;have HR:=hid r0;have HT:=hid (show cnt tj≤500000 by omega)
 clear hL r0 hL1 hct htj
 go_enter Try.func67,Try.ntmps67
 go_upto_region 1 with fail;generalize (w.alloc (.cells nzeros 27))=W0 at *;go_wp2_with fail;refine (HC.out W0 (Keep.refl _ _)).mono ?_;rintro e w1 ⟨⟨v,rfl,ja,jc,rfl,hle,hlie⟩,q1⟩;have R1:=hid (HR.out.next q1);have hn:=HR.out.out.lt;have hn2:=HR.out.keep.size;have HCp:=hid (copied_any tj ja jc (fun k=>(ok k∨w.heap.size≤k)∧k≠w.heap.size) w1 (lie_of (w:=w) (ok:=ok) (n:=w.heap.size) hlie (by omega) (by omega) (fun k h=>⟨.inl h.1,by omega⟩)) hle HT.out)
 have hn3:=q1.size;clear hle hlie q1;go_wp2_with fail;refine HCp.out.mono ?_;rintro e w2 ⟨⟨v,rfl,ka,kc,rfl,hle,hlie⟩,q2⟩;have R2:=hid (R1.out.next q2);have HE:=hid (And.intro hle (lie_of (w:=w) (ok:=ok) (n:=w.heap.size) hlie (by omega) (by omega) (fun k h=>h)))
 clear hle hlie q2 hn hn2 hn3;obtain ⟨⟨d0,d1,d2,d3,d4,d5,d6,d7⟩,f0,f1,f2,f3,f4,f5,f6,f7⟩:=cells8 R2.out.out;have hlt:=R2.out.out.lt;go_wp2_with fail
 change bodyPost _ _ _ _ _ (putNd (w2) (w.heap.size) 0 (tj) (ka) (kc))
 have hP:=R2.out.put (tj) (ka) (kc);have hG:=R2.out.gives (ok:=ok) HE.out.1 HE.out.2;generalize (putNd (w2) (w.heap.size) 0 (tj) (ka) (kc))=W9 at hP hG ⊢;obtain ⟨⟨e0,e1,e2,e3,e4,e5,e6,e7⟩,-⟩:=cells8 hP.1;exact bodyPost_ret (v:=nodeV (tj) (ka) (kc)) (by simp [results,Try.results67,go_sem,e0,e1,e2,e3,e4,e5,e6,e7]) rfl hG
theorem cnt_starT:∀ t:T,cnt (starT t)≤1+cnt t:=by
 intro t
 induction h:SizeOf.sizeOf t using Nat.strongRecOn generalizing t with
 | _ n ih =>
  subst h;rw [starT_eq]
  split
  ·rw [show cnt epsT=1 from by unfold epsT;rw [cnt,cntL]]
   omega
  ·split
   ·omega
   ·split
    ·rename_i h3
     match hs:t.subs,h3.2.2 with
     | [u],_ =>
      rw [starH];have h4:=ih (SizeOf.sizeOf u) (sub_less (a:=t) (i:=0) (t:=u) (by rw [hs];rfl)) u rfl
      have h5:=cnt_eq t;rw [hs,cntL,cntL] at h5;omega
    ·rw [cnt,cntL,cntL]
     omega
theorem cnt_repP (t:T) (lo hi:Int):cnt (repP t lo hi)≤1+cnt t:=by
 unfold repP
 split
 ·rw [show cnt epsT=1 from by unfold epsT;rw [cnt,cntL]]
  omega
 ·split
  ·omega
  ·split
   ·exact cnt_starT t
   ·rw [cnt,cntL,cntL]
    omega
theorem xrep_any (t:T) (d:Nat) (hR:RT d t) (lo hi:Int) (a:Option Addr) (c:Nat) (ok:Nat→Prop) (w:World) (hL:Lie w ok a t.subs) (hc:t.subs.length≤c) (hcnt:cnt t≤400000) :
  Calls Try.prog 49 #[nodeV t a c,.int .i64 lo,.int .i64 hi] w (Gives w ok (repP t lo hi)):=by
 have b0:=(At.new w (ncells t a c) 27).alloc (.cells nzeros 27);have r0:Rb w (w.heap.size+1) ((w.alloc (.cells (ncells t a c) 27)).alloc (.cells nzeros 27)):=by
  refine ⟨?_,((Keep.refl (fun _=>False) w).alloc _).alloc _,by omega⟩
  have:=At.new (w.alloc (.cells (ncells t a c) 27)) nzeros 27;rw [show (w.alloc (.cells (ncells t a c) 27)).heap.size=w.heap.size+1 from by simp] at this
  exact this
 have hl0:=hL.under.keepF r0.keep;have hct:=cnt_repP t lo hi;have HC:=hid (crep_any t d hR lo hi a c (fun k=>ok k∧k<w.heap.size) _ hl0 hc)
 obtain ⟨tj,htj⟩:∃ tj,repP t lo hi=tj:=⟨_,rfl⟩;rw [htj] at HC hct ⊢;have HR:=hid (And.intro r0 b0);have HT:=hid (show cnt tj≤500000 by omega)
 clear hL r0 b0 hl0 hct htj
 go_enter Try.func49,Try.ntmps49
 go_upto_region 1 with fail;generalize ((w.alloc (.cells (ncells t a c) 27)).alloc (.cells nzeros 27))=W0 at *;obtain ⟨⟨y0,y1,y2,y3,y4,y5,y6,y7⟩,-⟩:=cells8 HR.out.2;go_wp2_with fail;refine HC.out.mono ?_;rintro e w1 ⟨⟨v,rfl,ja,jc,rfl,hle,hlie⟩,q1⟩;have R1:=hid (HR.out.1.next q1);have hn:=HR.out.1.out.lt;have HCp:=hid (copied_any tj ja jc (fun k=>(ok k∨w.heap.size≤k)∧k≠w.heap.size+1) w1 (lie_of (w:=w) (ok:=ok) (n:=w.heap.size+1) hlie (by omega) (by omega) (fun k h=>⟨.inl h.1,by omega⟩)) hle HT.out)
 have hn3:=q1.size;clear hle hlie q1 y0 y1 y2 y3 y4 y5 y6 y7;go_wp2_with fail;refine HCp.out.mono ?_;rintro e w2 ⟨⟨v,rfl,ka,kc,rfl,hle,hlie⟩,q2⟩;have R2:=hid (R1.out.next q2);have HE:=hid (And.intro hle (lie_of (w:=w) (ok:=ok) (n:=w.heap.size+1) hlie (by omega) (by omega) (fun k h=>h)))
 clear hle hlie q2 hn hn3;obtain ⟨⟨d0,d1,d2,d3,d4,d5,d6,d7⟩,f0,f1,f2,f3,f4,f5,f6,f7⟩:=cells8 R2.out.out;have hlt:=R2.out.out.lt;go_wp2_with fail
 change bodyPost _ _ _ _ _ (putNd (w2) (w.heap.size+1) 0 (tj) (ka) (kc))
 have hP:=R2.out.put (tj) (ka) (kc);have hG:=R2.out.gives (ok:=ok) HE.out.1 HE.out.2;generalize (putNd (w2) (w.heap.size+1) 0 (tj) (ka) (kc))=W9 at hP hG ⊢;obtain ⟨⟨e0,e1,e2,e3,e4,e5,e6,e7⟩,-⟩:=cells8 hP.1;exact bodyPost_ret (v:=nodeV (tj) (ka) (kc)) (by simp [results,Try.results49,go_sem,e0,e1,e2,e3,e4,e5,e6,e7]) rfl hG
end P10
end Go.Proofs.Ytlmfbchgkjgljaa
