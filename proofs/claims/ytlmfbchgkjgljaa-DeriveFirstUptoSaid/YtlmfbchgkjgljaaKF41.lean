/- The code's cat (layer 10). -/
import Derived.Test.YtlmfbchgkjgljaaKF38
import Derived.Test.YtlmfbchgkjgljaaKF37
import Derived.Test.YtlmfbchgkjgljaaKF30
import Derived.Test.YtlmfbchgkjgljaaKF29
set_option maxRecDepth 100000
set_option maxHeartbeats 32000000
open Go.Lib (hid)
namespace Go.Proofs.Ytlmfbchgkjgljaa
namespace P10
open Go.RowKit Base Bytes P07 P08
open Sets (ST)
def not1 (t:T):Bool:=decide (t.kind≠1)
theorem filter_take {p:T→Bool} {M:List T} {i:Nat} {t:T} (h:M[i]?=some t):(M.take (i+1)).filter p=(M.take i).filter p++(if p t=true then [t] else []):=by
 rw [List.take_add_one,h,List.filter_append]
 congr 1
 show List.filter p [t]=_
 split
 ·rename_i h1
  exact List.filter_cons_of_pos h1
 ·rename_i h1
  exact List.filter_cons_of_neg h1
theorem any_take {p:T→Bool} {M:List T} {i:Nat} {t:T} (h:M[i]?=some t) (h0:(M.take i).any p=false) (h1:p t=false):(M.take (i+1)).any p=false:=by
 rw [List.take_add_one,h,List.any_append,h0]
 show (p t || false)=false
 rw [h1]
 rfl
theorem any_get {p:T→Bool} {M:List T} {i:Nat} {t:T} (h:M[i]?=some t) (h1:p t=true):M.any p=true:=List.any_eq_true.2 ⟨t,List.mem_of_getElem? h,h1⟩
theorem len_filter_take (p:T→Bool) (M:List T) (i:Nat):((M.take i).filter p).length≤M.length:=by
 have h1:=List.length_filter_le p (M.take i);rw [List.length_take] at h1;omega
theorem lie_of {w W W':World} {ok ok':Nat→Prop} {L:List T} {a:Option Addr} {n:Nat} (h:Lie W' (fun k=>ok' k∨W.heap.size≤k) a L) (hn:n<W.heap.size) (hw:w.heap.size≤W.heap.size) (hk:∀ k,ok' k→(ok k∨w.heap.size≤k)∧k≠n):Lie W' (fun k=>(ok k∨w.heap.size≤k)∧k≠n) a L :=
 h.mono fun k h1=>by
  rcases h1 with h1 | h1
  ·exact hk k h1
  ·exact ⟨.inr (by omega),by omega⟩
theorem ccat_any (L:List T) (a:Option Addr) (cap:Nat) (ok:Nat→Prop) (w:World) (hL:Lie w ok a L) (hcnt:cntL L≤500000) (hsets:∀ t ∈ unf 3 L,t.set.Ok) :
  Calls Try.prog 43 #[.slice a L.length cap] w (Gives w ok (catT L)):=by
 have r0:Rb w w.heap.size (w.alloc (.cells nzeros 27)):=⟨At.new w nzeros 27,(Keep.refl (fun _=>False) w).alloc _,Nat.le_refl _⟩
 have hM:=unf_len 3 L L.length;rw [List.take_length] at hM;have hL1:=hL.under.keepF r0.keep;obtain ⟨M,hMe⟩:∃ M,unf 3 L=M:=⟨_,rfl⟩;obtain ⟨tt,htt⟩:∃ tt,catT L=tt:=⟨_,rfl⟩;have hU:=unfolded_any 3 L a cap (fun k=>ok k∧k<w.heap.size) _ hL1 hcnt
 rw [hMe] at hM hU hsets;rw [htt];unfold catT at htt;rw [hMe] at htt;have HH:=hid (And.intro htt hsets);have HM:=hid (show M.length≤500000 by omega)
 have HR:=hid r0;have HU:=hid hU;clear hL r0 hM hL1 hMe htt hU hsets hcnt
 go_enter Try.func43,Try.ntmps43
 go_upto_region 1 with fail;have hn:=HR.out.out.lt;generalize (w.alloc (.cells nzeros 27))=W0 at *;go_wp2_with fail;refine HU.out.mono ?_;rintro e W1 ⟨v,rfl,I1⟩;have R1:=hid (HR.out.next I1.keep);obtain ⟨ra,rc,rfl,-,hl1⟩:=I1.form;have hsz:=I1.keep.size;have HL1:=hid hl1;have HN:=hid (And.intro hn hsz);have hMl:(M.length:Int)≤500000:=by have:=HM.out;omega
 clear I1 hl1 hn hsz;go_wp2_with fail
 go_loopg [3,9] M.length (fun gg u i wr=>∃ j:Nat,i=.int .i64 j∧j+gg=M.length∧InU W1 (fun k=>(ok k∧k<w.heap.size)∨W0.heap.size≤k) u ((M.take j).filter not1) wr∧(M.take j).any isNo=false)
 case atStart=>exact ⟨0,rfl,by omega,InU.start _ _,rfl⟩
 case round =>
  obtain ⟨j,rfl,hj,I,hany⟩:=hrel;have j0:(0:Int)≤j:=by omega
  have HA:=hid hany;clear hany
  by_cases hlt:j<M.length
  ·have hlt':(j:Int)<M.length:=by omega
   obtain ⟨t,ht⟩:∃ t,M[j]?=some t:=⟨M[j],List.getElem?_eq_getElem hlt⟩;obtain ⟨bl,off,a1,c1,rfl,-,-,le1,L1,C1⟩:=(I.lie HL1.out).get ht;obtain ⟨x0,x1,x2,x3,x4,x5,x6,x7⟩:=ncell C1;have q:=(Keep.refl (fun _=>False) wr).alloc (.cells (ncells t a1 c1) 27)
   have II:=hid (And.intro (I.next q) (And.intro ht (And.intro (L1.keepF q) le1)));have b0:=At.new wr (ncells t a1 c1) 27;clear I L1 C1 q ht;go_upto_region 5 with fail;generalize (wr.alloc (.cells (ncells t a1 c1) 27))=wb at *;generalize wr.heap.size=nb at *;obtain ⟨⟨y0,y1,y2,y3,y4,y5,y6,y7⟩,-⟩:=cells8 b0;have B0:=hid b0;clear b0;go_wp2_with fail;refine (cno_any t (HH.out.2 t (List.mem_of_getElem? II.out.2.1)) a1 c1 wb).mono ?_;rintro e w2 ⟨rfl,q2⟩;have J:=hid (And.intro (II.out.1.next q2) (And.intro II.out.2.1 (And.intro (II.out.2.2.1.keepF q2) (And.intro II.out.2.2.2 (B0.out.keep q2 (fun h=>h))))))
   clear q2 x0 x1 x2 x3 x4 x5 x6 x7 y0 y1 y2 y3 y4 y5 y6 y7
   cases hno:isNo t with
   | true =>
    have hT:tt=noT:=by
     have h1:=HH.out.1;rw [if_pos (any_get J.out.2.1 hno)] at h1;exact h1.symm
    have HT:=hid hT;clear hT hno;go_wp2_with fail;refine (cnothing_any (fun _=>False) w2).mono ?_
    rintro e w3 ⟨⟨v,rfl,na,nc,rfl,hle,hlie⟩,q3⟩;have R3:=hid (R1.out.next (J.out.1.keep.trans q3));have hn2:=HN.out.1;have hn3:=HN.out.2;have hn4:=J.out.1.keep.size;have HE:=hid (And.intro hle (lie_of (w:=w) (ok:=ok) (n:=w.heap.size) hlie (by omega) (by omega) (fun k h=>h.elim)))
    clear q3 hlie hle hn2 hn3 hn4;obtain ⟨⟨d0,d1,d2,d3,d4,d5,d6,d7⟩,f0,f1,f2,f3,f4,f5,f6,f7⟩:=cells8 R3.out.out;have hlt:=R3.out.out.lt;go_wp2_with fail
    change bodyPost _ _ _ _ _ (putNd (w3) (w.heap.size) 0 (noT) (na) (nc))
    have hP:=R3.out.put (noT) (na) (nc);have hG:=(by rw [HT.out];exact R3.out.gives (ok:=ok) HE.out.1 HE.out.2:Gives w ok tt (.returned (nodeV noT na nc)) (putNd w3 w.heap.size 0 noT na nc))
    generalize (putNd (w3) (w.heap.size) 0 (noT) (na) (nc))=W9 at hP hG ⊢;obtain ⟨⟨e0,e1,e2,e3,e4,e5,e6,e7⟩,-⟩:=cells8 hP.1;exact bodyPost_ret (v:=nodeV (noT) (na) (nc)) (by simp [results,Try.results43,go_sem,e0,e1,e2,e3,e4,e5,e6,e7]) rfl hG
   | false =>
    obtain ⟨⟨y0,y1,y2,y3,y4,y5,y6,y7⟩,-⟩:=cells8 J.out.2.2.2.2;have HA2:=hid (any_take J.out.2.1 HA.out hno);have hlf:=len_filter_take not1 M j
    by_cases hk:t.kind=1
    ·have hk':(t.kind != 1)=false:=by simpa using hk
     have HK:=hid (show (M.take (j+1)).filter not1=(M.take j).filter not1 from by
      rw [filter_take J.out.2.1,if_neg (by unfold not1;simp [hk]),List.append_nil])
     clear hk hno hlf;go_wp2_with fail
     go_roundg (M.length - (j+1))
     case measure=>omega
     case rel=>exact ⟨j+1,by go_num,by omega,by rw [HK.out];exact J.out.1,HA2.out⟩
    ·have hk':(t.kind != 1)=true:=by simpa using hk
     have HK:=hid (show (M.take (j+1)).filter not1=(M.take j).filter not1++[t] from by
      rw [filter_take J.out.2.1,if_pos (by unfold not1;simp [hk])])
     obtain ⟨v',w9,hrun,hI⟩:=J.out.1.push t a1 c1 J.out.2.2.2.1 (J.out.2.2.1) (by have:=HM.out;omega) 25
     have H9:=hid hI;clear hk hno hI hlf;go_wp2_with (at_builtin;refine Lib.wpList_append_run _ rfl _ _ _ _ rfl _ _ rfl rfl _ _ hrun ?_);clear hrun;go_wp2_with fail
     go_roundg (M.length - (j+1))
     case measure=>omega
     case rel=>exact ⟨j+1,by go_num,by omega,by rw [HK.out];exact H9.out,HA2.out⟩
  ·have II:=hid I
   have hje:j=M.length:=by omega
   have hT:tt=joinT 3 (M.filter not1) epsT:=by
    have h1:=HH.out.1;have h2:=HA.out;rw [hje,List.take_length] at h2;rw [if_neg (by rw [h2];decide)] at h1
    exact h1.symm
   have HT:=hid (And.intro hje hT);clear I hje hT;go_wp2_with fail;refine (cempty_any (fun _=>False) wr).mono ?_
   rintro e w3 ⟨⟨v,rfl,na,nc,rfl,hle,hlie⟩,q3⟩;have I3:=II.out.next q3;rw [HT.out.1,List.take_length] at I3;obtain ⟨fa,fc,hu,hfc,hlf⟩:=I3.form;have R3:=hid (R1.out.next I3.keep);have hn2:=HN.out.1;have hn3:=HN.out.2;have hn4:=I3.keep.size;have hn5:=q3.size;have hn6:=II.out.keep.size
   have HC:=hid (cjoin_any 3 (M.filter not1) fa fc epsT na nc (fun k=>(ok k∨w.heap.size≤k)∧k≠w.heap.size) w3 (hlf.mono fun k hk=>by
    rcases hk with (hk | hk) | hk
    ·exact ⟨.inl hk.1,by omega⟩
    ·exact ⟨.inr (by omega),by omega⟩
    ·exact ⟨.inr (by omega),by omega⟩) hfc (lie_of (w:=w) (ok:=ok) (n:=w.heap.size) hlie (by omega) (by omega) (fun k h=>h.elim)) hle)
   subst hu;clear hlf hlie I3 q3;go_wp2_with fail;refine HC.out.mono ?_;rintro e w4 ⟨⟨v,rfl,ja,jc,rfl,hle,hlie⟩,q4⟩;have R4:=hid (R3.out.next q4);have HE:=hid (And.intro hle (lie_of (w:=w) (ok:=ok) (n:=w.heap.size) hlie (by omega) (by omega) (fun k h=>h)))
   rw [← HT.out.2] at HE;clear q4 hlie hle hn2 hn3 hn4 hn5 hn6;generalize joinT 3 (M.filter not1) epsT=tj at *;obtain ⟨⟨d0,d1,d2,d3,d4,d5,d6,d7⟩,f0,f1,f2,f3,f4,f5,f6,f7⟩:=cells8 R4.out.out;have hlt:=R4.out.out.lt;go_wp2_with fail
   change bodyPost _ _ _ _ _ (putNd (w4) (w.heap.size) 0 (tj) (ja) (jc))
   have hP:=R4.out.put (tj) (ja) (jc);have hG:=(by rw [← HT.out.2];exact R4.out.gives (ok:=ok) HE.out.1 HE.out.2:Gives w ok tt (.returned (nodeV tj ja jc)) (putNd w4 w.heap.size 0 tj ja jc))
   generalize (putNd (w4) (w.heap.size) 0 (tj) (ja) (jc))=W9 at hP hG ⊢;obtain ⟨⟨e0,e1,e2,e3,e4,e5,e6,e7⟩,-⟩:=cells8 hP.1;exact bodyPost_ret (v:=nodeV (tj) (ja) (jc)) (by simp [results,Try.results43,go_sem,e0,e1,e2,e3,e4,e5,e6,e7]) rfl hG
end P10
namespace P10
open Go.RowKit Base Bytes P07 P08
open Sets (ST)
theorem set_ext {s t:ST} (h0:(s.x0:Int)=t.x0) (h1:(s.x1:Int)=t.x1) (h2:(s.x2:Int)=t.x2) (h3:(s.x3:Int)=t.x3):s=t:=by
 obtain ⟨a0,a1,a2,a3⟩:=s;obtain ⟨b0,b1,b2,b3⟩:=t
 simp only at h0 h1 h2 h3
 have e0:a0=b0:=by omega
 have e1:a1=b1:=by omega
 have e2:a2=b2:=by omega
 have e3:a3=b3:=by omega
 rw [e0,e1,e2,e3]
theorem cell_eq {w:World} {a:Addr} {u v:Value} (h1:w.cell? a=some u) (h2:w.cell? a=some v):u=v:=by
 rw [h1] at h2;injection h2
theorem lie_det {w:World} {ok ok':Nat→Prop} {a:Option Addr} {L:List T} (h:Lie w ok a L):∀ {M:List T},Lie w ok' a M→L.length=M.length→L=M:=by
 induction h with
 | nil a =>
  intro M _ hl;exact (List.eq_nil_of_length_eq_zero hl.symm).symm
 | cons bl off L A C hL hb hok hC hc hs ih =>
  intro M hM hl
  apply List.ext_getElem?
  intro i
  by_cases hi:i<L.length
  ·obtain ⟨t,ht⟩:∃ t,L[i]?=some t:=⟨L[i],List.getElem?_eq_getElem hi⟩
   obtain ⟨s,hsm⟩:∃ s,M[i]?=some s:=⟨M[i]'(by omega),List.getElem?_eq_getElem (by omega)⟩
   obtain ⟨bl',off',a',c',e,-,-,-,L',C'⟩:=hM.get hsm;injection e with e;injection e with e1 e2;subst e1 e2;have e0:=cell_eq (hc i t ht 0 _ rfl) (C' 0 _ rfl);have e1:=cell_eq (hc i t ht 1 _ rfl) (C' 1 _ rfl);have e2:=cell_eq (hc i t ht 2 _ rfl) (C' 2 _ rfl);have e3:=cell_eq (hc i t ht 3 _ rfl) (C' 3 _ rfl);have e4:=cell_eq (hc i t ht 4 _ rfl) (C' 4 _ rfl);have e5:=cell_eq (hc i t ht 5 _ rfl) (C' 5 _ rfl);have e6:=cell_eq (hc i t ht 6 _ rfl) (C' 6 _ rfl);have e7:=cell_eq (hc i t ht 7 _ rfl) (C' 7 _ rfl);injection e0 with _ e0;injection e1 with _ e1;injection e2 with _ e2;injection e3 with _ e3;injection e4 with _ e4;injection e5 with _ e5;injection e6 with _ e6;injection e7 with e7 e8 _;rw [ht,hsm]
   congr 1
   exact T.ext e0 (set_ext e1 e2 e3 e4) e5 e6 (ih i t ht (by rw [e7];exact L') e8)
  ·rw [List.getElem?_eq_none (by omega),List.getElem?_eq_none (by omega)]
theorem lie_turn {W:World} {ok:Nat→Prop} {g o:Nat} {s:T} {a1:Option Addr} {c1:Nat} {ty:TypeId} {cur:Array Value} (hg:At W g ty cur) (hcs:∀ j v,(ncells s a1 c1)[j]?=some v→W.cell? ⟨g,o+j,none⟩=some v) {ok1:Nat→Prop} (h1:Lie W ok1 a1 s.subs) {a2:Option Addr} {c2:Nat} (hc2:s.subs.length≤c2) (h2:Lie W (fun k=>ok k∧k≠g) a2 s.subs) :
  ∀ {a:Option Addr} {M:List T},Lie W ok a M→Lie (W.setCell ⟨g,o+7,none⟩ (.slice a2 s.subs.length c2)) ok a M:=by
 intro a M h;have hset:=hg.set (o+7) (.slice a2 s.subs.length c2);have q:=(Keep.refl (fun b=>b=g) W).setCell (p:=⟨g,o+7,none⟩) (fun _=>rfl) (.slice a2 s.subs.length c2)
 have hcell7:=hcs 7 _ rfl;have hsz7:o+7<cur.size:=by
  have h3:W.cell? ⟨g,o+7,none⟩=some (.slice a1 s.subs.length c1):=hcell7;have h4:W.heap[g]?=some (.cells cur ty (0,0)):=hg;have h5:cur[o+7]?=some (.slice a1 s.subs.length c1):=by
   simp [World.cell?,h4] at h3
   exact h3
  exact (Array.getElem?_eq_some_iff.1 h5).1
 have hnew:(W.setCell ⟨g,o+7,none⟩ (.slice a2 s.subs.length c2)).cell? ⟨g,o+7,none⟩=some (.slice a2 s.subs.length c2):=hset.cell (by rw [Array.getElem?_setIfInBounds,if_pos rfl,if_pos hsz7])
 have hold:∀ p v,p≠o+7→W.cell? ⟨g,p,none⟩=some v→(W.setCell ⟨g,o+7,none⟩ (.slice a2 s.subs.length c2)).cell? ⟨g,p,none⟩=some v:=fun p v hp hv=>by
  have h4:W.heap[g]?=some (.cells cur ty (0,0)):=hg;have h5:cur[p]?=some v:=by
   simp [World.cell?,h4] at hv
   exact hv
  exact hset.cell (by rw [Array.getElem?_setIfInBounds,if_neg (fun e=>hp e.symm)];exact h5)
 have h2':=h2.keep q (fun k hk e=>hk.2 e)
 generalize (W.setCell ⟨g,o+7,none⟩ (.slice a2 s.subs.length c2))=W' at *
 induction h with
 | nil a=>exact .nil a
 | cons bl off L A C hL hb hok hC hc hs ih =>
  by_cases hbl:bl=g
  ·subst hbl
   have hlt:=Nat.lt_of_lt_of_le hb q.size;refine .cons bl off L (fun i=>if off+i * 8=o then a2 else A i) (fun i=>if off+i * 8=o then c2 else C i) hL hlt hok (fun i t ht=>?_) (fun i t ht j v hv=>?_) (fun i t ht=>?_)
   ·try dsimp only
    split
    ·rename_i he
     have e7:=cell_eq (hc i t ht 7 _ rfl) (by rw [he];exact hcell7)
     injection e7 with _ e8 _;omega
    ·exact hC i t ht
   ·try dsimp only at hv
    split at hv
    ·rename_i he
     have e7:=cell_eq (hc i t ht 7 _ rfl) (by rw [he];exact hcell7)
     injection e7 with _ e8 _
     by_cases hj:j=7
     ·subst hj
      have hv:some (Value.slice a2 t.subs.length c2)=some v:=hv;injection hv with hv;subst hv;rw [he];rw [e8];exact hnew
     ·have hj8:j<8:=(Array.getElem?_eq_some_iff.1 hv).1
      refine hold _ v (by omega) (hc i t ht j v ?_)
      match j,hj8,hj with
      | 0,_,_=>exact hv
      | 1,_,_=>exact hv
      | 2,_,_=>exact hv
      | 3,_,_=>exact hv
      | 4,_,_=>exact hv
      | 5,_,_=>exact hv
      | 6,_,_=>exact hv
      | 7,_,h7=>exact absurd rfl h7
    ·rename_i he
     refine hold _ v (fun e=>?_) (hc i t ht j v hv)
     have hj8:j<8:=(Array.getElem?_eq_some_iff.1 hv).1;have hv2:=hc i t ht j v hv;rw [e] at hv2;have e7:=cell_eq hv2 hcell7;subst e7
     match j,hj8 with
     | 0,_=>cases hv
     | 1,_=>cases hv
     | 2,_=>cases hv
     | 3,_=>cases hv
     | 4,_=>cases hv
     | 5,_=>cases hv
     | 6,_=>cases hv
     | 7,_=>omega
   ·try dsimp only
    split
    ·rename_i he
     have e7:=cell_eq (hc i t ht 7 _ rfl) (by rw [he];exact hcell7)
     injection e7 with e7 e8 _;have h3:=hs i t ht;rw [e7] at h3;rw [lie_det h3 h1 e8];exact h2'.mono fun k hk=>hk.1
    ·exact ih i t ht
  ·exact .cons bl off L A C hL (Nat.lt_of_lt_of_le hb q.size) hok hC (fun i t ht j v hv=>(q.cell (a:=⟨bl,off+i * 8+j,none⟩) hb (fun e=>hbl e)).trans (hc i t ht j v hv)) ih
end P10
namespace P10
open Go.RowKit Base Bytes P07 P08
open Sets (ST)
@[reducible] def lsV (x:LR):Value:=.slice x.aa x.la.length x.ca
structure St (W:World) (E:Nat→Prop) (n0:Nat) (u:Value) (X:List LR):Prop where
 row:W.ownsRow 0 25 1 u X.length (flatR X)
 own:Own n0 u
 ls:∀ x ∈ X,OE W E (lsV x) x.la∧Own n0 (lsV x)
 dis:∀ (i j:Nat) (x y:LR) (g:Nat),X[i]?=some x→X[j]?=some y→(lsV x).ownBlock=some g→(lsV y).ownBlock=some g→i=j
theorem node_row {W:World} {E:Nat→Prop} {v:Value} {L:List T} (h:OE W E v L) {g:Nat} (hg:v.ownBlock=some g):∃ cur,At W g 27 cur:=by
 obtain ⟨X,k1,-⟩:=h
 rcases k1.2 with ⟨rfl,-⟩ | ⟨g',cap,cur,rfl,_,hc,-⟩
 ·cases hg
 ·injection hg with hg
  have e:g'=g:=hg;rw [e] at hc;exact ⟨cur,hc⟩
theorem St.lists {W:World} {E:Nat→Prop} {n0:Nat} {u:Value} {X:List LR} (h:St W E n0 u X) {g:Nat} (hg:u.ownBlock=some g):∃ cur,At W g 25 cur:=by
 rcases h.row.2 with ⟨rfl,-⟩ | ⟨g',cap,cur,rfl,_,hc,-⟩
 ·cases hg
 ·injection hg with hg
  have e:g'=g:=hg;rw [e] at hc;exact ⟨cur,hc⟩
theorem two_types {W:World} {g:Nat} {c1 c2:Array Value} (h1:At W g 27 c1) (h2:At W g 25 c2):False:=by
 have h1:W.heap[g]?=some (.cells c1 27 (0,0)):=h1;have h2:W.heap[g]?=some (.cells c2 25 (0,0)):=h2;rw [h1] at h2;injection h2 with h2;injection h2 with _ h2;exact absurd h2 (by decide)
theorem St.apart {W:World} {E:Nat→Prop} {n0:Nat} {u:Value} {X:List LR} (h:St W E n0 u X) {g:Nat} {cur:Array Value} (hg:At W g 27 cur):u.ownBlock≠some g:=fun e=>by
 obtain ⟨c2,h2⟩:=h.lists e;exact two_types hg h2
theorem St.keep {S:Nat→Prop} {W W':World} {E:Nat→Prop} {n0:Nat} {u:Value} {X:List LR} (h:St W E n0 u X) (q:Keep S W W') (h1:∀ g,u.ownBlock=some g→¬ S g) (h2:∀ x ∈ X,∀ g,(lsV x).ownBlock=some g→¬ S g) (h3:∀ k,E k→¬ S k):St W' E n0 u X:=by
 refine ⟨⟨h.row.1,?_⟩,h.own,fun x hx=>⟨(h.ls x hx).1.keep q (h2 x hx) h3,(h.ls x hx).2⟩,h.dis⟩
 rcases h.row.2 with h0 | ⟨g,cap,cur,rfl,hb,hg,r⟩
 ·exact .inl h0
 ·refine .inr ⟨g,cap,cur,rfl,hb,?_,r⟩
  have:At W g 25 cur:=hg;exact this.keep q (h1 g rfl)
theorem St.keepF {W W':World} {E:Nat→Prop} {n0:Nat} {u:Value} {X:List LR} (h:St W E n0 u X) (q:Keep (fun _=>False) W W'):St W' E n0 u X:=h.keep q (fun _ _ h=>h) (fun _ _ _ _ h=>h) (fun _ _ h=>h)
theorem St.one {W:World} {E:Nat→Prop} {n0:Nat} {p:LR} (hp:OE W E (lsV p) p.la) (ho:Own n0 (lsV p)) (hn:n0≤W.heap.size):St (W.alloc (.cells (lrcells p) 25)) E n0 (.slice (some ⟨W.heap.size,0,none⟩) 1 1) [p]:=by
 refine ⟨⟨by rw [flatR_length],.inr ⟨W.heap.size,1,lrcells p,rfl,Nat.zero_le _,At.new W _ _,Nat.le_refl 1,by decide,rfl,by simp⟩⟩,fun g hg=>?_,fun x hx=>?_,fun i j x y g hi hj _ _=>?_⟩
 ·injection hg with hg
  rw [← hg];exact hn
 ·rw [List.mem_singleton.1 hx]
  exact ⟨hp.keep ((Keep.refl (fun _=>False) W).alloc _) (fun _ _ h=>h) (fun _ _ h=>h),ho⟩
 ·have h1:=(List.getElem?_eq_some_iff.1 hi).1
  have h2:=(List.getElem?_eq_some_iff.1 hj).1
  simp at h1 h2
  omega
theorem St.push {W:World} {E:Nat→Prop} {n0:Nat} {u:Value} {X:List LR} (h:St W E n0 u X) (p:LR) (hp:OE W E (lsV p) p.la) (ho:Own n0 (lsV p)) (hd:∀ x ∈ X,∀ g,(lsV x).ownBlock=some g→(lsV p).ownBlock≠some g) (hE:∀ k,E k→k<n0) (hn:n0≤W.heap.size) (hlen:X.length≤1000000000) (ty:TypeId) :
  ∃ v' w',(Builtin.append_ #[107,107] ty #[u,.slice (some ⟨W.heap.size,0,none⟩) 1 1]).run Try.prog (W.alloc (.cells (lrcells p) 25))=.ok v' w'∧St w' E n0 v' (X++[p])∧Keep (fun b=>u.ownBlock=some b) W w'∧(∀ g,v'.ownBlock=some g→u.ownBlock=some g∨W.heap.size≤g):=by
 have qa:=(Keep.refl (fun _=>False) W).alloc (.cells (lrcells p) 25)
 have ha:=At.new W (lrcells p) 25;have h1:=(h.keepF qa).row;obtain ⟨i0,hi0,hz0,hz1,hz2⟩:=info_parts infoLr;obtain ⟨v',w',hrun,g2,g3,_,g5⟩:=run_append_own_at (P:=Try.prog) (W.alloc (.cells (lrcells p) 25)) 0 107 ty 25 i0 (.slice none 0 0) 1 24 Try.underlying107 hi0 hz0 hz1 hz2 rfl (by omega) u X.length (flatR X) h1 ⟨W.heap.size,0,none⟩ 1 1 (lrcells p).toList rfl
  (fun j v hv=>by
   have:=ha.cell (o:=j) (v:=v) (by simpa using hv)
   rw [nadd,Nat.zero_add]
   exact this)
  (by intro v hv;simp at hv;subst hv;rfl) (by simp only [maxLen];omega) (by omega) (Nat.zero_le _)
 have q:Keep (fun b=>u.ownBlock=some b) W w':=(qa.mono (fun _ h=>h.elim)).trans (pkeep_grown g3)
 have hbl:∀ g,v'.ownBlock=some g→u.ownBlock=some g∨W.heap.size≤g:=fun g hg=>by
  rcases g5 with g5 | g5
  ·exact .inl (by rw [← g5];exact hg)
  ·rw [g5] at hg
   injection hg with hg
   simp at hg
   exact .inr (by omega)
 have hkeep:∀ x:LR,OE W E (lsV x) x.la→OE w' E (lsV x) x.la:=fun x hx=>hx.keep q (fun g hg e=>by
  obtain ⟨cur,hcur⟩:=node_row hx hg
  exact h.apart hcur e) (fun k hk e=>by have:=h.own k e;have:=hE k hk;omega)
 refine ⟨v',w',hrun,⟨?_,fun g hg=>?_,fun x hx=>?_,fun i j x y g hi hj hx hy=>?_⟩,q,hbl⟩
 ·rw [List.length_append,flatR_append]
  have e:flatR [p]=(lrcells p).toList:=by unfold flatR;simp
  rw [e];exact g2
 ·rcases hbl g hg with h2 | h2
  ·exact h.own g h2
  ·omega
 ·rcases List.mem_append.1 hx with hx | hx
  ·exact ⟨hkeep x (h.ls x hx).1,(h.ls x hx).2⟩
  ·rw [List.mem_singleton.1 hx]
   exact ⟨hkeep p hp,ho⟩
 ·rcases Nat.lt_or_ge i X.length with h1 | h1
  ·rw [List.getElem?_append_left h1] at hi
   rcases Nat.lt_or_ge j X.length with h2 | h2
   ·rw [List.getElem?_append_left h2] at hj
    exact h.dis i j x y g hi hj hx hy
   ·rw [List.getElem?_append_right h2] at hj
    rw [List.mem_singleton.1 (List.mem_of_getElem? hj)] at hy;exact absurd hy (hd x (List.mem_of_getElem? hi) g hx)
  ·rw [List.getElem?_append_right h1] at hi
   rw [List.mem_singleton.1 (List.mem_of_getElem? hi)] at hx
   rcases Nat.lt_or_ge j X.length with h2 | h2
   ·rw [List.getElem?_append_left h2] at hj
    exact absurd hx (hd y (List.mem_of_getElem? hj) g hy)
   ·have h3:=(List.getElem?_eq_some_iff.1 hi).1
    rw [List.getElem?_append_right h2] at hj;have h4:=(List.getElem?_eq_some_iff.1 hj).1
    simp at h3 h4
    omega
theorem St.last {W:World} {E:Nat→Prop} {n0:Nat} {u:Value} {X:List LR} {x:LR} (h:St W E n0 u (X++[x])):∃ g cap,u=.slice (some ⟨g,0,none⟩) (X.length+1) cap∧X.length+1≤cap∧X.length≤9223372036854775806∧W.cell? ⟨g,X.length,none⟩=some (.slice x.aa x.la.length x.ca)∧St W E n0 (.slice (some ⟨g,0,none⟩) X.length cap) X∧(OE W E (lsV x) x.la∧Own n0 (lsV x))∧∀ y ∈ X,∀ g,(lsV y).ownBlock=some g→(lsV x).ownBlock≠some g:=by
 rcases h.row.2 with ⟨-,h0⟩ | ⟨g,cap,cur,rfl,hb,hg,h5,h6,h7,h8⟩
 ·simp at h0
 ·rw [List.length_append,List.length_singleton] at *
  have ha:At W g 25 cur:=hg;have hM:X.length+1≤9223372036854775807:=by unfold maxLen at h6;omega
  refine ⟨g,cap,rfl,h5,by omega,ha.cell ?_,⟨⟨flatR_length X,.inr ⟨g,cap,cur,rfl,hb,hg,by omega,h6,h7,?_⟩⟩,h.own,fun y hy=>h.ls y (by simp [hy]),fun i j y z g' hi hj=>h.dis i j y z g' (by rw [List.getElem?_append_left (List.getElem?_eq_some_iff.1 hi).1];exact hi) (by rw [List.getElem?_append_left (List.getElem?_eq_some_iff.1 hj).1];exact hj)⟩,h.ls x (by simp),fun y hy g' hg1 hg2=>?_⟩
  ·have h9:=flatR_at (X++[x]) X.length x (by simp)
   have h10:(cur.toList.take ((X.length+1) * 1))[X.length]?=(flatR (X++[x]))[X.length]?:=by rw [h8]
   rw [List.getElem?_take_of_lt (by omega),h9] at h10
   simpa using h10
  ·have:(cur.toList.take ((X.length+1) * 1)).take (X.length * 1)=flatR X:=by
    rw [h8,flatR_append];exact List.take_left' (flatR_length X)
   rw [List.take_take] at this;rw [← this]
   congr 1
   omega
  ·obtain ⟨i,hi⟩:=List.mem_iff_getElem?.1 hy
   have hil:=(List.getElem?_eq_some_iff.1 hi).1;have:=h.dis i X.length y x g' (by rw [List.getElem?_append_left hil];exact hi) (by simp) hg1 hg2
   omega
end P10
namespace P10
open Go.RowKit Base Bytes P07 P08
open Sets (ST)
def Wh (w:World) (ok:Nat→Prop) (t:T) (u:Value) (W:World):Prop:=∃ G:Nat→Prop,Lie W (fun k=>(ok k∧k<w.heap.size)∨G k) (some ⟨w.heap.size+2,0,none⟩) [t]∧∀ k,G k→w.heap.size+2≤k∧k<W.heap.size∧u.ownBlock≠some k
theorem Wh.keepF {w:World} {ok:Nat→Prop} {t:T} {u:Value} {W W':World} (h:Wh w ok t u W) (q:Keep (fun _=>False) W W'):Wh w ok t u W':=by
 obtain ⟨G,h1,h2⟩:=h;exact ⟨G,h1.keepF q,fun k hk=>⟨(h2 k hk).1,Nat.lt_of_lt_of_le (h2 k hk).2.1 q.size,(h2 k hk).2.2⟩⟩
theorem Wh.lie {w:World} {ok:Nat→Prop} {t:T} {u:Value} {W:World} (h:Wh w ok t u W):Lie W (fun k=>(ok k∨w.heap.size≤k)∧k≠w.heap.size+1) (some ⟨w.heap.size+2,0,none⟩) [t]:=by
 obtain ⟨G,h1,h2⟩:=h;exact h1.mono fun k hk=>by
  rcases hk with hk | hk
  ·exact ⟨.inl hk.1,by omega⟩
  ·have:=(h2 k hk).1
   exact ⟨.inr (by omega),by omega⟩
theorem Wh.push {w:World} {ok:Nat→Prop} {t:T} {u u':Value} {W W':World} (h:Wh w ok t u W) (hu:Own (w.heap.size+2) u) (q:Keep (fun b=>u.ownBlock=some b) W W') (hb:∀ g,u'.ownBlock=some g→u.ownBlock=some g∨W.heap.size≤g):Wh w ok t u' W':=by
 obtain ⟨G,h1,h2⟩:=h;refine ⟨G,h1.keep q (fun k hk e=>?_),fun k hk=>⟨(h2 k hk).1,Nat.lt_of_lt_of_le (h2 k hk).2.1 q.size,fun e=>?_⟩⟩
 ·rcases hk with hk | hk
  ·have:=hu k e
   omega
  ·exact (h2 k hk).2.2 e
 ·rcases hb k e with h3 | h3
  ·exact (h2 k hk).2.2 h3
  ·have:=(h2 k hk).2.1
   omega
theorem Wh.turn {w:World} {ok:Nat→Prop} {t:T} {u:Value} {W W9:World} (h:Wh w ok t u W) (q9:Keep (fun _=>False) W W9) (hul:∀ g,u.ownBlock=some g→g<W.heap.size) {g o:Nat} {s:T} {a1:Option Addr} {c1:Nat} {cur:Array Value} (hg:At W9 g 27 cur) (hgl:w.heap.size≤g∧g<W.heap.size) (hn:w.heap.size+2≤W.heap.size) (hcs:∀ j v,(ncells s a1 c1)[j]?=some v→W9.cell? ⟨g,o+j,none⟩=some v) {ok1:Nat→Prop} (h1:Lie W9 ok1 a1 s.subs) {a2:Option Addr} {c2:Nat} (hc2:s.subs.length≤c2) (h2:Lie W9 (fun k=>(ok k∧k<w.heap.size)∨W.heap.size≤k) a2 s.subs):Wh w ok t u (W9.setCell ⟨g,o+7,none⟩ (.slice a2 s.subs.length c2)):=by
 obtain ⟨G,k1,k2⟩:=h;have qs:=(Keep.refl (fun b=>b=g) W9).setCell (p:=⟨g,o+7,none⟩) (fun _=>rfl) (.slice a2 s.subs.length c2)
 refine ⟨fun k=>G k∨(W.heap.size≤k∧k<W9.heap.size),lie_turn (ok:=fun k=>(ok k∧k<w.heap.size)∨(G k∨(W.heap.size≤k∧k<W9.heap.size))) hg hcs h1 hc2 (h2.under.mono fun k hk=>⟨by
  rcases hk.1 with h | h
  ·exact .inl h
  ·exact .inr (.inr ⟨h,hk.2⟩),by
  rcases hk.1 with h | h <;> omega⟩) ((k1.keepF q9).mono fun k hk=>by
  rcases hk with hk | hk
  ·exact .inl hk
  ·exact .inr (.inl hk)),fun k hk=>?_⟩
 have hs9:=q9.size;have hs:=qs.size
 rcases hk with hk | hk
 ·have:=k2 k hk
  exact ⟨this.1,by omega,this.2.2⟩
 ·exact ⟨by omega,by omega,fun e=>by have:=hul k e;omega⟩
structure Cq (w:World) (ok:Nat→Prop) (t:T) (n:Nat) (u:Value) (X:List LR) (W:World):Prop where
 st:St W (fun k=>ok k∧k<w.heap.size) (w.heap.size+2) u X
 ne:∀ x ∈ X,x.la≠[]
 lt:cntLL (X.map (·.la))<n
 up:n≤500001
 who:Wh w ok t u W
 rb:Rb w (w.heap.size+1) W
 size:w.heap.size+2≤W.heap.size
structure Cl (w:World) (ok:Nat→Prop) (g:Nat) (la:List T) (j:Nat) (X:List LR) (W:World):Prop where
 at_:∃ cur,At W g 27 cur
 low:w.heap.size+2≤g
 rest:∀ (q:Nat) (s:T),j≤q→la[q]?=some s→∃ a1 c1,(∀ i v,(ncells s a1 c1)[i]?=some v→W.cell? ⟨g,q * 8+i,none⟩=some v)∧s.subs.length≤c1∧Lie W (fun k=>ok k∧k<w.heap.size) a1 s.subs
 far:∀ x ∈ X,(lsV x).ownBlock≠some g
theorem Cl.keep {w:World} {ok:Nat→Prop} {g:Nat} {la:List T} {j:Nat} {X:List LR} {W W':World} (h:Cl w ok g la j X W) {S:Nat→Prop} (q:Keep S W W') (h1:¬ S g) (h2:∀ k,k<w.heap.size→¬ S k):Cl w ok g la j X W':=by
 obtain ⟨cur,hc⟩:=h.at_;refine ⟨⟨cur,hc.keep q h1⟩,h.low,fun p s hp hs=>?_,h.far⟩
 obtain ⟨a1,c1,k1,k2,k3⟩:=h.rest p s hp hs;exact ⟨a1,c1,fun i v hv=>(q.cell (a:=⟨g,p * 8+i,none⟩) hc.lt h1).trans (k1 i v hv),k2,k3.keep q (fun k hk e=>h2 k hk.2 e)⟩
theorem Rb.turnK {w:World} {n:Nat} {W W':World} (h:Rb w n W) {S:Nat→Prop} (q:Keep S W W') (hS:∀ k,S k→n<k):Rb w n W' :=
 ⟨h.out.keep q (fun e=>by have:=hS n e;omega),h.keep.next q (fun i hi hl=>by have:=hS i hi;have:=h.lt;omega),h.lt⟩
theorem copied_any (t:T) (a:Option Addr) (c:Nat) (ok:Nat→Prop) (w:World) (hL:Lie w ok a t.subs) (hc:t.subs.length≤c) (hcnt:cnt t≤500000) :
  Calls Try.prog 68 #[nodeV t a c] w (Gives w ok t):=by
 have b0:=(At.new w (ncells t a c) 27).alloc (.cells nzeros 27);have r0:Rb w (w.heap.size+1) ((w.alloc (.cells (ncells t a c) 27)).alloc (.cells nzeros 27)):=by
  refine ⟨?_,((Keep.refl (fun _=>False) w).alloc _).alloc _,by omega⟩
  have:=At.new (w.alloc (.cells (ncells t a c) 27)) nzeros 27;rw [show (w.alloc (.cells (ncells t a c) 27)).heap.size=w.heap.size+1 from by simp] at this
  exact this
 have hl0:=(hL.under.keepF r0.keep).mono (ok':=fun k=>ok k∧k<w.heap.size) (fun k hk=>hk)
 have hs0:((w.alloc (.cells (ncells t a c) 27)).alloc (.cells nzeros 27)).heap.size=w.heap.size+2:=by simp
 have H0:=hid (And.intro r0 (And.intro b0 (And.intro hl0 (And.intro hc hcnt))));clear r0 b0 hl0 hL hc hcnt
 go_enter Try.func68,Try.ntmps68
 go_upto_region 1 with fail;generalize ((w.alloc (.cells (ncells t a c) 27)).alloc (.cells nzeros 27))=W0 at *;obtain ⟨⟨y0,y1,y2,y3,y4,y5,y6,y7⟩,-⟩:=cells8 H0.out.2.1;have p0:=At.new W0 (ncells t a c) 27;have q1:=(Keep.refl (fun _=>False) W0).alloc (.cells (ncells t a c) 27)
 rw [hs0] at p0;have o0:OE (W0.alloc (.cells (ncells t a c) 27)) (fun k=>ok k∧k<w.heap.size) (lsV ⟨[t],some ⟨w.heap.size+2,0,none⟩,1⟩) [t] :=
  ⟨[(t,a,c)],⟨rfl,.inr ⟨w.heap.size+2,1,ncells t a c,rfl,Nat.zero_le _,p0,Nat.le_refl 1,by decide,rfl,by simp⟩⟩,fun x hx=>by rw [List.mem_singleton.1 hx];exact ⟨H0.out.2.2.2.1,H0.out.2.2.1.keepF q1⟩,rfl⟩
 have wh0:Wh w ok t (.slice (some ⟨w.heap.size+3,0,none⟩) 1 1) (W0.alloc (.cells (ncells t a c) 27)):=⟨fun k=>k=w.heap.size+2,lie_one p0 (.inr rfl) H0.out.2.2.2.1 ((H0.out.2.2.1.keepF q1).mono fun k hk=>.inl hk),fun k hk=>⟨by omega,by simp;omega,fun (e:some (w.heap.size+3)=some k)=>by injection e with e;omega⟩⟩
 have hs1:(W0.alloc (.cells (ncells t a c) 27)).heap.size=w.heap.size+3:=by simp;omega
 have s0:=St.one (W:=W0.alloc (.cells (ncells t a c) 27)) (n0:=w.heap.size+2) (p:=⟨[t],some ⟨w.heap.size+2,0,none⟩,1⟩) o0 (fun g (hg:some (w.heap.size+2)=some g)=>by injection hg with hg;omega) (by omega)
 rw [hs1] at s0;have q2:=(Keep.refl (fun _=>False) (W0.alloc (.cells (ncells t a c) 27))).alloc (.cells (lrcells ⟨[t],some ⟨w.heap.size+2,0,none⟩,1⟩) 25)
 have I0:=hid (show Cq w ok t (cnt t+1) (.slice (some ⟨w.heap.size+3,0,none⟩) 1 1) [⟨[t],some ⟨w.heap.size+2,0,none⟩,1⟩] _ from ⟨s0,by simp,by show cntLL [[t]]<cnt t+1;rw [cntLL,cntLL,cntL,cntL];omega,by have:=H0.out.2.2.2.2;omega,wh0.keepF q2,(H0.out.1.next q1).next q2,by simp;omega⟩)
 clear p0 q1 o0 wh0 s0 q2;go_wp2_with fail
 go_loopg [4] (cnt t+1) (fun gg u wr=>∃ X,Cq w ok t gg u X wr)
 case atStart=>exact ⟨_,I0.out⟩
 case round =>
  obtain ⟨X,I⟩:=hrel;have hgk:0<gk:=by have:=I.lt;omega
  obtain ⟨n,rfl⟩:∃ n,gk=n+1:=⟨gk - 1,by omega⟩
  rcases List.eq_nil_or_concat X with rfl | ⟨Y,⟨la,aa,ca⟩,rfl⟩
  ·have hu:∃ a' cap',u4=.slice a' 0 cap':=by
    rcases I.st.row.2 with ⟨rfl,-⟩ | ⟨g,cap,cur,rfl,-⟩
    ·exact ⟨_,_,rfl⟩
    ·exact ⟨_,_,rfl⟩
   obtain ⟨a',cap',rfl⟩:=hu;obtain ⟨bl,off,a1,c1,ea,-,-,le1,L1,C1⟩:=I.who.lie.get (i:=0) (t:=t) rfl;injection ea with ea;injection ea with ea1 ea2;subst ea1 ea2;obtain ⟨x0,x1,x2,x3,x4,x5,x6,x7⟩:=ncell (o:=0+0 * 8) C1;rw [Nat.zero_mul] at x0 x1 x2 x3 x4 x5 x6 x7
   simp only [Nat.zero_add] at x0 x1 x2 x3 x4 x5 x6 x7
   have R3:=hid I.rb;have HE:=hid (And.intro le1 L1);clear I L1 C1 le1;obtain ⟨⟨d0,d1,d2,d3,d4,d5,d6,d7⟩,f0,f1,f2,f3,f4,f5,f6,f7⟩:=cells8 R3.out.out;have hlt:=R3.out.out.lt;go_wp2_with fail
   change bodyPost _ _ _ _ _ (putNd (wr) (w.heap.size+1) 0 (t) (a1) (c1))
   have hP:=R3.out.put (t) (a1) (c1);have hG:=R3.out.gives (ok:=ok) HE.out.1 HE.out.2;generalize (putNd (wr) (w.heap.size+1) 0 (t) (a1) (c1))=W9 at hP hG ⊢;obtain ⟨⟨e0,e1,e2,e3,e4,e5,e6,e7⟩,-⟩:=cells8 hP.1;exact bodyPost_ret (v:=nodeV (t) (a1) (c1)) (by simp [results,Try.results68,go_sem,e0,e1,e2,e3,e4,e5,e6,e7]) rfl hG
  ·rw [List.concat_eq_append] at I
   obtain ⟨g,cap,rfl,hcap,hM,c0,hst,⟨hoe,how⟩,hdis⟩:=I.st.last;have hne:la≠[]:=I.ne ⟨la,aa,ca⟩ (by simp)
   have hlt:=I.lt;rw [List.map_append,cntLL_append] at hlt;have hlt:cntLL (Y.map (·.la))+(cntL la+0)<n+1:=hlt;have hnY:∀ x ∈ Y,x.la≠[]:=fun x hx=>I.ne x (by simp [hx])
   have hYl:=len_cntLL (Y.map (·.la)) (fun L hL=>by
    obtain ⟨x,hx,rfl⟩:=List.mem_map.1 hL
    exact hnY x hx)
   rw [List.length_map] at hYl;have hll:=len_cntL la;have hup:=I.up;obtain ⟨s0,hs0'⟩:∃ s,la[0]?=some s:=⟨la[0]'(List.length_pos_iff.2 hne),List.getElem?_eq_getElem _⟩;obtain ⟨gl,lcap,a9,c9,ev,-,hgl,-,-,-,-⟩:=hoe.get hs0';injection ev with ev1 ev2 ev3
   dsimp only at ev1 ev3 c0
   subst ev1 ev3;have hcl:Cl w ok gl la 0 Y wr:=by
    refine ⟨node_row hoe rfl,how gl rfl,fun q s _ hs=>?_,fun x hx e=>hdis x hx gl e rfl⟩
    obtain ⟨g',cap',a1,c1,ev,-,-,le1,L1,C1,-⟩:=hoe.get hs;injection ev with ev1 _ _;injection ev1 with ev1;injection ev1 with ev1;subst ev1;exact ⟨a1,c1,C1,le1,L1⟩
   have hlal:(la.length:Int)≤500001:=by omega
   have hYi:(Y.length:Int)≤500001:=by omega
   have hci:(Y.length:Int)≤cap:=by omega
   have II:=hid (And.intro hst (And.intro hcl (And.intro hlt (And.intro hne (And.intro hnY (And.intro (show Wh w ok t (.slice (some ⟨g,0,none⟩) Y.length cap) wr from I.who) (And.intro I.rb (And.intro I.size (And.intro hYl hup)))))))))
   clear I hst hoe how hdis hlt hne hnY hll hup hYl hM hcl ev2 hs0' hgl;go_wp2_with fail
   go_loopg [4,27] la.length (fun gg u i W=>∃ (j:Nat) (Z:List LR),i=.int .i64 j∧j+gg=la.length∧St W (fun k=>ok k∧k<w.heap.size) (w.heap.size+2) u (Y++Z)∧Z.map (·.la)=nextL (la.take j)∧Cl w ok gl la j (Y++Z) W∧Wh w ok t u W∧Rb w (w.heap.size+1) W∧w.heap.size+2≤W.heap.size)
   case atStart=>exact ⟨0,[],rfl,by omega,by rw [List.append_nil];exact II.out.1,rfl,by rw [List.append_nil];exact II.out.2.1,II.out.2.2.2.2.2.1,II.out.2.2.2.2.2.2.1,II.out.2.2.2.2.2.2.2.1⟩
   case round =>
    obtain ⟨j,Z,rfl,hj,hst,hZ,hcl,hwho,hrb,hsz⟩:=hrel;have j0:(0:Int)≤j:=by omega
    by_cases hjlt:j<la.length
    ·have hjlt':(j:Int)<la.length:=by omega
     obtain ⟨s,hs⟩:∃ s,la[j]?=some s:=⟨la[j],List.getElem?_eq_getElem hjlt⟩;obtain ⟨a1,c1,C1,le1,L1⟩:=hcl.rest j s (Nat.le_refl j) hs;obtain ⟨x0,x1,x2,x3,x4,x5,x6,x7⟩:=ncell (o:=j * 8) C1;have hZl:Z.length≤500001:=by
      have h1:=congrArg List.length hZ;rw [List.length_map] at h1;have h2:=next_cnt (la.take j);have h3:=cntL_take la j;have h4:=II.out.2.2.1;have h5:=II.out.2.2.2.2.2.2.2.2.2;omega
     have hsl:s.subs.length≤500001:=by
      have h1:=len_cntL s.subs;have h2:=cntL_le hs;rw [cnt_eq s] at h2;have h4:=II.out.2.2.1;have h5:=II.out.2.2.2.2.2.2.2.2.2;omega
     obtain ⟨v',w9,hrun,o9,q9,hb9⟩:=(OE.nil wr (fun k=>ok k∧k<w.heap.size)).append (fun g hg=>by cases hg) s.subs a1 c1 L1 (by simp;omega) 25
     have q9:Keep (fun _=>False) wr w9:=q9.mono fun b hb=>by cases hb
     rw [List.nil_append] at o9;have own9:Own wr.heap.size v':=fun g hg=>by
      rcases hb9 g hg with h | h
      ·cases h
      ·exact h
     obtain ⟨a2,c2,rfl,hle2,hl2⟩:=o9.lie own9;obtain ⟨cur,hcur⟩:=hcl.at_;have hcur9:=hcur.keep q9 (fun h=>h)
     have C9:∀ i v,(ncells s a1 c1)[i]?=some v→w9.cell? ⟨gl,j * 8+i,none⟩=some v:=fun i v hv=>(q9.cell (a:=⟨gl,j * 8+i,none⟩) hcur.lt (fun h=>h)).trans (C1 i v hv)
     obtain ⟨z0,z1,z2,z3,z4,z5,z6,z7⟩:=ncell (o:=j * 8) C9;have f7:=hcur9.frozen (j * 8+7);have hlow:=hcl.low;have hgls:=hcur.lt;have qs:=(Keep.refl (fun b=>b=gl) w9).setCell (p:=⟨gl,j * 8+7,none⟩) (fun _=>rfl) (.slice a2 s.subs.length c2)
     have hul:∀ g,u4.ownBlock=some g→g<wr.heap.size:=fun g hg=>by
      obtain ⟨cur,hc⟩:=hst.lists hg;exact hc.lt
     have who9:=hwho.turn q9 hul (o:=j * 8) hcur9 ⟨by omega,hgls⟩ hsz C9 (L1.keepF q9) hle2 hl2
     have st9:=(hst.keepF q9).keep qs (fun g hg e=>(hst.keepF q9).apart hcur9 (by rw [← e];exact hg)) (fun x hx g hg e=>hcl.far x hx (by rw [← e];exact hg)) (fun k hk e=>by omega)
     have o10:=o9.keep qs (fun g hg e=>by have:=own9 g hg;omega) (fun k hk e=>by omega)
     have rb9:=(hrb.next q9).turnK qs (fun k hk=>by omega)
     have hset:=hcur9.set (j * 8+7) (.slice a2 s.subs.length c2);have hsz7:j * 8+7<cur.size:=by
      have h4:w9.heap[gl]?=some (.cells cur 27 (0,0)):=hcur9;have h5:cur[j * 8+7]?=some (.slice a1 s.subs.length c1):=by
       have:=z7
       simp [World.cell?,h4] at this
       exact this
      exact (Array.getElem?_eq_some_iff.1 h5).1
     have hnew:=hset.cell (o:=j * 8+7) (v:=.slice a2 s.subs.length c2) (by rw [Array.getElem?_setIfInBounds,if_pos rfl,if_pos hsz7])
     have hrest:Cl w ok gl la (j+1) (Y++Z) (w9.setCell ⟨gl,j * 8+7,none⟩ (.slice a2 s.subs.length c2)):=by
      refine ⟨⟨_,hset⟩,hlow,fun p s' hp hs'=>?_,hcl.far⟩
      obtain ⟨a3,c3,k1,k2,k3⟩:=hcl.rest p s' (by omega) hs'
      refine ⟨a3,c3,fun i v hv=>?_,k2,(k3.keepF q9).keep qs (fun k hk e=>by omega)⟩
      have h1:=(q9.cell (a:=⟨gl,p * 8+i,none⟩) hcur.lt (fun h=>h)).trans (k1 i v hv)
      have h4:w9.heap[gl]?=some (.cells cur 27 (0,0)):=hcur9;have h5:cur[p * 8+i]?=some v:=by
       simp [World.cell?,h4] at h1
       exact h1
      have hi8:i<8:=(Array.getElem?_eq_some_iff.1 hv).1;exact hset.cell (by rw [Array.getElem?_setIfInBounds,if_neg (by omega)];exact h5)
     have hsz9:w.heap.size+2≤(w9.setCell ⟨gl,j * 8+7,none⟩ (.slice a2 s.subs.length c2)).heap.size:=by have:=qs.size;have:=q9.size;omega
     have hfr:∀ x ∈ Y++Z,∀ g,(lsV x).ownBlock=some g→(lsV ⟨s.subs,a2,c2⟩).ownBlock≠some g:=fun x hx g hg e=>by
      have h1:=(hst.ls x hx).1.lt hg;have h2:=own9 g e;omega
     have J:=hid (And.intro st9 (And.intro o10 (And.intro who9 (And.intro rb9 (And.intro hrest (And.intro hsz9 (And.intro hfr (And.intro hZ (And.intro hs (And.intro own9 (And.intro hZl (And.intro hsz (q9.size)))))))))))));clear hst hZ hcl hwho hrb hs L1 C1 o9 hl2 hcur hcur9 C9 qs who9 st9 o10 rb9 hset hsz7 hrest hfr own9 hZl hb9 hlow;go_upto_region 11 with (at_builtin;refine Lib.wpList_append_run _ rfl _ _ _ _ rfl _ _ rfl rfl _ _ hrun ?_)
     clear hrun
     change Code.wp _ _ _ _ (w9.setCell ⟨gl,j * 8+7,none⟩ (.slice a2 s.subs.length c2))
     generalize (w9.setCell ⟨gl,j * 8+7,none⟩ (.slice a2 s.subs.length c2))=W5 at J hnew ⊢;clear x0 x1 x2 x3 x4 x5 x6 x7 z0 z1 z2 z3 z4 z5 z6 z7 f7 hsz9 q9 hsz;have hsi:(s.subs.length:Int)≤500001:=by omega
     by_cases hsub:0<s.subs.length
     ·have hsub':(0:Int)<s.subs.length:=by omega
      obtain ⟨v5,w6,hrun,g1',g2',g3'⟩:=J.out.1.push ⟨s.subs,a2,c2⟩ J.out.2.1 (fun g hg=>by have:=J.out.2.2.2.2.2.2.2.2.2.1 g hg;have:=J.out.2.2.2.2.2.2.2.2.2.2.2.1;omega) J.out.2.2.2.2.2.2.1 (fun k hk=>by omega) J.out.2.2.2.2.2.1 (by rw [List.length_append];have:=J.out.2.2.2.2.2.2.2.2.2.2.1;omega) 107
      have hou:=J.out.1.own;obtain ⟨cur5,hc5⟩:=J.out.2.2.2.2.1.at_
      have H9:=hid (show St w6 (fun k=>ok k∧k<w.heap.size) (w.heap.size+2) v5 (Y++(Z++[(⟨s.subs,a2,c2⟩:LR)]))∧(Z++[(⟨s.subs,a2,c2⟩:LR)]).map (·.la)=nextL (la.take (j+1))∧Cl w ok gl la (j+1) (Y++(Z++[(⟨s.subs,a2,c2⟩:LR)])) w6∧Wh w ok t v5 w6∧Rb w (w.heap.size+1) w6∧w.heap.size+2≤w6.heap.size from by
       have hcl:=J.out.2.2.2.2.1.keep g2' (J.out.1.apart hc5) (fun k hk e=>by have:=hou k e;omega)
       refine ⟨by rw [← List.append_assoc];exact g1',?_,⟨hcl.at_,hcl.low,hcl.rest,fun x hx=>?_⟩,J.out.2.2.1.push hou g2' g3',J.out.2.2.2.1.turnK g2' (fun k hk=>by have:=hou k hk;omega),by have:=g2'.size;have:=J.out.2.2.2.2.2.1;omega⟩
       ·rw [List.map_append,J.out.2.2.2.2.2.2.2.1,nextL_take J.out.2.2.2.2.2.2.2.2.1,if_pos hsub]
        rfl
       ·rw [← List.append_assoc] at hx
        rcases List.mem_append.1 hx with hx | hx
        ·exact hcl.far x hx
        ·rw [List.mem_singleton.1 hx]
         intro e;have:=J.out.2.2.2.2.2.2.2.2.2.1 gl e
         omega)
      clear g1' g2' g3' hsub hc5 hou;go_wp2_with (at_builtin;refine Lib.wpList_append_run _ rfl _ _ _ _ rfl _ _ rfl rfl _ _ hrun ?_);clear hrun;go_wp2_with fail
      go_roundg (la.length - (j+1))
      case measure=>omega
      case rel=>exact ⟨j+1,_,by go_num,by omega,H9.out.1,H9.out.2.1,H9.out.2.2.1,H9.out.2.2.2.1,H9.out.2.2.2.2.1,H9.out.2.2.2.2.2⟩
     ·have hsub':¬ (0:Int)<s.subs.length:=by omega
      have HS:=hid hsub;clear hsub;go_wp2_with fail
      go_roundg (la.length - (j+1))
      case measure=>omega
      case rel=>exact ⟨j+1,Z,by go_num,by omega,J.out.1,by rw [J.out.2.2.2.2.2.2.2.1,nextL_take J.out.2.2.2.2.2.2.2.2.1,if_neg HS.out,List.append_nil],J.out.2.2.2.2.1,J.out.2.2.1,J.out.2.2.2.1,J.out.2.2.2.2.2.1⟩
    ·have hje:j=la.length:=by omega
     rw [hje,List.take_length] at hZ;have K:=hid (And.intro hst (And.intro hZ (And.intro hwho (And.intro hrb hsz))));clear hst hZ hcl hwho hrb hsz hje;go_wp2_with fail
     go_roundg n
     case measure=>omega
     case rel =>
      refine ⟨_,K.out.1,fun x hx=>?_,?_,by have:=II.out.2.2.2.2.2.2.2.2.2;omega,K.out.2.2.1,K.out.2.2.2.1,K.out.2.2.2.2⟩
      ·rcases List.mem_append.1 hx with hx | hx
       ·exact II.out.2.2.2.2.1 x hx
       ·have:x.la ∈ nextL la:=by rw [← K.out.2.1];exact List.mem_map.2 ⟨x,hx,rfl⟩
        exact next_some la _ this
      ·rw [List.map_append,cntLL_append,K.out.2.1]
       have h1:=next_less II.out.2.2.2.1;have h2:=II.out.2.2.1;omega
end P10
namespace P10
open Go.RowKit Base Bytes P07 P08
open Sets (ST)
def needB (t:T):Bool:=decide (t.kind=5∧(t.mn=0∨t.mn=1)∧t.subs.length=1) && !isSt t
theorem need_any (t:T) (_hlen:t.subs.length≤9223372036854775807) (a:Option Addr) (c:Nat) (w:World):Calls Try.prog 64 #[nodeV t a c] w fun e w'=>e=.returned (.bool (needB t))∧Keep (fun _=>False) w w':=by
 obtain ⟨r,hr⟩:∃ r,needB t=r:=⟨_,rfl⟩;have hrE:r=(decide (t.kind=5∧(t.mn=0∨t.mn=1)∧t.subs.length=1) && !isSt t):=hr.symm;have q0:=(Keep.refl (fun _=>False) w).alloc (.cells (ncells t a c) 27)
 have b0:=At.new w (ncells t a c) 27;have Q0:=hid (And.intro q0 b0);rw [hr];clear hr q0 b0
 by_cases h5:t.kind=5
 ·have h5':(t.kind == 5)=true:=by simpa using h5
  have HR:=hid hrE;clear hrE;have H5:=hid h5;clear h5
  go_enter Try.func64,Try.ntmps64
  go_upto_region 1 with fail;generalize (w.alloc (.cells (ncells t a c) 27))=W at *;obtain ⟨⟨c0,c1,c2,c3,c4,c5,c6,c7⟩,-⟩:=cells8 Q0.out.2;go_wp2_with fail;refine (star_any t a c W).mono ?_;rintro e w1 ⟨rfl,q1⟩;obtain ⟨⟨c0,c1,c2,c3,c4,c5,c6,c7⟩,-⟩:=cells8 (Q0.out.2.keep q1 (fun h=>h))
  have Q1:=hid (Q0.out.1.trans q1)
  cases hst:isSt t with
  | true =>
   have HS:=hid hst;clear hst;go_wp2_with fail;go_ret;exact ⟨by rw [HR.out,HS.out];simp,Q1.out⟩
  | false =>
   have HS:=hid hst;clear hst;go_wp2_with fail
   all_goals
    go_ret;refine ⟨?_,Q1.out⟩;rw [HR.out,HS.out];have:=H5.out;refine Bytes.ret_bool ?_;rw [Bool.eq_iff_iff]
    try simp_all
    try omega
 ·have h5':(t.kind == 5)=false:=by simpa using h5
  have HR:=hid (show r=false by rw [hrE,decide_eq_false (fun h=>h5 h.1)];rfl)
  clear hrE h5
  go_enter Try.func64,Try.ntmps64
  go_wp2_with fail;go_ret;exact ⟨by rw [HR.out];rfl,Q0.out.1⟩
def repC (s:T) (lo hi:Int):T :=
 if hi=0∨s.kind=1 then epsT else if isNo s=true∧lo=0 then epsT else if isNo s=true then noT else if (lo=1∧hi=1)∨isSt s=true then s else .nd 5 ST.none lo hi [s]
theorem repP_star (s:T):repP s 0 (-1)=starT s:=by
 unfold repP;rw [starT_eq]
 by_cases h:s.kind=1∨isNo s=true
 ·rw [if_pos h,if_pos]
  rcases h with h | h
  ·exact .inr (.inl h)
  ·exact .inr (.inr ⟨h,rfl⟩)
 ·rw [if_neg h,if_neg]
  ·by_cases h2:isSt s=true
   ·rw [if_pos h2,if_pos (.inr (.inr h2))]
   ·rw [if_neg h2,if_neg,if_pos ⟨rfl,rfl⟩]
    ·rintro (h3 | h3 | h3)
     ·exact h (.inr h3)
     ·omega
     ·exact h2 h3
  ·rintro (h3 | h3 | h3)
   ·omega
   ·exact h (.inl h3)
   ·exact h (.inr h3.1)
theorem repC_eq {s:T} {lo hi:Int} {d:Nat} (hR:RT d s) (h:¬ (lo=0∧hi=-1∧needB s=true)):repP s lo hi=repC s lo hi:=by
 unfold repP repC
 by_cases h1:hi=0∨s.kind=1
 ·rw [if_pos h1,if_pos]
  rcases h1 with h1 | h1
  ·exact .inl h1
  ·exact .inr (.inl h1)
 rw [if_neg h1]
 by_cases h2:isNo s=true∧lo=0
 ·rw [if_pos h2,if_pos (.inr (.inr h2))]
 rw [if_neg h2,if_neg (by rintro (h3 | h3 | h3);exact h1 (.inl h3);exact h1 (.inr h3);exact h2 h3)]
 by_cases h3:isNo s=true
 ·rw [if_pos h3,if_pos (.inl h3)]
  exact no_is hR h3
 rw [if_neg h3]
 by_cases h4:(lo=1∧hi=1)∨isSt s=true
 ·rw [if_pos h4,if_pos (.inr h4)]
 rw [if_neg h4,if_neg (by rintro (h5 | h5);exact h3 h5;exact h4 h5)]
 split
 ·rename_i h5
  have hn:needB s=false:=by
   cases e:needB s with
   | false=>rfl
   | true=>exact absurd ⟨h5.1,h5.2,e⟩ h
  rw [starT_eq,if_neg (by rintro (h6 | h6);exact h1 (.inr h6);exact h3 h6),if_neg (fun h6=>h4 (.inr h6)),if_neg,h5.1,h5.2]
  intro h6;unfold needB at hn;rw [decide_eq_true h6,Bool.true_and,Bool.not_eq_false'] at hn;exact h4 (.inr hn)
 ·rfl
theorem need_sub {s:T} (h:needB s=true):∃ u,s.subs=[u]∧repP s 0 (-1)=repP u 0 (-1)∧s.kind=5:=by
 unfold needB at h;rw [Bool.and_eq_true,decide_eq_true_eq,Bool.not_eq_true'] at h;obtain ⟨⟨h5,hm,hl⟩,hst⟩:=h;obtain ⟨u,hu⟩:∃ u,s.subs=[u]:=by
  match h9:s.subs,hl with
  | [u],_=>exact ⟨u,rfl⟩
 refine ⟨u,hu,?_,h5⟩;rw [repP_star,repP_star,starT_eq,if_neg,if_neg (by rw [hst];decide),if_pos ⟨h5,hm,hl⟩,hu,starH]
 rintro (h | h)
 ·omega
 ·have:=is_no h
  omega
structure Tl (w:World) (ok:Nat→Prop) (s:T) (a1:Option Addr) (c1:Nat) (lo hi:Int) (tt:T) (W:World):Prop where
 rb:Rb w (w.heap.size+1) W
 box:At W w.heap.size 27 (ncells s a1 c1)
 lie:Lie W (fun k=>ok k∧k<w.heap.size) a1 s.subs
 le:s.subs.length≤c1
 sok:s.set.Ok
 eq:tt=repC s lo hi
theorem Tl.next {w:World} {ok:Nat→Prop} {s:T} {a1:Option Addr} {c1:Nat} {lo hi:Int} {tt:T} {W W':World} (h:Tl w ok s a1 c1 lo hi tt W) (q:Keep (fun _=>False) W W'):Tl w ok s a1 c1 lo hi tt W' :=
 ⟨h.rb.next q,h.box.keep q (fun h=>h),h.lie.keepF q,h.le,h.sok,h.eq⟩
theorem Tl.size {w:World} {ok:Nat→Prop} {s:T} {a1:Option Addr} {c1:Nat} {lo hi:Int} {tt:T} {W:World} (h:Tl w ok s a1 c1 lo hi tt W):w.heap.size+1<W.heap.size:=h.rb.out.lt
theorem Tl.far {w:World} {ok:Nat→Prop} {s:T} {a1:Option Addr} {c1:Nat} {lo hi:Int} {tt:T} {W:World} (h:Tl w ok s a1 c1 lo hi tt W):Lie W (fun k=>(ok k∨w.heap.size≤k)∧k≠w.heap.size+1) a1 s.subs:=h.lie.mono fun k hk=>⟨.inl hk.1,by omega⟩
theorem putNd_size (W:World) (g o:Nat) (t:T) (a:Option Addr) (c:Nat):(putNd W g o t a c).heap.size=W.heap.size:=by
 unfold putNd
 simp [World.setCell]
theorem Rb.wrap {w:World} {n:Nat} {W:World} (h:Rb w n W) {ok:Nat→Prop} {s:T} {a:Option Addr} {c:Nat} (k:Int) (lo hi:Int) (hc:s.subs.length≤c) (hl:Lie W (fun k=>(ok k∨w.heap.size≤k)∧k≠n) a s.subs) :
  At ((putNd W n 0 (.nd k ST.none lo hi [s]) (some ⟨W.heap.size,0,none⟩) 1).alloc (.cells (ncells s a c) 27)) n 27 (ncells (.nd k ST.none lo hi [s]) (some ⟨W.heap.size,0,none⟩) 1)
  ∧ Gives w ok (.nd k ST.none lo hi [s]) (.returned (nodeV (.nd k ST.none lo hi [s]) (some ⟨W.heap.size,0,none⟩) 1)) ((putNd W n 0 (.nd k ST.none lo hi [s]) (some ⟨W.heap.size,0,none⟩) 1).alloc (.cells (ncells s a c) 27)):=by
 have hk:=h.put (.nd k ST.none lo hi [s]) (some ⟨W.heap.size,0,none⟩) 1;have hsz:=putNd_size W n 0 (.nd k ST.none lo hi [s]) (some ⟨W.heap.size,0,none⟩) 1;have hn:=h.out.lt;have hw:=h.keep.size;have hl2:=hl.keep hk.2.2 (fun k hk e=>hk.2 e)
 generalize (putNd W n 0 (.nd k ST.none lo hi [s]) (some ⟨W.heap.size,0,none⟩) 1)=V at *;have qa:=(Keep.refl (fun _=>False) V).alloc (.cells (ncells s a c) 27)
 have hrow:=At.new V (ncells s a c) 27;rw [hsz] at hrow;refine ⟨hk.1.alloc _,⟨_,rfl,_,_,rfl,Nat.le_refl 1,lie_one hrow (.inr (by omega)) hc ((hl2.keepF qa).mono fun k hk=>hk.1)⟩,hk.2.1.alloc _⟩
structure Tw (w:World) (ok:Nat→Prop) (s:T) (a1:Option Addr) (c1:Nat) (d:Nat) (lo hi:Int) (tt:T) (W:World):Prop where
 rb:Rb w (w.heap.size+1) W
 box:At W w.heap.size 27 (ncells s a1 c1)
 lie:Lie W (fun k=>ok k∧k<w.heap.size) a1 s.subs
 le:s.subs.length≤c1
 rt:RT d s
 eq:repP s lo hi=tt
theorem Tw.next {w:World} {ok:Nat→Prop} {s:T} {a1:Option Addr} {c1 d:Nat} {lo hi:Int} {tt:T} {W W':World} (h:Tw w ok s a1 c1 d lo hi tt W) (q:Keep (fun _=>False) W W'):Tw w ok s a1 c1 d lo hi tt W' :=
 ⟨h.rb.next q,h.box.keep q (fun h=>h),h.lie.keepF q,h.le,h.rt,h.eq⟩
theorem Tw.tl {w:World} {ok:Nat→Prop} {s:T} {a1:Option Addr} {c1 d:Nat} {lo hi:Int} {tt:T} {W:World} (h:Tw w ok s a1 c1 d lo hi tt W) (hn:¬ (lo=0∧hi=-1∧needB s=true)):Tl w ok s a1 c1 lo hi tt W :=
 ⟨h.rb,h.box,h.lie,h.le,(by have:=RT_sok s d h.rt;cases s;rw [SOk] at this;exact this.1),by rw [← h.eq];exact repC_eq h.rt hn⟩
theorem Tw.down {w:World} {ok:Nat→Prop} {s:T} {a1:Option Addr} {c1 d:Nat} {lo hi:Int} {tt:T} {W:World} (h:Tw w ok s a1 c1 d lo hi tt W) {u:T} {a2:Option Addr} {c2:Nat} (hu:u ∈ s.subs) (he:repP u lo hi=tt) (hl:Lie W (fun k=>ok k∧k<w.heap.size) a2 u.subs) (hle:u.subs.length≤c2):Tw w ok u a2 c2 d lo hi tt (putNd W w.heap.size 0 u a2 c2):=by
 have k:=putNd_keep W w.heap.size 0 u a2 c2;have kw:Keep (fun _=>False) w (putNd W w.heap.size 0 u a2 c2):=h.rb.keep.next k (fun i hi e=>by omega)
 refine ⟨⟨h.rb.out.keep k (by omega),kw,h.rb.lt⟩,?_,hl.keep k (fun i hi e=>by omega),hle,sub_right h.rt.subs u hu,he⟩
 exact set8 h.box (.int .i64 u.kind) (.int .u64 u.set.x0) (.int .u64 u.set.x1) (.int .u64 u.set.x2) (.int .u64 u.set.x3) (.int .i64 u.mn) (.int .i64 u.mx) (.slice a2 u.subs.length c2)
theorem crep_any (t:T) (d:Nat) (hRT:RT d t) (lo hi:Int) (a:Option Addr) (c:Nat) (ok:Nat→Prop) (w:World) (hL:Lie w ok a t.subs) (hc:t.subs.length≤c) :
  Calls Try.prog 45 #[nodeV t a c,.int .i64 lo,.int .i64 hi] w (Gives w ok (repP t lo hi)):=by
 obtain ⟨tt,htt⟩:∃ tt,repP t lo hi=tt:=⟨_,rfl⟩;have b0:=(At.new w (ncells t a c) 27).alloc (.cells nzeros 27);have r0:Rb w (w.heap.size+1) ((w.alloc (.cells (ncells t a c) 27)).alloc (.cells nzeros 27)):=by
  refine ⟨?_,((Keep.refl (fun _=>False) w).alloc _).alloc _,by omega⟩
  have:=At.new (w.alloc (.cells (ncells t a c) 27)) nzeros 27;rw [show (w.alloc (.cells (ncells t a c) 27)).heap.size=w.heap.size+1 from by simp] at this
  exact this
 have hl0:=hL.under.keepF r0.keep;rw [htt];have H0:=hid (show Tw w ok t a c d lo hi tt ((w.alloc (.cells (ncells t a c) 27)).alloc (.cells nzeros 27)) from ⟨r0,b0,hl0,hc,hRT,htt⟩)
 clear hl0 b0 r0 hL htt hRT hc
 go_enter Try.func45,Try.ntmps45
 go_upto_region 1 with fail;generalize ((w.alloc (.cells (ncells t a c) 27)).alloc (.cells nzeros 27))=W at *;go_wp2_with fail
 go_loopg [] (cnt t) (fun gg wr=>∃ s a1 c1,gg=cnt s∧Tw w ok s a1 c1 d lo hi tt wr)
 case atStart=>exact ⟨t,a,c,rfl,H0.out⟩
 case round =>
  obtain ⟨s,a1,c1,hg,I⟩:=hrel;obtain ⟨g,hgB⟩:∃ g,(decide (lo=0∧hi=-1) && needB s)=g:=⟨_,rfl⟩;have hlen:=I.lie.len;have II:=hid (And.intro I (And.intro hgB hg));obtain ⟨⟨y0,y1,y2,y3,y4,y5,y6,y7⟩,-⟩:=cells8 I.box;clear I hgB hg;go_upto_region 1 with fail
  go_cut [16] (fun x wx=>x=.bool g∧Keep (fun _=>False) wr wx)
  case first =>
   by_cases h0:lo=0
   ·have h0':(lo == 0)=true:=by simpa using h0
    by_cases h1:hi=-1
    ·have h1':(hi == -1)=true:=by simpa using h1
     have HH:=hid (And.intro h0 h1);clear h0 h1;go_wp2_with fail;refine (need_any s hlen a1 c1 wr).mono ?_;rintro e w2 ⟨rfl,q2⟩;have Q2:=hid q2;clear q2;go_wp2_with fail
     go_meet
     case rel=>exact ⟨by rw [← II.out.2.1,decide_eq_true HH.out,Bool.true_and],Q2.out⟩
    ·have h1':(hi == -1)=false:=by simpa using h1
     have HH:=hid h1;clear h1;go_wp2_with fail
     go_meet
     case rel=>exact ⟨by rw [← II.out.2.1,decide_eq_false (fun h=>HH.out h.2),Bool.false_and],Keep.refl _ _⟩
   ·have h0':(lo == 0)=false:=by simpa using h0
    have HH:=hid h0;clear h0;go_wp2_with fail
    go_meet
    case rel=>exact ⟨by rw [← II.out.2.1,decide_eq_false (fun h=>HH.out h.1),Bool.false_and],Keep.refl _ _⟩
  case rest =>
   obtain ⟨rfl,qc⟩:=hcut;have J0:=hid (II.out.1.next qc);clear y0 y1 y2 y3 y4 y5 y6 y7 qc
   cases g with
   | true =>
    obtain ⟨u,hu,hru,hk5⟩:=need_sub (s:=s) (by have:=II.out.2.1;rw [Bool.and_eq_true] at this;exact this.2)
    have hlh:lo=0∧hi=-1:=by have:=II.out.2.1;rw [Bool.and_eq_true,decide_eq_true_eq] at this;exact this.1
    obtain ⟨⟨y0,y1,y2,y3,y4,y5,y6,y7⟩,g0,g1,g2,g3,g4,g5,g6,g7⟩:=cells8 J0.out.box;obtain ⟨bl,off,a2,c2,rfl,-,hbl,le2,L2,C2⟩:=J0.out.lie.get (i:=0) (t:=u) (by rw [hu];rfl)
    obtain ⟨x0,x1,x2,x3,x4,x5,x6,x7⟩:=ncell C2;rw [Nat.zero_mul,Nat.add_zero] at x0 x1 x2 x3 x4 x5 x6 x7;have hl1:s.subs.length=1:=by rw [hu];rfl
    have K:=hid (show Tw w ok u a2 c2 d lo hi tt (putNd wc w.heap.size 0 u a2 c2) from J0.out.down (by rw [hu];simp) (by rw [← J0.out.eq,hlh.1,hlh.2,hru]) L2 le2)
    have hms:cnt u<gk:=by
     rw [II.out.2.2,cnt_eq s,hu,cntL,cntL];omega
    have hlt:=J0.out.box.lt;rw [hl1] at y7;clear C2 L2 hu hru hlh hl1 hk5 le2 hbl;go_wp2_with fail
    go_roundg (cnt u)
    case measure=>exact hms
    case rel=>exact ⟨u,a2,c2,rfl,K.out⟩
   | false =>
    have J:=hid (J0.out.tl (fun h=>by have:=II.out.2.1;rw [decide_eq_true ⟨h.1,h.2.1⟩,h.2.2] at this;cases this))
    clear J0;generalize wc=W at *;go_upto_region 3 with fail;have hhi:=J.out.eq
    by_cases h1:hi=0∨s.kind=1
    ·have HT:=hid (show tt=epsT by rw [hhi];unfold repC;rw [if_pos h1])
     clear hhi;have hb:((hi == 0)=true)∨((hi == 0)=false∧(s.kind == 1)=true):=by
      by_cases h:hi=0
      ·exact .inl (by simpa using h)
      ·exact .inr ⟨by simpa using h,by simpa [h] using h1⟩
     clear h1;obtain ⟨y0,-⟩:=(cells8 J.out.box).1
     rcases hb with hb | ⟨hb,hb2⟩
     all_goals
      go_wp2_with fail;refine (cempty_any (fun _=>False) W).mono ?_
      rintro e w3 ⟨⟨v,rfl,na,nc,rfl,hle,hlie⟩,q3⟩;have R3:=hid (J.out.rb.next q3);have hn4:=J.out.size;have HE:=hid (And.intro hle (lie_of (w:=w) (ok:=ok) (n:=w.heap.size+1) hlie (by omega) (by omega) (fun k h=>h.elim)))
      clear q3 hlie hle hn4;obtain ⟨⟨d0,d1,d2,d3,d4,d5,d6,d7⟩,f0,f1,f2,f3,f4,f5,f6,f7⟩:=cells8 R3.out.out;have hltr:=R3.out.out.lt;go_wp2_with fail
      change bodyPost _ _ _ _ _ (putNd (w3) (w.heap.size+1) 0 (epsT) (na) (nc))
      have hP:=R3.out.put (epsT) (na) (nc);have hG:=(by rw [HT.out];exact R3.out.gives (ok:=ok) (t:=epsT) HE.out.1 HE.out.2:Gives w ok tt (.returned (nodeV (epsT) (na) (nc))) (putNd (w3) (w.heap.size+1) 0 (epsT) (na) (nc)))
      generalize (putNd (w3) (w.heap.size+1) 0 (epsT) (na) (nc))=W9 at hP hG ⊢;obtain ⟨⟨e0,e1,e2,e3,e4,e5,e6,e7⟩,-⟩:=cells8 hP.1;exact bodyPost_ret (v:=nodeV (epsT) (na) (nc)) (by simp [results,Try.results45,go_sem,e0,e1,e2,e3,e4,e5,e6,e7]) rfl hG
    have hb:(hi == 0)=false:=by simpa using fun h=>h1 (.inl h)
    have hb2:(s.kind == 1)=false:=by simpa using fun h=>h1 (.inr h)
    obtain ⟨⟨y0,y1,y2,y3,y4,y5,y6,y7⟩,-⟩:=cells8 J.out.box
    cases hno:isNo s with
    | true =>
     have HNo:=hid hno
     by_cases hlo:lo=0
     ·have HT:=hid (show tt=epsT by rw [hhi];unfold repC;rw [if_neg h1,if_pos ⟨hno,hlo⟩])
      have hlo':(lo == 0)=true:=by simpa using hlo
      clear hhi h1 hno hlo;go_wp2_with fail;refine (cno_any s J.out.sok a1 c1 W).mono ?_;rintro e w2 ⟨rfl,q2⟩;rw [HNo.out]
      replace J:=hid (J.out.next q2)
      clear q2;generalize w2=W at *;obtain ⟨⟨y0,y1,y2,y3,y4,y5,y6,y7⟩,-⟩:=cells8 J.out.box;go_wp2_with fail;refine (cempty_any (fun _=>False) W).mono ?_
      rintro e w3 ⟨⟨v,rfl,na,nc,rfl,hle,hlie⟩,q3⟩;have R3:=hid (J.out.rb.next q3);have hn4:=J.out.size;have HE:=hid (And.intro hle (lie_of (w:=w) (ok:=ok) (n:=w.heap.size+1) hlie (by omega) (by omega) (fun k h=>h.elim)))
      clear q3 hlie hle hn4;obtain ⟨⟨d0,d1,d2,d3,d4,d5,d6,d7⟩,f0,f1,f2,f3,f4,f5,f6,f7⟩:=cells8 R3.out.out;have hltr:=R3.out.out.lt;go_wp2_with fail
      change bodyPost _ _ _ _ _ (putNd (w3) (w.heap.size+1) 0 (epsT) (na) (nc))
      have hP:=R3.out.put (epsT) (na) (nc);have hG:=(by rw [HT.out];exact R3.out.gives (ok:=ok) (t:=epsT) HE.out.1 HE.out.2:Gives w ok tt (.returned (nodeV (epsT) (na) (nc))) (putNd (w3) (w.heap.size+1) 0 (epsT) (na) (nc)))
      generalize (putNd (w3) (w.heap.size+1) 0 (epsT) (na) (nc))=W9 at hP hG ⊢;obtain ⟨⟨e0,e1,e2,e3,e4,e5,e6,e7⟩,-⟩:=cells8 hP.1;exact bodyPost_ret (v:=nodeV (epsT) (na) (nc)) (by simp [results,Try.results45,go_sem,e0,e1,e2,e3,e4,e5,e6,e7]) rfl hG
     ·have HT:=hid (show tt=noT by rw [hhi];unfold repC;rw [if_neg h1,if_neg (fun h=>hlo h.2),if_pos hno])
      have hlo':(lo == 0)=false:=by simpa using hlo
      clear hhi h1 hno hlo;go_wp2_with fail;refine (cno_any s J.out.sok a1 c1 W).mono ?_;rintro e w2 ⟨rfl,q2⟩;rw [HNo.out]
      replace J:=hid (J.out.next q2)
      clear q2;generalize w2=W at *;obtain ⟨⟨y0,y1,y2,y3,y4,y5,y6,y7⟩,-⟩:=cells8 J.out.box;go_wp2_with fail;refine (cno_any s J.out.sok a1 c1 W).mono ?_;rintro e w2 ⟨rfl,q2⟩;rw [HNo.out]
      replace J:=hid (J.out.next q2)
      clear q2;generalize w2=W at *;obtain ⟨⟨y0,y1,y2,y3,y4,y5,y6,y7⟩,-⟩:=cells8 J.out.box;go_wp2_with fail;refine (cnothing_any (fun _=>False) W).mono ?_
      rintro e w3 ⟨⟨v,rfl,na,nc,rfl,hle,hlie⟩,q3⟩;have R3:=hid (J.out.rb.next q3);have hn4:=J.out.size;have HE:=hid (And.intro hle (lie_of (w:=w) (ok:=ok) (n:=w.heap.size+1) hlie (by omega) (by omega) (fun k h=>h.elim)))
      clear q3 hlie hle hn4;obtain ⟨⟨d0,d1,d2,d3,d4,d5,d6,d7⟩,f0,f1,f2,f3,f4,f5,f6,f7⟩:=cells8 R3.out.out;have hltr:=R3.out.out.lt;go_wp2_with fail
      change bodyPost _ _ _ _ _ (putNd (w3) (w.heap.size+1) 0 (noT) (na) (nc))
      have hP:=R3.out.put (noT) (na) (nc);have hG:=(by rw [HT.out];exact R3.out.gives (ok:=ok) (t:=noT) HE.out.1 HE.out.2:Gives w ok tt (.returned (nodeV (noT) (na) (nc))) (putNd (w3) (w.heap.size+1) 0 (noT) (na) (nc)))
      generalize (putNd (w3) (w.heap.size+1) 0 (noT) (na) (nc))=W9 at hP hG ⊢;obtain ⟨⟨e0,e1,e2,e3,e4,e5,e6,e7⟩,-⟩:=cells8 hP.1;exact bodyPost_ret (v:=nodeV (noT) (na) (nc)) (by simp [results,Try.results45,go_sem,e0,e1,e2,e3,e4,e5,e6,e7]) rfl hG
    | false =>
     have HNo:=hid hno
     by_cases h3:(lo=1∧hi=1)∨isSt s=true
     ·have HT:=hid (show tt=s by rw [hhi];unfold repC;rw [if_neg h1,if_neg (by rw [hno];intro h;cases h.1),if_neg (by rw [hno];decide),if_pos h3])
      have hb3:((lo == 1)=true∧(hi == 1)=true)∨(¬ (lo=1∧hi=1)∧isSt s=true):=by
       by_cases h:lo=1∧hi=1
       ·exact .inl ⟨by simpa using h.1,by simpa using h.2⟩
       ·exact .inr ⟨h,by rcases h3 with h3 | h3;exact absurd h3 h;exact h3⟩
      clear hhi h1 hno h3;go_wp2_with fail;refine (cno_any s J.out.sok a1 c1 W).mono ?_;rintro e w2 ⟨rfl,q2⟩;rw [HNo.out]
      replace J:=hid (J.out.next q2)
      clear q2;generalize w2=W at *;obtain ⟨⟨y0,y1,y2,y3,y4,y5,y6,y7⟩,-⟩:=cells8 J.out.box;go_wp2_with fail;refine (cno_any s J.out.sok a1 c1 W).mono ?_;rintro e w2 ⟨rfl,q2⟩;rw [HNo.out]
      replace J:=hid (J.out.next q2)
      clear q2;generalize w2=W at *;obtain ⟨⟨y0,y1,y2,y3,y4,y5,y6,y7⟩,-⟩:=cells8 J.out.box
      rcases hb3 with ⟨hb3,hb4⟩ | ⟨hb3,hst⟩
      ·have R3:=hid J.out.rb
       have HE:=hid (And.intro J.out.le J.out.far);obtain ⟨⟨d0,d1,d2,d3,d4,d5,d6,d7⟩,f0,f1,f2,f3,f4,f5,f6,f7⟩:=cells8 R3.out.out;have hltr:=R3.out.out.lt;go_wp2_with fail
       change bodyPost _ _ _ _ _ (putNd (W) (w.heap.size+1) 0 (s) (a1) (c1))
       have hP:=R3.out.put (s) (a1) (c1);have hG:=(by rw [HT.out];exact R3.out.gives (ok:=ok) (t:=s) HE.out.1 HE.out.2:Gives w ok tt (.returned (nodeV (s) (a1) (c1))) (putNd (W) (w.heap.size+1) 0 (s) (a1) (c1)))
       generalize (putNd (W) (w.heap.size+1) 0 (s) (a1) (c1))=W9 at hP hG ⊢;obtain ⟨⟨e0,e1,e2,e3,e4,e5,e6,e7⟩,-⟩:=cells8 hP.1;exact bodyPost_ret (v:=nodeV (s) (a1) (c1)) (by simp [results,Try.results45,go_sem,e0,e1,e2,e3,e4,e5,e6,e7]) rfl hG
      ·have HB3:=hid hb3
       have hb5:(lo == 1)=false∨((lo == 1)=true∧(hi == 1)=false):=by
        by_cases h:lo=1
        ·exact .inr ⟨by simpa using h,by simpa using fun h2=>hb3 ⟨h,h2⟩⟩
        ·exact .inl (by simpa using h)
       have HSt:=hid hst;clear hb3 hst
       rcases hb5 with hb5 | ⟨hb5,hb6⟩
       all_goals
        go_wp2_with fail;refine (star_any s a1 c1 W).mono ?_;rintro e w2 ⟨rfl,q2⟩;rw [HSt.out]
        replace J:=hid (J.out.next q2)
        clear q2;generalize w2=W at *;obtain ⟨⟨y0,y1,y2,y3,y4,y5,y6,y7⟩,-⟩:=cells8 J.out.box;have R3:=hid J.out.rb;have HE:=hid (And.intro J.out.le J.out.far);obtain ⟨⟨d0,d1,d2,d3,d4,d5,d6,d7⟩,f0,f1,f2,f3,f4,f5,f6,f7⟩:=cells8 R3.out.out;have hltr:=R3.out.out.lt;go_wp2_with fail
        change bodyPost _ _ _ _ _ (putNd (W) (w.heap.size+1) 0 (s) (a1) (c1))
        have hP:=R3.out.put (s) (a1) (c1);have hG:=(by rw [HT.out];exact R3.out.gives (ok:=ok) (t:=s) HE.out.1 HE.out.2:Gives w ok tt (.returned (nodeV (s) (a1) (c1))) (putNd (W) (w.heap.size+1) 0 (s) (a1) (c1)))
        generalize (putNd (W) (w.heap.size+1) 0 (s) (a1) (c1))=W9 at hP hG ⊢;obtain ⟨⟨e0,e1,e2,e3,e4,e5,e6,e7⟩,-⟩:=cells8 hP.1;exact bodyPost_ret (v:=nodeV (s) (a1) (c1)) (by simp [results,Try.results45,go_sem,e0,e1,e2,e3,e4,e5,e6,e7]) rfl hG
     ·have HT:=hid (show tt=.nd 5 ST.none lo hi [s] by rw [hhi];unfold repC;rw [if_neg h1,if_neg (by rw [hno];intro h;cases h.1),if_neg (by rw [hno];decide),if_neg h3])
      have hb5:(lo == 1)=false∨((lo == 1)=true∧(hi == 1)=false):=by
       by_cases h:lo=1
       ·exact .inr ⟨by simpa using h,by simpa using fun h2=>h3 (.inl ⟨h,h2⟩)⟩
       ·exact .inl (by simpa using h)
      have HSt:=hid (show isSt s=false by cases e:isSt s with | false=>rfl | true=>exact absurd (.inr e) h3)
      clear hhi h1 hno h3;go_wp2_with fail;refine (cno_any s J.out.sok a1 c1 W).mono ?_;rintro e w2 ⟨rfl,q2⟩;rw [HNo.out]
      replace J:=hid (J.out.next q2)
      clear q2;generalize w2=W at *;obtain ⟨⟨y0,y1,y2,y3,y4,y5,y6,y7⟩,-⟩:=cells8 J.out.box;go_wp2_with fail;refine (cno_any s J.out.sok a1 c1 W).mono ?_;rintro e w2 ⟨rfl,q2⟩;rw [HNo.out]
      replace J:=hid (J.out.next q2)
      clear q2;generalize w2=W at *;obtain ⟨⟨y0,y1,y2,y3,y4,y5,y6,y7⟩,-⟩:=cells8 J.out.box
      rcases hb5 with hb5 | ⟨hb5,hb6⟩
      all_goals
       go_wp2_with fail;refine (star_any s a1 c1 W).mono ?_;rintro e w2 ⟨rfl,q2⟩;rw [HSt.out]
       replace J:=hid (J.out.next q2)
       clear q2;generalize w2=W at *;obtain ⟨⟨y0,y1,y2,y3,y4,y5,y6,y7⟩,-⟩:=cells8 J.out.box;have R3:=hid J.out.rb;have hG:=J.out.rb.wrap (ok:=ok) 5 lo hi J.out.le J.out.far;have HG:=hid hG;clear hG;obtain ⟨⟨d0,d1,d2,d3,d4,d5,d6,d7⟩,f0,f1,f2,f3,f4,f5,f6,f7⟩:=cells8 R3.out.out;have hltr:=R3.out.out.lt;go_wp2_with fail
       change bodyPost _ _ _ _ _ ((putNd W (w.heap.size+1) 0 (.nd 5 ST.none lo hi [s]) (some ⟨W.heap.size,0,none⟩) 1).alloc (.cells (ncells s a1 c1) 27))
       have hP:=HG.out.1;have hG:Gives w ok tt (.returned (nodeV (.nd 5 ST.none lo hi [s]) (some ⟨W.heap.size,0,none⟩) 1)) ((putNd W (w.heap.size+1) 0 (.nd 5 ST.none lo hi [s]) (some ⟨W.heap.size,0,none⟩) 1).alloc (.cells (ncells s a1 c1) 27)):=by rw [HT.out];exact HG.out.2
       generalize ((putNd W (w.heap.size+1) 0 (.nd 5 ST.none lo hi [s]) (some ⟨W.heap.size,0,none⟩) 1).alloc (.cells (ncells s a1 c1) 27))=W9 at hP hG ⊢;obtain ⟨⟨e0,e1,e2,e3,e4,e5,e6,e7⟩,-⟩:=cells8 hP;exact bodyPost_ret (v:=nodeV (.nd 5 ST.none lo hi [s]) (some ⟨W.heap.size,0,none⟩) 1) (by simp [results,Try.results45,go_sem,e0,e1,e2,e3,e4,e5,e6,e7]) rfl hG
end P10
namespace P10
open Go.RowKit Base Bytes P07 P08
open Sets (ST)
def RowsOk (k:Int) (m:Nat) (L:List T):Prop:=L.length≤m∧(unf k L).length≤m∧∀ t ∈ L,t.subs.length≤500000
theorem RowsOk.of {L:List T} {m:Nat} (k:Int) (h:cntL L≤m) (hm:m≤500000):RowsOk k m L:=by
 have h1:=len_cntL L;have h2:=unf_len k L L.length;rw [List.take_length] at h2;refine ⟨by omega,by omega,fun t ht=>?_⟩
 obtain ⟨i,hi⟩:=List.mem_iff_getElem?.1 ht;have h3:=len_cntL t.subs;have h4:=cntL_le hi;have h5:=cnt_eq t;omega
end P10
end Go.Proofs.Ytlmfbchgkjgljaa
