/- The code's unfolded (layer 10). -/
import Derived.Test.YtlmfbchgkjgljaaKF29
import Derived.Test.YtlmfbchgkjgljaaKF35
import Derived.Test.YtlmfbchgkjgljaaKF21
import Derived.Test.YtlmfbchgkjgljaaKF36
import Derived.Test.YtlmfbchgkjgljaaKF30
set_option maxRecDepth 100000
set_option maxHeartbeats 32000000
open Go.Lib (hid)
namespace Go.Proofs.Ytlmfbchgkjgljaa
namespace P10
open Go.RowKit Base Bytes P07 P08
open Sets (ST)
theorem len_cntL:∀ L:List T,L.length≤cntL L
 | []=>Nat.le_refl _
 | t::L=>by
  have:=len_cntL L;have:=P09.cnt_pos t;rw [List.length_cons,cntL];omega
theorem unf_append (k:Int) (L M:List T):unf k (L++M)=unf k L++unf k M:=List.flatMap_append ..
theorem unf_take {k:Int} {L:List T} {i:Nat} {t:T} (h:L[i]?=some t):unf k (L.take (i+1))=unf k (L.take i)++(if t.kind=k then t.subs else [t]):=by
 rw [List.take_add_one,h,unf_append]
 congr 1
 show unf k [t]=_
 rw [unf_cons];exact List.append_nil _
theorem cntL_take (L:List T) (i:Nat):cntL (L.take i)≤cntL L:=by
 have h:=cntL_append (L.take i) (L.drop i);rw [List.take_append_drop] at h;omega
theorem unf_len (k:Int) (L:List T) (i:Nat):(unf k (L.take i)).length≤cntL L:=by
 have h1:=len_cntL (unf k (L.take i));have h2:=cntL_unf k (L.take i);have h3:=cntL_take L i;omega
structure InU (w:World) (ok:Nat→Prop) (u:Value) (M:List T) (W:World):Prop where
 row:OE W (fun j=>ok j∧j<w.heap.size) u M
 own:Own w.heap.size u
 keep:Keep (fun _=>False) w W
theorem InU.start (w:World) (ok:Nat→Prop):InU w ok (.slice none 0 0) [] w:=⟨OE.nil _ _,Own.nil _,Keep.refl _ _⟩
theorem InU.next {w:World} {ok:Nat→Prop} {u:Value} {M:List T} {W W':World} (h:InU w ok u M W) (q:Keep (fun _=>False) W W'):InU w ok u M W':=⟨h.row.keep q (fun _ _ h=>h) (fun _ _ h=>h),h.own,h.keep.trans q⟩
theorem InU.lie {w:World} {ok:Nat→Prop} {u:Value} {M:List T} {W:World} (h:InU w ok u M W) {a:Option Addr} {L:List T} (hl:Lie w ok a L):Lie W (fun j=>ok j∧j<w.heap.size) a L:=hl.under.keepF h.keep
theorem InU.apart {w:World} {ok:Nat→Prop} {u:Value} {M:List T} {W:World} (h:InU w ok u M W):∀ g,u.ownBlock=some g→¬ (ok g∧g<w.heap.size):=fun g hg e=>by have:=h.own g hg;omega
theorem InU.form {w:World} {ok:Nat→Prop} {u:Value} {M:List T} {W:World} (h:InU w ok u M W):∃ a cap,u=.slice a M.length cap∧M.length≤cap∧Lie W (fun j=>ok j∨w.heap.size≤j) a M:=by
 obtain ⟨a,cap,h1,h2,h3⟩:=h.row.lie h.own;exact ⟨a,cap,h1,h2,h3.mono fun j hj=>by rcases hj with hj | hj;exact .inl hj.1;exact .inr hj⟩
def LieP (w:World) (ok:Nat→Prop) (a:Option Addr) (L:List T):Prop:=L.length≤9223372036854775807∧∀ i t,L[i]?=some t→∃ bl off a' c',a=some ⟨bl,off,none⟩∧bl<w.heap.size∧t.subs.length≤c'∧Lie w ok a' t.subs∧∀ j v,(ncells t a' c')[j]?=some v→w.cell? ⟨bl,off+i * 8+j,none⟩=some v
theorem LieP.of {w:World} {ok:Nat→Prop} {a:Option Addr} {L:List T} (h:Lie w ok a L):LieP w ok a L:=⟨h.len,fun i t ht=>by
 obtain ⟨bl,off,a',c',h1,-,h2,h3,h4,h5⟩:=h.get ht
 exact ⟨bl,off,a',c',h1,h2,h3,h4,h5⟩⟩
theorem LieP.keepF {w w':World} {ok:Nat→Prop} {a:Option Addr} {L:List T} (h:LieP w ok a L) (q:Keep (fun _=>False) w w'):LieP w' ok a L:=⟨h.1,fun i t ht=>by
 obtain ⟨bl,off,a',c',h1,h2,h3,h4,h5⟩:=h.2 i t ht
 exact ⟨bl,off,a',c',h1,Nat.lt_of_lt_of_le h2 q.size,h3,h4.keepF q,fun j v hv=>(q.cell (a:=⟨bl,off+i * 8+j,none⟩) h2 (fun h=>h)).trans (h5 j v hv)⟩⟩
theorem LieP.mono {w:World} {ok ok':Nat→Prop} {a:Option Addr} {L:List T} (h:LieP w ok a L) (hk:∀ k,ok k→ok' k):LieP w ok' a L:=⟨h.1,fun i t ht=>by
 obtain ⟨bl,off,a',c',h1,h2,h3,h4,h5⟩:=h.2 i t ht
 exact ⟨bl,off,a',c',h1,h2,h3,h4.mono hk,h5⟩⟩
theorem LieP.under {w:World} {ok:Nat→Prop} {a:Option Addr} {L:List T} (h:LieP w ok a L):LieP w (fun k=>ok k∧k<w.heap.size) a L:=⟨h.1,fun i t ht=>by
 obtain ⟨bl,off,a',c',h1,h2,h3,h4,h5⟩:=h.2 i t ht
 exact ⟨bl,off,a',c',h1,h2,h3,h4.under,h5⟩⟩
theorem InU.append {w:World} {ok:Nat→Prop} {u:Value} {M:List T} {W:World} (h:InU w ok u M W) (L:List T) (a:Option Addr) (c:Nat) (hl:Lie W (fun j=>ok j∧j<w.heap.size) a L) (hlen:M.length+L.length≤1000000) (ty:TypeId) :
  ∃ v' w',(Builtin.append_ #[25,25] ty #[u,.slice a L.length c]).run Try.prog W=.ok v' w'∧InU w ok v' (M++L) w':=by
 obtain ⟨v',w',hrun,g1,g2,g3⟩:=h.row.append h.apart L a c hl (by omega) ty
 exact ⟨v',w',hrun,g1,h.own.next h.keep.size g3,h.keep.next g2 (fun i hi hl=>by have:=h.own i hi;omega)⟩
theorem InU.push {w:World} {ok:Nat→Prop} {u:Value} {M:List T} {W:World} (h:InU w ok u M W) (t:T) (a:Option Addr) (c:Nat) (hc:t.subs.length≤c) (hl:Lie W (fun j=>ok j∧j<w.heap.size) a t.subs) (hlen:M.length≤1000000) (ty:TypeId) :
  ∃ v' w',(Builtin.append_ #[25,25] ty #[u,.slice (some ⟨W.heap.size,0,none⟩) 1 1]).run Try.prog (W.alloc (.cells (ncells t a c) 27))=.ok v' w'∧InU w ok v' (M++[t]) w':=by
 obtain ⟨v',w',hrun,g1,g2,g3⟩:=h.row.push h.apart t a c hc hl (by omega) ty
 exact ⟨v',w',hrun,g1,h.own.next h.keep.size g3,h.keep.next g2 (fun i hi hl=>by have:=h.own i hi;omega)⟩
theorem unfolded_par (k:Int) (L:List T) (a:Option Addr) (cap:Nat) (ok:Nat→Prop) (w:World) (hL:LieP w ok a L) (hcnt:cntL L≤500000) :
  Calls Try.prog 57 #[.int .i64 k,.slice a L.length cap] w fun e w'=>∃ v,e=.returned v∧InU w ok v (unf k L) w':=by
 have hlen:=len_cntL L;have H0:=hid (And.intro hL hcnt);clear hL;have hlb:(L.length:Int)≤500000:=by omega
 clear hcnt hlen
 go_enter Try.func57,Try.ntmps57
 go_wp2_with fail
 go_loopg [5,10] L.length (fun gg u i wr=>∃ j:Nat,i=.int .i64 j∧j+gg=L.length∧InU w ok u (unf k (L.take j)) wr)
 case atStart=>exact ⟨0,rfl,by omega,InU.start w ok⟩
 case round =>
  obtain ⟨j,rfl,hj,I⟩:=hrel;have j0:(0:Int)≤j:=by omega
  by_cases hlt:j<L.length
  ·have hlt':(j:Int)<L.length:=by omega
   obtain ⟨t,ht⟩:∃ t,L[j]?=some t:=⟨L[j],List.getElem?_eq_getElem hlt⟩;obtain ⟨bl,off,a1,c1,rfl,-,le1,L1,C1⟩:=(H0.out.1.under.keepF I.keep).2 j t ht;obtain ⟨x0,x1,x2,x3,x4,x5,x6,x7⟩:=ncell C1;have q:=(Keep.refl (fun _=>False) wr).alloc (.cells (ncells t a1 c1) 27)
   have II:=hid (And.intro (I.next q) (And.intro ht (And.intro (L1.keepF q) le1)));have hM:=unf_len k L j;have hts:t.subs.length≤500000:=by
    have h1:=len_cntL t.subs;have h2:=cntL_le ht;have h3:=cnt_eq t;have:=H0.out.2;omega
   have HM:=hid (And.intro hM hts);have b0:=At.new wr (ncells t a1 c1) 27;clear I L1 C1 q ht hM hts
   by_cases hk:t.kind=k
   ·have hk':(t.kind == k)=true:=by simpa using hk
    have HK:=hid hk;clear hk;go_upto_region 5 with fail;generalize (wr.alloc (.cells (ncells t a1 c1) 27))=wb at *;obtain ⟨⟨y0,y1,y2,y3,y4,y5,y6,y7⟩,-⟩:=cells8 b0;obtain ⟨v',w9,hrun,hI⟩:=II.out.1.append t.subs a1 c1 II.out.2.2.1 (by have:=HM.out;have:=H0.out.2;omega) 25
    have H9:=hid (show InU w ok v' (unf k (L.take (j+1))) w9 from by
     rw [unf_take II.out.2.1,if_pos HK.out]
     exact hI)
    clear hI;go_wp2_with (at_builtin;refine Lib.wpList_append_run _ rfl _ _ _ _ rfl _ _ rfl rfl _ _ hrun ?_);clear hrun;go_wp2_with fail
    go_roundg (L.length - (j+1))
    case measure=>omega
    case rel=>exact ⟨j+1,by go_num,by omega,H9.out⟩
   ·have hk':(t.kind == k)=false:=by simpa using hk
    have HK:=hid hk;clear hk;go_upto_region 5 with fail;generalize (wr.alloc (.cells (ncells t a1 c1) 27))=wb at *;obtain ⟨⟨y0,y1,y2,y3,y4,y5,y6,y7⟩,-⟩:=cells8 b0;obtain ⟨v',w9,hrun,hI⟩:=II.out.1.push t a1 c1 II.out.2.2.2 II.out.2.2.1 (by have:=HM.out;have:=H0.out.2;omega) 25
    have H9:=hid (show InU w ok v' (unf k (L.take (j+1))) w9 from by
     rw [unf_take II.out.2.1,if_neg HK.out]
     exact hI)
    clear hI;go_wp2_with (at_builtin;refine Lib.wpList_append_run _ rfl _ _ _ _ rfl _ _ rfl rfl _ _ hrun ?_);clear hrun;go_wp2_with fail
    go_roundg (L.length - (j+1))
    case measure=>omega
    case rel=>exact ⟨j+1,by go_num,by omega,H9.out⟩
  ·have II:=hid I
   have HJ:=hid (show j=L.length by omega)
   clear I;go_wp2_with fail;go_ret;refine ⟨u5,rfl,?_⟩;have h1:=II.out;rw [HJ.out,List.take_length] at h1;exact h1
theorem unfolded_any (k:Int) (L:List T) (a:Option Addr) (cap:Nat) (ok:Nat→Prop) (w:World) (hL:Lie w ok a L) (hcnt:cntL L≤500000) :
  Calls Try.prog 57 #[.int .i64 k,.slice a L.length cap] w fun e w'=>∃ v,e=.returned v∧InU w ok v (unf k L) w':=unfolded_par k L a cap ok w (LieP.of hL) hcnt
end P10
namespace P10
open Go.RowKit Base Bytes P07 P08
open Sets (ST)
def dgS:Nat→Int→List (List T)→Int
 | 0,s,_=>s
 | _+1,s,[]=>s
 | n+1,s,L::S=>dgS n (L.foldl mix s) ((nextL L).reverse++S)
def dg (t:T):Int:=dgS (cnt t+1) 0 [[t]]
theorem nextL_append:∀ (L:List T) (t:T),nextL (L++[t])=nextL L++(if 0<t.subs.length then [t.subs] else [])
 | [],t=>by
  rw [List.nil_append,nextL,nextL]
  split <;> rfl
 | s::L,t=>by
  rw [List.cons_append,nextL,nextL,nextL_append L t]
  split <;> simp
theorem nextL_take {L:List T} {i:Nat} {t:T} (h:L[i]?=some t):nextL (L.take (i+1))=nextL (L.take i)++(if 0<t.subs.length then [t.subs] else []):=by
 rw [List.take_add_one,h];exact nextL_append _ t
theorem foldl_take {s:Int} {L:List T} {i:Nat} {t:T} (h:L[i]?=some t):(L.take (i+1)).foldl mix s=mix ((L.take i).foldl mix s) t:=by
 rw [List.take_add_one,h,List.foldl_append]
 rfl
theorem len_cntLL:∀ X:List (List T),(∀ L ∈ X,L≠[])→X.length≤cntLL X
 | [],_=>Nat.le_refl _
 | L::X,h=>by
  have h1:=len_cntLL X fun M hM=>h M (by simp [hM])
  have h2:=len_cntL L;have h3:0<L.length:=List.length_pos_iff.2 (h L (by simp))
  rw [List.length_cons,cntLL];omega
theorem next_less {L:List T} (h:L≠[]):cntLL (nextL L)<cntL L:=by
 have h1:=next_cnt L;have h2:=len_cntL L;have h3:0<L.length:=List.length_pos_iff.2 h
 rcases Nat.eq_zero_or_pos (nextL L).length with h4 | h4
 ·rw [List.eq_nil_of_length_eq_zero h4,cntLL]
  omega
 ·omega
theorem or_last {W:World} {n0:Nat} {u:Value} {X:List LR} {x:LR} (h:OR W n0 u (X++[x])):∃ g cap,u=.slice (some ⟨g,0,none⟩) (X.length+1) cap∧X.length+1≤cap∧X.length≤9223372036854775806∧W.cell? ⟨g,X.length,none⟩=some (.slice x.aa x.la.length x.ca)∧OR W n0 (.slice (some ⟨g,0,none⟩) X.length cap) X:=by
 rcases h.row.2 with ⟨-,h0⟩ | ⟨g,cap,cur,rfl,hb,hg,h5,h6,h7,h8⟩
 ·simp at h0
 ·rw [List.length_append,List.length_singleton] at *
  have ha:At W g 25 cur:=hg;have hM:X.length+1≤9223372036854775807:=by unfold maxLen at h6;omega
  refine ⟨g,cap,rfl,h5,by omega,ha.cell ?_,⟨⟨flatR_length X,.inr ⟨g,cap,cur,rfl,hb,hg,by omega,h6,h7,?_⟩⟩,h.own,fun y hy=>h.ok y (by simp [hy])⟩⟩
  ·have h9:=flatR_at (X++[x]) X.length x (by simp)
   have h10:(cur.toList.take ((X.length+1) * 1))[X.length]?=(flatR (X++[x]))[X.length]?:=by rw [h8]
   rw [List.getElem?_take_of_lt (by omega),h9] at h10
   simpa using h10
  ·have:(cur.toList.take ((X.length+1) * 1)).take (X.length * 1)=flatR X:=by
    rw [h8,flatR_append];exact List.take_left' (flatR_length X)
   rw [List.take_take] at this;rw [← this]
   congr 1
   omega
structure InG (w:World) (n0:Nat) (D:Int) (n:Nat) (s:Int) (u:Value) (X:List LR) (W:World):Prop where
 row:OR W n0 u X
 eq:dgS n s (X.map (·.la)).reverse=D
 lt:cntLL (X.map (·.la))<n
 some:∀ L ∈ X.map (·.la),L≠[]
 keep:Keep (fun _=>False) w W
 low:w.heap.size≤n0
 up:n≤500001
 size:n0≤W.heap.size
theorem digest_any (t:T) (a:Option Addr) (c:Nat) (ok:Nat→Prop) (w:World) (hL:Lie w ok a t.subs) (hc:t.subs.length≤c) (hcnt:cnt t≤500000) :
  Calls Try.prog 73 #[nodeV t a c] w fun e w'=>e=.returned (.int .u64 (dg t))∧Keep (fun _=>False) w w':=by
 obtain ⟨D,hD⟩:∃ D,dg t=D:=⟨_,rfl⟩;rw [hD];unfold dg at hD;have b0:=At.new w (ncells t a c) 27;have q0:=(Keep.refl (fun _=>False) w).alloc (.cells (ncells t a c) 27)
 have hl0:=hL.under.keepF q0;have H0:=hid (And.intro b0 (And.intro q0 (And.intro hl0 (And.intro hc (And.intro hD hcnt)))));clear b0 q0 hl0 hL hc hD
 go_enter Try.func73,Try.ntmps73
 go_upto_region 2 with fail;obtain ⟨⟨y0,y1,y2,y3,y4,y5,y6,y7⟩,-⟩:=cells8 H0.out.1;have hsz:(w.alloc (.cells (ncells t a c) 27)).heap.size=w.heap.size+1:=by simp
 generalize (w.alloc (.cells (ncells t a c) 27))=W0 at *;have r0:=At.new W0 (ncells t a c) 27;have q1:=(Keep.refl (fun _=>False) W0).alloc (.cells (ncells t a c) 27)
 rw [hsz] at r0;have hl1:Lie (W0.alloc (.cells (ncells t a c) 27)) (fun k=>k<w.heap.size+2) (some ⟨w.heap.size+1,0,none⟩) [t]:=lie_one r0 (by omega) H0.out.2.2.2.1 ((H0.out.2.2.1.keepF q1).mono fun k hk=>by omega)
 have hsz2:(W0.alloc (.cells (ncells t a c) 27)).heap.size=w.heap.size+2:=by simp;omega
 have o0:=OR.one (W:=W0.alloc (.cells (ncells t a c) 27)) (n0:=w.heap.size+2) (p:=⟨[t],some ⟨w.heap.size+1,0,none⟩,1⟩) ⟨Nat.le_refl 1,hl1⟩ (by omega)
 have q2:=(H0.out.2.1.trans q1).alloc (.cells (lrcells ⟨[t],some ⟨w.heap.size+1,0,none⟩,1⟩) 25);rw [hsz2] at o0;have I0:=hid (show InG w (w.heap.size+2) D (cnt t+1) 0 (.slice (some ⟨w.heap.size+2,0,none⟩) 1 1) [⟨[t],some ⟨w.heap.size+1,0,none⟩,1⟩] _ from ⟨o0,H0.out.2.2.2.2.1,by show cntLL [[t]]<cnt t+1;rw [cntLL,cntLL,cntL,cntL];omega,by simp,q2,by omega,by have:=H0.out.2.2.2.2.2;omega,by simp;omega⟩)
 clear r0 q1 hl1 o0 q2 hsz2;go_wp2_with fail
 go_loopg [3,4] (cnt t+1) (fun gg x u wr=>∃ s X,x=.int .u64 s∧InG w (w.heap.size+2) D gg s u X wr)
 case atStart=>exact ⟨0,_,rfl,I0.out⟩
 case round =>
  obtain ⟨s,X,rfl,I⟩:=hrel;have hgk:0<gk:=by have:=I.lt;omega
  obtain ⟨n,rfl⟩:∃ n,gk=n+1:=⟨gk - 1,by omega⟩
  rcases List.eq_nil_or_concat X with rfl | ⟨Y,⟨la,aa,ca⟩,rfl⟩
  ·obtain ⟨a',cap',rfl,-,-⟩:=I.row.form
   have II:=hid I;clear I;go_wp2_with fail;go_ret;have h1:=II.out.eq;exact ⟨by rw [← h1];rfl,II.out.keep⟩
  ·rw [List.concat_eq_append] at I
   obtain ⟨g,cap,rfl,hcap,hM,c0,hrow⟩:=or_last I.row;have hla:=(I.row.ok ⟨la,aa,ca⟩ (by simp)).la
   have heq:=I.eq;rw [List.map_append,List.reverse_append] at heq;have hlt:=I.lt;rw [List.map_append,cntLL_append] at hlt;have hlt:cntLL (Y.map (·.la))+(cntL la+0)<n+1:=hlt;have hne:la≠[]:=I.some la (by simp)
   have hnY:∀ L ∈ Y.map (·.la),L≠[]:=fun L hL=>I.some L (by rw [List.map_append];exact List.mem_append.2 (.inl hL))
   have hYl:=len_cntLL _ hnY;rw [List.length_map] at hYl;have hll:=len_cntL la;have hup:=I.up;have hlal:(la.length:Int)≤500001:=by omega
   have II:=hid (And.intro hrow (And.intro hla (And.intro (show dgS n (la.foldl mix s) ((nextL la).reverse++(Y.map (·.la)).reverse)=D from heq) (And.intro hlt (And.intro hne (And.intro hnY (And.intro I.keep (And.intro hYl (And.intro hup I.size)))))))))
   have hYi:(Y.length:Int)≤500001:=by omega
   have hci:(Y.length:Int)≤cap:=by omega
   dsimp only at c0
   clear I hrow hla heq hlt hne hnY hll hup hYl hM;go_wp2_with fail
   go_loopg [3,4,26] la.length (fun gg x u i W=>∃ (j:Nat) (Z:List LR),i=.int .i64 j∧j+gg=la.length∧x=.int .u64 ((la.take j).foldl mix s)∧OR W (w.heap.size+2) u (Y++Z)∧Z.map (·.la)=nextL (la.take j)∧Lie W (fun k=>k<w.heap.size+2) aa la∧Keep (fun _=>False) w W∧w.heap.size+2≤W.heap.size)
   case atStart=>exact ⟨0,[],rfl,by omega,rfl,by rw [List.append_nil];exact II.out.1,rfl,II.out.2.1,II.out.2.2.2.2.2.2.1,II.out.2.2.2.2.2.2.2.2.2⟩
   case round =>
    obtain ⟨j,Z,rfl,hj,hx,hrow,hZ,hla,hkeep,hnn⟩:=hrel;have j0:(0:Int)≤j:=by omega
    by_cases hjlt:j<la.length
    ·have hjlt':(j:Int)<la.length:=by omega
     obtain ⟨t',ht⟩:∃ t',la[j]?=some t':=⟨la[j],List.getElem?_eq_getElem hjlt⟩;obtain ⟨bl,off,a1,c1,rfl,hok,hbl,le1,L1,C1⟩:=hla.get ht;have hZl:Z.length≤500001:=by
      have h1:=congrArg List.length hZ;rw [List.length_map] at h1;have h2:=next_cnt (la.take j);have h3:=cntL_take la j;have h4:=II.out.2.2.2.1;have h5:=II.out.2.2.2.2.2.2.2.2.1;omega
     obtain ⟨S,hS⟩:∃ S,(la.take j).foldl mix s=S:=⟨_,rfl⟩;rw [hS] at hx;subst hx;have hP:NodeP wr bl (off+j * 8) t' a1 c1:=⟨hbl,C1⟩;have J:=hid (And.intro hrow (And.intro hZ (And.intro hla (And.intro hkeep (And.intro ht (And.intro L1 (And.intro le1 (And.intro (show (la.take (j+1)).foldl mix s=mix S t' by rw [foldl_take ht,hS]) (And.intro hZl hP)))))))))
     clear hrow hZ hla hkeep ht L1 C1 hbl le1 hS hZl hok;go_wp2_with fail;refine (mixed_any S t' bl (off+j * 8) a1 c1 wr hP).mono ?_;rintro e w2 ⟨rfl,q2⟩;have hP2:=J.out.2.2.2.2.2.2.2.2.2.keepF q2;have hF:∀ k,k<w.heap.size+2→¬ (fun _:Nat=>False) k:=fun _ _ h=>h
     have K:=hid (And.intro (J.out.1.keepF q2) (And.intro (J.out.2.2.1.keepF q2) (And.intro (J.out.2.2.2.1.trans q2) (And.intro (J.out.2.2.2.2.2.1.keepF q2) (Nat.le_trans hnn q2.size)))));obtain ⟨-,-,-,-,-,-,-,d7⟩:=hP2.eight;clear hP hP2 q2 hF hnn
     by_cases hsub:0<t'.subs.length
     ·have hsub':(0:Int)<t'.subs.length:=by omega
      obtain ⟨v',w9,hrun,g1',g2',g3'⟩:=K.out.1.push ⟨t'.subs,a1,c1⟩ ⟨J.out.2.2.2.2.2.2.1,K.out.2.2.2.1⟩ K.out.2.2.2.2 (by rw [List.length_append];have:=J.out.2.2.2.2.2.2.2.2.1;omega) 107
      have H9:=hid (show OR w9 (w.heap.size+2) v' (Y++(Z++[(⟨t'.subs,a1,c1⟩:LR)]))∧(Z++[(⟨t'.subs,a1,c1⟩:LR)]).map (·.la)=nextL (la.take (j+1))∧Lie w9 (fun k=>k<w.heap.size+2) (some ⟨bl,off,none⟩) la∧Keep (fun _=>False) w w9∧w.heap.size+2≤w9.heap.size from by
       refine ⟨by rw [← List.append_assoc];exact g1',?_,K.out.2.1.keep g2' (fun k hk e=>by have:=K.out.1.own k e;omega),K.out.2.2.1.next g2' (fun i hi hl=>by have:=K.out.1.own i hi;omega),by have:=g2'.size;have:=K.out.2.2.2.2;omega⟩
       rw [List.map_append,J.out.2.1,nextL_take J.out.2.2.2.2.1,if_pos hsub]
       rfl)
      clear g1' g2' g3' hsub;go_wp2_with (at_builtin;refine Lib.wpList_append_run _ rfl _ _ _ _ rfl _ _ rfl rfl _ _ hrun ?_);clear hrun;go_wp2_with fail
      go_roundg (la.length - (j+1))
      case measure=>omega
      case rel=>exact ⟨j+1,_,by go_num,by omega,by rw [J.out.2.2.2.2.2.2.2.1],H9.out.1,H9.out.2.1,H9.out.2.2.1,H9.out.2.2.2.1,H9.out.2.2.2.2⟩
     ·have hsub':¬ (0:Int)<t'.subs.length:=by omega
      have HS:=hid hsub;clear hsub;go_wp2_with fail
      go_roundg (la.length - (j+1))
      case measure=>omega
      case rel=>exact ⟨j+1,Z,by go_num,by omega,by rw [J.out.2.2.2.2.2.2.2.1],K.out.1,by rw [J.out.2.1,nextL_take J.out.2.2.2.2.1,if_neg HS.out,List.append_nil],K.out.2.1,K.out.2.2.1,K.out.2.2.2.2⟩
    ·have hje:j=la.length:=by omega
     rw [hje,List.take_length] at hx hZ;subst hx;have K:=hid (And.intro hrow (And.intro hZ (And.intro hkeep hnn)));clear hrow hZ hkeep hnn hla hje;go_wp2_with fail
     go_roundg n
     case measure=>omega
     case rel =>
      refine ⟨_,_,rfl,K.out.1,?_,?_,?_,K.out.2.2.1,by omega,by have:=II.out.2.2.2.2.2.2.2.2.1;omega,K.out.2.2.2⟩
      ·rw [List.map_append,List.reverse_append,K.out.2.1]
       exact II.out.2.2.1
      ·rw [List.map_append,cntLL_append,K.out.2.1]
       have h1:=next_less II.out.2.2.2.2.1;have h2:=II.out.2.2.2.1;omega
      ·intro L hL
       rw [List.map_append] at hL
       rcases List.mem_append.1 hL with hL | hL
       ·exact II.out.2.2.2.2.2.1 L hL
       ·rw [K.out.2.1] at hL
        exact next_some la L hL
end P10
end Go.Proofs.Ytlmfbchgkjgljaa
