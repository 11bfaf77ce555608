/- The document's parser (layer 7): class (its loop's relation). -/
import Derived.Test.YtlmfbchgkjgljaaKF19
import Derived.Test.YtlmfbchgkjgljaaKF01
import Derived.Test.YtlmfbchgkjgljaaKF03
import Derived.Deep.RegionHeld3
set_option maxRecDepth 100000
set_option maxHeartbeats 32000000
open Go.Lib (hid)
namespace Go.Proofs.Ytlmfbchgkjgljaa
namespace P07
open Go.RowKit Base IL Bytes
open Sets (ST)
theorem one_range (l:List UInt8) (s:PS):0≤(one l s).1∧(one l s).1≤255:=by
 have hn:∀ s:PS,-1≤nxt l s∧nxt l s<256:=fun s=>nxt_range l s
 unfold one oneB
 split
 ·rename_i h
  have:=hn s;have h0:0≤nxt l s:=by
   by_cases h1:0≤nxt l s
   ·exact h1
   ·rw [plainI_no (by omega)] at h
    cases h
  dsimp only
  omega
 ·split
  ·unfold escP escB
   split
   ·unfold two
    have h1:=digit_range l s.adv.adv;have h2:=digit_range l (digit l s.adv.adv).2
    dsimp only
    omega
   ·split
    ·dsimp only
     omega
    ·split
     ·dsimp only
      omega
     ·split
      ·rename_i h
       have:=hn s.adv;have h0:0≤nxt l s.adv:=by
        by_cases h1:0≤nxt l s.adv
        ·exact h1
        ·rw [nxt_neg h1] at h
         exact absurd h (by decide)
       dsimp only
       omega
      ·dsimp only
       omega
  ·dsimp only
   omega
theorem upto_lt {lo hi:Int} (h0:0≤lo) (h1:hi≤255):∀ x ∈ upto lo hi,x<256:=fun x hx=>by
 obtain ⟨i,hi',rfl⟩:=List.mem_map.1 hx;have:=List.mem_range.1 hi';omega
@[reducible] def nzeros:Array Value:=#[.int .i64 0,.int .u64 0,.int .u64 0,.int .u64 0,.int .u64 0,.int .i64 0,.int .i64 0,.slice none 0 0]
end P07
namespace P07
open Go.RowKit Base IL Bytes RSet
open Sets (ST)
structure InGood (l:List UInt8) (RA:List Nat) (RS:PS) (f:Nat) (acc:List Nat) (lo hi:Int) (s:PS):Prop where
 eq:setP f (acc++upto lo hi) l s=(RA,RS)
 lt:∀ x ∈ acc,x<256
 pos:s.bad=none→s.pos≤l.length∧acc.length+256≤256 * s.pos∧l.length+2≤s.pos+f
 near:s.pos≤l.length∧acc.length+256≤256 * (l.length+1)
 lo:0≤lo∧lo≤255
 hi:0≤hi∧hi≤255
end P07
namespace P07
open Go.RowKit Base IL Bytes RSet
open Sets (ST)
theorem zs_zero:zS.x0=0∧zS.x1=0∧zS.x2=0∧zS.x3=0:=by decide
end P07
namespace P07
open Go.RowKit Base IL Bytes
open Sets (ST)
theorem Lie.under {w:World} {ok:Nat→Prop} {a:Option Addr} {M:List T} (h:Lie w ok a M):Lie w (fun k=>ok k∧k<w.heap.size) a M:=by
 induction h with
 | nil a=>exact .nil a
 | cons bl off L A C hL hb hok hC hc _ ih=>exact .cons bl off L A C hL hb ⟨hok,hb⟩ hC hc ih
end P07
namespace P07
open Go.RowKit Base IL Bytes
open Sets (ST)
theorem OT.lt {w:World} {ok:Nat→Prop} {v:Value} {L:List T} (h:OT w ok v L) {g:Nat} (hg:v.ownBlock=some g):g<w.heap.size∧ok g:=by
 obtain ⟨X,⟨h1,h2,_⟩,_⟩:=h;refine ⟨?_,h2 g hg⟩
 rcases h1.2 with ⟨rfl,_⟩ | ⟨g',cap,cur,rfl,_,h3,_⟩
 ·cases hg
 ·cases hg
  exact (Array.getElem?_eq_some_iff.1 h3).1
end P07
namespace P07
open Go.RowKit Base IL Bytes
open Sets (ST)
theorem OT.one (w:World) (ok:Nat→Prop) (t:T) (a:Option Addr) (c:Nat) (hc:t.subs.length≤c) (hl:Lie w ok a t.subs) (hok:ok w.heap.size) :
  OT (w.alloc (.cells (ncells t a c) 27)) ok (.slice (some ⟨w.heap.size,0,none⟩) 1 1) [t]:=by
 refine ⟨[(t,a,c)],⟨⟨rfl,.inr ⟨w.heap.size,1,ncells t a c,rfl,?_,At.new w _ _,?_,?_,?_,?_⟩⟩,fun g hg=>?_,fun x hx=>?_⟩,rfl⟩
 ·simp
 ·simp
 ·simp [maxLen]
 ·simp
 ·simp
 ·injection hg with hg
  rw [← hg];exact hok
 ·rw [List.mem_singleton.1 hx]
  refine ⟨hc,((hl.under).keepF ((Keep.refl (fun _=>False) w).alloc (.cells (ncells t a c) 27))).mono (fun k hk=>⟨hk.1,fun e=>?_⟩)⟩
  have e':some w.heap.size=some k:=e;injection e' with e';have:k<w.heap.size:=hk.2;omega
end P07
namespace P07
open Go.RowKit Base IL Bytes
open Sets (ST)
structure PR where
 la:List T
 lb:List T
 aa:Option Addr
 ca:Nat
 ab:Option Addr
 cb:Nat
@[reducible] def prcells (x:PR):Array Value:=#[.slice x.aa x.la.length x.ca,.slice x.ab x.lb.length x.cb]
@[reducible] def flatP (X:List PR):List Value:=X.flatMap fun x=>(prcells x).toList
theorem infoPr:(Try.prog.info? 111).map (fun i=>(i.zero,i.size,i.bytes))=some (some (.agg #[.slice none 0 0,.slice none 0 0]),2,48):=by kernel_rfl
theorem flatP_length (X:List PR):(flatP X).length=X.length * 2:=by
 induction X with
 | nil=>rfl
 | cons x X ih =>
  unfold flatP at *;rw [List.flatMap_cons,List.length_append,ih,List.length_cons]
  simp
  omega
theorem flatP_append (X Y:List PR):flatP (X++Y)=flatP X++flatP Y:=List.flatMap_append ..
theorem flatP_at:∀ (X:List PR) (i:Nat) (x:PR),X[i]?=some x→∀ j v,(prcells x)[j]?=some v→(flatP X)[i * 2+j]?=some v
 | [],i,x,h,_,_,_=>by simp at h
 | y::X,0,x,h,j,v,hv=>by
  simp at h
  subst h;have e:flatP (y::X)=(prcells y).toList++flatP X:=rfl;have hj:j<2:=(Array.getElem?_eq_some_iff.1 hv).1;rw [e,Nat.zero_mul,Nat.zero_add,List.getElem?_append_left (by simpa using hj)]
  simpa using hv
 | y::X,i+1,x,h,j,v,hv=>by
  have ih:=flatP_at X i x (by simpa using h) j v hv
  have e:flatP (y::X)=(prcells y).toList++flatP X:=rfl;rw [e,List.getElem?_append_right (by simp;omega),← ih]
  congr 1
  simp
  omega
structure PrOk (W:World) (n0:Nat) (x:PR):Prop where
 ca:x.la.length≤x.ca
 cb:x.lb.length≤x.cb
 la:Lie W (fun k=>k<n0) x.aa x.la
 lb:Lie W (fun k=>k<n0) x.ab x.lb
theorem PrOk.keep {S:Nat→Prop} {W W':World} {n0:Nat} {x:PR} (h:PrOk W n0 x) (q:Keep S W W') (hS:∀ k,k<n0→¬ S k):PrOk W' n0 x :=
 ⟨h.ca,h.cb,h.la.keep q hS,h.lb.keep q hS⟩
structure OP (W:World) (n0:Nat) (u:Value) (X:List PR):Prop where
 row:W.ownsRow 0 111 2 u X.length (flatP X)
 own:∀ g,u.ownBlock=some g→n0≤g
 ok:∀ x ∈ X,PrOk W n0 x
theorem OP.keep {S:Nat→Prop} {W W':World} {n0:Nat} {u:Value} {X:List PR} (h:OP W n0 u X) (q:Keep S W W') (hS:∀ k,S k→n0≤k∧u.ownBlock≠some k):OP W' n0 u X:=by
 refine ⟨⟨h.row.1,?_⟩,h.own,fun x hx=>(h.ok x hx).keep q (fun k hk e=>by have:=(hS k e).1;omega)⟩
 rcases h.row.2 with h1 | ⟨g,cap,cur,rfl,hb,hg,r⟩
 ·exact .inl h1
 ·refine .inr ⟨g,cap,cur,rfl,hb,?_,r⟩
  have:At W g 111 cur:=hg;exact this.keep q (fun e=>(hS g e).2 rfl)
theorem OP.lt {W:World} {n0:Nat} {u:Value} {X:List PR} (h:OP W n0 u X) {g:Nat} (hg:u.ownBlock=some g):g<W.heap.size:=by
 rcases h.row.2 with ⟨rfl,h0⟩ | ⟨g',cap,cur,rfl,hb,hc,r⟩
 ·cases hg
 ·have:At W g' 111 cur:=hc
  injection hg with hg;subst hg;exact this.lt
theorem OP.last {W:World} {n0:Nat} {u:Value} {X:List PR} {p:PR} (h:OP W n0 u (X++[p])) :
  ∃ g cap,u=.slice (some ⟨g,0,none⟩) (X.length+1) cap∧n0≤g∧g<W.heap.size∧X.length+1≤cap∧(cap:Int)≤9223372036854775807 ∧
   W.cell? ⟨g,X.length * 2,none⟩=some (.slice p.aa p.la.length p.ca)∧W.cell? ⟨g,X.length * 2+1,none⟩=some (.slice p.ab p.lb.length p.cb) ∧
   OP W n0 (.slice (some ⟨g,0,none⟩) X.length cap) X:=by
 have hl:(X++[p]).length=X.length+1:=by simp
 rcases h.row.2 with ⟨rfl,h0⟩ | ⟨g,cap,cur,hu,hb,hg,h5,h6,h7,h8⟩
 ·rw [hl] at h0
  cases h0
 ·have ha:At W g 111 cur:=hg
  have hcell:∀ j v,(prcells p)[j]?=some v→W.cell? ⟨g,X.length * 2+j,none⟩=some v:=fun j v hv=>by
   refine ha.cell ?_;have hj:j<2:=(Array.getElem?_eq_some_iff.1 hv).1;have h9:=flatP_at (X++[p]) X.length p (by simp) j v hv
   have h10:(cur.toList.take ((X++[p]).length * 2))[X.length * 2+j]?=(flatP (X++[p]))[X.length * 2+j]?:=by rw [h8]
   rw [List.getElem?_take_of_lt (by omega),h9] at h10
   simpa using h10
  rw [hl] at hu h5;subst hu;refine ⟨g,cap,rfl,h.own g rfl,ha.lt,h5,by unfold maxLen at h6;omega,hcell 0 _ rfl,hcell 1 _ rfl,⟨⟨flatP_length X,.inr ⟨g,cap,cur,rfl,hb,hg,by omega,h6,h7,?_⟩⟩,h.own,fun x hx=>h.ok x (by simp [hx])⟩⟩
  have h11:(cur.toList.take ((X++[p]).length * 2)).take (X.length * 2)=(flatP (X++[p])).take (X.length * 2):=by rw [h8]
  have e1:(flatP X++flatP [p]).take (X.length * 2)=flatP X:=by
   rw [List.take_append_of_le_length (by rw [flatP_length];omega),List.take_of_length_le (by rw [flatP_length];omega)]
  have e2:min (X.length * 2) ((X.length+1) * 2)=X.length * 2:=by omega
  rw [List.take_take,flatP_append,hl,e1,e2] at h11;exact h11
theorem pkeep_grown {w w':World} {r:Option Nat} (h:w.grownBy w' r):Keep (fun b=>r=some b) w w' :=
 ⟨h.os,h.tape,h.output,h.size,fun k hk hn=>h.block k hk (fun e=>hn e.symm)⟩
theorem OP.push {W:World} {n0:Nat} {u:Value} {X:List PR} (h:OP W n0 u X) (p:PR) (hp:PrOk W n0 p) (hn:n0≤W.heap.size) (hlen:X.length≤1000000000) (ty:TypeId) :
  ∃ v' w',(Builtin.append_ #[112,112] ty #[u,.slice (some ⟨W.heap.size,0,none⟩) 1 1]).run Try.prog (W.alloc (.cells (prcells p) 111))=.ok v' w'∧OP w' n0 v' (X++[p])∧Keep (fun b=>u.ownBlock=some b) W w'∧(∀ g,v'.ownBlock=some g→u.ownBlock=some g∨W.heap.size≤g):=by
 have qa:=(Keep.refl (fun _=>False) W).alloc (.cells (prcells p) 111)
 have ha:=At.new W (prcells p) 111;have h1:=(h.keep qa (fun k hk=>hk.elim)).row
 obtain ⟨i0,hi0,hz0,hz1,hz2⟩:=info_parts infoPr;obtain ⟨v',w',hrun,g2,g3,_,g5⟩:=run_append_own_at (P:=Try.prog) (W.alloc (.cells (prcells p) 111)) 0 112 ty 111 i0 (.agg #[.slice none 0 0,.slice none 0 0]) 2 48 Try.underlying112 hi0 hz0 hz1 hz2 rfl (by omega) u X.length (flatP X) h1 ⟨W.heap.size,0,none⟩ 1 1 (prcells p).toList rfl
  (fun j v hv=>by
   have:=ha.cell (o:=j) (v:=v) (by simpa using hv)
   have e:(⟨W.heap.size,0,none⟩:Addr).add j=⟨W.heap.size,j,none⟩:=by
    unfold Addr.add
    split
    ·rename_i hz
     rw [hz]
    ·simp
   rw [e]
   exact this)
  (by intro v hv;simp at hv;rcases hv with rfl | rfl <;> rfl) (by simp only [maxLen];omega) (by omega) (Nat.zero_le _)
 have q:Keep (fun b=>u.ownBlock=some b) W w':=(qa.mono (fun _ h=>h.elim)).trans (pkeep_grown g3)
 have hbl:∀ g,v'.ownBlock=some g→u.ownBlock=some g∨W.heap.size≤g:=fun g hg=>by
  rcases g5 with g5 | g5
  ·exact .inl (by rw [← g5];exact hg)
  ·rw [g5] at hg
   injection hg with hg
   simp at hg
   exact .inr (by omega)
 refine ⟨v',w',hrun,⟨?_,fun g hg=>?_,fun x hx=>?_⟩,q,hbl⟩
 ·rw [List.length_append,flatP_append]
  have e:flatP [p]=(prcells p).toList:=by unfold flatP;simp
  rw [e];exact g2
 ·rcases hbl g hg with h2 | h2
  ·exact h.own g h2
  ·omega
 ·have hS:∀ k,k<n0→¬ u.ownBlock=some k:=fun k hk e=>by have:=h.own k e;omega
  rcases List.mem_append.1 hx with hx | hx
  ·exact (h.ok x hx).keep q hS
  ·rw [List.mem_singleton.1 hx]
   exact hp.keep q hS
def likeB (a b:T):Bool:=decide (a.kind=b.kind∧eqB a.set b.set=true∧a.mn=b.mn∧a.mx=b.mx∧a.subs.length=b.subs.length)
theorem alike_any (a b:T) (bl1 o1:Nat) (a1:Option Addr) (c1 bl2 o2:Nat) (a2:Option Addr) (c2:Nat) (w:World) (h1:∀ j v,(ncells a a1 c1)[j]?=some v→w.cell? ⟨bl1,o1+j,none⟩=some v) (h2:∀ j v,(ncells b a2 c2)[j]?=some v→w.cell? ⟨bl2,o2+j,none⟩=some v) :
  Calls Try.prog 79 #[.pointer (some ⟨bl1,o1,none⟩),.pointer (some ⟨bl2,o2,none⟩)] w fun e w'=>e=.returned (.bool (likeB a b))∧∃ m,w'=w.drewN m:=by
 obtain ⟨p0,p1,p2,p3,p4,p5,p6,p7⟩:=ncell h1;obtain ⟨q0,q1,q2,q3,q4,q5,q6,q7⟩:=ncell h2;clear h1 h2;obtain ⟨g,hg⟩:∃ g,likeB a b=g:=⟨_,rfl⟩;rw [hg];have HG:=hid hg;clear hg
 by_cases hk:a.kind=b.kind
 case neg =>
  have ek:(a.kind == b.kind)=false:=by simpa using hk
  have HX:=hid (show g=false from by rw [← HG.out];exact decide_eq_false (fun h=>hk h.1))
  clear hk
  go_enter Try.func79,Try.ntmps79
  go_wp2_with fail
  go_quiet (fail)
  go_wp2_with fail;go_ret;exact ⟨by rw [HX.out];rfl,_,rfl⟩
 have ek:(a.kind == b.kind)=true:=by simpa using hk
 by_cases hs:a.set=b.set
 case neg =>
  have es:=fun W=>eq_no hs W
  have HX:=hid (show g=false from by rw [← HG.out];exact decide_eq_false (fun h=>hs (eqB_iff.1 h.2.1)))
  clear hk hs
  go_enter Try.func79,Try.ntmps79
  go_wp2_with fail
  go_quiet (fail)
  go_wp2_with fail;go_ret;exact ⟨by rw [HX.out];rfl,_,rfl⟩
 have es:=fun W=>eq_yes hs W
 by_cases hm:a.mn=b.mn
 case neg =>
  have em:(a.mn == b.mn)=false:=by simpa using hm
  have HX:=hid (show g=false from by rw [← HG.out];exact decide_eq_false (fun h=>hm h.2.2.1))
  clear hk hs hm
  go_enter Try.func79,Try.ntmps79
  go_wp2_with fail
  go_quiet (fail)
  go_wp2_with fail;go_ret;exact ⟨by rw [HX.out];rfl,_,rfl⟩
 have em:(a.mn == b.mn)=true:=by simpa using hm
 by_cases hx:a.mx=b.mx
 case neg =>
  have ex:(a.mx == b.mx)=false:=by simpa using hx
  have HX:=hid (show g=false from by rw [← HG.out];exact decide_eq_false (fun h=>hx h.2.2.2.1))
  clear hk hs hm hx
  go_enter Try.func79,Try.ntmps79
  go_wp2_with fail
  go_quiet (fail)
  go_wp2_with fail;go_ret;exact ⟨by rw [HX.out];rfl,_,rfl⟩
 have ex:(a.mx == b.mx)=true:=by simpa using hx
 by_cases hl:a.subs.length=b.subs.length
 case neg =>
  have el:((a.subs.length:Int) == b.subs.length)=false:=by simp;omega
  have HX:=hid (show g=false from by rw [← HG.out];exact decide_eq_false (fun h=>hl h.2.2.2.2))
  clear hk hs hm hx hl
  go_enter Try.func79,Try.ntmps79
  go_wp2_with fail
  go_quiet (fail)
  go_wp2_with fail;go_ret;exact ⟨by rw [HX.out];rfl,_,rfl⟩
 have el:((a.subs.length:Int) == b.subs.length)=true:=by simp;omega
 have HX:=hid (show g=true from by rw [← HG.out];exact decide_eq_true ⟨hk,eqB_iff.2 hs,hm,hx,hl⟩)
 clear hk hs hm hx hl
 go_enter Try.func79,Try.ntmps79
 go_wp2_with fail
 go_quiet (fail)
 go_wp2_with fail;go_ret;exact ⟨by rw [HX.out];rfl,_,rfl⟩
end P07
end Go.Proofs.Ytlmfbchgkjgljaa
