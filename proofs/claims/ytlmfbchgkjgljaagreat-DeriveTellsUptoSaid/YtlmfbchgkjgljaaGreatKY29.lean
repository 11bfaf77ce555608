/- What is left behind a text (layer 12), plain; the count of nodes that stops. -/
import Derived.Test.YtlmfbchgkjgljaaGreatKY28
import Derived.Test.YtlmfbchgkjgljaaGreatKY20
import Derived.Test.YtlmfbchgkjgljaaGreatKY26
set_option maxRecDepth 100000
set_option maxHeartbeats 32000000
open Go.Lib (hid)
namespace Go.Proofs.YtlmfbchgkjgljaaGreat
namespace P12
open P07 P08 P09 P10
open Sets (ST)
def wordG:T→List UInt8→Option T
 | t,[]=>some t
 | t,c::s=>if 4000<cnt (byT c.toNat t) then none else wordG (byT c.toNat t) s
theorem word_ok:∀ (s:List UInt8) (t u:T),Rs t→wordG t s=some u→Rs u∧∀ w,Mat u w↔Mat t (s++w)
 | [],t,u,h,e=>by
  rw [wordG] at e
  cases e
  exact ⟨h,fun w=>Iff.rfl⟩
 | c::s,t,u,h,e=>by
  rw [wordG] at e
  split at e
  ·cases e
  ·obtain ⟨h1,h2⟩:=word_ok s _ u (by_rs c.toNat t h).1 e
   refine ⟨h1,fun w=>?_⟩
   rw [h2 w,by_mat c t h,List.cons_append]
mutual
def cto (m:Nat):T→Nat
 | .nd _ _ _ _ l=>ctoL m 1 l
def ctoL (m:Nat):Nat→List T→Nat
 | k,[]=>k
 | k,t::l=>if k<m then ctoL m (k+cto m t) l else k
end
mutual
theorem cto_ok (m:Nat):∀ t:T,cto m t≤cnt t∧(cto m t<m→cto m t=cnt t)
 | .nd _ _ _ _ l=>by
  rw [cto,cnt];obtain ⟨h1,h2,h3⟩:=ctoL_ok m 1 l;exact ⟨h2,h3⟩
theorem ctoL_ok (m:Nat):∀ (k:Nat) (l:List T),k≤ctoL m k l∧ctoL m k l≤k+cntL l∧(ctoL m k l<m→ctoL m k l=k+cntL l)
 | k,[]=>by rw [ctoL,cntL];exact ⟨Nat.le_refl _,Nat.le_refl _,fun _=>rfl⟩
 | k,t::l=>by
  obtain ⟨h1,h2⟩:=cto_ok m t;obtain ⟨h3,h4,h5⟩:=ctoL_ok m (k+cto m t) l;rw [ctoL,cntL]
  split
  ·refine ⟨by omega,by omega,fun h=>?_⟩
   have h6:=h5 h;have h7:=h2 (by omega)
   omega
  ·exact ⟨Nat.le_refl _,by omega,fun h=>absurd h (by assumption)⟩
end
theorem cto_great (m:Nat) (t:T):m≤cto m t↔m≤cnt t:=by
 obtain ⟨h1,h2⟩:=cto_ok m t
 constructor
 ·omega
 ·intro h
  by_cases hl:cto m t<m
  ·have:=h2 hl
   omega
  ·omega
end P12
namespace P12
open P07 P08 P09 P10
open Sets (ST)
def longG:T→Int→Int→List UInt8→Option Int
 | t,tt,i,[]=>some (if nullB t=true then i else tt)
 | t,tt,i,c::r=>if sameB t noT=true then some (if nullB t=true then i else tt) else if 4000<cnt (byT c.toNat t) then none else longG (byT c.toNat t) (if nullB t=true then i else tt) (i+1) r
end P12
namespace P07
open Go.RowKit Base IL Bytes
open Sets (ST)
theorem Rs.put_of {w:World} {b:Nat} {l:List UInt8} {s:PS} {W:World} (I:Rs w b l 27 nzeros s W) (v0 v1 v2 v3 v4 v5 v6 v7:Value) (t:T) (a:Option Addr) (c:Nat) (he:#[v0,v1,v2,v3,v4,v5,v6,v7]=ncells t a c) (hle:t.subs.length≤c) (hL:Lie W (fun k=>w.heap.size<k) a t.subs) :
  At (put8 W w.heap.size v0 v1 v2 v3 v4 v5 v6 v7) w.heap.size 27 #[v0,v1,v2,v3,v4,v5,v6,v7]∧Rd (put8 W w.heap.size v0 v1 v2 v3 v4 v5 v6 v7) b l s∧Keep (fun i=>i=b) w (put8 W w.heap.size v0 v1 v2 v3 v4 v5 v6 v7)∧NodeV (put8 W w.heap.size v0 v1 v2 v3 v4 v5 v6 v7) (fun k=>w.heap.size≤k) (.agg #[v0,v1,v2,v3,v4,v5,v6,v7]) t:=by
 refine ⟨set8 I.out _ _ _ _ _ _ _ _,other8 (show At _ b _ _ from I.rd) I.ne _ _ _ _ _ _ _ _,keep8 I.keep (b:=w.heap.size) (fun h=>absurd h (Nat.lt_irrefl _)) _ _ _ _ _ _ _ _,a,c,by rw [he],hle,?_⟩
 exact (hL.keep (keep8 (Keep.refl (fun i=>i=w.heap.size) W) (b:=w.heap.size) (fun _=>rfl) _ _ _ _ _ _ _ _) (fun k hk e=>by omega)).mono (fun k hk=>by omega)
structure Rt (w:World) (b:Nat) (l:List UInt8) (u:Value) (acc:List T) (s:PS) (W:World):Prop where
 rs:Rs w b l 27 nzeros s W
 ot:OT W (fun k=>w.heap.size<k) u acc
theorem Rt.step {w:World} {b:Nat} {l:List UInt8} {u:Value} {acc:List T} {s s':PS} {W W':World} (I:Rt w b l u acc s W) (h:Rd W' b l s') (q:Keep (fun i=>i=b) W W'):Rt w b l u acc s' W' :=
 ⟨I.rs.step h q,I.ot.keep q (fun k hk e=>by have:=I.rs.low;omega)⟩
theorem Rt.quiet {w:World} {b:Nat} {l:List UInt8} {u:Value} {acc:List T} {s:PS} {W W':World} (I:Rt w b l u acc s W) (q:Keep (fun _=>False) W W'):Rt w b l u acc s W' :=
 I.step (I.rs.rd.keep q (fun h=>h)) (upk b q)
theorem Rt.drawn {w:World} {b:Nat} {l:List UInt8} {u:Value} {acc:List T} {s:PS} {W W':World} (I:Rt w b l u acc s W) (q:Drawn W W'):Rt w b l u acc s W':=I.quiet (q.keep _)
theorem Rt.push {w:World} {b:Nat} {l:List UInt8} {u:Value} {acc:List T} {s s':PS} {W W':World} (I:Rt w b l u acc s W) (h:Rd W' b l s') (q:Keep (fun i=>i=b) W W') {t:T} {a:Option Addr} {c:Nat} (hle:t.subs.length≤c) (hL:Lie W' (fun k=>W.heap.size≤k) a t.subs) (hlen:acc.length≤100000010) :
  ∃ v' w',(Builtin.append_ #[25,25] 25 #[u,.slice (some ⟨W'.heap.size,0,none⟩) 1 1]).run Tryz.prog (W'.alloc (.cells (ncells t a c) 27))=.ok v' w'∧Rt w b l v' (acc++[t]) s' w':=by
 have J:=I.step h q;have hW:=I.rs.out.lt;have hW':=J.rs.out.lt;have hown:=fun g hg=>I.ot.lt (g:=g) hg
 obtain ⟨v',w',hrun,g1,g2,g3⟩:=J.ot.push t a c hle (hL.mono (fun k hk=>⟨by omega,fun e=>by have:=(hown k e).1;omega⟩)) (by omega) (fun g hg=>by omega) 25
 have hb:=I.rs.low;refine ⟨v',w',hrun,⟨J.rs.rd.keep g2 (fun h=>by have:=(hown b h).2;omega),J.rs.out.keep g2 (fun h=>by have:=(hown _ h).2;omega),J.rs.keep.next g2 (fun i hi hl=>by have:=(hown i hi).2;omega),hb⟩,g1⟩
theorem rnext_drawn (b c:Nat) (l:List UInt8) (s:PS) (hb:s.bad=none) (w:World) (h:Rd w b l s) :
  Calls Tryz.prog 95 #[.pointer (some ⟨b,0,none⟩),.int .u8 c] w fun e w'=>e=.returned (.bool (decide (nxt l s=c)))∧∃ m,w'=w.drewN m:=by
 have c0:w.cell? ⟨b,0,none⟩=some (str l):=At.cell h (o:=0) rfl;have c1:w.cell? ⟨b,1,none⟩=some (.int .i64 s.pos):=At.cell h (o:=1) rfl;have hs:=size_str l;have hix:=index_run l;obtain ⟨B,hB⟩:∃ B:ByteArray,(⟨l.toArray⟩:ByteArray)=B:=⟨_,rfl⟩;unfold str at c0 hix;rw [hB] at hs c0 hix;clear hB h
 by_cases hlt:s.pos<l.length
 ·have i1:=hix s.pos hlt
  have hn:nxt l s=byteAt l s.pos:=by unfold nxt;rw [if_pos ⟨hb,hlt⟩]
  have hbt:=byteAt_lt l s.pos;rw [hn];obtain ⟨t,ht⟩:∃ t,decide ((byteAt l s.pos:Int)=c)=t:=⟨_,rfl⟩;rw [ht];have hq:((byteAt l s.pos:Int) == (c:Int))=t:=by rw [← ht];rfl
  have hlti:(s.pos:Int)<l.length:=by omega
  generalize byteAt l s.pos=u at *;clear hix hn ht hb
  go_enter Tryz.func95,Tryz.ntmps95
  go_wp2_with fail
  go_quiet (fail)
  go_wp2_with fail;go_ret;exact ⟨rfl,_,rfl⟩
 ·have hn:nxt l s=-1:=nxt_fin (by omega)
  have hq:decide (nxt l s=c)=false:=by rw [hn];simp
  rw [hq];have hlti:¬ (s.pos:Int)<l.length:=by omega
  clear hix hn hq hb
  go_enter Tryz.func95,Tryz.ntmps95
  go_wp2_with fail
  go_quiet (fail)
  go_wp2_with fail;go_ret;exact ⟨rfl,_,rfl⟩
theorem rnext_two {b:Nat} {l:List UInt8} {s:PS} (hb:s.bad=none) {w:World} (h:Rd w b l s) {x y:Bool} (hx:decide (nxt l s=(124:Nat))=x) (hy:decide (nxt l s=(41:Nat))=y) (n:Nat) (c:Int) (v:Bool) (hc:c=124∧v=x∨c=41∧v=y) :
  Calls Tryz.prog 95 #[.pointer (some ⟨b,0,none⟩),.int .u8 c] (w.drewN n) fun e w'=>e=.returned (.bool v)∧∃ m,w'=w.drewN m:=by
 rcases hc with ⟨rfl,rfl⟩ | ⟨rfl,rfl⟩
 ·refine (rnext_drawn b 124 l s hb (w.drewN n) h).mono ?_
  rintro e w' ⟨rfl,m,rfl⟩;exact ⟨by rw [hx],n+m,World.drewN_drewN _ _ _⟩
 ·refine (rnext_drawn b 41 l s hb (w.drewN n) h).mono ?_
  rintro e w' ⟨rfl,m,rfl⟩;exact ⟨by rw [hy],n+m,World.drewN_drewN _ _ _⟩
structure InRC (w:World) (b F o:Nat) (l:List UInt8) (A:List UInt8→PS→T × PS) (R:List T × PS) (f:Nat) (u:Value) (acc:List T) (s:PS) (W:World):Prop where
 rt:Rt w b l u acc s W
 eq:catL F A f acc l s=R
 bad:s.bad=none
 pos:s.pos≤l.length
 opn:s.opn=o
 len:acc.length≤s.pos
 fuel:l.length+1≤s.pos+f
theorem rcat_any (F b o:Nat) (l:List UInt8) (A:List UInt8→PS→T × PS) (hF:l.length+2≤F) (hl:l.length≤100000000) (hT:Tame A) (hSt:Still A) (hI:NodeR 96 b l o (itemP F A)):NodeR 89 b l o (catP F A):=by
 intro s w hb hp hop h;have W0:=hid (Rs.start h 27 nzeros);obtain ⟨⟨RA,RS⟩,hR⟩:∃ R,catL F A F [] l s=R:=⟨_,rfl⟩;have hq:catP F A l s=(wrapC RA,RS):=by unfold catP;rw [hR]
 rw [hq];obtain ⟨tR,htR⟩:∃ t,wrapC RA=t:=⟨_,rfl⟩;rw [htR];have HR:=hid (And.intro hR (And.intro hb (And.intro hp (And.intro hop htR))));clear h hq hR hb hp hop htR
 go_enter Tryz.func89,Tryz.ntmps89
 go_wp2_with fail;generalize (w.alloc (.cells nzeros 27))=V at *
 go_loopg [3] F (fun gg u wr=>∃ (acc:List T) (s':PS),InRC w b F o l A (RA,RS) gg u acc s' wr)
 case atStart=>exact ⟨[],s,⟨⟨W0.out,OT.nil _ _⟩,HR.out.1,HR.out.2.1,HR.out.2.2.1,HR.out.2.2.2.1,Nat.zero_le _,by omega⟩⟩
 case round =>
  obtain ⟨acc,s',I⟩:=hrel;obtain ⟨c,hc⟩:∃ c,nxt l s'=c:=⟨_,rfl⟩;obtain ⟨g,hg⟩:∃ g:Bool,decide (goes c)=g:=⟨_,rfl⟩;have HC:=hid hc;have HG:=hid hg;have II:=hid I;have I0:=hid I.rt;have c0:wr.cell? ⟨b,0,none⟩=some (str l):=At.cell I.rt.rs.rd (o:=0) rfl;have c1:wr.cell? ⟨b,1,none⟩=some (.int .i64 s'.pos):=At.cell I.rt.rs.rd (o:=1) rfl;have hs:=size_str l;obtain ⟨B,hB⟩:∃ B:ByteArray,(⟨l.toArray⟩:ByteArray)=B:=⟨_,rfl⟩;unfold str at c0;rw [hB] at hs c0;clear I hc hg hB;go_upto_region 2 with fail
  go_cut [23] (fun x23 wx=>x23=.bool g∧Drawn wr wx)
  case first =>
   by_cases hlt:s'.pos<l.length
   ·have hlti:(s'.pos:Int)<l.length:=by omega
    have h0:0≤c:=by
     rw [← HC.out];unfold nxt;rw [if_pos ⟨II.out.bad,hlt⟩];omega
    by_cases h124:c=124
    ·have HX:=hid (show false=g from by rw [← HG.out];exact (decide_eq_false (fun h=>h.2.1 h124)).symm)
     have HN:=hid (rnext_two II.out.bad I0.out.rs.rd (x:=true) (y:=false) (by rw [HC.out,h124];rfl) (by rw [HC.out,h124];rfl))
     go_quiet ((go_at_call 95;exact HN.out _ _ _ (by first | exact .inl ⟨rfl,rfl⟩ | exact .inr ⟨rfl,rfl⟩)))
     go_wp2_with fail
     go_meet
     case rel=>exact ⟨by rw [HX.out],⟨_,rfl⟩⟩
    ·by_cases h41:c=41
     ·have HX:=hid (show false=g from by rw [← HG.out];exact (decide_eq_false (fun h=>h.2.2 h41)).symm)
      have HN:=hid (rnext_two II.out.bad I0.out.rs.rd (x:=false) (y:=true) (by rw [HC.out,h41];rfl) (by rw [HC.out,h41];rfl))
      go_quiet ((go_at_call 95;exact HN.out _ _ _ (by first | exact .inl ⟨rfl,rfl⟩ | exact .inr ⟨rfl,rfl⟩)))
      go_wp2_with fail
      go_meet
      case rel=>exact ⟨by rw [HX.out],⟨_,rfl⟩⟩
     ·have HX:=hid (show true=g from by rw [← HG.out];exact (decide_eq_true ⟨h0,h124,h41⟩).symm)
      have HN:=hid (rnext_two II.out.bad I0.out.rs.rd (x:=false) (y:=false) (by rw [HC.out];exact decide_eq_false h124) (by rw [HC.out];exact decide_eq_false h41))
      go_quiet ((go_at_call 95;exact HN.out _ _ _ (by first | exact .inl ⟨rfl,rfl⟩ | exact .inr ⟨rfl,rfl⟩)))
      go_wp2_with fail
      go_meet
      case rel=>exact ⟨by rw [HX.out],⟨_,rfl⟩⟩
   ·have hlti:¬ (s'.pos:Int)<l.length:=by omega
    have HX:=hid (show false=g from by
     rw [← HG.out,← HC.out,nxt_fin (by omega)]
     rfl)
    go_quiet (fail)
    go_wp2_with fail
    go_meet
    case rel=>exact ⟨by rw [HX.out],⟨_,rfl⟩⟩
  case rest =>
   obtain ⟨rfl,hd⟩:=hcut;have I6:=hid (I0.out.drawn hd);clear hd I0 c0 c1
   cases g with
   | true =>
    have hgo:goes (nxt l s'):=by rw [HC.out];exact of_decide_eq_true HG.out
    have hE0:=II.out.eq;obtain ⟨f,rfl⟩:∃ f,gk=f+1:=⟨gk - 1,by have:=II.out.fuel;have:=II.out.pos;omega⟩
    rw [catL,if_pos hgo] at hE0;have hmv:=item_moves F hT l s';have hin:=fun h=>(item_tame F hT).pos_le (l:=l) (s:=s') II.out.bad II.out.pos h
    have hopn:(itemP F A l s').2.opn=o:=(item_still F hSt l s').trans II.out.opn;have hc2:=hI s' wc II.out.bad II.out.pos II.out.opn I6.out.rs.rd;obtain ⟨⟨t,s2⟩,hR⟩:∃ R,itemP F A l s'=R:=⟨_,rfl⟩;rw [hR] at hE0 hmv hin hopn hc2
    dsimp only at hE0 hmv hin hopn
    have hbd:∀ x,s2.bad=some x→RS.bad=some x:=fun x h=>by
     have h1:=(catL_tame F hT f (acc++[t])).bad l s2 x h;rw [hE0] at h1;exact h1
    have HItem:=hid hc2;have HE:=hid (And.intro hE0 (And.intro hmv (And.intro hin (And.intro hopn hbd))));clear hgo hE0 hmv hin hopn hc2 hR hbd;go_wp2_with fail;refine HItem.out.mono ?_;intro e w4 hO
    rcases hO.split with ⟨hb4,v,rfl,⟨a',c',hv,hle,hLie⟩,h4,q4⟩ | ⟨x,hb4,rfl,q4⟩
    ·dsimp only at hv hb4 hle hLie
     subst hv;obtain ⟨v',w9,hrun,I9⟩:=I6.out.push h4 q4 hle hLie (by have:=II.out.len;have:=II.out.pos;omega)
     have H9:=hid (And.intro I9 hb4);clear hLie h4 q4 hle I9 hb4 hO;go_wp2_with (at_builtin;refine Lib.wpList_append_run _ rfl _ _ _ _ rfl _ _ rfl rfl _ _ hrun ?_);clear hrun;go_wp2_with fail
     go_roundg f
     case measure=>omega
     case rel =>
      have h1:=HE.out.2.1 H9.out.2;have h2:=II.out.len;have h3:=II.out.fuel;exact ⟨acc++[t],s2,⟨H9.out.1,HE.out.1,H9.out.2,HE.out.2.2.1 H9.out.2,HE.out.2.2.2.1,by rw [List.length_append,List.length_singleton];omega,by omega⟩⟩
    ·have HP:=hid (And.intro hb4 (I6.out.rs.keep.trans q4))
     clear hb4 q4 hO;go_wp2_with fail;exact ⟨rfl,Outs.gave (x:=x) (HE.out.2.2.2.2 _ HP.out.1) HP.out.2⟩
   | false =>
    have hng:¬ goes (nxt l s'):=by rw [HC.out];exact of_decide_eq_false HG.out
    have hstop:RA=acc∧RS=s':=by
     have e:=II.out.eq
     cases gk with
     | zero =>
      rw [catL] at e;injection e with e1 e2;exact ⟨e1.symm,e2.symm⟩
     | succ f =>
      rw [catL,if_neg hng] at e;injection e with e1 e2;exact ⟨e1.symm,e2.symm⟩
    obtain ⟨rfl,rfl⟩:=hstop;obtain ⟨a1,cap,hu,hcap,hLie⟩:=I6.out.ot.form;have hlen:RA.length≤100000000:=by have:=II.out.len;have:=II.out.pos;omega
    have hbad:=II.out.bad;have HU:=hid (And.intro hcap hLie);have HBAD:=hid hbad;have htR:=HR.out.2.2.2.2;clear hcap hLie II hng hbad;subst hu
    rcases RA with _ | ⟨t,_ | ⟨t2,r⟩⟩
    ·have HT:=hid htR
     clear htR;obtain ⟨⟨k0,k1,k2,k3,k4,k5,k6,k7⟩,f0,f1,f2,f3,f4,f5,f6,f7⟩:=cells8 I6.out.rs.out;have hlt0:=I6.out.rs.out.lt;go_wp2_with fail
     change bodyPost _ _ _ _ _ (put8 wc w.heap.size (.int .i64 1) (.int .u64 0) (.int .u64 0) (.int .u64 0) (.int .u64 0) (.int .i64 0) (.int .i64 0) (.slice none 0 0))
     obtain ⟨a,p,q,n⟩:=I6.out.rs.put_of (.int .i64 1) (.int .u64 0) (.int .u64 0) (.int .u64 0) (.int .u64 0) (.int .i64 0) (.int .i64 0) (.slice none 0 0) (.nd 1 zS 0 0 []) none 0 (by unfold ncells T.kind T.set T.mn T.mx T.subs;simp only [zs_zero];rfl) (Nat.le_refl 0) (.nil _)
     generalize (put8 wc w.heap.size (.int .i64 1) (.int .u64 0) (.int .u64 0) (.int .u64 0) (.int .u64 0) (.int .i64 0) (.int .i64 0) (.slice none 0 0))=W9 at a p q n ⊢;obtain ⟨⟨e0,e1,e2,e3,e4,e5,e6,e7⟩,-⟩:=cells8 a;refine bodyPost_ret (v:=.agg #[(.int .i64 1),(.int .u64 0),(.int .u64 0),(.int .u64 0),(.int .u64 0),(.int .i64 0),(.int .i64 0),(.slice none 0 0)]) (by simp [results,Tryz.results89,go_sem,e0,e1,e2,e3,e4,e5,e6,e7]) rfl ?_
     exact Outs.ok HBAD.out (by show NodeV _ _ _ tR;rw [← HT.out];exact n) p q
    ·have htR':t=tR:=htR
     subst htR';clear htR;obtain ⟨bl,off,a',c',e1,hok,hbl,hle,hL2,hcells⟩:=HU.out.2.get (i:=0) (t:=t) rfl;subst e1;have y0:wc.cell? ⟨bl,off,none⟩=some (.int .i64 t.kind):=by have:=hcells 0 (.int .i64 t.kind) rfl;simpa using this
     have y1:wc.cell? ⟨bl,off+1,none⟩=some (.int .u64 t.set.x0):=by have:=hcells 1 (.int .u64 t.set.x0) rfl;simpa using this
     have y2:wc.cell? ⟨bl,off+2,none⟩=some (.int .u64 t.set.x1):=by have:=hcells 2 (.int .u64 t.set.x1) rfl;simpa using this
     have y3:wc.cell? ⟨bl,off+3,none⟩=some (.int .u64 t.set.x2):=by have:=hcells 3 (.int .u64 t.set.x2) rfl;simpa using this
     have y4:wc.cell? ⟨bl,off+4,none⟩=some (.int .u64 t.set.x3):=by have:=hcells 4 (.int .u64 t.set.x3) rfl;simpa using this
     have y5:wc.cell? ⟨bl,off+5,none⟩=some (.int .i64 t.mn):=by have:=hcells 5 (.int .i64 t.mn) rfl;simpa using this
     have y6:wc.cell? ⟨bl,off+6,none⟩=some (.int .i64 t.mx):=by have:=hcells 6 (.int .i64 t.mx) rfl;simpa using this
     have y7:wc.cell? ⟨bl,off+7,none⟩=some (.slice a' t.subs.length c'):=by have:=hcells 7 (.slice a' t.subs.length c') rfl;simpa using this
     have HL2:=hid (And.intro hL2 hle);clear hcells hL2 hle;obtain ⟨⟨k0,k1,k2,k3,k4,k5,k6,k7⟩,f0,f1,f2,f3,f4,f5,f6,f7⟩:=cells8 I6.out.rs.out;have hlt0:=I6.out.rs.out.lt;go_wp2_with fail
     change bodyPost _ _ _ _ _ (put8 wc w.heap.size (.int .i64 t.kind) (.int .u64 t.set.x0) (.int .u64 t.set.x1) (.int .u64 t.set.x2) (.int .u64 t.set.x3) (.int .i64 t.mn) (.int .i64 t.mx) (.slice a' t.subs.length c'))
     obtain ⟨a,p,q,n⟩:=I6.out.rs.put_of (.int .i64 t.kind) (.int .u64 t.set.x0) (.int .u64 t.set.x1) (.int .u64 t.set.x2) (.int .u64 t.set.x3) (.int .i64 t.mn) (.int .i64 t.mx) (.slice a' t.subs.length c') t a' c' rfl HL2.out.2 HL2.out.1;generalize (put8 wc w.heap.size (.int .i64 t.kind) (.int .u64 t.set.x0) (.int .u64 t.set.x1) (.int .u64 t.set.x2) (.int .u64 t.set.x3) (.int .i64 t.mn) (.int .i64 t.mx) (.slice a' t.subs.length c'))=W9 at a p q n ⊢;obtain ⟨⟨e0,e1,e2,e3,e4,e5,e6,e7⟩,-⟩:=cells8 a;refine bodyPost_ret (v:=.agg #[(.int .i64 t.kind),(.int .u64 t.set.x0),(.int .u64 t.set.x1),(.int .u64 t.set.x2),(.int .u64 t.set.x3),(.int .i64 t.mn),(.int .i64 t.mx),(.slice a' t.subs.length c')]) (by simp [results,Tryz.results89,go_sem,e0,e1,e2,e3,e4,e5,e6,e7]) rfl ?_
     exact Outs.ok HBAD.out n p q
    ·have HT:=hid (show tR=.nd 3 zS 0 0 (t::t2::r) from htR.symm)
     have hl0:((t::t2::r).length == 0)=false:=by simp
     have hl1:((t::t2::r).length == 1)=false:=by simp
     have hl2:¬ (t::t2::r).length=0:=by simp
     have hl3:¬ (t::t2::r).length=1:=by simp
     obtain ⟨n,hn⟩:∃ n,(t::t2::r).length=n:=⟨_,rfl⟩;rw [hn] at hl0 hl1 hl2 hl3 hlen ⊢;have HNN:=hid hn;have hi0:((n:Int) == 0)=false:=by simp;omega
     have hi1:((n:Int) == 1)=false:=by simp;omega
     clear hn htR;obtain ⟨⟨k0,k1,k2,k3,k4,k5,k6,k7⟩,f0,f1,f2,f3,f4,f5,f6,f7⟩:=cells8 I6.out.rs.out;have hlt0:=I6.out.rs.out.lt;go_wp2_with fail
     change bodyPost _ _ _ _ _ (put8 wc w.heap.size (.int .i64 3) (.int .u64 0) (.int .u64 0) (.int .u64 0) (.int .u64 0) (.int .i64 0) (.int .i64 0) (.slice a1 n cap))
     obtain ⟨a,p,q,n_⟩:=I6.out.rs.put_of (.int .i64 3) (.int .u64 0) (.int .u64 0) (.int .u64 0) (.int .u64 0) (.int .i64 0) (.int .i64 0) (.slice a1 n cap) (.nd 3 zS 0 0 (t::t2::r)) a1 cap (by rw [← HNN.out];unfold ncells T.kind T.set T.mn T.mx T.subs;simp only [zs_zero];rfl) HU.out.1 HU.out.2
     generalize (put8 wc w.heap.size (.int .i64 3) (.int .u64 0) (.int .u64 0) (.int .u64 0) (.int .u64 0) (.int .i64 0) (.int .i64 0) (.slice a1 n cap))=W9 at a p q n_ ⊢;obtain ⟨⟨e0,e1,e2,e3,e4,e5,e6,e7⟩,-⟩:=cells8 a;refine bodyPost_ret (v:=.agg #[(.int .i64 3),(.int .u64 0),(.int .u64 0),(.int .u64 0),(.int .u64 0),(.int .i64 0),(.int .i64 0),(.slice a1 n cap)]) (by simp [results,Tryz.results89,go_sem,e0,e1,e2,e3,e4,e5,e6,e7]) rfl ?_
     exact Outs.ok HBAD.out (by show NodeV _ _ _ tR;rw [HT.out];exact n_) p q
end P07
namespace P07
open Go.RowKit Base IL Bytes
open Sets (ST)
structure InRA (w:World) (b F o:Nat) (l:List UInt8) (A:List UInt8→PS→T × PS) (R:List T × PS) (f:Nat) (u:Value) (acc:List T) (s:PS) (W:World):Prop where
 rt:Rt w b l u acc s W
 eq:altL F A f acc l s=R
 bad:s.bad=none
 pos:s.pos≤l.length
 opn:s.opn=o
 len:acc.length≤s.pos+1
 fuel:l.length+1≤s.pos+f
 some:acc≠[]
theorem ralt_any (F b o:Nat) (l:List UInt8) (A:List UInt8→PS→T × PS) (hF:l.length+2≤F) (hl:l.length≤100000000) (hT:Tame A) (hSt:Still A) (hI:NodeR 89 b l o (catP F A)):NodeR 74 b l o (altP F A):=by
 intro s w hb hp hop h;have W0:=hid (Rs.start h 27 nzeros);have hp1:=fun h=>(cat_tame F hT).pos_le (l:=l) (s:=s) hb hp h
 have hop1:(catP F A l s).2.opn=o:=(cat_still F hSt l s).trans hop;have hcat:=fun W h=>hI s W hb hp hop h
 obtain ⟨⟨t0,s1⟩,hR0⟩:∃ R,catP F A l s=R:=⟨_,rfl⟩;rw [hR0] at hp1 hop1 hcat
 dsimp only at hp1 hop1
 obtain ⟨⟨RA,RS⟩,hR⟩:∃ R,altL F A F [t0] l s1=R:=⟨_,rfl⟩;have hq:altP F A l s=(wrapA RA,RS):=by unfold altP;rw [hR0];dsimp only;rw [hR]
 have hbd:∀ x,s1.bad=some x→RS.bad=some x:=fun x h=>by
  have h1:=(altL_tame F hT F [t0]).bad l s1 x h;rw [hR] at h1;exact h1
 rw [hq];obtain ⟨tR,htR⟩:∃ t,wrapA RA=t:=⟨_,rfl⟩;rw [htR];have HR:=hid (And.intro hR (And.intro hp1 (And.intro hop1 (And.intro hcat (And.intro hbd htR)))));clear h hq hR hb hp hop htR hp1 hop1 hcat hbd hR0
 go_enter Tryz.func74,Tryz.ntmps74
 go_wp2_with fail;generalize (w.alloc (.cells nzeros 27))=V at *;refine (HR.out.2.2.2.1 V W0.out.rd).mono ?_;intro e w1 hO
 rcases hO.split with ⟨hb1,v,rfl,⟨a',c',hv,hle,hLie⟩,h1,q1⟩ | ⟨x,hb1,rfl,q1⟩
 ·dsimp only at hv hb1 hle hLie
  subst hv;have hlow:=W0.out.out.lt
  have W1:=hid (And.intro (show Rt w b l (.slice (some ⟨w1.heap.size,0,none⟩) 1 1) [t0] s1 (w1.alloc (.cells (ncells t0 a' c') 27)) from by
   have J:=W0.out.step h1 q1
   exact ⟨J.quiet ((Keep.refl (fun _=>False) w1).alloc _),OT.one w1 _ t0 a' c' hle (hLie.mono (fun k hk=>by omega)) J.out.lt⟩) hb1)
  clear h1 q1 hle hLie hlow hb1 hO;go_wp2_with fail;generalize (w1.alloc (.cells (ncells t0 a' c') 27))=V1 at *;generalize w1.heap.size=n1 at *
  go_loopg [3] F (fun gg u wr=>∃ (acc:List T) (s':PS),InRA w b F o l A (RA,RS) gg u acc s' wr)
  case atStart=>exact ⟨[t0],s1,⟨W1.out.1,HR.out.1,W1.out.2,HR.out.2.1 W1.out.2,HR.out.2.2.1,by simp,by omega,by simp⟩⟩
  case round =>
   obtain ⟨acc,s',I⟩:=hrel;have II:=hid I;have I0:=hid I.rt
   by_cases h124:nxt l s'=124
   ·have hlt:=(nxt_lt (l:=l) (s:=s') (by omega)).2
    have ht:=take_yes b 124 l s' h124 hl wr I.rt.rs.rd;have hE0:=I.eq;obtain ⟨f,rfl⟩:∃ f,gk=f+1:=⟨gk - 1,by have:=I.fuel;have:=I.pos;omega⟩
    rw [altL,if_pos h124] at hE0;have hmv:(catP F A l s'.adv).2.bad=none→s'.pos<(catP F A l s'.adv).2.pos:=fun h=>(cat_tame F hT).step h
    have hin:=fun h=>(cat_tame F hT).pos_le (l:=l) (s:=s'.adv) I.bad hlt h
    have hopn:(catP F A l s'.adv).2.opn=o:=(cat_still F hSt l s'.adv).trans I.opn;have hc2:=fun W h=>hI s'.adv W I.bad hlt I.opn h
    obtain ⟨⟨t,s2⟩,hR⟩:∃ R,catP F A l s'.adv=R:=⟨_,rfl⟩;rw [hR] at hE0 hmv hin hopn hc2
    dsimp only at hE0 hmv hin hopn
    have hbd:∀ x,s2.bad=some x→RS.bad=some x:=fun x h=>by
     have h1:=(altL_tame F hT f (acc++[t])).bad l s2 x h;rw [hE0] at h1;exact h1
    have HItem:=hid (And.intro ht hc2);have HE:=hid (And.intro hE0 (And.intro hmv (And.intro hin (And.intro hopn hbd))));clear hlt ht hE0 hmv hin hopn hc2 hR hbd I h124;go_wp2_with fail;refine HItem.out.1.mono ?_;rintro e w3 ⟨rfl,h3,q3⟩;have I3:=hid (I0.out.step h3 q3);clear h3 q3;go_wp2_with fail;refine (HItem.out.2 w3 I3.out.rs.rd).mono ?_;intro e w4 hO
    rcases hO.split with ⟨hb4,v,rfl,⟨a',c',hv,hle,hLie⟩,h4,q4⟩ | ⟨x,hb4,rfl,q4⟩
    ·dsimp only at hv hb4 hle hLie
     subst hv;obtain ⟨v',w9,hrun,I9⟩:=I3.out.push h4 q4 hle hLie (by have:=II.out.len;have:=II.out.pos;omega)
     have H9:=hid (And.intro I9 hb4);clear hLie h4 q4 hle I9 hb4 hO;go_wp2_with (at_builtin;refine Lib.wpList_append_run _ rfl _ _ _ _ rfl _ _ rfl rfl _ _ hrun ?_);clear hrun;go_wp2_with fail
     go_roundg f
     case measure=>omega
     case rel =>
      have h1:=HE.out.2.1 H9.out.2;have h2:=II.out.len;have h3:=II.out.fuel;exact ⟨acc++[t],s2,⟨H9.out.1,HE.out.1,H9.out.2,HE.out.2.2.1 H9.out.2,HE.out.2.2.2.1,by rw [List.length_append,List.length_singleton];omega,by omega,by simp⟩⟩
    ·have HP:=hid (And.intro hb4 (I3.out.rs.keep.trans q4))
     clear hb4 q4 hO;go_wp2_with fail;exact ⟨rfl,Outs.gave (x:=x) (HE.out.2.2.2.2 _ HP.out.1) HP.out.2⟩
   ·have hstop:RA=acc∧RS=s':=by
     have e:=I.eq
     cases gk with
     | zero =>
      rw [altL] at e;injection e with e1 e2;exact ⟨e1.symm,e2.symm⟩
     | succ f =>
      rw [altL,if_neg h124] at e;injection e with e1 e2;exact ⟨e1.symm,e2.symm⟩
    obtain ⟨rfl,rfl⟩:=hstop;have ht:=take_no b 124 l RS I.bad h124 wr I.rt.rs.rd;have HT:=hid ht;clear ht h124 I;go_wp2_with fail;refine HT.out.mono ?_;rintro e w3 ⟨rfl,h3,q3⟩;have I3:=hid (I0.out.step h3 q3);clear h3 q3;obtain ⟨a1,cap,hu,hcap,hLie⟩:=I3.out.ot.form;have hlen:RA.length≤100000001:=by have:=II.out.len;have:=II.out.pos;omega
    have hbad:=II.out.bad;have hsome:=II.out.some;have HU:=hid (And.intro hcap hLie);have HBAD:=hid hbad;have htR:=HR.out.2.2.2.2.2;clear hcap hLie II hbad;subst hu
    rcases RA with _ | ⟨t,_ | ⟨t2,r⟩⟩
    ·exact absurd rfl hsome
    ·have htR':t=tR:=htR
     subst htR';clear htR hsome;obtain ⟨bl,off,a',c',e1,hok,hbl,hle,hL2,hcells⟩:=HU.out.2.get (i:=0) (t:=t) rfl;subst e1;have y0:w3.cell? ⟨bl,off,none⟩=some (.int .i64 t.kind):=by have:=hcells 0 (.int .i64 t.kind) rfl;simpa using this
     have y1:w3.cell? ⟨bl,off+1,none⟩=some (.int .u64 t.set.x0):=by have:=hcells 1 (.int .u64 t.set.x0) rfl;simpa using this
     have y2:w3.cell? ⟨bl,off+2,none⟩=some (.int .u64 t.set.x1):=by have:=hcells 2 (.int .u64 t.set.x1) rfl;simpa using this
     have y3:w3.cell? ⟨bl,off+3,none⟩=some (.int .u64 t.set.x2):=by have:=hcells 3 (.int .u64 t.set.x2) rfl;simpa using this
     have y4:w3.cell? ⟨bl,off+4,none⟩=some (.int .u64 t.set.x3):=by have:=hcells 4 (.int .u64 t.set.x3) rfl;simpa using this
     have y5:w3.cell? ⟨bl,off+5,none⟩=some (.int .i64 t.mn):=by have:=hcells 5 (.int .i64 t.mn) rfl;simpa using this
     have y6:w3.cell? ⟨bl,off+6,none⟩=some (.int .i64 t.mx):=by have:=hcells 6 (.int .i64 t.mx) rfl;simpa using this
     have y7:w3.cell? ⟨bl,off+7,none⟩=some (.slice a' t.subs.length c'):=by have:=hcells 7 (.slice a' t.subs.length c') rfl;simpa using this
     have HL2:=hid (And.intro hL2 hle);clear hcells hL2 hle;obtain ⟨⟨k0,k1,k2,k3,k4,k5,k6,k7⟩,f0,f1,f2,f3,f4,f5,f6,f7⟩:=cells8 I3.out.rs.out;have hlt0:=I3.out.rs.out.lt;go_wp2_with fail
     change bodyPost _ _ _ _ _ (put8 w3 w.heap.size (.int .i64 t.kind) (.int .u64 t.set.x0) (.int .u64 t.set.x1) (.int .u64 t.set.x2) (.int .u64 t.set.x3) (.int .i64 t.mn) (.int .i64 t.mx) (.slice a' t.subs.length c'))
     obtain ⟨a,p,q,n⟩:=I3.out.rs.put_of (.int .i64 t.kind) (.int .u64 t.set.x0) (.int .u64 t.set.x1) (.int .u64 t.set.x2) (.int .u64 t.set.x3) (.int .i64 t.mn) (.int .i64 t.mx) (.slice a' t.subs.length c') t a' c' rfl HL2.out.2 HL2.out.1;generalize (put8 w3 w.heap.size (.int .i64 t.kind) (.int .u64 t.set.x0) (.int .u64 t.set.x1) (.int .u64 t.set.x2) (.int .u64 t.set.x3) (.int .i64 t.mn) (.int .i64 t.mx) (.slice a' t.subs.length c'))=W9 at a p q n ⊢;obtain ⟨⟨e0,e1,e2,e3,e4,e5,e6,e7⟩,-⟩:=cells8 a;refine bodyPost_ret (v:=.agg #[(.int .i64 t.kind),(.int .u64 t.set.x0),(.int .u64 t.set.x1),(.int .u64 t.set.x2),(.int .u64 t.set.x3),(.int .i64 t.mn),(.int .i64 t.mx),(.slice a' t.subs.length c')]) (by simp [results,Tryz.results74,go_sem,e0,e1,e2,e3,e4,e5,e6,e7]) rfl ?_
     exact Outs.ok HBAD.out n p q
    ·have HT:=hid (show tR=.nd 4 zS 0 0 (t::t2::r) from htR.symm)
     have hl1:((t::t2::r).length == 1)=false:=by simp
     have hl3:¬ (t::t2::r).length=1:=by simp
     obtain ⟨n,hn⟩:∃ n,(t::t2::r).length=n:=⟨_,rfl⟩;rw [hn] at hl1 hl3 hlen ⊢;have HNN:=hid hn;have hi1:((n:Int) == 1)=false:=by simp;omega
     clear hn htR hsome;obtain ⟨⟨k0,k1,k2,k3,k4,k5,k6,k7⟩,f0,f1,f2,f3,f4,f5,f6,f7⟩:=cells8 I3.out.rs.out;have hlt0:=I3.out.rs.out.lt;go_wp2_with fail
     change bodyPost _ _ _ _ _ (put8 w3 w.heap.size (.int .i64 4) (.int .u64 0) (.int .u64 0) (.int .u64 0) (.int .u64 0) (.int .i64 0) (.int .i64 0) (.slice a1 n cap))
     obtain ⟨a,p,q,n_⟩:=I3.out.rs.put_of (.int .i64 4) (.int .u64 0) (.int .u64 0) (.int .u64 0) (.int .u64 0) (.int .i64 0) (.int .i64 0) (.slice a1 n cap) (.nd 4 zS 0 0 (t::t2::r)) a1 cap (by rw [← HNN.out];unfold ncells T.kind T.set T.mn T.mx T.subs;simp only [zs_zero];rfl) HU.out.1 HU.out.2
     generalize (put8 w3 w.heap.size (.int .i64 4) (.int .u64 0) (.int .u64 0) (.int .u64 0) (.int .u64 0) (.int .i64 0) (.int .i64 0) (.slice a1 n cap))=W9 at a p q n_ ⊢;obtain ⟨⟨e0,e1,e2,e3,e4,e5,e6,e7⟩,-⟩:=cells8 a;refine bodyPost_ret (v:=.agg #[(.int .i64 4),(.int .u64 0),(.int .u64 0),(.int .u64 0),(.int .u64 0),(.int .i64 0),(.int .i64 0),(.slice a1 n cap)]) (by simp [results,Tryz.results74,go_sem,e0,e1,e2,e3,e4,e5,e6,e7]) rfl ?_
     exact Outs.ok HBAD.out (by show NodeV _ _ _ tR;rw [HT.out];exact n_) p q
 ·have HP:=hid (And.intro hb1 (W0.out.keep.trans q1))
  clear hb1 q1 hO;go_wp2_with fail;exact ⟨rfl,Outs.gave (x:=x) (HR.out.2.2.2.2.1 _ HP.out.1) HP.out.2⟩
theorem raltD_any (F b:Nat) (l:List UInt8) (hF:l.length+2≤F) (hl:l.length≤100000000):∀ d o,1≤d→d+o=13→NodeR 74 b l o (altD F d)
 | 0,o,h,_=>absurd h (by omega)
 | d+1,o,_,hd =>
  ralt_any F b o l (altD F d) hF hl (altD_tame F d) (altD_still F d) (rcat_any F b o l (altD F d) hF hl (altD_tame F d) (altD_still F d) (ritem_any F b o l (altD F d) hl (altD_tame F d) (ratom_any F b o l (altD F d) hF hl (by omega) (fun ho=>raltD_any F b l hF hl d (o+1) (by omega) (by omega)) (altD_still F d))))
end P07
namespace P12
open P07 P08 P09 P10
open Sets (ST)
theorem mcat_e:∀ L:List T,MCat L []↔∀ u ∈ L,Mat u []
 | []=>by rw [mcat_nil];simp
 | t::L=>by
  rw [mcat_cons]
  constructor
  ·rintro ⟨u,v,e,h1,h2⟩
   obtain ⟨rfl,rfl⟩:=List.append_eq_nil_iff.1 e.symm;intro x hx
   rcases List.mem_cons.1 hx with rfl | hx
   ·exact h1
   ·exact (mcat_e L).1 h2 x hx
  ·exact fun h=>⟨[],[],rfl,h t (List.mem_cons_self ..),(mcat_e L).2 fun u hu=>h u (List.mem_cons_of_mem _ hu)⟩
theorem null_1 {d:Nat} {t:T} (h:RT d t) (hk:t.kind=1):nullB t=true:=(null_mat h).2 ((mat_kind1 hk []).2 rfl)
theorem null_2 {d:Nat} {t:T} (h:RT d t) (hk:t.kind=2):nullB t=false:=by
 cases e:nullB t with
 | false=>rfl
 | true =>
  obtain ⟨b,hb,-⟩:=(mat_kind2 hk []).1 ((null_mat h).1 e)
  cases hb
theorem null_3 {d:Nat} {t:T} (h:RT d t) (hk:t.kind=3):nullB t=t.subs.all nullB:=by
 rw [Bool.eq_iff_iff,null_mat h,mat_kind3 hk,mcat_e,List.all_eq_true]
 constructor
 ·exact fun hh u hu=>(null_mat (sub_right h.subs u hu)).2 (hh u hu)
 ·exact fun hh u hu=>(null_mat (sub_right h.subs u hu)).1 (hh u hu)
theorem null_4 {d:Nat} {t:T} (h:RT d t) (hk:t.kind=4):nullB t=t.subs.any nullB:=by
 rw [Bool.eq_iff_iff,null_mat h,mat_kind4 hk,malt_iff,List.any_eq_true]
 constructor
 ·rintro ⟨u,hu,hm⟩
  exact ⟨u,hu,(null_mat (sub_right h.subs u hu)).2 hm⟩
 ·rintro ⟨u,hu,hm⟩
  exact ⟨u,hu,(null_mat (sub_right h.subs u hu)).1 hm⟩
theorem null_5 {d:Nat} {t:T} (h:RT d t) (hk:t.kind=5):∃ u,t.subs=[u]∧0≤t.mn∧nullB t=(decide (t.mn=0) || nullB u):=by
 obtain ⟨a,mn,mx,e,b0,b1,bx,hI⟩:=rep_is h hk;subst e;refine ⟨a,rfl,b0,?_⟩;have ha:RT d a:=sub_right h.subs a (by simp [T.subs])
 show nullB (.nd 5 ST.none mn mx [a])=(decide (mn=0) || nullB a)
 rw [Bool.eq_iff_iff,null_mat h,mat_rep,Bool.or_eq_true,decide_eq_true_eq,null_mat ha]
 constructor
 ·rintro ⟨n,h1,-,h3⟩
  by_cases hm:mn=0
  ·exact .inl hm
  ·right
   cases n with
   | zero=>exact absurd h1 (by omega)
   | succ n =>
    rw [P10.Pow] at h3;obtain ⟨u,v,e,h4,-⟩:=h3;obtain ⟨rfl,rfl⟩:=List.append_eq_nil_iff.1 e.symm;exact h4
 ·rintro (hm | hm)
  ·exact ⟨0,by omega,by omega,by rw [P10.Pow]⟩
  ·have h0:Pow (Mat a) 0 []:=by rw [P10.Pow]
   exact ⟨mn.toNat,by omega,by omega,Pow.more hm (Nat.zero_le _) h0⟩
end P12
namespace P12
open P07 P08 P09 P10 Bytes
open Sets (ST)
def aS (L:List T):List T × Option Nat:=P10.altF (unf 4 L)
theorem altT_aS (L:List T):altT L=joinT 4 (aS L).1 noT:=rfl
theorem unf_append (k:Int) (L M:List T):unf k (L++M)=unf k L++unf k M:=by
 unfold unf;rw [List.flatMap_append]
theorem aS_append (L M:List T):aS (L++M)=(unf 4 M).foldl altS (aS L):=by
 unfold aS P10.altF;rw [unf_append,List.foldl_append]
theorem aS_more {L P:List T} (h:aS L=aS P) (M:List T):aS (L++M)=aS (P++M):=by rw [aS_append,aS_append,h]
theorem aS_alt {L P:List T} (h:aS L=aS P):altT L=altT P:=by rw [altT_aS,altT_aS,h]
theorem unf_rs {L:List T} (h:∀ t ∈ L,Rs t):∃ d,∀ t ∈ unf 4 L,RT d t∧t.kind≠4∧Smp t:=by
 obtain ⟨d,hd⟩:=rs_all L h;refine ⟨d,fun t ht=>?_⟩
 rcases mem_unf ht with ⟨hm,hk⟩ | ⟨u,hu,hk,hm⟩
 ·exact ⟨(hd t hm).1,hk,(hd t hm).2⟩
 ·have:=hd u hu
  obtain ⟨c,hA⟩:=smp_4 this.2 hk;have h2:=this.1.subs;rw [hk] at h2;exact ⟨IS.rt (rl_iff.1 h2 t hm),hA.four t hm,smp_subs this.2 t hm⟩
theorem aS_alo {L:List T} (h:∀ t ∈ L,Rs t):Alo (aS L).1 (aS L).2∧∃ d,∀ t ∈ (aS L).1,RT d t∧Smp t:=by
 obtain ⟨d,hd⟩:=unf_rs h;refine ⟨alo_fold (unf 4 L) ([],none) alo_start fun t ht=>⟨(hd t ht).1,(hd t ht).2.1⟩,d,?_⟩
 exact alt_all (P:=fun t=>RT d t∧Smp t) (fun s hs=>⟨class_RT hs d,clsT_smp s⟩) (unf 4 L) ([],none) alo_start (by simp) fun t ht=>⟨(hd t ht).1,(hd t ht).2.1,(hd t ht).1,(hd t ht).2.2⟩
theorem unf_one (k:Int) (t:T):unf k [t]=if t.kind=k then t.subs else [t]:=by
 rw [unf_cons]
 show _++[]=_
 rw [List.append_nil]
theorem aS_again {L:List T} (h:∀ t ∈ L,Rs t):aS [altT L]=aS L:=by
 obtain ⟨hA,d,hd⟩:=aS_alo h;have hR:∀ t ∈ (aS L).1,RT d t:=fun t ht=>(hd t ht).1
 have hf:=altF_fix hA hR
 show P10.altF (unf 4 [altT L])=_
 rw [altT_aS]
 rcases join_cases 4 (aS L).1 noT with ⟨e,ej⟩ | ⟨t,e,ej⟩ | ⟨h2,ej⟩
 ·rw [ej]
  rw [e] at hf;have:(aS L).2=none:=by
   cases hc:(aS L).2 with
   | none=>rfl
   | some i =>
    obtain ⟨s,-,hs⟩:=hA.at_ i hc;rw [e] at hs
    cases hs
  have e2:aS L=([],none):=Prod.ext e this;rw [e2]
  show P10.altF [noT]=_
  unfold P10.altF;rw [List.foldl_cons,List.foldl_nil];unfold altS;rw [if_pos isNo_noT]
 ·rw [ej,unf_one,if_neg (hA.four t (by rw [e];simp)),← e]
  exact hf
 ·rw [ej,unf_one,if_pos (show (T.nd 4 ST.none 0 0 (aS L).1).kind=4 from rfl)]
  exact hf
theorem rs_one {x:T} (h:Rs x):altT [x]=x:=by
 obtain ⟨d,h1,h2⟩:=h;exact (alt_one h1 h2).2.1
theorem join_mono {k:Int} {e:T} (he:cnt e=1) {M N:List T} (h1:M.length≤N.length) (h2:cntL M≤cntL N):cnt (joinT k M e)≤cnt (joinT k N e):=by
 rcases join_cases k M e with ⟨rfl,ej⟩ | ⟨t,rfl,ej⟩ | ⟨h3,ej⟩
 ·rw [ej,he]
  exact cnt_pos _
 ·rw [ej]
  rw [cntL,cntL] at h2
  rcases join_cases k N e with ⟨rfl,en⟩ | ⟨u,rfl,en⟩ | ⟨h4,en⟩
  ·simp at h1
  ·rw [en]
   rw [cntL,cntL] at h2;omega
  ·rw [en,cnt]
   omega
 ·rw [ej,joinT_ge (Nat.le_trans h3 h1),cnt,cnt]
  omega
theorem cntL_set_ge:∀ (L:List T) (i:Nat) (a b:T),L[i]?=some a→cnt a≤cnt b→cntL L≤cntL (L.set i b)
 | [],i,a,b,h,_=>by simp at h
 | t::L,0,a,b,h,hb=>by
  simp at h
  subst h;rw [List.set_cons_zero,cntL,cntL];omega
 | t::L,i+1,a,b,h,hb=>by
  have:=cntL_set_ge L i a b (by simpa using h) hb
  rw [List.set_cons_succ,cntL,cntL];omega
theorem altS_grow {A:List T × Option Nat} (h:AtOk A) (t:T):A.1.length≤(altS A t).1.length∧cntL A.1≤cntL (altS A t).1:=by
 obtain ⟨L,c⟩:=A;unfold altS
 dsimp only
 split
 ·exact ⟨Nat.le_refl _,Nat.le_refl _⟩
 ·split
  ·cases c with
   | none =>
    show L.length≤(L++[clsT t.set]).length∧cntL L≤cntL (L++[clsT t.set])
    rw [List.length_append,cntL_append];exact ⟨Nat.le_add_right _ _,Nat.le_add_right _ _⟩
   | some i =>
    obtain ⟨s,hs⟩:=h i rfl
    show L.length≤(L.set i _).length∧cntL L≤cntL (L.set i _)
    exact ⟨by rw [List.length_set];exact Nat.le_refl _,cntL_set_ge L i _ _ hs (by rw [cnt_clsT,cnt_clsT];omega)⟩
  ·split
   ·exact ⟨Nat.le_refl _,Nat.le_refl _⟩
   ·show L.length≤(L++[t]).length∧cntL L≤cntL (L++[t])
    rw [List.length_append,cntL_append];exact ⟨Nat.le_add_right _ _,Nat.le_add_right _ _⟩
theorem at_fold:∀ (M:List T) (A:List T × Option Nat),AtOk A→AtOk (M.foldl altS A)
 | [],_,h=>h
 | t::M,A,h=>by
  rw [List.foldl_cons];exact at_fold M _ (altS_at h t)
theorem fold_grow:∀ (M:List T) (A:List T × Option Nat),AtOk A→A.1.length≤(M.foldl altS A).1.length∧cntL A.1≤cntL (M.foldl altS A).1
 | [],_,_=>⟨Nat.le_refl _,Nat.le_refl _⟩
 | t::M,A,h=>by
  rw [List.foldl_cons];have h1:=altS_grow h t;have h2:=fold_grow M _ (altS_at h t);exact ⟨Nat.le_trans h1.1 h2.1,Nat.le_trans h1.2 h2.2⟩
theorem aS_at (L:List T):AtOk (aS L):=at_fold _ _ at_start
theorem alt_mono (P M:List T):cnt (altT P)≤cnt (altT (P++M)):=by
 rw [altT_aS,altT_aS,aS_append];have h:=fold_grow (unf 4 M) (aS P) (aS_at P);exact join_mono (cnt_clsT _) h.1 h.2
def unC (t:T):T:=if t.kind=2 then noT else t
theorem unC_cls (s:ST):unC (clsT s)=noT:=by
 unfold unC;exact if_pos rfl
theorem altS_mem {A:List T × Option Nat} (h:AtOk A) (t:T):(∀ x ∈ A.1.map unC,x ∈ (altS A t).1.map unC)∧(isNo t=false→unC t ∈ (altS A t).1.map unC):=by
 obtain ⟨L,c⟩:=A;unfold altS
 dsimp only
 by_cases hn:isNo t=true
 ·rw [if_pos hn]
  exact ⟨fun x hx=>hx,fun e=>by rw [hn] at e;cases e⟩
 rw [if_neg hn]
 by_cases hk:t.kind=2
 ·rw [if_pos hk]
  have hu:unC t=noT:=by unfold unC;rw [if_pos hk]
  cases c with
  | none =>
   show (∀ x ∈ L.map unC,x ∈ (L++[clsT t.set]).map unC)∧(_→unC t ∈ (L++[clsT t.set]).map unC)
   rw [List.map_append];exact ⟨fun x hx=>List.mem_append_left _ hx,fun _=>List.mem_append_right _ (by rw [hu,List.map_cons,unC_cls];simp)⟩
  | some i =>
   obtain ⟨s,hs⟩:=h i rfl;have hi:=(List.getElem?_eq_some_iff.1 hs).1
   show (∀ x ∈ L.map unC,x ∈ (L.set i (clsT _)).map unC)∧(_→unC t ∈ (L.set i (clsT _)).map unC)
   have e:(L.set i (clsT ((L.getD i noT).set.or t.set))).map unC=L.map unC:=by
    rw [List.map_set,unC_cls]
    apply List.ext_getElem?
    intro j
    by_cases hj:j=i
    ·subst hj
     rw [List.getElem?_set_self (by rw [List.length_map];exact hi),List.getElem?_map,hs,Option.map_some,unC_cls]
    ·rw [List.getElem?_set_ne (fun e=>hj e.symm)]
   rw [e];refine ⟨fun x hx=>hx,fun _=>?_⟩
   rw [hu,← unC_cls s];exact List.mem_map.2 ⟨_,List.mem_of_getElem? hs,rfl⟩
 ·rw [if_neg hk]
  split
  ·rename_i hm
   exact ⟨fun x hx=>hx,fun _=>List.mem_map.2 ⟨t,any_same.1 hm,rfl⟩⟩
  ·show (∀ x ∈ L.map unC,x ∈ (L++[t]).map unC)∧(_→unC t ∈ (L++[t]).map unC)
   rw [List.map_append];exact ⟨fun x hx=>List.mem_append_left _ hx,fun _=>List.mem_append_right _ (by simp)⟩
theorem fold_mem:∀ (M:List T) (A:List T × Option Nat),AtOk A→(∀ x ∈ A.1.map unC,x ∈ (M.foldl altS A).1.map unC)∧∀ t ∈ M,isNo t=false→unC t ∈ (M.foldl altS A).1.map unC
 | [],A,_=>⟨fun x hx=>hx,fun t ht=>by cases ht⟩
 | u::M,A,h=>by
  rw [List.foldl_cons];obtain ⟨h1,h2⟩:=altS_mem h u;obtain ⟨h3,h4⟩:=fold_mem M _ (altS_at h u);refine ⟨fun x hx=>h3 x (h1 x hx),fun t ht hn=>?_⟩
  rcases List.mem_cons.1 ht with rfl | ht
  ·exact h3 _ (h2 hn)
  ·exact h4 t ht hn
theorem sub_cnt:∀ (X M:List T),X.Nodup→(∀ x ∈ X,x ∈ M)→X.length≤M.length∧cntL X≤cntL M
 | [],M,_,_=>⟨Nat.zero_le _,by rw [cntL];exact Nat.zero_le _⟩
 | x::X,M,hn,hs=>by
  obtain ⟨M1,M2,rfl⟩:=List.append_of_mem (hs x (by simp))
  rw [List.nodup_cons] at hn;obtain ⟨h1,h2⟩:=sub_cnt X (M1++M2) hn.2 fun y hy=>by
   have:=hs y (List.mem_cons_of_mem _ hy)
   rcases List.mem_append.1 this with h | h
   ·exact List.mem_append_left _ h
   ·rcases List.mem_cons.1 h with rfl | h
    ·exact absurd hy hn.1
    ·exact List.mem_append_right _ h
  rw [List.length_append] at h1;rw [cntL_append] at h2;rw [List.length_cons,List.length_append,List.length_cons,cntL,cntL_append,cntL];omega
theorem unC_nodup {X:List T} {c:Option Nat} (h:Alo X c):(X.map unC).Nodup:=by
 unfold List.Nodup;rw [List.pairwise_iff_getElem];intro i j hi hj hij e;rw [List.length_map] at hi hj;rw [List.getElem_map,List.getElem_map] at e;have gi:X[i]?=some X[i]:=List.getElem?_eq_getElem hi;have gj:X[j]?=some X[j]:=List.getElem?_eq_getElem hj;unfold unC at e
 by_cases h1:X[i].kind=2
 ·by_cases h2:X[j].kind=2
  ·have e1:=h.cl i _ gi h1
   rw [h.cl j _ gj h2] at e1;injection e1 with e1;omega
  ·rw [if_pos h1,if_neg h2] at e
   rw [← e] at h2;exact h2 rfl
 ·by_cases h2:X[j].kind=2
  ·rw [if_neg h1,if_pos h2] at e
   rw [e] at h1;exact h1 rfl
  ·rw [if_neg h1,if_neg h2] at e
   rw [e] at gi;have:=h.dup i j _ gi gj;omega
theorem unC_cnt {d:Nat}:∀ (X:List T),(∀ t ∈ X,RT d t)→cntL (X.map unC)=cntL X
 | [],_=>rfl
 | t::X,h=>by
  rw [List.map_cons,cntL,cntL,unC_cnt X fun u hu=>h u (List.mem_cons_of_mem _ hu)]
  unfold unC
  split
  ·rename_i hk
   rw [(cls_is (h t (by simp)) hk).1,cnt_clsT]
   show cnt (clsT ST.none)+_=_
   rw [cnt_clsT]
  ·rfl
theorem alt_ge {L:List T} (h:∀ t ∈ L,Rs t) {x:T} (hx:x ∈ L):cnt x≤cnt (altT L):=by
 obtain ⟨d0,h1,h2⟩:=h x hx
 by_cases hn:isNo x=true
 ·rw [no_is h1 hn,show cnt noT=1 from cnt_clsT _]
  exact cnt_pos _
 have hn:isNo x=false:=by cases e:isNo x with | false=>rfl | true=>exact absurd e hn
 obtain ⟨a1,a2,a3⟩:=alt_one h1 h2;obtain ⟨c,a4,a5⟩:=a3 hn;rw [a4] at a2;obtain ⟨hA,d,hd⟩:=aS_alo h;obtain ⟨X,hX⟩:∃ X,(if x.kind=4 then x.subs else [x])=X:=⟨_,rfl⟩
 rw [hX] at a2 a5;have hXR:∀ t ∈ X,RT d0 t:=fun t ht=>by
  rw [← hX] at ht
  split at ht
  ·exact sub_right h1.subs t ht
  ·rw [List.mem_singleton.1 ht]
   exact h1
 have hsub:∀ t ∈ X,t ∈ unf 4 L:=fun t ht=>by
  unfold unf;refine List.mem_flatMap.2 ⟨x,hx,?_⟩;rw [hX];exact ht
 have hm:=(fold_mem (unf 4 L) ([],none) at_start).2;obtain ⟨s1,s2⟩:=sub_cnt (X.map unC) ((aS L).1.map unC) (unC_nodup a5) fun y hy=>by
  obtain ⟨t,ht,rfl⟩:=List.mem_map.1 hy;exact hm t (hsub t ht) (a5.no t ht)
 rw [List.length_map,List.length_map] at s1;rw [unC_cnt X hXR,unC_cnt (aS L).1 fun t ht=>(hd t ht).1] at s2
 have:=join_mono (k:=4) (e:=noT) (cnt_clsT _) s1 s2;rw [altT_aS];rw [a2] at this;exact this
theorem rs_nil3 {l:List T} (h:∀ u ∈ l,Rs u∧isNo u=false):(unf 3 l).any isNo=false:=by
 cases e:(unf 3 l).any isNo with
 | false=>rfl
 | true =>
  obtain ⟨t,ht,hn⟩:=List.any_eq_true.1 e
  rcases mem_unf ht with ⟨hm,-⟩ | ⟨u,hu,hk,hm⟩
  ·rw [(h t hm).2] at hn
   cases hn
  ·obtain ⟨⟨d,h1,h2⟩,-⟩:=h u hu
   rw [(smp_3 h2 hk t hm).2.2] at hn
   cases hn
theorem cat_one {y:T} (h:Rs y):catT [y]=y:=by
 obtain ⟨d,h1,h2⟩:=h;exact cat_only h1 h2 [] [] (by simp) (by simp)
theorem cat_ge {y:T} {l:List T} (h:Rs y) (hn:isNo y=false) (hl:∀ u ∈ l,Rs u∧isNo u=false):cnt y≤cnt (catT (y::l)):=by
 have e1:=cat_one h;have n1:(unf 3 [y]).any isNo=false:=rs_nil3 fun u hu=>by rw [List.mem_singleton.1 hu];exact ⟨h,hn⟩
 have n2:=rs_nil3 hl;have hu:unf 3 (y::l)=unf 3 [y]++unf 3 l:=unf_append 3 [y] l;unfold catT at e1 ⊢;rw [n1,if_neg (by decide)] at e1
 rw [hu,List.any_append,n1,n2,Bool.or_false,if_neg (by decide),List.filter_append]
 have:=join_mono (k:=3) (e:=epsT) (M:=(unf 3 [y]).filter fun t=>decide (t.kind≠1)) (N:=(unf 3 [y]).filter (fun t=>decide (t.kind≠1))++(unf 3 l).filter fun t=>decide (t.kind≠1)) (by unfold epsT;rw [cnt,cntL]) (by rw [List.length_append];omega) (by rw [cntL_append];omega)
 rw [e1] at this;exact this
theorem altS_comm {B:List T × Option Nat} (h:AtOk B) {j:Nat} (hj:B.2=some j) {u:T} (hu:u.kind≠2) (s:ST):altS (altS B u) (clsT s)=altS (altS B (clsT s)) u:=by
 obtain ⟨L,c⟩:=B;have hj:c=some j:=hj;subst hj;obtain ⟨s0,hs0⟩:=h j rfl;have hjl:=(List.getElem?_eq_some_iff.1 hs0).1
 by_cases hn:isNo (clsT s)=true
 ·have e:∀ A,altS A (clsT s)=A:=fun A=>by unfold altS;rw [if_pos hn]
  rw [e,e]
 have hun:¬ isNo u=true:=fun hh=>hu (is_no hh)
 have hc:∀ (M:List T),altS (M,some j) (clsT s)=(M.set j (clsT ((M.getD j noT).set.or s)),some j):=fun M=>by
  unfold altS;rw [if_neg hn,if_pos (show (clsT s).kind=2 from rfl)]
  rfl
 have hau:∀ (M:List T),altS (M,some j) u=if M.any (sameB u)=true then (M,some j) else (M++[u],some j):=fun M=>by
  unfold altS;rw [if_neg hun,if_neg hu]
 have hany:∀ x:T,x.kind=2→((L.set j x).any (sameB u)=true↔L.any (sameB u)=true):=fun x hx=>by
  rw [any_same,any_same]
  constructor
  ·intro hm
   rcases List.mem_or_eq_of_mem_set hm with hm | hm
   ·exact hm
   ·rw [hm] at hu
    exact absurd hx hu
  ·intro hm
   obtain ⟨q,hq⟩:=List.mem_iff_getElem?.1 hm;have hne:q≠j:=fun e=>by
    rw [e,hs0] at hq;injection hq with hq;rw [← hq] at hu;exact hu rfl
   exact List.mem_iff_getElem?.2 ⟨q,by rw [List.getElem?_set_ne (fun e=>hne e.symm)];exact hq⟩
 have hg:(L.getD j noT).set=s0:=getD_cls hs0;rw [hc L,hau,hau]
 by_cases hm:L.any (sameB u)=true
 ·rw [if_pos hm,if_pos ((hany _ rfl).2 hm),hc]
 ·rw [if_neg hm,if_neg (fun hh=>hm ((hany _ rfl).1 hh)),hc]
  have hg2:((L++[u]).getD j noT).set=s0:=by
   rw [List.getD_eq_getElem?_getD,List.getElem?_append_left hjl,hs0]
   rfl
  rw [hg,hg2,List.set_append_left _ _ hjl]
theorem fold_comm:∀ (M:List T) (B:List T × Option Nat),AtOk B→(∃ j,B.2=some j)→(∀ u ∈ M,u.kind≠2)→∀ s:ST,altS (M.foldl altS B) (clsT s)=M.foldl altS (altS B (clsT s))
 | [],_,_,_,_,_=>rfl
 | u::M,B,h,⟨j,hj⟩,hM,s=>by
  have h2:(altS B u).2=some j:=by
   unfold altS
   split
   ·exact hj
   ·split
    ·rename_i hk
     exact absurd hk (hM u (by simp))
    ·split <;> exact hj
  rw [List.foldl_cons,List.foldl_cons,fold_comm M _ (altS_at h u) ⟨j,h2⟩ (fun x hx=>hM x (List.mem_cons_of_mem _ hx)) s,altS_comm h hj (hM u (by simp)) s]
theorem or_or {a b c:ST} (ha:a.Ok) (hb:b.Ok) (hc:c.Ok):(a.or b).or c=a.or (b.or c):=by
 refine ST.ext (ST.or_ok (ST.or_ok ha hb) hc) (ST.or_ok ha (ST.or_ok hb hc)) fun x hx=>?_
 rw [ST.has_or _ _ _ hx,ST.has_or _ _ _ hx,ST.has_or _ _ _ hx,ST.has_or _ _ _ hx,Bool.or_assoc]
theorem getD_set {M:List T} {i:Nat} {t:T} (hi:i<M.length):(M.set i t).getD i noT=t:=by
 rw [List.getD_eq_getElem?_getD,List.getElem?_set_self hi]
 rfl
theorem altS_two {B:List T × Option Nat} (h:AtOk B) (hB:∀ t ∈ B.1,t.set.Ok) {s t:ST} (hs:s.Ok) (ht:t.Ok) (hsn:isNo (clsT s)=false) (htn:isNo (clsT t)=false):altS B (clsT (s.or t))=altS (altS B (clsT s)) (clsT t)∧∃ j,(altS B (clsT s)).2=some j:=by
 obtain ⟨L,c⟩:=B;have hne:s≠ST.none:=fun e=>by
  rw [e] at hsn;rw [isNo_cls,eqB_refl] at hsn
  cases hsn
 have hor:isNo (clsT (s.or t))=false:=by
  cases e:isNo (clsT (s.or t)) with
  | false=>rfl
  | true =>
   rw [isNo_cls,eqB_iff] at e;exact absurd e (or_some hs hne)
 have hone:∀ (x:ST) (M:List T) (c:Option Nat),isNo (clsT x)=false→altS (M,c) (clsT x)=(match c with | none=>(M++[clsT x],some M.length) | some i=>(M.set i (clsT ((M.getD i noT).set.or x)),some i)):=fun x M c hx=>by
  unfold altS;rw [if_neg (by rw [hx];decide),if_pos (show (clsT x).kind=2 from rfl)]
  rfl
 cases c with
 | none =>
  rw [hone _ _ _ hor,hone _ _ _ hsn]
  dsimp only
  rw [hone _ _ _ htn]
  dsimp only
  refine ⟨?_,_,rfl⟩;have e1:(L++[clsT s]).getD L.length noT=clsT s:=by
   rw [List.getD_eq_getElem?_getD,List.getElem?_append_right (Nat.le_refl _),Nat.sub_self]
   rfl
  rw [e1,List.set_append_right _ _ (Nat.le_refl _),Nat.sub_self]
  rfl
 | some i =>
  obtain ⟨s0,hs0⟩:=h i rfl;have hil:=(List.getElem?_eq_some_iff.1 hs0).1;have hs0k:s0.Ok:=hB _ (List.mem_of_getElem? hs0);rw [hone _ _ _ hor,hone _ _ _ hsn]
  dsimp only
  rw [hone _ _ _ htn]
  dsimp only
  refine ⟨?_,_,rfl⟩;rw [getD_set hil,List.set_set,getD_cls hs0]
  show _=(L.set i (clsT ((s0.or s).or t)),some i)
  rw [or_or hs0k hs ht]
theorem altS_ok {A:List T × Option Nat} (h:∀ t ∈ A.1,t.set.Ok) {t:T} (ht:t.set.Ok):∀ u ∈ (altS A t).1,u.set.Ok:=by
 obtain ⟨L,c⟩:=A;unfold altS
 dsimp only
 split
 ·exact h
 ·split
  ·cases c with
   | none =>
    intro u hu
    rcases List.mem_append.1 hu with hu | hu
    ·exact h u hu
    ·rw [List.mem_singleton.1 hu]
     exact ht
   | some i =>
    intro u hu
    rcases List.mem_or_eq_of_mem_set hu with hu | hu
    ·exact h u hu
    ·rw [hu]
     refine ST.or_ok ?_ ht;rw [List.getD_eq_getElem?_getD]
     cases e:L[i]? with
     | none=>exact ST.none_ok
     | some x=>exact h x (List.mem_of_getElem? e)
  ·split
   ·exact h
   ·intro u hu
    rcases List.mem_append.1 hu with hu | hu
    ·exact h u hu
    ·rw [List.mem_singleton.1 hu]
     exact ht
theorem fold_ok:∀ (M:List T) (A:List T × Option Nat),(∀ t ∈ A.1,t.set.Ok)→(∀ t ∈ M,t.set.Ok)→∀ u ∈ (M.foldl altS A).1,u.set.Ok
 | [],A,h,_=>h
 | t::M,A,h,hM=>by
  rw [List.foldl_cons];exact fold_ok M _ (altS_ok h (hM t (by simp))) fun u hu=>hM u (List.mem_cons_of_mem _ hu)
theorem ok_of {d:Nat} {t:T} (h:RT d t):t.set.Ok:=by
 have hSO:=RT_sok t d h
 cases t
 rw [SOk] at hSO;exact hSO.1
theorem fold_alt {d:Nat}:∀ (Q:List T),(∀ t ∈ Q,RT d t∧t.kind≠4)→∀ A:List T × Option Nat,AtOk A→(∀ t ∈ A.1,t.set.Ok)→(P10.altF Q).1.foldl altS A=Q.foldl altS A:=by
 intro Q
 induction h:Q.length generalizing Q with
 | zero =>
  intro _ A _ _;rw [List.eq_nil_of_length_eq_zero h]
  rfl
 | succ n ih =>
  intro hQ A hA hAo;obtain ⟨Q',t,rfl⟩:∃ Q' t,Q=Q'++[t]:=⟨Q.dropLast,Q.getLast (by intro e;rw [e] at h;cases h),(List.dropLast_concat_getLast _).symm⟩
  have hQ':∀ u ∈ Q',RT d u∧u.kind≠4:=fun u hu=>hQ u (List.mem_append_left _ hu)
  have ht:=hQ t (by simp)
  have hI:=ih Q' (by simpa using h) hQ' A hA hAo
  have hAl:=alo_fold Q' ([],none) alo_start hQ';have hok:=fold_ok Q' ([],none) (by simp) fun u hu=>ok_of (hQ' u hu).1
  rw [List.foldl_append,List.foldl_cons,List.foldl_nil,← hI];have e0:P10.altF (Q'++[t])=altS (P10.altF Q') t:=by
   unfold P10.altF;rw [List.foldl_append]
   rfl
  rw [e0];have hAl:Alo (P10.altF Q').1 (P10.altF Q').2:=hAl;have hok:∀ u ∈ (P10.altF Q').1,u.set.Ok:=hok;clear hI e0 ih;generalize P10.altF Q'=S at hAl hok ⊢;obtain ⟨M,c⟩:=S
  dsimp only at hAl hok ⊢
  by_cases hn:isNo t=true
  ·have e:∀ B,altS B t=B:=fun B=>by unfold altS;rw [if_pos hn]
   rw [e,e]
  have hnf:isNo t=false:=by cases e:isNo t with | false=>rfl | true=>exact absurd e hn
  by_cases hk:t.kind=2
  ·obtain ⟨et,hto⟩:=cls_is ht.1 hk
   cases c with
   | none =>
    have e:altS (M,none) t=(M++[clsT t.set],some M.length):=by
     unfold altS;rw [if_neg hn,if_pos hk]
    rw [e]
    dsimp only
    rw [List.foldl_append,List.foldl_cons,List.foldl_nil,← et]
   | some i =>
    obtain ⟨s,hs,hsi⟩:=hAl.at_ i rfl;have hil:=(List.getElem?_eq_some_iff.1 hsi).1;have e:altS (M,some i) t=(M.set i (clsT (s.or t.set)),some i):=by
     unfold altS;rw [if_neg hn,if_pos hk]
     dsimp only
     rw [getD_cls hsi]
    rw [e]
    dsimp only
    have hM:M=M.take i++clsT s::M.drop (i+1):=by
     have h1:=List.getElem_cons_drop hil;have h2:M[i]=clsT s:=by
      have:=List.getElem?_eq_getElem hil;rw [hsi] at this;injection this with this;exact this.symm
     rw [h2] at h1;rw [h1,List.take_append_drop]
    have hM2:M.set i (clsT (s.or t.set))=M.take i++clsT (s.or t.set)::M.drop (i+1):=by
     rw [List.set_eq_take_append_cons_drop,if_pos hil]
    have hd2:∀ u ∈ M.drop (i+1),u.kind≠2:=fun u hu hku=>by
     obtain ⟨q,hq⟩:=List.mem_iff_getElem?.1 hu;rw [List.getElem?_drop] at hq;have:=hAl.cl _ u hq hku;injection this with this;omega
    rw [hM2]
    conv=>rhs;rw [hM]
    rw [List.foldl_append,List.foldl_append,List.foldl_cons,List.foldl_cons];have hB:=at_fold (M.take i) A hA;have hBo:=fold_ok (M.take i) A hAo fun u hu=>hok u (List.mem_of_mem_take hu)
    have hsn:isNo (clsT s)=false:=hAl.no _ (List.mem_of_getElem? hsi);obtain ⟨e2,hj⟩:=altS_two hB hBo hs hto hsn (by rw [← et];exact hnf)
    rw [e2]
    conv=>rhs;rw [et]
    exact (fold_comm _ _ (altS_at hB _) hj hd2 t.set).symm
  ·by_cases hm:M.any (sameB t)=true
   ·have e:altS (M,c) t=(M,c):=by
     unfold altS;rw [if_neg hn,if_neg hk,if_pos hm]
    rw [e]
    dsimp only
    have h2:=(fold_mem M A hA).2 t (any_same.1 hm) hnf;obtain ⟨u,hu,eu⟩:=List.mem_map.1 h2;have:u=t:=by
     unfold unC at eu;rw [if_neg hk] at eu
     split at eu
     ·rw [← eu] at hk
      exact absurd rfl hk
     ·exact eu
    rw [this] at hu;generalize M.foldl altS A=B at hu ⊢;obtain ⟨L,c2⟩:=B;unfold altS;rw [if_neg hn,if_neg hk,if_pos (any_same.2 hu)]
   ·have e:altS (M,c) t=(M++[t],c):=by
     unfold altS;rw [if_neg hn,if_neg hk,if_neg hm]
    rw [e]
    dsimp only
    rw [List.foldl_append,List.foldl_cons,List.foldl_nil]
theorem aS_in {L Q:List T} (hL:∀ t ∈ L,Rs t) (hQ:∀ t ∈ Q,Rs t):aS (L++[altT Q])=aS (L++Q):=by
 rw [aS_append,aS_append];obtain ⟨d,hd⟩:=unf_rs hQ;obtain ⟨hA,d2,hd2⟩:=aS_alo hQ;have hu:(unf 4 [altT Q]).foldl altS (aS L)=(aS Q).1.foldl altS (aS L):=by
  rw [altT_aS]
  rcases join_cases 4 (aS Q).1 noT with ⟨e,ej⟩ | ⟨t,e,ej⟩ | ⟨h2,ej⟩
  ·rw [ej,e,unf_one,if_neg (show noT.kind≠4 by decide),List.foldl_cons,List.foldl_nil,List.foldl_nil]
   unfold altS;rw [if_pos isNo_noT]
  ·rw [ej,unf_one,if_neg (hA.four t (by rw [e];simp)),e]
  ·rw [ej,unf_one,if_pos (show (T.nd 4 ST.none 0 0 (aS Q).1).kind=4 from rfl)]
   rfl
 rw [hu];obtain ⟨-,d3,hd3⟩:=aS_alo hL;exact fold_alt (d:=d) (unf 4 Q) (fun t ht=>⟨(hd t ht).1,(hd t ht).2.1⟩) (aS L) (aS_at L) fun t ht=>ok_of (hd3 t ht).1
end P12
end Go.Proofs.YtlmfbchgkjgljaaGreat
