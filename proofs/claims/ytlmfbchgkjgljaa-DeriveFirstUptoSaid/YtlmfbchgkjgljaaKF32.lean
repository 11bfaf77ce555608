/- The code's reader (layer 7): alt, and the whole recursion. -/
import Derived.Test.YtlmfbchgkjgljaaKF31
import Derived.Test.YtlmfbchgkjgljaaKF27
import Derived.Test.YtlmfbchgkjgljaaKF30
import Derived.Test.YtlmfbchgkjgljaaKF20
set_option maxRecDepth 100000
set_option maxHeartbeats 32000000
open Go.Lib (hid)
namespace Go.Proofs.Ytlmfbchgkjgljaa
namespace P07
open Go.RowKit Base IL Bytes
open Sets (ST)
structure InRA (w:World) (b F o:Nat) (l:List UInt8) (A:List UInt8→PS→T × PS) (R:List T × PS) (f:Nat) (u:Value) (acc:List T) (s:PS) (W:World):Prop where
 rt:Rt w b l u acc s W
 eq:altL F A f acc l s=R
 bad:s.bad=none
 pos:s.pos≤l.length
 opn:s.opn=o
 len:acc.length≤s.pos+1
 fuel:l.length+1≤s.pos+f
 some:acc≠[]
theorem ralt_any (F b o:Nat) (l:List UInt8) (A:List UInt8→PS→T × PS) (hF:l.length+2≤F) (hl:l.length≤100000000) (hT:Tame A) (hSt:Still A) (hI:NodeR 69 b l o (catP F A)):NodeR 52 b l o (altP F A):=by
 intro s w hb hp hop h;have W0:=hid (Rs.start h 27 nzeros);have hp1:=fun h=>(cat_tame F hT).pos_le (l:=l) (s:=s) hb hp h
 have hop1:(catP F A l s).2.opn=o:=(cat_still F hSt l s).trans hop;have hcat:=fun W h=>hI s W hb hp hop h
 obtain ⟨⟨t0,s1⟩,hR0⟩:∃ R,catP F A l s=R:=⟨_,rfl⟩;rw [hR0] at hp1 hop1 hcat
 dsimp only at hp1 hop1
 obtain ⟨⟨RA,RS⟩,hR⟩:∃ R,altL F A F [t0] l s1=R:=⟨_,rfl⟩;have hq:altP F A l s=(wrapA RA,RS):=by unfold altP;rw [hR0];dsimp only;rw [hR]
 have hbd:∀ x,s1.bad=some x→RS.bad=some x:=fun x h=>by
  have h1:=(altL_tame F hT F [t0]).bad l s1 x h;rw [hR] at h1;exact h1
 rw [hq];obtain ⟨tR,htR⟩:∃ t,wrapA RA=t:=⟨_,rfl⟩;rw [htR];have HR:=hid (And.intro hR (And.intro hp1 (And.intro hop1 (And.intro hcat (And.intro hbd htR)))));clear h hq hR hb hp hop htR hp1 hop1 hcat hbd hR0
 go_enter Try.func52,Try.ntmps52
 go_wp2_with fail;generalize (w.alloc (.cells nzeros 27))=V at *;refine (HR.out.2.2.2.1 V W0.out.rd).mono ?_;intro e w1 hO
 rcases hO.split with ⟨hb1,v,rfl,⟨a',c',hv,hle,hLie⟩,h1,q1⟩ | ⟨x,hb1,rfl,q1⟩
 ·dsimp only at hv hb1 hle hLie
  subst hv;have hlow:=W0.out.out.lt
  have W1:=hid (And.intro (show Rt w b l (.slice (some ⟨w1.heap.size,0,none⟩) 1 1) [t0] s1 (w1.alloc (.cells (ncells t0 a' c') 27)) from by
   have J:=W0.out.step h1 q1
   exact ⟨J.quiet ((Keep.refl (fun _=>False) w1).alloc _),OT.one w1 _ t0 a' c' hle (hLie.mono (fun k hk=>by omega)) J.out.lt⟩) hb1)
  clear h1 q1 hle hLie hlow hb1 hO;go_wp2_with fail;generalize (w1.alloc (.cells (ncells t0 a' c') 27))=V1 at *;generalize w1.heap.size=n1 at *
  go_loopg [3] F (fun gg u wr=>∃ (acc:List T) (s':PS),InRA w b F o l A (RA,RS) gg u acc s' wr)
  case atStart=>exact ⟨[t0],s1,⟨W1.out.1,HR.out.1,W1.out.2,HR.out.2.1 W1.out.2,HR.out.2.2.1,by simp,by omega,by simp⟩⟩
  case round =>
   obtain ⟨acc,s',I⟩:=hrel;have II:=hid I;have I0:=hid I.rt
   by_cases h124:nxt l s'=124
   ·have hlt:=(nxt_lt (l:=l) (s:=s') (by omega)).2
    have ht:=take_yes b 124 l s' h124 hl wr I.rt.rs.rd;have hE0:=I.eq;obtain ⟨f,rfl⟩:∃ f,gk=f+1:=⟨gk - 1,by have:=I.fuel;have:=I.pos;omega⟩
    rw [altL,if_pos h124] at hE0;have hmv:(catP F A l s'.adv).2.bad=none→s'.pos<(catP F A l s'.adv).2.pos:=fun h=>(cat_tame F hT).step h
    have hin:=fun h=>(cat_tame F hT).pos_le (l:=l) (s:=s'.adv) I.bad hlt h
    have hopn:(catP F A l s'.adv).2.opn=o:=(cat_still F hSt l s'.adv).trans I.opn;have hc2:=fun W h=>hI s'.adv W I.bad hlt I.opn h
    obtain ⟨⟨t,s2⟩,hR⟩:∃ R,catP F A l s'.adv=R:=⟨_,rfl⟩;rw [hR] at hE0 hmv hin hopn hc2
    dsimp only at hE0 hmv hin hopn
    have hbd:∀ x,s2.bad=some x→RS.bad=some x:=fun x h=>by
     have h1:=(altL_tame F hT f (acc++[t])).bad l s2 x h;rw [hE0] at h1;exact h1
    have HItem:=hid (And.intro ht hc2);have HE:=hid (And.intro hE0 (And.intro hmv (And.intro hin (And.intro hopn hbd))));clear hlt ht hE0 hmv hin hopn hc2 hR hbd I h124;go_wp2_with fail;refine HItem.out.1.mono ?_;rintro e w3 ⟨rfl,h3,q3⟩;have I3:=hid (I0.out.step h3 q3);clear h3 q3;go_wp2_with fail;refine (HItem.out.2 w3 I3.out.rs.rd).mono ?_;intro e w4 hO
    rcases hO.split with ⟨hb4,v,rfl,⟨a',c',hv,hle,hLie⟩,h4,q4⟩ | ⟨x,hb4,rfl,q4⟩
    ·dsimp only at hv hb4 hle hLie
     subst hv;obtain ⟨v',w9,hrun,I9⟩:=I3.out.push h4 q4 hle hLie (by have:=II.out.len;have:=II.out.pos;omega)
     have H9:=hid (And.intro I9 hb4);clear hLie h4 q4 hle I9 hb4 hO;go_wp2_with (at_builtin;refine Lib.wpList_append_run _ rfl _ _ _ _ rfl _ _ rfl rfl _ _ hrun ?_);clear hrun;go_wp2_with fail
     go_roundg f
     case measure=>omega
     case rel =>
      have h1:=HE.out.2.1 H9.out.2;have h2:=II.out.len;have h3:=II.out.fuel;exact ⟨acc++[t],s2,⟨H9.out.1,HE.out.1,H9.out.2,HE.out.2.2.1 H9.out.2,HE.out.2.2.2.1,by rw [List.length_append,List.length_singleton];omega,by omega,by simp⟩⟩
    ·have HP:=hid (And.intro hb4 (I3.out.rs.keep.trans q4))
     clear hb4 q4 hO;go_wp2_with fail;exact ⟨rfl,Outs.gave (x:=x) (HE.out.2.2.2.2 _ HP.out.1) HP.out.2⟩
   ·have hstop:RA=acc∧RS=s':=by
     have e:=I.eq
     cases gk with
     | zero =>
      rw [altL] at e;injection e with e1 e2;exact ⟨e1.symm,e2.symm⟩
     | succ f =>
      rw [altL,if_neg h124] at e;injection e with e1 e2;exact ⟨e1.symm,e2.symm⟩
    obtain ⟨rfl,rfl⟩:=hstop;have ht:=take_no b 124 l RS I.bad h124 wr I.rt.rs.rd;have HT:=hid ht;clear ht h124 I;go_wp2_with fail;refine HT.out.mono ?_;rintro e w3 ⟨rfl,h3,q3⟩;have I3:=hid (I0.out.step h3 q3);clear h3 q3;obtain ⟨a1,cap,hu,hcap,hLie⟩:=I3.out.ot.form;have hlen:RA.length≤100000001:=by have:=II.out.len;have:=II.out.pos;omega
    have hbad:=II.out.bad;have hsome:=II.out.some;have HU:=hid (And.intro hcap hLie);have HBAD:=hid hbad;have htR:=HR.out.2.2.2.2.2;clear hcap hLie II hbad;subst hu
    rcases RA with _ | ⟨t,_ | ⟨t2,r⟩⟩
    ·exact absurd rfl hsome
    ·have htR':t=tR:=htR
     subst htR';clear htR hsome;obtain ⟨bl,off,a',c',e1,hok,hbl,hle,hL2,hcells⟩:=HU.out.2.get (i:=0) (t:=t) rfl;subst e1;have y0:w3.cell? ⟨bl,off,none⟩=some (.int .i64 t.kind):=by have:=hcells 0 (.int .i64 t.kind) rfl;simpa using this
     have y1:w3.cell? ⟨bl,off+1,none⟩=some (.int .u64 t.set.x0):=by have:=hcells 1 (.int .u64 t.set.x0) rfl;simpa using this
     have y2:w3.cell? ⟨bl,off+2,none⟩=some (.int .u64 t.set.x1):=by have:=hcells 2 (.int .u64 t.set.x1) rfl;simpa using this
     have y3:w3.cell? ⟨bl,off+3,none⟩=some (.int .u64 t.set.x2):=by have:=hcells 3 (.int .u64 t.set.x2) rfl;simpa using this
     have y4:w3.cell? ⟨bl,off+4,none⟩=some (.int .u64 t.set.x3):=by have:=hcells 4 (.int .u64 t.set.x3) rfl;simpa using this
     have y5:w3.cell? ⟨bl,off+5,none⟩=some (.int .i64 t.mn):=by have:=hcells 5 (.int .i64 t.mn) rfl;simpa using this
     have y6:w3.cell? ⟨bl,off+6,none⟩=some (.int .i64 t.mx):=by have:=hcells 6 (.int .i64 t.mx) rfl;simpa using this
     have y7:w3.cell? ⟨bl,off+7,none⟩=some (.slice a' t.subs.length c'):=by have:=hcells 7 (.slice a' t.subs.length c') rfl;simpa using this
     have HL2:=hid (And.intro hL2 hle);clear hcells hL2 hle;obtain ⟨⟨k0,k1,k2,k3,k4,k5,k6,k7⟩,f0,f1,f2,f3,f4,f5,f6,f7⟩:=cells8 I3.out.rs.out;have hlt0:=I3.out.rs.out.lt;go_wp2_with fail
     change bodyPost _ _ _ _ _ (put8 w3 w.heap.size (.int .i64 t.kind) (.int .u64 t.set.x0) (.int .u64 t.set.x1) (.int .u64 t.set.x2) (.int .u64 t.set.x3) (.int .i64 t.mn) (.int .i64 t.mx) (.slice a' t.subs.length c'))
     obtain ⟨a,p,q,n⟩:=I3.out.rs.put_of (.int .i64 t.kind) (.int .u64 t.set.x0) (.int .u64 t.set.x1) (.int .u64 t.set.x2) (.int .u64 t.set.x3) (.int .i64 t.mn) (.int .i64 t.mx) (.slice a' t.subs.length c') t a' c' rfl HL2.out.2 HL2.out.1;generalize (put8 w3 w.heap.size (.int .i64 t.kind) (.int .u64 t.set.x0) (.int .u64 t.set.x1) (.int .u64 t.set.x2) (.int .u64 t.set.x3) (.int .i64 t.mn) (.int .i64 t.mx) (.slice a' t.subs.length c'))=W9 at a p q n ⊢;obtain ⟨⟨e0,e1,e2,e3,e4,e5,e6,e7⟩,-⟩:=cells8 a;refine bodyPost_ret (v:=.agg #[(.int .i64 t.kind),(.int .u64 t.set.x0),(.int .u64 t.set.x1),(.int .u64 t.set.x2),(.int .u64 t.set.x3),(.int .i64 t.mn),(.int .i64 t.mx),(.slice a' t.subs.length c')]) (by simp [results,Try.results52,go_sem,e0,e1,e2,e3,e4,e5,e6,e7]) rfl ?_
     exact Outs.ok HBAD.out n p q
    ·have HT:=hid (show tR=.nd 4 zS 0 0 (t::t2::r) from htR.symm)
     have hl1:((t::t2::r).length == 1)=false:=by simp
     have hl3:¬ (t::t2::r).length=1:=by simp
     obtain ⟨n,hn⟩:∃ n,(t::t2::r).length=n:=⟨_,rfl⟩;rw [hn] at hl1 hl3 hlen ⊢;have HNN:=hid hn;have hi1:((n:Int) == 1)=false:=by simp;omega
     clear hn htR hsome;obtain ⟨⟨k0,k1,k2,k3,k4,k5,k6,k7⟩,f0,f1,f2,f3,f4,f5,f6,f7⟩:=cells8 I3.out.rs.out;have hlt0:=I3.out.rs.out.lt;go_wp2_with fail
     change bodyPost _ _ _ _ _ (put8 w3 w.heap.size (.int .i64 4) (.int .u64 0) (.int .u64 0) (.int .u64 0) (.int .u64 0) (.int .i64 0) (.int .i64 0) (.slice a1 n cap))
     obtain ⟨a,p,q,n_⟩:=I3.out.rs.put_of (.int .i64 4) (.int .u64 0) (.int .u64 0) (.int .u64 0) (.int .u64 0) (.int .i64 0) (.int .i64 0) (.slice a1 n cap) (.nd 4 zS 0 0 (t::t2::r)) a1 cap (by rw [← HNN.out];unfold ncells T.kind T.set T.mn T.mx T.subs;simp only [zs_zero];rfl) HU.out.1 HU.out.2
     generalize (put8 w3 w.heap.size (.int .i64 4) (.int .u64 0) (.int .u64 0) (.int .u64 0) (.int .u64 0) (.int .i64 0) (.int .i64 0) (.slice a1 n cap))=W9 at a p q n_ ⊢;obtain ⟨⟨e0,e1,e2,e3,e4,e5,e6,e7⟩,-⟩:=cells8 a;refine bodyPost_ret (v:=.agg #[(.int .i64 4),(.int .u64 0),(.int .u64 0),(.int .u64 0),(.int .u64 0),(.int .i64 0),(.int .i64 0),(.slice a1 n cap)]) (by simp [results,Try.results52,go_sem,e0,e1,e2,e3,e4,e5,e6,e7]) rfl ?_
     exact Outs.ok HBAD.out (by show NodeV _ _ _ tR;rw [HT.out];exact n_) p q
 ·have HP:=hid (And.intro hb1 (W0.out.keep.trans q1))
  clear hb1 q1 hO;go_wp2_with fail;exact ⟨rfl,Outs.gave (x:=x) (HR.out.2.2.2.2.1 _ HP.out.1) HP.out.2⟩
theorem raltD_any (F b:Nat) (l:List UInt8) (hF:l.length+2≤F) (hl:l.length≤100000000):∀ d o,1≤d→d+o=13→NodeR 52 b l o (altD F d)
 | 0,o,h,_=>absurd h (by omega)
 | d+1,o,_,hd =>
  ralt_any F b o l (altD F d) hF hl (altD_tame F d) (altD_still F d) (rcat_any F b o l (altD F d) hF hl (altD_tame F d) (altD_still F d) (ritem_any F b o l (altD F d) hl (altD_tame F d) (ratom_any F b o l (altD F d) hF hl (by omega) (fun ho=>raltD_any F b l hF hl d (o+1) (by omega) (by omega)) (altD_still F d))))
end P07
namespace P12
open P07 P08 P09 P10
open Sets (ST)
theorem mcat_e:∀ L:List T,MCat L []↔∀ u ∈ L,Mat u []
 | []=>by rw [mcat_nil];simp
 | t::L=>by
  rw [mcat_cons]
  constructor
  ·rintro ⟨u,v,e,h1,h2⟩
   obtain ⟨rfl,rfl⟩:=List.append_eq_nil_iff.1 e.symm;intro x hx
   rcases List.mem_cons.1 hx with rfl | hx
   ·exact h1
   ·exact (mcat_e L).1 h2 x hx
  ·exact fun h=>⟨[],[],rfl,h t (List.mem_cons_self ..),(mcat_e L).2 fun u hu=>h u (List.mem_cons_of_mem _ hu)⟩
theorem null_1 {d:Nat} {t:T} (h:RT d t) (hk:t.kind=1):nullB t=true:=(null_mat h).2 ((mat_kind1 hk []).2 rfl)
theorem null_2 {d:Nat} {t:T} (h:RT d t) (hk:t.kind=2):nullB t=false:=by
 cases e:nullB t with
 | false=>rfl
 | true =>
  obtain ⟨b,hb,-⟩:=(mat_kind2 hk []).1 ((null_mat h).1 e)
  cases hb
theorem null_3 {d:Nat} {t:T} (h:RT d t) (hk:t.kind=3):nullB t=t.subs.all nullB:=by
 rw [Bool.eq_iff_iff,null_mat h,mat_kind3 hk,mcat_e,List.all_eq_true]
 constructor
 ·exact fun hh u hu=>(null_mat (sub_right h.subs u hu)).2 (hh u hu)
 ·exact fun hh u hu=>(null_mat (sub_right h.subs u hu)).1 (hh u hu)
theorem null_4 {d:Nat} {t:T} (h:RT d t) (hk:t.kind=4):nullB t=t.subs.any nullB:=by
 rw [Bool.eq_iff_iff,null_mat h,mat_kind4 hk,malt_iff,List.any_eq_true]
 constructor
 ·rintro ⟨u,hu,hm⟩
  exact ⟨u,hu,(null_mat (sub_right h.subs u hu)).2 hm⟩
 ·rintro ⟨u,hu,hm⟩
  exact ⟨u,hu,(null_mat (sub_right h.subs u hu)).1 hm⟩
theorem null_5 {d:Nat} {t:T} (h:RT d t) (hk:t.kind=5):∃ u,t.subs=[u]∧0≤t.mn∧nullB t=(decide (t.mn=0) || nullB u):=by
 obtain ⟨a,mn,mx,e,b0,b1,bx,hI⟩:=rep_is h hk;subst e;refine ⟨a,rfl,b0,?_⟩;have ha:RT d a:=sub_right h.subs a (by simp [T.subs])
 show nullB (.nd 5 ST.none mn mx [a])=(decide (mn=0) || nullB a)
 rw [Bool.eq_iff_iff,null_mat h,mat_rep,Bool.or_eq_true,decide_eq_true_eq,null_mat ha]
 constructor
 ·rintro ⟨n,h1,-,h3⟩
  by_cases hm:mn=0
  ·exact .inl hm
  ·right
   cases n with
   | zero=>exact absurd h1 (by omega)
   | succ n =>
    rw [P10.Pow] at h3;obtain ⟨u,v,e,h4,-⟩:=h3;obtain ⟨rfl,rfl⟩:=List.append_eq_nil_iff.1 e.symm;exact h4
 ·rintro (hm | hm)
  ·exact ⟨0,by omega,by omega,by rw [P10.Pow]⟩
  ·have h0:Pow (Mat a) 0 []:=by rw [P10.Pow]
   exact ⟨mn.toNat,by omega,by omega,Pow.more hm (Nat.zero_le _) h0⟩
end P12
namespace P12
open P07 P08 P09 P10 Bytes
open Sets (ST)
def aS (L:List T):List T × Option Nat:=P10.altF (unf 4 L)
theorem altT_aS (L:List T):altT L=joinT 4 (aS L).1 noT:=rfl
theorem unf_append (k:Int) (L M:List T):unf k (L++M)=unf k L++unf k M:=by
 unfold unf;rw [List.flatMap_append]
theorem aS_append (L M:List T):aS (L++M)=(unf 4 M).foldl altS (aS L):=by
 unfold aS P10.altF;rw [unf_append,List.foldl_append]
theorem aS_more {L P:List T} (h:aS L=aS P) (M:List T):aS (L++M)=aS (P++M):=by rw [aS_append,aS_append,h]
theorem aS_alt {L P:List T} (h:aS L=aS P):altT L=altT P:=by rw [altT_aS,altT_aS,h]
theorem unf_rs {L:List T} (h:∀ t ∈ L,Rs t):∃ d,∀ t ∈ unf 4 L,RT d t∧t.kind≠4∧Smp t:=by
 obtain ⟨d,hd⟩:=rs_all L h;refine ⟨d,fun t ht=>?_⟩
 rcases mem_unf ht with ⟨hm,hk⟩ | ⟨u,hu,hk,hm⟩
 ·exact ⟨(hd t hm).1,hk,(hd t hm).2⟩
 ·have:=hd u hu
  obtain ⟨c,hA⟩:=smp_4 this.2 hk;have h2:=this.1.subs;rw [hk] at h2;exact ⟨IS.rt (rl_iff.1 h2 t hm),hA.four t hm,smp_subs this.2 t hm⟩
theorem aS_alo {L:List T} (h:∀ t ∈ L,Rs t):Alo (aS L).1 (aS L).2∧∃ d,∀ t ∈ (aS L).1,RT d t∧Smp t:=by
 obtain ⟨d,hd⟩:=unf_rs h;refine ⟨alo_fold (unf 4 L) ([],none) alo_start fun t ht=>⟨(hd t ht).1,(hd t ht).2.1⟩,d,?_⟩
 exact alt_all (P:=fun t=>RT d t∧Smp t) (fun s hs=>⟨class_RT hs d,clsT_smp s⟩) (unf 4 L) ([],none) alo_start (by simp) fun t ht=>⟨(hd t ht).1,(hd t ht).2.1,(hd t ht).1,(hd t ht).2.2⟩
theorem unf_one (k:Int) (t:T):unf k [t]=if t.kind=k then t.subs else [t]:=by
 rw [unf_cons]
 show _++[]=_
 rw [List.append_nil]
theorem aS_again {L:List T} (h:∀ t ∈ L,Rs t):aS [altT L]=aS L:=by
 obtain ⟨hA,d,hd⟩:=aS_alo h;have hR:∀ t ∈ (aS L).1,RT d t:=fun t ht=>(hd t ht).1
 have hf:=altF_fix hA hR
 show P10.altF (unf 4 [altT L])=_
 rw [altT_aS]
 rcases join_cases 4 (aS L).1 noT with ⟨e,ej⟩ | ⟨t,e,ej⟩ | ⟨h2,ej⟩
 ·rw [ej]
  rw [e] at hf;have:(aS L).2=none:=by
   cases hc:(aS L).2 with
   | none=>rfl
   | some i =>
    obtain ⟨s,-,hs⟩:=hA.at_ i hc;rw [e] at hs
    cases hs
  have e2:aS L=([],none):=Prod.ext e this;rw [e2]
  show P10.altF [noT]=_
  unfold P10.altF;rw [List.foldl_cons,List.foldl_nil];unfold altS;rw [if_pos isNo_noT]
 ·rw [ej,unf_one,if_neg (hA.four t (by rw [e];simp)),← e]
  exact hf
 ·rw [ej,unf_one,if_pos (show (T.nd 4 ST.none 0 0 (aS L).1).kind=4 from rfl)]
  exact hf
theorem rs_one {x:T} (h:Rs x):altT [x]=x:=by
 obtain ⟨d,h1,h2⟩:=h;exact (alt_one h1 h2).2.1
theorem join_mono {k:Int} {e:T} (he:cnt e=1) {M N:List T} (h1:M.length≤N.length) (h2:cntL M≤cntL N):cnt (joinT k M e)≤cnt (joinT k N e):=by
 rcases join_cases k M e with ⟨rfl,ej⟩ | ⟨t,rfl,ej⟩ | ⟨h3,ej⟩
 ·rw [ej,he]
  exact cnt_pos _
 ·rw [ej]
  rw [cntL,cntL] at h2
  rcases join_cases k N e with ⟨rfl,en⟩ | ⟨u,rfl,en⟩ | ⟨h4,en⟩
  ·simp at h1
  ·rw [en]
   rw [cntL,cntL] at h2;omega
  ·rw [en,cnt]
   omega
 ·rw [ej,joinT_ge (Nat.le_trans h3 h1),cnt,cnt]
  omega
theorem cntL_set_ge:∀ (L:List T) (i:Nat) (a b:T),L[i]?=some a→cnt a≤cnt b→cntL L≤cntL (L.set i b)
 | [],i,a,b,h,_=>by simp at h
 | t::L,0,a,b,h,hb=>by
  simp at h
  subst h;rw [List.set_cons_zero,cntL,cntL];omega
 | t::L,i+1,a,b,h,hb=>by
  have:=cntL_set_ge L i a b (by simpa using h) hb
  rw [List.set_cons_succ,cntL,cntL];omega
theorem altS_grow {A:List T × Option Nat} (h:AtOk A) (t:T):A.1.length≤(altS A t).1.length∧cntL A.1≤cntL (altS A t).1:=by
 obtain ⟨L,c⟩:=A;unfold altS
 dsimp only
 split
 ·exact ⟨Nat.le_refl _,Nat.le_refl _⟩
 ·split
  ·cases c with
   | none =>
    show L.length≤(L++[clsT t.set]).length∧cntL L≤cntL (L++[clsT t.set])
    rw [List.length_append,cntL_append];exact ⟨Nat.le_add_right _ _,Nat.le_add_right _ _⟩
   | some i =>
    obtain ⟨s,hs⟩:=h i rfl
    show L.length≤(L.set i _).length∧cntL L≤cntL (L.set i _)
    exact ⟨by rw [List.length_set];exact Nat.le_refl _,cntL_set_ge L i _ _ hs (by rw [cnt_clsT,cnt_clsT];omega)⟩
  ·split
   ·exact ⟨Nat.le_refl _,Nat.le_refl _⟩
   ·show L.length≤(L++[t]).length∧cntL L≤cntL (L++[t])
    rw [List.length_append,cntL_append];exact ⟨Nat.le_add_right _ _,Nat.le_add_right _ _⟩
theorem at_fold:∀ (M:List T) (A:List T × Option Nat),AtOk A→AtOk (M.foldl altS A)
 | [],_,h=>h
 | t::M,A,h=>by
  rw [List.foldl_cons];exact at_fold M _ (altS_at h t)
theorem fold_grow:∀ (M:List T) (A:List T × Option Nat),AtOk A→A.1.length≤(M.foldl altS A).1.length∧cntL A.1≤cntL (M.foldl altS A).1
 | [],_,_=>⟨Nat.le_refl _,Nat.le_refl _⟩
 | t::M,A,h=>by
  rw [List.foldl_cons];have h1:=altS_grow h t;have h2:=fold_grow M _ (altS_at h t);exact ⟨Nat.le_trans h1.1 h2.1,Nat.le_trans h1.2 h2.2⟩
theorem aS_at (L:List T):AtOk (aS L):=at_fold _ _ at_start
theorem alt_mono (P M:List T):cnt (altT P)≤cnt (altT (P++M)):=by
 rw [altT_aS,altT_aS,aS_append];have h:=fold_grow (unf 4 M) (aS P) (aS_at P);exact join_mono (cnt_clsT _) h.1 h.2
def unC (t:T):T:=if t.kind=2 then noT else t
theorem unC_cls (s:ST):unC (clsT s)=noT:=by
 unfold unC;exact if_pos rfl
theorem altS_mem {A:List T × Option Nat} (h:AtOk A) (t:T):(∀ x ∈ A.1.map unC,x ∈ (altS A t).1.map unC)∧(isNo t=false→unC t ∈ (altS A t).1.map unC):=by
 obtain ⟨L,c⟩:=A;unfold altS
 dsimp only
 by_cases hn:isNo t=true
 ·rw [if_pos hn]
  exact ⟨fun x hx=>hx,fun e=>by rw [hn] at e;cases e⟩
 rw [if_neg hn]
 by_cases hk:t.kind=2
 ·rw [if_pos hk]
  have hu:unC t=noT:=by unfold unC;rw [if_pos hk]
  cases c with
  | none =>
   show (∀ x ∈ L.map unC,x ∈ (L++[clsT t.set]).map unC)∧(_→unC t ∈ (L++[clsT t.set]).map unC)
   rw [List.map_append];exact ⟨fun x hx=>List.mem_append_left _ hx,fun _=>List.mem_append_right _ (by rw [hu,List.map_cons,unC_cls];simp)⟩
  | some i =>
   obtain ⟨s,hs⟩:=h i rfl;have hi:=(List.getElem?_eq_some_iff.1 hs).1
   show (∀ x ∈ L.map unC,x ∈ (L.set i (clsT _)).map unC)∧(_→unC t ∈ (L.set i (clsT _)).map unC)
   have e:(L.set i (clsT ((L.getD i noT).set.or t.set))).map unC=L.map unC:=by
    rw [List.map_set,unC_cls]
    apply List.ext_getElem?
    intro j
    by_cases hj:j=i
    ·subst hj
     rw [List.getElem?_set_self (by rw [List.length_map];exact hi),List.getElem?_map,hs,Option.map_some,unC_cls]
    ·rw [List.getElem?_set_ne (fun e=>hj e.symm)]
   rw [e];refine ⟨fun x hx=>hx,fun _=>?_⟩
   rw [hu,← unC_cls s];exact List.mem_map.2 ⟨_,List.mem_of_getElem? hs,rfl⟩
 ·rw [if_neg hk]
  split
  ·rename_i hm
   exact ⟨fun x hx=>hx,fun _=>List.mem_map.2 ⟨t,any_same.1 hm,rfl⟩⟩
  ·show (∀ x ∈ L.map unC,x ∈ (L++[t]).map unC)∧(_→unC t ∈ (L++[t]).map unC)
   rw [List.map_append];exact ⟨fun x hx=>List.mem_append_left _ hx,fun _=>List.mem_append_right _ (by simp)⟩
theorem fold_mem:∀ (M:List T) (A:List T × Option Nat),AtOk A→(∀ x ∈ A.1.map unC,x ∈ (M.foldl altS A).1.map unC)∧∀ t ∈ M,isNo t=false→unC t ∈ (M.foldl altS A).1.map unC
 | [],A,_=>⟨fun x hx=>hx,fun t ht=>by cases ht⟩
 | u::M,A,h=>by
  rw [List.foldl_cons];obtain ⟨h1,h2⟩:=altS_mem h u;obtain ⟨h3,h4⟩:=fold_mem M _ (altS_at h u);refine ⟨fun x hx=>h3 x (h1 x hx),fun t ht hn=>?_⟩
  rcases List.mem_cons.1 ht with rfl | ht
  ·exact h3 _ (h2 hn)
  ·exact h4 t ht hn
theorem sub_cnt:∀ (X M:List T),X.Nodup→(∀ x ∈ X,x ∈ M)→X.length≤M.length∧cntL X≤cntL M
 | [],M,_,_=>⟨Nat.zero_le _,by rw [cntL];exact Nat.zero_le _⟩
 | x::X,M,hn,hs=>by
  obtain ⟨M1,M2,rfl⟩:=List.append_of_mem (hs x (by simp))
  rw [List.nodup_cons] at hn;obtain ⟨h1,h2⟩:=sub_cnt X (M1++M2) hn.2 fun y hy=>by
   have:=hs y (List.mem_cons_of_mem _ hy)
   rcases List.mem_append.1 this with h | h
   ·exact List.mem_append_left _ h
   ·rcases List.mem_cons.1 h with rfl | h
    ·exact absurd hy hn.1
    ·exact List.mem_append_right _ h
  rw [List.length_append] at h1;rw [cntL_append] at h2;rw [List.length_cons,List.length_append,List.length_cons,cntL,cntL_append,cntL];omega
theorem unC_nodup {X:List T} {c:Option Nat} (h:Alo X c):(X.map unC).Nodup:=by
 unfold List.Nodup;rw [List.pairwise_iff_getElem];intro i j hi hj hij e;rw [List.length_map] at hi hj;rw [List.getElem_map,List.getElem_map] at e;have gi:X[i]?=some X[i]:=List.getElem?_eq_getElem hi;have gj:X[j]?=some X[j]:=List.getElem?_eq_getElem hj;unfold unC at e
 by_cases h1:X[i].kind=2
 ·by_cases h2:X[j].kind=2
  ·have e1:=h.cl i _ gi h1
   rw [h.cl j _ gj h2] at e1;injection e1 with e1;omega
  ·rw [if_pos h1,if_neg h2] at e
   rw [← e] at h2;exact h2 rfl
 ·by_cases h2:X[j].kind=2
  ·rw [if_neg h1,if_pos h2] at e
   rw [e] at h1;exact h1 rfl
  ·rw [if_neg h1,if_neg h2] at e
   rw [e] at gi;have:=h.dup i j _ gi gj;omega
theorem unC_cnt {d:Nat}:∀ (X:List T),(∀ t ∈ X,RT d t)→cntL (X.map unC)=cntL X
 | [],_=>rfl
 | t::X,h=>by
  rw [List.map_cons,cntL,cntL,unC_cnt X fun u hu=>h u (List.mem_cons_of_mem _ hu)]
  unfold unC
  split
  ·rename_i hk
   rw [(cls_is (h t (by simp)) hk).1,cnt_clsT]
   show cnt (clsT ST.none)+_=_
   rw [cnt_clsT]
  ·rfl
theorem alt_ge {L:List T} (h:∀ t ∈ L,Rs t) {x:T} (hx:x ∈ L):cnt x≤cnt (altT L):=by
 obtain ⟨d0,h1,h2⟩:=h x hx
 by_cases hn:isNo x=true
 ·rw [no_is h1 hn,show cnt noT=1 from cnt_clsT _]
  exact cnt_pos _
 have hn:isNo x=false:=by cases e:isNo x with | false=>rfl | true=>exact absurd e hn
 obtain ⟨a1,a2,a3⟩:=alt_one h1 h2;obtain ⟨c,a4,a5⟩:=a3 hn;rw [a4] at a2;obtain ⟨hA,d,hd⟩:=aS_alo h;obtain ⟨X,hX⟩:∃ X,(if x.kind=4 then x.subs else [x])=X:=⟨_,rfl⟩
 rw [hX] at a2 a5;have hXR:∀ t ∈ X,RT d0 t:=fun t ht=>by
  rw [← hX] at ht
  split at ht
  ·exact sub_right h1.subs t ht
  ·rw [List.mem_singleton.1 ht]
   exact h1
 have hsub:∀ t ∈ X,t ∈ unf 4 L:=fun t ht=>by
  unfold unf;refine List.mem_flatMap.2 ⟨x,hx,?_⟩;rw [hX];exact ht
 have hm:=(fold_mem (unf 4 L) ([],none) at_start).2;obtain ⟨s1,s2⟩:=sub_cnt (X.map unC) ((aS L).1.map unC) (unC_nodup a5) fun y hy=>by
  obtain ⟨t,ht,rfl⟩:=List.mem_map.1 hy;exact hm t (hsub t ht) (a5.no t ht)
 rw [List.length_map,List.length_map] at s1;rw [unC_cnt X hXR,unC_cnt (aS L).1 fun t ht=>(hd t ht).1] at s2
 have:=join_mono (k:=4) (e:=noT) (cnt_clsT _) s1 s2;rw [altT_aS];rw [a2] at this;exact this
theorem rs_nil3 {l:List T} (h:∀ u ∈ l,Rs u∧isNo u=false):(unf 3 l).any isNo=false:=by
 cases e:(unf 3 l).any isNo with
 | false=>rfl
 | true =>
  obtain ⟨t,ht,hn⟩:=List.any_eq_true.1 e
  rcases mem_unf ht with ⟨hm,-⟩ | ⟨u,hu,hk,hm⟩
  ·rw [(h t hm).2] at hn
   cases hn
  ·obtain ⟨⟨d,h1,h2⟩,-⟩:=h u hu
   rw [(smp_3 h2 hk t hm).2.2] at hn
   cases hn
theorem cat_one {y:T} (h:Rs y):catT [y]=y:=by
 obtain ⟨d,h1,h2⟩:=h;exact cat_only h1 h2 [] [] (by simp) (by simp)
theorem cat_ge {y:T} {l:List T} (h:Rs y) (hn:isNo y=false) (hl:∀ u ∈ l,Rs u∧isNo u=false):cnt y≤cnt (catT (y::l)):=by
 have e1:=cat_one h;have n1:(unf 3 [y]).any isNo=false:=rs_nil3 fun u hu=>by rw [List.mem_singleton.1 hu];exact ⟨h,hn⟩
 have n2:=rs_nil3 hl;have hu:unf 3 (y::l)=unf 3 [y]++unf 3 l:=unf_append 3 [y] l;unfold catT at e1 ⊢;rw [n1,if_neg (by decide)] at e1
 rw [hu,List.any_append,n1,n2,Bool.or_false,if_neg (by decide),List.filter_append]
 have:=join_mono (k:=3) (e:=epsT) (M:=(unf 3 [y]).filter fun t=>decide (t.kind≠1)) (N:=(unf 3 [y]).filter (fun t=>decide (t.kind≠1))++(unf 3 l).filter fun t=>decide (t.kind≠1)) (by unfold epsT;rw [cnt,cntL]) (by rw [List.length_append];omega) (by rw [cntL_append];omega)
 rw [e1] at this;exact this
theorem altS_comm {B:List T × Option Nat} (h:AtOk B) {j:Nat} (hj:B.2=some j) {u:T} (hu:u.kind≠2) (s:ST):altS (altS B u) (clsT s)=altS (altS B (clsT s)) u:=by
 obtain ⟨L,c⟩:=B;have hj:c=some j:=hj;subst hj;obtain ⟨s0,hs0⟩:=h j rfl;have hjl:=(List.getElem?_eq_some_iff.1 hs0).1
 by_cases hn:isNo (clsT s)=true
 ·have e:∀ A,altS A (clsT s)=A:=fun A=>by unfold altS;rw [if_pos hn]
  rw [e,e]
 have hun:¬ isNo u=true:=fun hh=>hu (is_no hh)
 have hc:∀ (M:List T),altS (M,some j) (clsT s)=(M.set j (clsT ((M.getD j noT).set.or s)),some j):=fun M=>by
  unfold altS;rw [if_neg hn,if_pos (show (clsT s).kind=2 from rfl)]
  rfl
 have hau:∀ (M:List T),altS (M,some j) u=if M.any (sameB u)=true then (M,some j) else (M++[u],some j):=fun M=>by
  unfold altS;rw [if_neg hun,if_neg hu]
 have hany:∀ x:T,x.kind=2→((L.set j x).any (sameB u)=true↔L.any (sameB u)=true):=fun x hx=>by
  rw [any_same,any_same]
  constructor
  ·intro hm
   rcases List.mem_or_eq_of_mem_set hm with hm | hm
   ·exact hm
   ·rw [hm] at hu
    exact absurd hx hu
  ·intro hm
   obtain ⟨q,hq⟩:=List.mem_iff_getElem?.1 hm;have hne:q≠j:=fun e=>by
    rw [e,hs0] at hq;injection hq with hq;rw [← hq] at hu;exact hu rfl
   exact List.mem_iff_getElem?.2 ⟨q,by rw [List.getElem?_set_ne (fun e=>hne e.symm)];exact hq⟩
 have hg:(L.getD j noT).set=s0:=getD_cls hs0;rw [hc L,hau,hau]
 by_cases hm:L.any (sameB u)=true
 ·rw [if_pos hm,if_pos ((hany _ rfl).2 hm),hc]
 ·rw [if_neg hm,if_neg (fun hh=>hm ((hany _ rfl).1 hh)),hc]
  have hg2:((L++[u]).getD j noT).set=s0:=by
   rw [List.getD_eq_getElem?_getD,List.getElem?_append_left hjl,hs0]
   rfl
  rw [hg,hg2,List.set_append_left _ _ hjl]
theorem fold_comm:∀ (M:List T) (B:List T × Option Nat),AtOk B→(∃ j,B.2=some j)→(∀ u ∈ M,u.kind≠2)→∀ s:ST,altS (M.foldl altS B) (clsT s)=M.foldl altS (altS B (clsT s))
 | [],_,_,_,_,_=>rfl
 | u::M,B,h,⟨j,hj⟩,hM,s=>by
  have h2:(altS B u).2=some j:=by
   unfold altS
   split
   ·exact hj
   ·split
    ·rename_i hk
     exact absurd hk (hM u (by simp))
    ·split <;> exact hj
  rw [List.foldl_cons,List.foldl_cons,fold_comm M _ (altS_at h u) ⟨j,h2⟩ (fun x hx=>hM x (List.mem_cons_of_mem _ hx)) s,altS_comm h hj (hM u (by simp)) s]
theorem or_or {a b c:ST} (ha:a.Ok) (hb:b.Ok) (hc:c.Ok):(a.or b).or c=a.or (b.or c):=by
 refine ST.ext (ST.or_ok (ST.or_ok ha hb) hc) (ST.or_ok ha (ST.or_ok hb hc)) fun x hx=>?_
 rw [ST.has_or _ _ _ hx,ST.has_or _ _ _ hx,ST.has_or _ _ _ hx,ST.has_or _ _ _ hx,Bool.or_assoc]
theorem getD_set {M:List T} {i:Nat} {t:T} (hi:i<M.length):(M.set i t).getD i noT=t:=by
 rw [List.getD_eq_getElem?_getD,List.getElem?_set_self hi]
 rfl
theorem altS_two {B:List T × Option Nat} (h:AtOk B) (hB:∀ t ∈ B.1,t.set.Ok) {s t:ST} (hs:s.Ok) (ht:t.Ok) (hsn:isNo (clsT s)=false) (htn:isNo (clsT t)=false):altS B (clsT (s.or t))=altS (altS B (clsT s)) (clsT t)∧∃ j,(altS B (clsT s)).2=some j:=by
 obtain ⟨L,c⟩:=B;have hne:s≠ST.none:=fun e=>by
  rw [e] at hsn;rw [isNo_cls,eqB_refl] at hsn
  cases hsn
 have hor:isNo (clsT (s.or t))=false:=by
  cases e:isNo (clsT (s.or t)) with
  | false=>rfl
  | true =>
   rw [isNo_cls,eqB_iff] at e;exact absurd e (or_some hs hne)
 have hone:∀ (x:ST) (M:List T) (c:Option Nat),isNo (clsT x)=false→altS (M,c) (clsT x)=(match c with | none=>(M++[clsT x],some M.length) | some i=>(M.set i (clsT ((M.getD i noT).set.or x)),some i)):=fun x M c hx=>by
  unfold altS;rw [if_neg (by rw [hx];decide),if_pos (show (clsT x).kind=2 from rfl)]
  rfl
 cases c with
 | none =>
  rw [hone _ _ _ hor,hone _ _ _ hsn]
  dsimp only
  rw [hone _ _ _ htn]
  dsimp only
  refine ⟨?_,_,rfl⟩;have e1:(L++[clsT s]).getD L.length noT=clsT s:=by
   rw [List.getD_eq_getElem?_getD,List.getElem?_append_right (Nat.le_refl _),Nat.sub_self]
   rfl
  rw [e1,List.set_append_right _ _ (Nat.le_refl _),Nat.sub_self]
  rfl
 | some i =>
  obtain ⟨s0,hs0⟩:=h i rfl;have hil:=(List.getElem?_eq_some_iff.1 hs0).1;have hs0k:s0.Ok:=hB _ (List.mem_of_getElem? hs0);rw [hone _ _ _ hor,hone _ _ _ hsn]
  dsimp only
  rw [hone _ _ _ htn]
  dsimp only
  refine ⟨?_,_,rfl⟩;rw [getD_set hil,List.set_set,getD_cls hs0]
  show _=(L.set i (clsT ((s0.or s).or t)),some i)
  rw [or_or hs0k hs ht]
theorem altS_ok {A:List T × Option Nat} (h:∀ t ∈ A.1,t.set.Ok) {t:T} (ht:t.set.Ok):∀ u ∈ (altS A t).1,u.set.Ok:=by
 obtain ⟨L,c⟩:=A;unfold altS
 dsimp only
 split
 ·exact h
 ·split
  ·cases c with
   | none =>
    intro u hu
    rcases List.mem_append.1 hu with hu | hu
    ·exact h u hu
    ·rw [List.mem_singleton.1 hu]
     exact ht
   | some i =>
    intro u hu
    rcases List.mem_or_eq_of_mem_set hu with hu | hu
    ·exact h u hu
    ·rw [hu]
     refine ST.or_ok ?_ ht;rw [List.getD_eq_getElem?_getD]
     cases e:L[i]? with
     | none=>exact ST.none_ok
     | some x=>exact h x (List.mem_of_getElem? e)
  ·split
   ·exact h
   ·intro u hu
    rcases List.mem_append.1 hu with hu | hu
    ·exact h u hu
    ·rw [List.mem_singleton.1 hu]
     exact ht
theorem fold_ok:∀ (M:List T) (A:List T × Option Nat),(∀ t ∈ A.1,t.set.Ok)→(∀ t ∈ M,t.set.Ok)→∀ u ∈ (M.foldl altS A).1,u.set.Ok
 | [],A,h,_=>h
 | t::M,A,h,hM=>by
  rw [List.foldl_cons];exact fold_ok M _ (altS_ok h (hM t (by simp))) fun u hu=>hM u (List.mem_cons_of_mem _ hu)
theorem ok_of {d:Nat} {t:T} (h:RT d t):t.set.Ok:=by
 have hSO:=RT_sok t d h
 cases t
 rw [SOk] at hSO;exact hSO.1
theorem fold_alt {d:Nat}:∀ (Q:List T),(∀ t ∈ Q,RT d t∧t.kind≠4)→∀ A:List T × Option Nat,AtOk A→(∀ t ∈ A.1,t.set.Ok)→(P10.altF Q).1.foldl altS A=Q.foldl altS A:=by
 intro Q
 induction h:Q.length generalizing Q with
 | zero =>
  intro _ A _ _;rw [List.eq_nil_of_length_eq_zero h]
  rfl
 | succ n ih =>
  intro hQ A hA hAo;obtain ⟨Q',t,rfl⟩:∃ Q' t,Q=Q'++[t]:=⟨Q.dropLast,Q.getLast (by intro e;rw [e] at h;cases h),(List.dropLast_concat_getLast _).symm⟩
  have hQ':∀ u ∈ Q',RT d u∧u.kind≠4:=fun u hu=>hQ u (List.mem_append_left _ hu)
  have ht:=hQ t (by simp)
  have hI:=ih Q' (by simpa using h) hQ' A hA hAo
  have hAl:=alo_fold Q' ([],none) alo_start hQ';have hok:=fold_ok Q' ([],none) (by simp) fun u hu=>ok_of (hQ' u hu).1
  rw [List.foldl_append,List.foldl_cons,List.foldl_nil,← hI];have e0:P10.altF (Q'++[t])=altS (P10.altF Q') t:=by
   unfold P10.altF;rw [List.foldl_append]
   rfl
  rw [e0];have hAl:Alo (P10.altF Q').1 (P10.altF Q').2:=hAl;have hok:∀ u ∈ (P10.altF Q').1,u.set.Ok:=hok;clear hI e0 ih;generalize P10.altF Q'=S at hAl hok ⊢;obtain ⟨M,c⟩:=S
  dsimp only at hAl hok ⊢
  by_cases hn:isNo t=true
  ·have e:∀ B,altS B t=B:=fun B=>by unfold altS;rw [if_pos hn]
   rw [e,e]
  have hnf:isNo t=false:=by cases e:isNo t with | false=>rfl | true=>exact absurd e hn
  by_cases hk:t.kind=2
  ·obtain ⟨et,hto⟩:=cls_is ht.1 hk
   cases c with
   | none =>
    have e:altS (M,none) t=(M++[clsT t.set],some M.length):=by
     unfold altS;rw [if_neg hn,if_pos hk]
    rw [e]
    dsimp only
    rw [List.foldl_append,List.foldl_cons,List.foldl_nil,← et]
   | some i =>
    obtain ⟨s,hs,hsi⟩:=hAl.at_ i rfl;have hil:=(List.getElem?_eq_some_iff.1 hsi).1;have e:altS (M,some i) t=(M.set i (clsT (s.or t.set)),some i):=by
     unfold altS;rw [if_neg hn,if_pos hk]
     dsimp only
     rw [getD_cls hsi]
    rw [e]
    dsimp only
    have hM:M=M.take i++clsT s::M.drop (i+1):=by
     have h1:=List.getElem_cons_drop hil;have h2:M[i]=clsT s:=by
      have:=List.getElem?_eq_getElem hil;rw [hsi] at this;injection this with this;exact this.symm
     rw [h2] at h1;rw [h1,List.take_append_drop]
    have hM2:M.set i (clsT (s.or t.set))=M.take i++clsT (s.or t.set)::M.drop (i+1):=by
     rw [List.set_eq_take_append_cons_drop,if_pos hil]
    have hd2:∀ u ∈ M.drop (i+1),u.kind≠2:=fun u hu hku=>by
     obtain ⟨q,hq⟩:=List.mem_iff_getElem?.1 hu;rw [List.getElem?_drop] at hq;have:=hAl.cl _ u hq hku;injection this with this;omega
    rw [hM2]
    conv=>rhs;rw [hM]
    rw [List.foldl_append,List.foldl_append,List.foldl_cons,List.foldl_cons];have hB:=at_fold (M.take i) A hA;have hBo:=fold_ok (M.take i) A hAo fun u hu=>hok u (List.mem_of_mem_take hu)
    have hsn:isNo (clsT s)=false:=hAl.no _ (List.mem_of_getElem? hsi);obtain ⟨e2,hj⟩:=altS_two hB hBo hs hto hsn (by rw [← et];exact hnf)
    rw [e2]
    conv=>rhs;rw [et]
    exact (fold_comm _ _ (altS_at hB _) hj hd2 t.set).symm
  ·by_cases hm:M.any (sameB t)=true
   ·have e:altS (M,c) t=(M,c):=by
     unfold altS;rw [if_neg hn,if_neg hk,if_pos hm]
    rw [e]
    dsimp only
    have h2:=(fold_mem M A hA).2 t (any_same.1 hm) hnf;obtain ⟨u,hu,eu⟩:=List.mem_map.1 h2;have:u=t:=by
     unfold unC at eu;rw [if_neg hk] at eu
     split at eu
     ·rw [← eu] at hk
      exact absurd rfl hk
     ·exact eu
    rw [this] at hu;generalize M.foldl altS A=B at hu ⊢;obtain ⟨L,c2⟩:=B;unfold altS;rw [if_neg hn,if_neg hk,if_pos (any_same.2 hu)]
   ·have e:altS (M,c) t=(M++[t],c):=by
     unfold altS;rw [if_neg hn,if_neg hk,if_neg hm]
    rw [e]
    dsimp only
    rw [List.foldl_append,List.foldl_cons,List.foldl_nil]
theorem aS_in {L Q:List T} (hL:∀ t ∈ L,Rs t) (hQ:∀ t ∈ Q,Rs t):aS (L++[altT Q])=aS (L++Q):=by
 rw [aS_append,aS_append];obtain ⟨d,hd⟩:=unf_rs hQ;obtain ⟨hA,d2,hd2⟩:=aS_alo hQ;have hu:(unf 4 [altT Q]).foldl altS (aS L)=(aS Q).1.foldl altS (aS L):=by
  rw [altT_aS]
  rcases join_cases 4 (aS Q).1 noT with ⟨e,ej⟩ | ⟨t,e,ej⟩ | ⟨h2,ej⟩
  ·rw [ej,e,unf_one,if_neg (show noT.kind≠4 by decide),List.foldl_cons,List.foldl_nil,List.foldl_nil]
   unfold altS;rw [if_pos isNo_noT]
  ·rw [ej,unf_one,if_neg (hA.four t (by rw [e];simp)),e]
  ·rw [ej,unf_one,if_pos (show (T.nd 4 ST.none 0 0 (aS Q).1).kind=4 from rfl)]
   rfl
 rw [hu];obtain ⟨-,d3,hd3⟩:=aS_alo hL;exact fold_alt (d:=d) (unf 4 Q) (fun t ht=>⟨(hd t ht).1,(hd t ht).2.1⟩) (aS L) (aS_at L) fun t ht=>ok_of (hd3 t ht).1
end P12
namespace P12
open P07 P08 P09 P10
open Sets (ST)
def pC (b:Nat):List T→List T
 | []=>[]
 | t::l=>catT (byT b t::l)::(if nullB t=true then pC b l else [])
theorem first_rs (b:Nat) {t:T} {l:List T} (ht:Rs t) (hl:∀ u ∈ l,Rs u):Rs (catT (byT b t::l)):=rs_cat fun u hu=>by
 rcases List.mem_cons.1 hu with rfl | hu
 ·exact (by_rs b t ht).1
 ·exact hl u hu
theorem pC_rs (b:Nat):∀ l:List T,(∀ t ∈ l,Rs t)→∀ x ∈ pC b l,Rs x
 | [],_,x,hx=>by rw [pC] at hx;cases hx
 | t::l,h,x,hx=>by
  have hl:∀ u ∈ l,Rs u:=fun u hu=>h u (List.mem_cons_of_mem _ hu)
  rw [pC] at hx
  rcases List.mem_cons.1 hx with rfl | hx
  ·exact first_rs b (h t (by simp)) hl
  ·split at hx
   ·exact pC_rs b l hl x hx
   ·cases hx
theorem byC_pC (b:Nat):∀ l:List T,(∀ t ∈ l,Rs t)→l≠[]→byC b l=altT (pC b l)
 | [],_,h=>absurd rfl h
 | [t],h,_=>by
  have ht:=by_rs b t (h t (by simp))
  have e:pC b [t]=[catT [byT b t]]:=by
   rw [pC,pC]
   split <;> rfl
  rw [e,cat_one ht.1,rs_one ht.1,byC,if_pos List.length_nil]
 | t::u::l,h,_=>by
  have hl:∀ x ∈ u::l,Rs x:=fun x hx=>h x (List.mem_cons_of_mem _ hx)
  have h1:=first_rs b (h t (by simp)) hl
  rw [byC,if_neg (by simp),pC]
  split
  ·rw [byC_pC b (u::l) hl (by simp)]
   have:=aS_in (L:=[catT (byT b t::u::l)]) (Q:=pC b (u::l)) (fun x hx=>by rw [List.mem_singleton.1 hx];exact h1) (pC_rs b (u::l) hl)
   exact aS_alt this
  ·exact (rs_one h1).symm
theorem lenL:∀ L:List T,L.length≤cntL L
 | []=>Nat.zero_le _
 | t::L=>by
  rw [cntL,List.length_cons];have:=lenL L;have:=cnt_pos t;omega
theorem fold_lenA:∀ (L:List T) (A:List T × Option Nat),(L.foldl altS A).1.length≤A.1.length+L.length
 | [],A=>Nat.le_refl _
 | t::L,A=>by
  have h1:=fold_lenA L (altS A t);have h2:(altS A t).1.length≤A.1.length+1:=by
   obtain ⟨M,c⟩:=A;unfold altS
   dsimp only
   split
   ·exact Nat.le_succ _
   ·split
    ·cases c with
     | none=>show (M++[clsT t.set]).length≤_;simp
     | some i=>show (M.set i _).length≤_;simp
    ·split
     ·exact Nat.le_succ _
     ·show (M++[t]).length≤_;simp
  rw [List.foldl_cons,List.length_cons];omega
def wk (k:Int) (t:T):Nat:=if t.kind=k then t.subs.length else 1
theorem unf_wk (k:Int) (t:T) (L:List T):(unf k (t::L)).length=wk k t+(unf k L).length:=by
 rw [unf_cons,List.length_append];unfold wk
 split <;> rfl
theorem unf_wk0 (k:Int):(unf k ([]:List T)).length=0:=rfl
theorem wk_cnt (k:Int) (t:T):wk k t≤cnt t:=by
 have h1:=lenL t.subs;have h2:=cnt_eq t;have h3:=cnt_pos t;unfold wk
 split <;> omega
theorem wk_pos {k:Int} (hk:k=3∨k=4) {t:T} (h:Rs t):1≤wk k t:=by
 obtain ⟨d,h1,-⟩:=h;unfold wk
 split
 ·rename_i e
  have:=(many_is h1 (by rw [e];exact hk)).2
  omega
 ·exact Nat.le_refl 1
theorem wk_no (k:Int) (hk:k=3∨k=4):wk k noT=1∧wk k epsT=1:=by
 rcases hk with rfl | rfl <;> exact ⟨rfl,rfl⟩
theorem filter_len:∀ {L:List T},(∀ t ∈ L,Rs t)→(L.filter fun t=>decide (t.kind≠1)).length≤((unf 3 L).filter fun t=>decide (t.kind≠1)).length∧∀ t ∈ L,t.kind=3→2≤((unf 3 L).filter fun t=>decide (t.kind≠1)).length
 | [],_=>⟨Nat.le_refl _,fun t ht=>by cases ht⟩
 | t::L,h=>by
  obtain ⟨h1,h2⟩:=filter_len (L:=L) fun u hu=>h u (List.mem_cons_of_mem _ hu)
  obtain ⟨d,hR,hS⟩:=h t (by simp)
  rw [unf_cons,List.filter_append,List.length_append]
  by_cases hk:t.kind=3
  ·have hm:=(many_is hR (.inl hk)).2
   have hf:(t.subs.filter fun t=>decide (t.kind≠1))=t.subs:=List.filter_eq_self.2 fun u hu=>decide_eq_true (smp_3 hS hk u hu).2.1
   rw [if_pos hk,hf];refine ⟨?_,fun u _ _=>by omega⟩
   rw [List.filter_cons]
   split
   ·rw [List.length_cons]
    omega
   ·omega
  ·rw [if_neg hk]
   refine ⟨?_,fun u hu e=>?_⟩
   ·rw [List.filter_cons,List.filter_cons]
    split
    ·rw [List.length_cons,List.length_cons,List.filter_nil,List.length_nil]
     omega
    ·rw [List.filter_nil,List.length_nil]
     omega
   ·rcases List.mem_cons.1 hu with rfl | hu
    ·exact absurd e hk
    ·have:=h2 u hu e
     omega
theorem catT_cases {L:List T} (h:∀ t ∈ L,Rs t):catT L=noT∨catT L=epsT∨(catT L ∈ L∧(catT L).kind≠3∧(L.filter fun t=>decide (t.kind≠1)).length≤1)∨((catT L).kind=3∧(catT L).subs.length≤(unf 3 L).length):=by
 unfold catT
 split
 ·exact .inl rfl
 obtain ⟨h1,h2⟩:=filter_len h;have hl:=List.length_filter_le (fun t:T=>decide (t.kind≠1)) (unf 3 L)
 have hm:∀ t ∈ (unf 3 L).filter (fun t=>decide (t.kind≠1)),t ∈ unf 3 L:=fun t ht=>(List.mem_filter.1 ht).1
 generalize (unf 3 L).filter (fun t=>decide (t.kind≠1))=F at h1 h2 hl hm ⊢
 rcases join_cases 3 F epsT with ⟨e,ej⟩ | ⟨t,e,ej⟩ | ⟨h4,ej⟩
 ·rw [ej]
  exact .inr (.inl rfl)
 ·rw [ej]
  refine .inr (.inr (.inl ?_));have hF:F.length=1:=by rw [e];rfl
  rcases mem_unf (hm t (by rw [e];simp)) with ⟨h5,h6⟩ | ⟨u,hu,hk,-⟩
  ·exact ⟨h5,h6,by omega⟩
  ·have:=h2 u hu hk
   omega
 ·rw [ej]
  exact .inr (.inr (.inr ⟨rfl,hl⟩))
theorem alt_len {L:List T} (h:∀ t ∈ L,Rs t) {x:T} (hx:x ∈ L) (hk:x.kind=4):x.subs.length≤(aS L).1.length:=by
 obtain ⟨d0,h1,h2⟩:=h x hx;obtain ⟨c,hA⟩:=smp_4 h2 hk;have hm:=(fold_mem (unf 4 L) ([],none) at_start).2;obtain ⟨s1,-⟩:=sub_cnt (x.subs.map unC) ((aS L).1.map unC) (unC_nodup hA) fun y hy=>by
  obtain ⟨t,ht,rfl⟩:=List.mem_map.1 hy;refine hm t ?_ (hA.no t ht);unfold unf;refine List.mem_flatMap.2 ⟨x,hx,?_⟩;rw [if_pos hk];exact ht
 rw [List.length_map,List.length_map] at s1;exact s1
theorem fold_in:∀ (M:List T) (A:List T × Option Nat),∀ t ∈ (M.foldl altS A).1,t.kind=2∨t ∈ A.1∨t ∈ M
 | [],_,t,ht=>.inr (.inl ht)
 | u::M,A,t,ht=>by
  rw [List.foldl_cons] at ht
  rcases fold_in M _ t ht with h | h | h
  ·exact .inl h
  ·obtain ⟨L,c⟩:=A
   unfold altS at h
   dsimp only at h
   split at h
   ·exact .inr (.inl h)
   ·split at h
    ·cases c with
     | none =>
      rcases List.mem_append.1 h with h | h
      ·exact .inr (.inl h)
      ·rw [List.mem_singleton.1 h]
       exact .inl rfl
     | some i =>
      rcases List.mem_or_eq_of_mem_set h with h | h
      ·exact .inr (.inl h)
      ·rw [h]
       exact .inl rfl
    ·split at h
     ·exact .inr (.inl h)
     ·rcases List.mem_append.1 h with h | h
      ·exact .inr (.inl h)
      ·rw [List.mem_singleton.1 h]
       exact .inr (.inr (by simp))
  ·exact .inr (.inr (List.mem_cons_of_mem _ h))
theorem aS_len (L:List T):(aS L).1.length≤(unf 4 L).length:=by
 have h:=fold_lenA (unf 4 L) ([],none)
 simp at h
 exact h
theorem altT_cases {L:List T} (h:∀ t ∈ L,Rs t):(altT L).kind=2∨altT L ∈ L∧(altT L).kind≠4∨((altT L).kind=4∧(altT L).subs.length≤(unf 4 L).length):=by
 have hl:=aS_len L;obtain ⟨hA,-⟩:=aS_alo h
 rcases join_cases 4 (aS L).1 noT with ⟨e,ej⟩ | ⟨t,e,ej⟩ | ⟨h4,ej⟩
 ·rw [altT_aS,ej]
  exact .inl rfl
 ·rw [altT_aS,ej]
  rcases fold_in (unf 4 L) ([],none) t (by show t ∈ (aS L).1;rw [e];simp) with h1 | h1 | h1
  ·exact .inl h1
  ·cases h1
  ·rcases mem_unf h1 with ⟨h5,h6⟩ | ⟨u,hu,hk,-⟩
   ·exact .inr (.inl ⟨h5,h6⟩)
   ·have h2:=alt_len h hu hk
    obtain ⟨d,hR,-⟩:=h u hu;have h3:=(many_is hR (.inr hk)).2;rw [e] at h2
    simp at h2
    omega
 ·rw [altT_aS,ej]
  exact .inr (.inr ⟨rfl,hl⟩)
theorem w4_alt {L:List T} (h:∀ t ∈ L,Rs t):wk 4 (altT L)≤max 1 (unf 4 L).length:=by
 unfold wk
 split
 ·rename_i hk
  rcases altT_cases h with h1 | ⟨-,h1⟩ | ⟨-,h1⟩
  ·rw [h1] at hk;cases hk
  ·exact absurd hk h1
  ·omega
 ·omega
theorem w3_alt {L:List T} (h:∀ t ∈ L,Rs t) {N:Nat} (hN:∀ t ∈ L,wk 3 t≤N):wk 3 (altT L)≤max 1 N:=by
 rcases altT_cases h with h1 | ⟨h1,-⟩ | ⟨h1,-⟩
 ·unfold wk
  rw [if_neg (by rw [h1];decide)]
  omega
 ·have:=hN _ h1
  omega
 ·unfold wk
  rw [if_neg (by rw [h1];decide)]
  omega
theorem w3_cat {L:List T} (h:∀ t ∈ L,Rs t):wk 3 (catT L)≤max 1 (unf 3 L).length:=by
 rcases catT_cases h with h1 | h1 | ⟨-,h1,-⟩ | ⟨h1,h2⟩
 ·rw [h1,(wk_no 3 (.inl rfl)).1];omega
 ·rw [h1,(wk_no 3 (.inl rfl)).2];omega
 ·unfold wk
  rw [if_neg h1];omega
 ·unfold wk
  rw [if_pos h1];omega
theorem w4_cat {L:List T} (h:∀ t ∈ L,Rs t) {N:Nat} (hN:(L.filter fun t=>decide (t.kind≠1)).length≤1→∀ t ∈ L,wk 4 t≤N):wk 4 (catT L)≤max 1 N:=by
 rcases catT_cases h with h1 | h1 | ⟨h1,-,h2⟩ | ⟨h1,h2⟩
 ·rw [h1,(wk_no 4 (.inr rfl)).1];omega
 ·rw [h1,(wk_no 4 (.inr rfl)).2];omega
 ·have:=hN h2 _ h1
  omega
 ·unfold wk
  rw [if_neg (by rw [h1];decide)]
  omega
theorem star_kind:∀ (n:Nat) (t:T),SizeOf.sizeOf t<n→(starT t).kind=1∨(starT t).kind=5
 | 0,t,h=>absurd h (Nat.not_lt_zero _)
 | n+1,t,h=>by
  rw [starT_eq]
  split
  ·exact .inl rfl
  split
  ·rename_i hs
   exact .inr (is_st.1 hs).1
  split
  ·match hs:t.subs with
   | []=>rw [starH];exact .inl rfl
   | u::l =>
    rw [starH];exact star_kind n u (by have:=sub_less (a:=t) (i:=0) (t:=u) (by rw [hs];rfl);omega)
  ·exact .inr rfl
theorem wk_rep {k:Int} (hk:k=3∨k=4) (t:T) (lo hi:Int):wk k (repP t lo hi)≤max 1 (wk k t):=by
 unfold repP
 split
 ·rw [(wk_no k hk).2];omega
 split
 ·omega
 split
 ·unfold wk
  rw [if_neg (by rcases star_kind _ t (Nat.lt_succ_self _) with h | h <;> rw [h] <;> omega)]
  omega
 ·unfold wk
  rw [if_neg (by show ¬ (5:Int)=k;omega)]
  omega
theorem unf_cntL (k:Int):∀ L:List T,(unf k L).length≤cntL L
 | []=>Nat.zero_le _
 | t::L=>by
  have h1:=unf_wk k t L;have h2:=unf_cntL k L;have h3:=wk_cnt k t;rw [cntL];omega
mutual
theorem by_w (b:Nat):∀ (t:T),Rs t→wk 4 (byT b t)+wk 4 t≤2 * cnt t∧wk 3 (byT b t)+wk 3 t≤2 * cnt t
 | .nd k s mn mx l,h=>by
  have hs:=h.sub;obtain ⟨d,hR,hS⟩:=id h;have n4:=wk_no 4 (.inr rfl);have n3:=wk_no 3 (.inl rfl);have hc:cnt (.nd k s mn mx l)=1+cntL l:=by rw [cnt]
  have q4:wk 4 (.nd k s mn mx l)=if k=4 then l.length else 1:=rfl
  have q3:wk 3 (.nd k s mn mx l)=if k=3 then l.length else 1:=rfl
  rw [byT,hc]
  by_cases k2:k=2
  ·subst k2
   rw [if_neg (by decide)] at q4 q3
   rw [if_pos rfl]
   split
   ·rw [n4.2,n3.2];omega
   ·rw [n4.1,n3.1];omega
  rw [if_neg k2]
  by_cases k3:k=3
  ·subst k3
   have hm:=(many_is hR (.inl rfl)).2;have hm:2≤l.length:=hm;have h3:=fun u hu=>smp_3 hS rfl u hu
   obtain ⟨h1,h2⟩:=byC_w b l hs h3 (by intro e;rw [e] at hm;simp at hm)
   rw [if_neg (by decide)] at q4
   rw [if_pos rfl] at q3;rw [if_pos rfl];omega
  rw [if_neg k3]
  by_cases k4:k=4
  ·subst k4
   obtain ⟨hrs,-⟩:=byL_rs b l hs;obtain ⟨h1,h2⟩:=byL_w b l hs;have h3:=w4_alt hrs;have h4:=w3_alt hrs h2;have h5:=lenL l;rw [if_pos rfl] at q4;rw [if_neg (by decide)] at q3
   rw [if_pos rfl];omega
  rw [if_neg k4];rw [if_neg k4] at q4;rw [if_neg k3] at q3
  by_cases k5:k=5∧mx≠0
  ·obtain ⟨rfl,hmx⟩:=k5
   rw [if_pos ⟨rfl,hmx⟩];obtain ⟨a,mn',mx',e,b0,b1,bx,hI⟩:=rep_is hR rfl;injection e with _ e1 e2 e3 e4;subst e1 e2 e3 e4;have ha:=hs a (by simp [T.subs])
   have hSa:Smp a:=smp_subs hS a (by simp [T.subs])
   have hrr:=(rs_rep hI hSa b0 b1 bx hmx).1;obtain ⟨h1,h2⟩:=by_w b a ha;have hrsa:=(by_rs b a ha).1;rw [byR,cntL,cntL];obtain ⟨r,hr⟩:∃ r,repP a (max (mn - 1) 0) (if 0<mx then mx - 1 else mx)=r:=⟨_,rfl⟩
   have r4:=wk_rep (.inr rfl:(4:Int)=3∨(4:Int)=4) a (max (mn - 1) 0) (if 0<mx then mx - 1 else mx)
   have r3:=wk_rep (.inl rfl:(3:Int)=3∨(3:Int)=4) a (max (mn - 1) 0) (if 0<mx then mx - 1 else mx)
   rw [hr] at r4 r3 hrr ⊢;have hL:∀ t ∈ [byT b a,r],Rs t:=fun t ht=>by
    simp only [List.mem_cons,List.not_mem_nil,or_false] at ht
    rcases ht with rfl | rfl
    ·exact hrsa
    ·exact hrr
   have p4:=wk_pos (.inr rfl) ha;have p3:=wk_pos (.inl rfl) ha;have g4:=wk_cnt 4 a;have g3:=wk_cnt 3 a;have c4:=w4_cat hL (N:=2 * cnt a) fun _ t ht=>by
    simp only [List.mem_cons,List.not_mem_nil,or_false] at ht
    rcases ht with rfl | rfl <;> omega
   have c3:=w3_cat hL;rw [unf_wk,unf_wk,unf_wk0] at c3;omega
  rw [if_neg k5,n4.1,n3.1];omega
theorem byL_w (b:Nat):∀ (l:List T),(∀ t ∈ l,Rs t)→(unf 4 (byL b l)).length+l.length≤2 * cntL l∧∀ t ∈ byL b l,wk 3 t≤2 * cntL l
 | [],_=>by rw [byL,cntL];exact ⟨Nat.le_refl _,fun t ht=>by cases ht⟩
 | t::l,h=>by
  have ht:=h t (by simp)
  obtain ⟨h1,h2⟩:=by_w b t ht;obtain ⟨h3,h4⟩:=byL_w b l fun u hu=>h u (List.mem_cons_of_mem _ hu)
  have p4:=wk_pos (.inr rfl) ht;rw [byL,unf_wk,cntL,List.length_cons];refine ⟨by omega,fun u hu=>?_⟩
  rcases List.mem_cons.1 hu with rfl | hu
  ·omega
  ·have:=h4 u hu
   omega
theorem byC_w (b:Nat):∀ (l:List T),(∀ t ∈ l,Rs t)→(∀ u ∈ l,u.kind≠3∧u.kind≠1∧isNo u=false)→l≠[]→wk 4 (byC b l)+1≤2 * cntL l∧wk 3 (byC b l)+l.length≤2 * cntL l
 | [],_,_,h=>absurd rfl h
 | t::l,h,hl,_=>by
  have ht:=h t (by simp)
  have hl':∀ u ∈ l,Rs u:=fun u hu=>h u (List.mem_cons_of_mem _ hu)
  have hs':∀ u ∈ l,u.kind≠3∧u.kind≠1∧isNo u=false:=fun u hu=>hl u (List.mem_cons_of_mem _ hu)
  obtain ⟨h1,h2⟩:=by_w b t ht;have p4:=wk_pos (.inr rfl) ht;have p3:=wk_pos (.inl rfl) ht;rw [byC,cntL,List.length_cons]
  by_cases h0:l.length=0
  ·rw [if_pos h0]
   omega
  rw [if_neg h0];have hne:l≠[]:=fun e=>h0 (by rw [e];rfl)
  have hrs1:=first_rs b ht hl';obtain ⟨g4,g3⟩:=byC_w b l hl' hs' hne;have hbt:=(by_rs b t ht).1;have hLr:∀ u ∈ byT b t::l,Rs u:=fun u hu=>by
   rcases List.mem_cons.1 hu with rfl | hu
   ·exact hbt
   ·exact hl' u hu
  have o3:=w3_cat hLr;rw [unf_wk] at o3;have u3:=unf_cntL 3 l;have lc:=lenL l;have pb3:=wk_pos (.inl rfl) hbt;have pb4:=wk_pos (.inr rfl) hbt;have o4:wk 4 (catT (byT b t::l))+wk 4 (byC b l)+1≤2 * (cnt t+cntL l):=by
   match l,hne with
   | [u],_ =>
    obtain ⟨a4,-⟩:=by_w b u (hl' u (by simp))
    have pu:=wk_pos (.inr rfl) (hl' u (by simp))
    have c4:=w4_cat hLr (N:=wk 4 (byT b t)+wk 4 u) fun _ x hx=>by
     simp only [List.mem_cons,List.not_mem_nil,or_false] at hx
     rcases hx with rfl | rfl <;> omega
    rw [byC,if_pos List.length_nil,cntL,cntL];omega
   | u::v::l',_ =>
    have c4:=w4_cat hLr (N:=1) fun hf=>by
     exfalso
     rw [List.filter_cons] at hf;have e2:((u::v::l').filter fun t=>decide (t.kind≠1))=u::v::l':=List.filter_eq_self.2 fun x hx=>decide_eq_true (hs' x hx).2.1
     rw [e2] at hf
     split at hf <;> simp at hf
    omega
  split
  ·have hLr2:∀ u ∈ [catT (byT b t::l),byC b l],Rs u:=fun u hu=>by
    simp only [List.mem_cons,List.not_mem_nil,or_false] at hu
    rcases hu with rfl | rfl
    ·exact hrs1
    ·exact (byC_rs b l hl').1
   have a4:=w4_alt hLr2;rw [unf_wk,unf_wk,unf_wk0] at a4;have a3:=w3_alt hLr2 (N:=max (wk 3 (catT (byT b t::l))) (wk 3 (byC b l))) fun x hx=>by
    simp only [List.mem_cons,List.not_mem_nil,or_false] at hx
    rcases hx with rfl | rfl <;> omega
   omega
  ·omega
end
end P12
namespace P07
open Go.RowKit Base IL Bytes
open Sets (ST)
def nextL:List T→List (List T)
 | []=>[]
 | t::L=>if 0<t.subs.length then t.subs::nextL L else nextL L
def lev:List (List T)→List (List T)
 | []=>[]
 | L::X=>nextL L++lev X
def depLL:List (List T)→Nat
 | []=>0
 | L::X=>max (depL L) (depLL X)
def cntLL:List (List T)→Nat
 | []=>0
 | L::X=>cntL L+cntLL X
theorem cntLL_append:∀ X Y,cntLL (X++Y)=cntLL X+cntLL Y
 | [],Y=>by rw [List.nil_append,cntLL];omega
 | L::X,Y=>by rw [List.cons_append,cntLL,cntLL,cntLL_append X Y];omega
theorem next_some:∀ (L:List T),∀ M ∈ nextL L,M≠[]
 | [],M,h=>absurd h (by rw [nextL];simp)
 | t::L,M,h=>by
  rw [nextL] at h
  split at h
  ·rename_i h0
   rcases List.mem_cons.1 h with rfl | h
   ·intro e
    rw [e] at h0;exact absurd h0 (by simp)
   ·exact next_some L M h
  ·exact next_some L M h
theorem next_cnt:∀ L:List T,cntLL (nextL L)+(nextL L).length≤cntL L
 | []=>by rw [nextL,cntLL,cntL];simp
 | t::L=>by
  have:=next_cnt L;rw [nextL,cntL,cnt_eq]
  split
  ·rw [cntLL,List.length_cons]
   omega
  ·omega
structure LR where
 la:List T
 aa:Option Addr
 ca:Nat
@[reducible] def lrcells (x:LR):Array Value:=#[.slice x.aa x.la.length x.ca]
@[reducible] def flatR (X:List LR):List Value:=X.flatMap fun x=>(lrcells x).toList
theorem infoLr:(Try.prog.info? 25).map (fun i=>(i.zero,i.size,i.bytes))=some (some (.slice none 0 0),1,24):=by kernel_rfl
theorem flatR_length (X:List LR):(flatR X).length=X.length * 1:=by
 induction X with
 | nil=>rfl
 | cons x X ih =>
  unfold flatR at *;rw [List.flatMap_cons,List.length_append,ih,List.length_cons]
  simp
  omega
theorem flatR_append (X Y:List LR):flatR (X++Y)=flatR X++flatR Y:=List.flatMap_append ..
theorem flatR_at:∀ (X:List LR) (i:Nat) (x:LR),X[i]?=some x→(flatR X)[i]?=some (.slice x.aa x.la.length x.ca)
 | [],i,x,h=>by simp at h
 | y::X,0,x,h=>by
  simp at h
  subst h
  rfl
 | y::X,i+1,x,h=>by
  have ih:=flatR_at X i x (by simpa using h)
  have e:flatR (y::X)=(lrcells y).toList++flatR X:=rfl;rw [e,List.getElem?_append_right (by simp),← ih]
  congr 1
structure LrOk (W:World) (n0:Nat) (x:LR):Prop where
 ca:x.la.length≤x.ca
 la:Lie W (fun k=>k<n0) x.aa x.la
theorem LrOk.keep {S:Nat→Prop} {W W':World} {n0:Nat} {x:LR} (h:LrOk W n0 x) (q:Keep S W W') (hS:∀ k,k<n0→¬ S k):LrOk W' n0 x:=⟨h.ca,h.la.keep q hS⟩
structure OR (W:World) (n0:Nat) (u:Value) (X:List LR):Prop where
 row:W.ownsRow 0 25 1 u X.length (flatR X)
 own:∀ g,u.ownBlock=some g→n0≤g
 ok:∀ x ∈ X,LrOk W n0 x
theorem OR.keep {S:Nat→Prop} {W W':World} {n0:Nat} {u:Value} {X:List LR} (h:OR W n0 u X) (q:Keep S W W') (hS:∀ k,S k→n0≤k∧u.ownBlock≠some k):OR W' n0 u X:=by
 refine ⟨⟨h.row.1,?_⟩,h.own,fun x hx=>(h.ok x hx).keep q (fun k hk e=>by have:=(hS k e).1;omega)⟩
 rcases h.row.2 with h1 | ⟨g,cap,cur,rfl,hb,hg,r⟩
 ·exact .inl h1
 ·refine .inr ⟨g,cap,cur,rfl,hb,?_,r⟩
  have:At W g 25 cur:=hg;exact this.keep q (fun e=>(hS g e).2 rfl)
theorem OR.keepF {W W':World} {n0:Nat} {u:Value} {X:List LR} (h:OR W n0 u X) (q:Keep (fun _=>False) W W'):OR W' n0 u X:=h.keep q (fun _ h=>h.elim)
theorem OR.lt {W:World} {n0:Nat} {u:Value} {X:List LR} (h:OR W n0 u X) {g:Nat} (hg:u.ownBlock=some g):g<W.heap.size:=by
 rcases h.row.2 with ⟨rfl,h0⟩ | ⟨g',cap,cur,rfl,hb,hc,r⟩
 ·cases hg
 ·have:At W g' 25 cur:=hc
  injection hg with hg;subst hg;exact this.lt
theorem OR.form {W:World} {n0:Nat} {u:Value} {X:List LR} (h:OR W n0 u X):∃ a cap,u=.slice a X.length cap∧X.length≤9223372036854775807∧∀ i x,X[i]?=some x→∃ g,a=some ⟨g,0,none⟩∧W.cell? ⟨g,i,none⟩=some (.slice x.aa x.la.length x.ca):=by
 rcases h.row.2 with ⟨rfl,h0⟩ | ⟨g,cap,cur,rfl,hb,hg,h5,h6,h7,h8⟩
 ·have e:X=[]:=List.eq_nil_of_length_eq_zero h0
  subst e;exact ⟨none,0,rfl,by simp,fun i x hx=>by simp at hx⟩
 ·have ha:At W g 25 cur:=hg
  refine ⟨_,cap,rfl,by unfold maxLen at h6;omega,fun i x hx=>⟨g,rfl,ha.cell ?_⟩⟩
  have hi:i<X.length:=(List.getElem?_eq_some_iff.1 hx).1;have h9:=flatR_at X i x hx;have h10:(cur.toList.take (X.length * 1))[i]?=(flatR X)[i]?:=by rw [h8]
  rw [List.getElem?_take_of_lt (by omega),h9] at h10
  simpa using h10
theorem OR.nil (W:World) (n0:Nat):OR W n0 (.slice none 0 0) []:=⟨⟨rfl,.inl ⟨rfl,rfl⟩⟩,fun g hg=>(by cases hg),by simp⟩
theorem OR.one {W:World} {n0:Nat} {p:LR} (hp:LrOk W n0 p) (hn:n0≤W.heap.size) :
  OR (W.alloc (.cells (lrcells p) 25)) n0 (.slice (some ⟨W.heap.size,0,none⟩) 1 1) [p]:=by
 refine ⟨⟨by rw [flatR_length],.inr ⟨W.heap.size,1,lrcells p,rfl,Nat.zero_le _,At.new W _ _,Nat.le_refl 1,by decide,rfl,by simp⟩⟩,fun g hg=>?_,fun x hx=>?_⟩
 ·injection hg with hg
  rw [← hg];exact hn
 ·rw [List.mem_singleton.1 hx]
  exact hp.keep ((Keep.refl (fun _=>False) W).alloc _) (fun _ _ h=>h)
theorem OR.push {W:World} {n0:Nat} {u:Value} {X:List LR} (h:OR W n0 u X) (p:LR) (hp:LrOk W n0 p) (hn:n0≤W.heap.size) (hlen:X.length≤1000000000) (ty:TypeId) :
  ∃ v' w',(Builtin.append_ #[107,107] ty #[u,.slice (some ⟨W.heap.size,0,none⟩) 1 1]).run Try.prog (W.alloc (.cells (lrcells p) 25))=.ok v' w'∧OR w' n0 v' (X++[p])∧Keep (fun b=>u.ownBlock=some b) W w'∧(∀ g,v'.ownBlock=some g→u.ownBlock=some g∨W.heap.size≤g):=by
 have qa:=(Keep.refl (fun _=>False) W).alloc (.cells (lrcells p) 25)
 have ha:=At.new W (lrcells p) 25;have h1:=(h.keepF qa).row;obtain ⟨i0,hi0,hz0,hz1,hz2⟩:=info_parts infoLr;obtain ⟨v',w',hrun,g2,g3,_,g5⟩:=run_append_own_at (P:=Try.prog) (W.alloc (.cells (lrcells p) 25)) 0 107 ty 25 i0 (.slice none 0 0) 1 24 Try.underlying107 hi0 hz0 hz1 hz2 rfl (by omega) u X.length (flatR X) h1 ⟨W.heap.size,0,none⟩ 1 1 (lrcells p).toList rfl
  (fun j v hv=>by
   have:=ha.cell (o:=j) (v:=v) (by simpa using hv)
   have e:(⟨W.heap.size,0,none⟩:Addr).add j=⟨W.heap.size,j,none⟩:=by
    unfold Addr.add
    split
    ·rename_i hz
     rw [hz]
    ·simp
   rw [e]
   exact this)
  (by intro v hv;simp at hv;subst hv;rfl) (by simp only [maxLen];omega) (by omega) (Nat.zero_le _)
 have q:Keep (fun b=>u.ownBlock=some b) W w':=(qa.mono (fun _ h=>h.elim)).trans (pkeep_grown g3)
 have hbl:∀ g,v'.ownBlock=some g→u.ownBlock=some g∨W.heap.size≤g:=fun g hg=>by
  rcases g5 with g5 | g5
  ·exact .inl (by rw [← g5];exact hg)
  ·rw [g5] at hg
   injection hg with hg
   simp at hg
   exact .inr (by omega)
 refine ⟨v',w',hrun,⟨?_,fun g hg=>?_,fun x hx=>?_⟩,q,hbl⟩
 ·rw [List.length_append,flatR_append]
  have e:flatR [p]=(lrcells p).toList:=by unfold flatR;simp
  rw [e];exact g2
 ·rcases hbl g hg with h2 | h2
  ·exact h.own g h2
  ·omega
 ·have hS:∀ k,k<n0→¬ u.ownBlock=some k:=fun k hk e=>by have:=h.own k e;omega
  rcases List.mem_append.1 hx with hx | hx
  ·exact (h.ok x hx).keep q hS
  ·rw [List.mem_singleton.1 hx]
   exact hp.keep q hS
structure InB (n0:Nat) (W0:World) (u0:Value) (X0:List LR) (rest:List (List T)) (u:Value) (X:List LR) (W:World):Prop where
 row:OR W n0 u X
 old:OR W n0 u0 X0
 own:∀ g,u.ownBlock=some g→W0.heap.size≤g
 eq:X.map (·.la)++rest=lev (X0.map (·.la))
 keep:Keep (fun _=>False) W0 W
theorem InB.len {n0:Nat} {W0:World} {u0:Value} {X0:List LR} {rest:List (List T)} {u:Value} {X:List LR} {W:World} (I:InB n0 W0 u0 X0 rest u X W):X.length≤(lev (X0.map (·.la))).length:=by
 rw [← I.eq,List.length_append,List.length_map];omega
structure InD (w:World) (n0:Nat) (a:T) (m d:Nat) (u:Value) (X:List LR) (W:World):Prop where
 row:OR W n0 u X
 eq:d+depLL (X.map (·.la))=dep a
 some:∀ L ∈ X.map (·.la),L≠[]
 cnt:cntLL (X.map (·.la))≤100000000
 dm:depLL (X.map (·.la))≤m
 keep:Keep (fun _=>False) w W
 low:n0≤W.heap.size
end P07
namespace P12
open P07 P08 P09 P10
open Sets (ST)
def vi (n:Nat):List UInt8:=if h:128≤n then UInt8.ofNat (n % 128+128)::vi (n / 128) else [UInt8.ofNat n]
termination_by n
theorem vi_big {n:Nat} (h:128≤n):vi n=UInt8.ofNat (n % 128+128)::vi (n / 128):=by rw [vi,dif_pos h]
theorem vi_small {n:Nat} (h:n<128):vi n=[UInt8.ofNat n]:=by rw [vi,dif_neg (by omega)]
theorem of_nat_inj {a b:Nat} (ha:a<256) (hb:b<256) (h:UInt8.ofNat a=UInt8.ofNat b):a=b:=by
 have:=congrArg UInt8.toNat h;rw [UInt8.toNat_ofNat',UInt8.toNat_ofNat'] at this;omega
theorem vi_inj:∀ (n m:Nat) (r s:List UInt8),vi n++r=vi m++s→n=m∧r=s:=by
 intro n
 induction n using Nat.strongRecOn with
 | _ n ih =>
  intro m r s h
  by_cases hn:128≤n
  ·rw [vi_big hn] at h
   by_cases hm:128≤m
   ·rw [vi_big hm,List.cons_append,List.cons_append] at h
    injection h with h1 h2;have e:=of_nat_inj (by omega) (by omega) h1
    obtain ⟨e2,e3⟩:=ih (n / 128) (by omega) (m / 128) r s h2
    exact ⟨by omega,e3⟩
   ·rw [vi_small (n:=m) (by omega),List.cons_append,List.cons_append] at h
    injection h with h1 h2;have e:=of_nat_inj (by omega) (by omega) h1
    omega
  ·rw [vi_small (n:=n) (by omega)] at h
   by_cases hm:128≤m
   ·rw [vi_big hm,List.cons_append,List.cons_append] at h
    injection h with h1 h2;have e:=of_nat_inj (by omega) (by omega) h1
    omega
   ·rw [vi_small (n:=m) (by omega),List.cons_append,List.cons_append] at h
    injection h with h1 h2;exact ⟨of_nat_inj (by omega) (by omega) h1,h2⟩
theorem vi_len:∀ n:Nat,n<18446744073709551616→(vi n).length≤10:=by
 have h:∀ (k n:Nat),n<128 ^ (k+1)→(vi n).length≤k+1:=by
  intro k
  induction k with
  | zero =>
   intro n hn;rw [vi_small (by simpa using hn)]
   exact Nat.le_refl _
  | succ k ih =>
   intro n hn
   by_cases h1:128≤n
   ·rw [vi_big h1,List.length_cons]
    have:=ih (n / 128) (by
     rw [Nat.pow_succ] at hn
     exact Nat.div_lt_of_lt_mul (by rw [Nat.mul_comm];exact hn))
    omega
   ·rw [vi_small (by omega)]
    simp
 intro n hn;exact h 9 n (by omega)
def u64 (x:Int):Nat:=(x % 18446744073709551616).toNat
theorem u64_inj {x y:Int} (hx:-9223372036854775808≤x∧x≤9223372036854775807) (hy:-9223372036854775808≤y∧y≤9223372036854775807) (h:u64 x=u64 y):x=y:=by
 unfold u64 at h;omega
def wds (t:T):List Nat:=[u64 t.kind,u64 t.mn,u64 t.mx,t.set.x0,t.set.x1,t.set.x2,t.set.x3,t.subs.length]
def keyW (l:List Nat):List UInt8:=l.flatMap vi
theorem keyW_inj:∀ (l m:List Nat) (r s:List UInt8),l.length=m.length→keyW l++r=keyW m++s→l=m∧r=s
 | [],[],r,s,_,h=>⟨rfl,h⟩
 | [],_::_,_,_,hl,_=>by cases hl
 | _::_,[],_,_,hl,_=>by cases hl
 | a::l,b::m,r,s,hl,h=>by
  unfold keyW at h;rw [List.flatMap_cons,List.flatMap_cons,List.append_assoc,List.append_assoc] at h;obtain ⟨e1,e2⟩:=vi_inj a b _ _ h;obtain ⟨e3,e4⟩:=keyW_inj l m r s (by simpa using hl) e2
  exact ⟨by rw [e1,e3],e4⟩
mutual
def keyT:T→List UInt8
 | .nd k s mn mx l=>keyW [u64 k,u64 mn,u64 mx,s.x0,s.x1,s.x2,s.x3,l.length]++keyL l
def keyL:List T→List UInt8
 | []=>[]
 | t::l=>keyT t++keyL l
end
theorem keyT_eq (t:T):keyT t=keyW (wds t)++keyL t.subs:=by cases t;rw [keyT];rfl
theorem keyL_append (l m:List T):keyL (l++m)=keyL l++keyL m:=by
 induction l with
 | nil=>rw [keyL];rfl
 | cons t l ih=>rw [List.cons_append,keyL,keyL,ih,List.append_assoc]
def Fld (t:T):Prop:=(-9223372036854775808≤t.kind∧t.kind≤9223372036854775807)∧(-9223372036854775808≤t.mn∧t.mn≤9223372036854775807)∧(-9223372036854775808≤t.mx∧t.mx≤9223372036854775807)
theorem rs_fld {t:T} (h:Rs t):Fld t:=by
 obtain ⟨d,hR,-⟩:=h
 rcases P10.kinds hR with k | k | k | k | k
 ·rw [eps_is hR k]
  unfold Fld epsT T.kind T.mn T.mx
  dsimp only
  omega
 ·rw [(cls_is hR k).1]
  unfold Fld clsT T.kind T.mn T.mx
  dsimp only
  omega
 ·rw [(many_is hR (.inl k)).1,k]
  unfold Fld T.kind T.mn T.mx
  dsimp only
  omega
 ·rw [(many_is hR (.inr k)).1,k]
  unfold Fld T.kind T.mn T.mx
  dsimp only
  omega
 ·obtain ⟨a,mn,mx,e,b0,b1,bx,-⟩:=rep_is hR k
  rw [e];unfold Fld T.kind T.mn T.mx
  dsimp only
  omega
mutual
theorem keyT_inj:∀ (t u:T),Rs t→Rs u→∀ r s,keyT t++r=keyT u++s→t=u∧r=s
 | .nd k a mn mx l,.nd k' a' mn' mx' l',ht,hu,r,s,h=>by
  have f1:=rs_fld ht;have f2:=rs_fld hu;rw [keyT,keyT,List.append_assoc,List.append_assoc] at h;obtain ⟨e1,e2⟩:=keyW_inj _ _ _ _ (by rfl) h
  have f1:(-9223372036854775808≤k∧k≤9223372036854775807)∧(-9223372036854775808≤mn∧mn≤9223372036854775807)∧(-9223372036854775808≤mx∧mx≤9223372036854775807):=f1;have f2:(-9223372036854775808≤k'∧k'≤9223372036854775807)∧(-9223372036854775808≤mn'∧mn'≤9223372036854775807)∧(-9223372036854775808≤mx'∧mx'≤9223372036854775807):=f2;injection e1 with e1 e1';injection e1' with e3 e1';injection e1' with e4 e1';injection e1' with e5 e1';injection e1' with e6 e1';injection e1' with e7 e1';injection e1' with e8 e1';injection e1' with e9 _;obtain ⟨e10,e11⟩:=keyL_inj l l' e9 ht.sub hu.sub r s e2;have ea:a=a':=by
   cases a
   cases a'
   simp only at e5 e6 e7 e8
   subst e5 e6 e7 e8
   rfl
  rw [u64_inj f1.1 f2.1 e1,u64_inj f1.2.1 f2.2.1 e3,u64_inj f1.2.2 f2.2.2 e4,ea,e10];exact ⟨rfl,e11⟩
theorem keyL_inj:∀ (l m:List T),l.length=m.length→(∀ t ∈ l,Rs t)→(∀ t ∈ m,Rs t)→∀ r s,keyL l++r=keyL m++s→l=m∧r=s
 | [],[],_,_,_,r,s,h=>⟨rfl,h⟩
 | [],_::_,hl,_,_,_,_,_=>by cases hl
 | _::_,[],hl,_,_,_,_,_=>by cases hl
 | t::l,u::m,hl,h1,h2,r,s,h=>by
  rw [keyL,keyL,List.append_assoc,List.append_assoc] at h;obtain ⟨e1,e2⟩:=keyT_inj t u (h1 t (by simp)) (h2 u (by simp)) _ _ h
  obtain ⟨e3,e4⟩:=keyL_inj l m (by simpa using hl) (fun x hx=>h1 x (List.mem_cons_of_mem _ hx)) (fun x hx=>h2 x (List.mem_cons_of_mem _ hx)) r s e2
  exact ⟨by rw [e1,e3],e4⟩
end
theorem key_inj {t u:T} (ht:Rs t) (hu:Rs u) (h:keyT t=keyT u):t=u:=(keyT_inj t u ht hu [] [] (by rw [List.append_nil,List.append_nil];exact h)).1
end P12
end Go.Proofs.Ytlmfbchgkjgljaa
