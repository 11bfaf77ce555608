/- Layer 11, the code: endsOf, All, Longest, Match, Best. -/
import Derived.Test.YthcjfgfbeollpaaDoorKB51
import Derived.Test.YthcjfgfbeollpaaDoorKB38
import Derived.Test.YthcjfgfbeollpaaDoorKB31
import Derived.Test.YthcjfgfbeollpaaDoorKB33
import Derived.Test.YthcjfgfbeollpaaDoorKB07
import Derived.Deep.CutRange
import Derived.Test.YthcjfgfbeollpaaDoorKB43
import Derived.Test.YthcjfgfbeollpaaDoorKB32
set_option maxRecDepth 100000
set_option maxHeartbeats 32000000
open Go.Lib (hid)
namespace Go.Proofs.YthcjfgfbeollpaaDoor
namespace P11
open Go.RowKit Base Bytes P07 P08 P09 P10 IL
open Sets (ST pc cnt_le)
noncomputable def maskA (s:List UInt8) (t:T) (f:Int):Nat:=if rightB t=true then (if 0≤f∧f≤s.length then rch s (Mat t) (2 ^ f.toNat) else 0) else 0
theorem lst_congr {f g:Nat→Bool}:∀ k,(∀ j,j<k→f j=g j)→lst f k=lst g k
 | 0,_=>rfl
 | k+1,h=>by rw [lst,lst,h k (by omega),lst_congr k fun j hj=>h j (by omega)]
theorem plm_ends {s:List UInt8} {t:T} {d f:Nat} (hR:RT d t) (hsl:s.length≤59) (hf:f≤s.length):plm (rch s (Mat t) (2 ^ f))=endsI s t f:=by
 obtain ⟨h1,h2⟩:=rowT_ok hR hf;unfold plm endsI plc;have hb:∀ j,(rch s (Mat t) (2 ^ f)).testBit j=(rowT s t f).getD j false:=fun j=>by
  rw [Bool.eq_iff_iff,rch_bit]
  show _↔On (rowT s t f) j
  rw [h2 j]
  constructor
  ·rintro ⟨i,a1,a2,a3,a4⟩
   rw [Nat.testBit_two_pow,decide_eq_true_eq] at a1;subst a1;exact ⟨a2,a3,a4⟩
  ·rintro ⟨a2,a3,a4⟩
   exact ⟨f,by rw [Nat.testBit_two_pow];simp,a2,a3,a4⟩
 rw [lst_congr 61 (fun j _=>hb j)]
 refine lst_skip (by omega) (fun i h3 h4=>?_)
 rw [List.getD_eq_getElem?_getD,List.getElem?_eq_none (by omega)]
 rfl
theorem plm_all {s:List UInt8} {t:T} (hs:SOk t) (hsl:s.length≤59) (f:Int):plm (maskA s t f)=allA s t f:=by
 unfold maskA allA
 by_cases hr:rightB t=true
 ·rw [if_pos hr,if_pos hr]
  by_cases hf:0≤f∧f≤s.length
  ·rw [if_pos hf,if_pos hf]
   exact plm_ends ((rightB_iff hs).1 hr) hsl (by omega)
  ·rw [if_neg hf,if_neg hf]
   exact plm_zero
 ·rw [if_neg hr,if_neg hr]
  exact plm_zero
theorem lastM_plm {m:Nat} (hm:m<2305843009213693952):lastM m=lastI (plm m):=by
 unfold lastM
 by_cases h0:m=0
 ·rw [if_pos h0,h0,plm_zero]
  rfl
 ·rw [if_neg h0]
  obtain ⟨a1,a2,a3⟩:=bitLen_top (m+1) m (Nat.lt_succ_self _) h0 (by omega)
  obtain ⟨k,hk⟩:∃ k,Lib.bitLen m=k+1:=⟨Lib.bitLen m - 1,by omega⟩
  rw [hk] at a2 a3 ⊢;rw [Nat.add_sub_cancel] at a2 ⊢;have hk61:k<61:=by
   refine Decidable.byContradiction fun hn=>?_
   rw [Nat.testBit_lt_two_pow (Nat.lt_of_lt_of_le (show m<2 ^ 61 from hm) (Nat.pow_le_pow_right (by omega) (by omega)))] at a2
   cases a2
  unfold plm;rw [lst_skip (k:=k+1) (by omega) (fun i h1 _=>a3 i h1),lst,if_pos a2]
  unfold lastI;rw [List.getLast?_append]
  simp
theorem maskA_in (s:List UInt8) (t:T) (f:Int):InT s (maskA s t f):=by
 unfold maskA
 split
 ·split
  ·exact rch_in _ _ _
  ·exact InT.zero s
 ·exact InT.zero s
def EndsOf (s:List UInt8) (t:T) (f:Int) (w:World) (e:Ending) (w':World):Prop :=
 ∃ a n c,e=.returned (.tuple #[plV a n c,.int .i64 (allE s t f)])∧PlW w' (fun g=>w.heap.size≤g) (maskA s t f) a n c∧Keep (fun _=>False) w w'
theorem endsOf_any (t:T) (hs:SOk t) (s:List UInt8) (hsl:s.length≤59) (f:Int) (a:Option Addr) (c:Nat) (w:World) (hL:Lie w (fun _=>True) a t.subs) (hT:Tab w) (hc:cnt t≤1000000) :
  Calls Tryd.prog 16 #[nodeV t a c,.string ⟨s.toArray⟩,.int .i64 f] w (EndsOf s t f w):=by
 have hsz:=P07.size_str s;have qN:=(Keep.refl (fun _=>False) w).alloc (.cells (ncells t a c) 27)
 have aN:=(At.new w (ncells t a c) 27).alloc (.cells plZ 48);have aR:=At.new (w.alloc (.cells (ncells t a c) 27)) plZ 48;rw [show (w.alloc (.cells (ncells t a c) 27)).heap.size=w.heap.size+1 from by simp] at aR
 have q:=qN.alloc (.cells plZ 48);have hL1:=hL.keepF q;have hT1:=hT.keep q;have HR:=hid (fun W' (q':Keep (fun _=>False) ((w.alloc (.cells (ncells t a c) 27)).alloc (.cells plZ 48)) W')=>cRight_any t hs a c W' (hL1.keepF q'))
 have H0:=hid (And.intro hs (And.intro hc (And.intro aN (And.intro aR (And.intro q (And.intro hL1 hT1))))));obtain ⟨d0,d1,d2,d3,d4,d5,d6,d7⟩:=(NodeP.of_at aN).eight;rw [show (0+1:Nat)=1 from rfl] at d1
 clear hs hc qN aN aR q hL1 hT1 hL hT
 go_enter Tryd.func16,Tryd.ntmps16
 go_upto_region 1 with fail;generalize ((w.alloc (.cells (ncells t a c) 27)).alloc (.cells plZ 48))=W at *;go_wp2_with fail;refine (HR.out _ (Keep.refl _ _)).mono ?_;rintro e w1 ⟨rfl,q1⟩;have aN1:=H0.out.2.2.1.keep q1 (fun h=>h)
 have aR1:=H0.out.2.2.2.1.keep q1 (fun h=>h)
 have H1:=hid (And.intro aN1 (And.intro aR1 (And.intro (H0.out.2.2.2.2.1.trans q1) (And.intro (H0.out.2.2.2.2.2.1.keepF q1) (H0.out.2.2.2.2.2.2.keep q1)))));clear d0 d1 d2 d3 d4 d5 d6 d7 q1 HR;obtain ⟨⟨r0,r1⟩,rf0,rf1⟩:=cells2 aR1;clear aN1 aR1
 cases hr:rightB t with
 | false =>
  have he:allE s t f=1∧maskA s t f=0:=by
   unfold allE maskA;rw [hr];exact ⟨rfl,rfl⟩
  have HE:=hid he;clear he hr;go_wp2_with fail
  change bodyPost _ _ _ _ _ (put2 w1 (w.heap.size+1) (.int .i64 0) (.slice none 0 0))
  have aX:=set2 H1.out.2.1 (.int .i64 0) (.slice none 0 0);have qX:=keep2 H1.out.2.2.1 (b:=w.heap.size+1) (fun h=>absurd h (by omega)) (.int .i64 0) (.slice none 0 0)
  generalize put2 w1 (w.heap.size+1) (.int .i64 0) (.slice none 0 0)=W9 at *;obtain ⟨⟨e0,e1⟩,-⟩:=cells2 aX;exact bodyPost_ret (v:=.tuple #[plV none 0 0,.int .i64 1]) (by simp [results,Tryd.results16,go_sem,e0,e1]) rfl ⟨none,0,0,by rw [HE.out.1],by rw [HE.out.2];exact .none,qX⟩
 | true =>
  by_cases hf:0≤f∧f≤s.length
  case neg =>
   have he:allE s t f=2∧maskA s t f=0:=by
    unfold allE maskA;rw [if_pos hr,if_neg hf,if_pos hr,if_neg hf];exact ⟨rfl,rfl⟩
   have HE:=hid he;have hc:f<0∨(0≤f∧(s.length:Int)<f):=by omega
   clear he hf hr
   rcases hc with h | ⟨h0,h⟩
   ·go_wp2_with fail
    change bodyPost _ _ _ _ _ (put2 w1 (w.heap.size+1) (.int .i64 0) (.slice none 0 0))
    have aX:=set2 H1.out.2.1 (.int .i64 0) (.slice none 0 0);have qX:=keep2 H1.out.2.2.1 (b:=w.heap.size+1) (fun h=>absurd h (by omega)) (.int .i64 0) (.slice none 0 0)
    generalize put2 w1 (w.heap.size+1) (.int .i64 0) (.slice none 0 0)=W9 at *;obtain ⟨⟨e0,e1⟩,-⟩:=cells2 aX;exact bodyPost_ret (v:=.tuple #[plV none 0 0,.int .i64 2]) (by simp [results,Tryd.results16,go_sem,e0,e1]) rfl ⟨none,0,0,by rw [HE.out.1],by rw [HE.out.2];exact .none,qX⟩
   ·go_wp2_with fail
    change bodyPost _ _ _ _ _ (put2 w1 (w.heap.size+1) (.int .i64 0) (.slice none 0 0))
    have aX:=set2 H1.out.2.1 (.int .i64 0) (.slice none 0 0);have qX:=keep2 H1.out.2.2.1 (b:=w.heap.size+1) (fun h=>absurd h (by omega)) (.int .i64 0) (.slice none 0 0)
    generalize put2 w1 (w.heap.size+1) (.int .i64 0) (.slice none 0 0)=W9 at *;obtain ⟨⟨e0,e1⟩,-⟩:=cells2 aX;exact bodyPost_ret (v:=.tuple #[plV none 0 0,.int .i64 2]) (by simp [results,Tryd.results16,go_sem,e0,e1]) rfl ⟨none,0,0,by rw [HE.out.1],by rw [HE.out.2];exact .none,qX⟩
  obtain ⟨F,rfl⟩:∃ F:Nat,f=F:=⟨f.toNat,by omega⟩
  have hF:F≤s.length:=by omega
  have hZ:maskA s t F=rch s (Mat t) (2 ^ F):=by
   unfold maskA;rw [if_pos hr,if_pos hf,Int.toNat_natCast]
  have hE:allE s t F=0:=allE_in hr hF;have hRT:=(rightB_iff H0.out.1).1 hr;have hsz1:w.heap.size+1<w1.heap.size:=H1.out.2.1.lt;have hI:Inv s w1 (fun _=>.no):=Inv.start s H1.out.2.2.2.2
  have HP:=hid (part_all s w1.heap.size _ t (Nat.lt_succ_self _) 12 hRT H0.out.2.1 w.heap.size 0 a c w1 (fun _=>.no) hI (fun _ _=>rfl) (Nat.le_refl _) (by omega) (NodeP.of_at H1.out.1) ((Lie.heap H1.out.2.2.2.1).mono (fun b hb=>hb.2)))
  have HZ:=hid (And.intro hZ (And.intro hE (And.intro hRT (And.intro hsz1 hF))));have h1:¬ (F:Int)<0:=by omega
  have h2:¬ (s.length:Int)<F:=by omega
  clear hf hZ hE hRT hsz1 hI hr;go_wp2_with fail;refine HP.out.mono ?_;rintro e w2 ⟨r,τ2,rfl,ev2,q2,pt2⟩;have qP:=(Keep.refl (fun _=>False) w2).alloc (.cells (pcells r t) 60)
  have aP:=At.new w2 (pcells r t) 60;have hpb:τ2 w2.heap.size=.no:=ev2.new (Nat.le_refl _);have H2:=hid (And.intro ev2 (And.intro q2 (And.intro pt2 (And.intro qP (And.intro aP hpb)))));clear ev2 q2 pt2 qP aP hpb HP r0 r1 rf0 rf1 h1 h2;go_upto_region 6 with fail;generalize hW3:(w2.alloc (.cells (pcells r t) 60))=W3 at *;clear hW3;obtain ⟨pb,hpb⟩:∃ pb,w2.heap.size=pb:=⟨_,rfl⟩;rw [hpb] at H2 ⊢;have HA:=hid (placeAt_any F (by omega) W3)
  go_wp2_with fail;refine HA.out.mono ?_;rintro e W4 ⟨ap,np,cp,rfl,ppl,q4⟩;have hq24:=H2.out.2.2.2.1.trans q4;have ev4:=H2.out.1.quiet hq24;have hPA:PtA W4 τ2 (fun b=>b<w1.heap.size∨w1.heap.size≤b) t pb 0 r :=
   ⟨Nat.lt_of_lt_of_le H2.out.2.2.2.2.1.lt q4.size,H2.out.2.2.2.2.2,fun j v hv=>by rw [Nat.zero_add];exact (H2.out.2.2.2.2.1.keep q4 (fun h=>h)).cell hv,H2.out.2.2.1.keep hq24 (fun _ _ h=>h)⟩
  have hnm:∀ g,W3.heap.size≤g→¬ (τ2 g).mut:=fun g hg hm=>by
   rw [H2.out.1.new (b:=g) (by have:=H2.out.2.2.2.1.size;omega)] at hm
   exact hm
  have HEC:=hid (ends_all s hsl _ t (Nat.lt_succ_self _) 12 HZ.out.2.2.1 pb 0 r _ W4 τ2 (2 ^ F) ap np cp ev4.inv hPA (inT_pow HZ.out.2.2.2.2) (ppl.mono (fun g hg _=>hnm g hg)))
  have H4:=hid (And.intro ev4 (And.intro ppl (H2.out.2.1.trans hq24)));clear hq24 ev4 hPA hnm ppl q4 HA;go_wp2_with fail;refine HEC.out.mono ?_;rintro e w5 ⟨a5,n5,c5,τ5,rfl,ev5,p5⟩;have hsz1:=HZ.out.2.2.2.1;have ht2:∀ b,b<w1.heap.size→τ2 b=.no:=fun b hb=>H2.out.1.ext b hb
  have hk5:Keep (fun _=>False) w w5:=((H1.out.2.2.1.trans H4.out.2.2)).next ev5.q (fun i hi hl=>by
   have hi:(τ2 i).mut:=hi;rw [ht2 i (by omega)] at hi
   exact hi)
  have hR5:=(H1.out.2.1.keep H4.out.2.2 (fun h=>h)).keep ev5.q (fun hm=>by
   have hm:(τ2 (w.heap.size+1)).mut:=hm;rw [ht2 _ hsz1] at hm
   exact hm)
  have hszW:w.heap.size≤W4.heap.size:=(H1.out.2.2.1.trans H4.out.2.2).size;have hszW3:w.heap.size≤W3.heap.size:=by
   have h1:=H1.out.2.2.1.size;have h2:=H2.out.2.1.size;have h3:=H2.out.2.2.2.1.size;omega
  have hp5:PlW w5 (fun g=>w.heap.size≤g) (rch s (Mat t) (2 ^ F)) a5 n5 c5:=p5.mono (fun g hg _=>by
   rcases hg with ⟨h1,-⟩ | ⟨-,h1⟩
   ·omega
   ·have h2:W3.heap.size≤g:=(plw_block H4.out.2.1 h1).1
    omega)
  have H5:=hid (And.intro hk5 (And.intro hR5 hp5));obtain ⟨⟨r0,r1⟩,rf0,rf1⟩:=cells2 hR5;clear hk5 hR5 hp5 hszW hszW3 ev5 p5 ht2 HEC;go_wp2_with fail
  change bodyPost _ _ _ _ _ (put2 w5 (w.heap.size+1) (.int .i64 0) (.slice a5 n5 c5))
  have q9:=keep2 (Keep.refl (fun b=>b=w.heap.size+1) w5) (b:=w.heap.size+1) (fun _=>rfl) (.int .i64 0) (.slice a5 n5 c5)
  have aX:=set2 H5.out.2.1 (.int .i64 0) (.slice a5 n5 c5);have qX:=H5.out.1.next q9 (fun i hi hl=>by have hi:i=w.heap.size+1:=hi;omega)
  have pX:=plw_put H5.out.2.2 H5.out.2.1 (by decide) q9 (fun g hg=>hg)
  generalize put2 w5 (w.heap.size+1) (.int .i64 0) (.slice a5 n5 c5)=W9 at *;obtain ⟨⟨e0,e1⟩,-⟩:=cells2 aX;exact bodyPost_ret (v:=.tuple #[plV a5 n5 c5,.int .i64 0]) (by simp [results,Tryd.results16,go_sem,e0,e1]) rfl ⟨a5,n5,c5,by rw [HZ.out.2.1],by rw [HZ.out.1];exact pX,qX⟩
theorem call_any (t:T) (hs:SOk t) (s:List UInt8) (hsl:s.length≤59) (f:Int) (a:Option Addr) (c:Nat) (w:World) (hL:Lie w (fun _=>True) a t.subs) (hT:Tab w) (hc:cnt t≤1000000) :
  Calls Tryd.prog 7 #[nodeV t a c,.string ⟨s.toArray⟩,.int .i64 f] w (IsAll s t f w):=by
 have HE:=hid (fun W (q:Keep (fun _=>False) w W)=>endsOf_any t hs s hsl f a c W (hL.keepF q) (hT.keep q) hc)
 obtain ⟨d0,d1,d2,d3,d4,d5,d6,d7⟩:=(Bz.new (c:=c) hL).box.eight;have QA:=hid ((Keep.refl (fun _=>False) w).alloc (.cells (ncells t a c) 27))
 have HTab:=hid hT;have hpl:=plm_all hs hsl f;have HPL:=hid hpl;unfold EndsOf at HE;generalize maskA s t f=M at *;generalize hE:allE s t f=E at *;have HEE:=hid hE;clear hL hs hT hpl hE
 go_enter Tryd.func7,Tryd.ntmps7
 go_upto_region 1 with fail;generalize (w.alloc (.cells (ncells t a c) 27))=W at *;go_wp2_with fail;refine (HE.out _ QA.out).mono ?_;rintro e w1 ⟨a1,n1,c1,rfl,p1,q1⟩;have Q1:=hid (And.intro p1 (QA.out.trans q1));clear d0 d1 d2 d3 d4 d5 d6 d7 p1 q1;go_upto_region 2 with fail;have qK:=(Keep.refl (fun _=>False) w1).alloc (.cells (plC a1 n1 c1) 48)
 have aK:=At.new w1 (plC a1 n1 c1) 48;have HL:=hid (plist_any M _ a1 n1 c1 (w1.alloc (.cells (plC a1 n1 c1) 48)) (Q1.out.1.keepF qK) (HTab.out.keep (Q1.out.2.trans qK)));have HK:=hid (Q1.out.2.trans qK);clear qK;generalize (w1.alloc (.cells (plC a1 n1 c1) 48))=W2 at *;obtain ⟨⟨e0,e1⟩,-⟩:=cells2 aK;clear aK;go_wp2_with fail;refine HL.out.mono ?_;rintro e w3 ⟨v,rfl,hil,hlo,q3⟩;have H3:=hid (And.intro hil (And.intro hlo q3));clear hil hlo q3 e0 e1;go_wp2_with fail;refine bodyPost_ret (v:=.tuple #[v,.int .i64 E]) (by simp [results,Tryd.results7,go_sem]) rfl ?_
 have h3:=H3.out.1;rw [HPL.out] at h3;exact ⟨v,by rw [HEE.out],h3,fun g hg=>Nat.le_trans HK.out.size (H3.out.2.1 g hg),HK.out.trans H3.out.2.2⟩
theorem clong_any (t:T) (hs:SOk t) (s:List UInt8) (hsl:s.length≤59) (f:Int) (a:Option Addr) (c:Nat) (w:World) (hL:Lie w (fun _=>True) a t.subs) (hT:Tab w) (hc:cnt t≤1000000) :
  Calls Tryd.prog 12 #[nodeV t a c,.string ⟨s.toArray⟩,.int .i64 f] w fun e w'=>e=.returned (.int .i64 (longA s t f))∧Keep (fun _=>False) w w':=by
 have HE:=hid (fun W (q:Keep (fun _=>False) w W)=>endsOf_any t hs s hsl f a c W (hL.keepF q) (hT.keep q) hc)
 obtain ⟨d0,d1,d2,d3,d4,d5,d6,d7⟩:=(Bz.new (c:=c) hL).box.eight;have QA:=hid ((Keep.refl (fun _=>False) w).alloc (.cells (ncells t a c) 27))
 have HTab:=hid hT;have hlo:longA s t f=lastM (maskA s t f):=by
  unfold longA;rw [← plm_all hs hsl f];exact (lastM_plm ((maskA_in s t f).lt (by omega))).symm
 rw [hlo];unfold EndsOf at HE;generalize maskA s t f=M at *;generalize allE s t f=E at *;clear hL hs hT hlo
 go_enter Tryd.func12,Tryd.ntmps12
 go_upto_region 1 with fail;generalize (w.alloc (.cells (ncells t a c) 27))=W at *;go_wp2_with fail;refine (HE.out _ QA.out).mono ?_;rintro e w1 ⟨a1,n1,c1,rfl,p1,q1⟩;have Q1:=hid (And.intro p1 (QA.out.trans q1));clear d0 d1 d2 d3 d4 d5 d6 d7 p1 q1;go_upto_region 2 with fail;have qK:=(Keep.refl (fun _=>False) w1).alloc (.cells (plC a1 n1 c1) 48)
 have aK:=At.new w1 (plC a1 n1 c1) 48;have HL:=hid (last_any M _ a1 n1 c1 (w1.alloc (.cells (plC a1 n1 c1) 48)) (Q1.out.1.keepF qK));have HK:=hid (Q1.out.2.trans qK);clear qK;generalize (w1.alloc (.cells (plC a1 n1 c1) 48))=W2 at *;obtain ⟨⟨e0,e1⟩,-⟩:=cells2 aK;clear aK;go_wp2_with fail;refine HL.out.mono ?_;rintro e w3 ⟨rfl,q3⟩;have H3:=hid q3;clear q3 e0 e1;go_wp2_with fail;go_ret;exact ⟨rfl,HK.out.trans H3.out⟩
theorem last_lst {f:Nat→Bool} {k j:Nat} (hj:j<k) (hf:f j=true):∃ m:Nat,lastI (lst f k)=(m:Int)∧j≤m∧m<k∧f m=true:=by
 induction k with
 | zero=>omega
 | succ k ih =>
  rw [lst]
  by_cases hk:f k=true
  ·rw [if_pos hk]
   refine ⟨k,?_,by omega,by omega,hk⟩
   unfold lastI;rw [List.getLast?_append]
   simp
  ·rw [if_neg hk]
   by_cases e:j=k
   ·subst e
    exact absurd hf hk
   ·obtain ⟨m,h1,h2,h3,h4⟩:=ih (by omega)
    exact ⟨m,h1,h2,by omega,h4⟩
theorem last_or (f:Nat→Bool) (k:Nat):lastI (lst f k)=-1∨∃ m:Nat,lastI (lst f k)=(m:Int)∧m<k∧f m=true:=by
 induction k with
 | zero=>exact .inl rfl
 | succ k ih =>
  rw [lst]
  by_cases hk:f k=true
  ·rw [if_pos hk]
   refine .inr ⟨k,?_,by omega,hk⟩
   unfold lastI;rw [List.getLast?_append]
   simp
  ·rw [if_neg hk]
   rcases ih with h | ⟨m,h1,h2,h3⟩
   ·exact .inl h
   ·exact .inr ⟨m,h1,by omega,h3⟩
theorem match_long {s:List UInt8} {t:T} (hs:SOk t):matchA s t=decide (longA s t 0=s.length):=by
 unfold matchA longA
 by_cases hr:rightB t=true
 ·have hR:=(rightB_iff hs).1 hr
  obtain ⟨h1,h2⟩:=rowT_ok hR (Nat.zero_le s.length);rw [hr,Bool.true_and,show (0:Int)=((0:Nat):Int) from rfl,allA_in hr (Nat.zero_le _)]
  have hm:Mat t s↔On (rowT s t 0) s.length:=by
   rw [h2 s.length];unfold EndAt;rw [seg_whole];exact ⟨fun h=>⟨Nat.zero_le _,Nat.le_refl _,h⟩,fun h=>h.2.2⟩
  rw [Bool.eq_iff_iff,decide_eq_true_eq,pb_iff,hm];unfold endsI plc
  constructor
  ·intro h
   obtain ⟨m,h3,h4,h5,-⟩:=last_lst (f:=fun j=>(rowT s t 0).getD j false) (k:=s.length+1) (j:=s.length) (by omega) h
   rw [h3];omega
  ·intro h
   rcases last_or (fun j=>(rowT s t 0).getD j false) (s.length+1) with h3 | ⟨m,h3,h4,h5⟩
   ·rw [h3] at h
    omega
   ·rw [h3] at h
    have:m=s.length:=by omega
    subst this;exact h5
 ·unfold allA
  rw [if_neg hr];have:rightB t=false:=by simpa using hr
  rw [this,Bool.false_and]
  symm
  rw [decide_eq_false_iff_not];intro h;have h:(-1:Int)=s.length:=h;omega
theorem cmatch_any (t:T) (hs:SOk t) (s:List UInt8) (hsl:s.length≤59) (a:Option Addr) (c:Nat) (w:World) (hL:Lie w (fun _=>True) a t.subs) (hT:Tab w) (hc:cnt t≤1000000) :
  Calls Tryd.prog 11 #[nodeV t a c,.string ⟨s.toArray⟩] w fun e w'=>e=.returned (.bool (matchA s t))∧Keep (fun _=>False) w w':=by
 have HC:=hid (fun W (q:Keep (fun _=>False) w W)=>clong_any t hs s hsl 0 a c W (hL.keepF q) (hT.keep q) hc)
 have hsz:=P07.size_str s;obtain ⟨d0,d1,d2,d3,d4,d5,d6,d7⟩:=(Bz.new (c:=c) hL).box.eight;have QA:=hid ((Keep.refl (fun _=>False) w).alloc (.cells (ncells t a c) 27))
 rw [match_long hs];generalize longA s t 0=V at *;have hd:((V == (s.length:Int)):Bool)=decide (V=s.length):=by
  by_cases h:V=s.length <;> simp [h]
 have HD:=hid hd;clear hL hs hT hd
 go_enter Tryd.func11,Tryd.ntmps11
 go_upto_region 1 with fail;generalize (w.alloc (.cells (ncells t a c) 27))=W at *;go_wp2_with fail;refine (HC.out _ QA.out).mono ?_;rintro e w1 ⟨rfl,q1⟩;have Q1:=hid (QA.out.trans q1);clear q1 d0 d1 d2 d3 d4 d5 d6 d7;go_wp2_with fail;go_ret;exact ⟨Bytes.ret_bool HD.out,Q1.out⟩
noncomputable def bestF (s:List UInt8) (f:Int):List RU→Int→Int × Int→Int × Int
 | [],_,p=>p
 | x::L,i,p=>bestF s f L (i+1) (if f<longA s x.re f∧p.2<longA s x.re f then (i,longA s x.re f) else p)
theorem bestF_at (s:List UInt8) (f:Int) {L:List RU} {k:Nat} {x:RU} (h:L[k]?=some x) (p:Int × Int):bestF s f (L.drop k) k p=bestF s f (L.drop (k+1)) ((k+1:Nat):Int) (if f<longA s x.re f∧p.2<longA s x.re f then ((k:Int),longA s x.re f) else p):=by
 obtain ⟨hi,rfl⟩:=List.getElem?_eq_some_iff.1 h;rw [List.drop_eq_getElem_cons hi,bestF]
 rfl
theorem bestF_in {s:List UInt8} {f:Nat} (hf:f≤s.length):∀ (L:List RU) (i:Int) (p:Int × Int),bestF s f L i p=bestS s f L i p
 | [],_,_=>rfl
 | x::L,i,p=>by
  rw [bestF,bestS,bestF_in hf L]
  congr 1
  by_cases hr:rightB x.re=true
  ·have e:longA s x.re f=farI s f x.re:=by
    unfold longA farI;rw [allA_in hr hf]
   rw [e]
   by_cases h:(f:Int)<farI s f x.re∧p.2<farI s f x.re
   ·rw [if_pos h,if_pos ⟨hr,h⟩]
   ·rw [if_neg h,if_neg (fun h'=>h h'.2)]
  ·have e:longA s x.re f=-1:=by
    unfold longA allA;rw [if_neg hr]
    rfl
   rw [e,if_neg (fun h=>by omega),if_neg (fun h=>hr h.1)]
theorem bestF_out {s:List UInt8} {f:Int} (hf:¬ (0≤f∧f≤s.length)):∀ (L:List RU) (i:Int),bestF s f L i (-1,-1)=(-1,-1)
 | [],_=>rfl
 | x::L,i=>by
  have e:longA s x.re f=-1:=by
   unfold longA allA;rw [if_neg hf]
   split <;> rfl
  rw [bestF,e,if_neg (fun h=>by have:=h.2;omega)]
  exact bestF_out hf L (i+1)
theorem bestF_all (s:List UInt8) (f:Int) (L:List RU):bestF s f L 0 (-1,-1)=bestI s f L:=by
 unfold bestI
 by_cases hf:0≤f∧f≤s.length
 ·rw [if_pos hf]
  obtain ⟨F,rfl⟩:∃ F:Nat,f=F:=⟨f.toNat,by omega⟩
  rw [Int.toNat_natCast];exact bestF_in (by omega) L 0 _
 ·rw [if_neg hf]
  exact bestF_out hf L 0
theorem cbest_any (L:List RU) (a:Option Addr) (cap:Nat) (hl:L.length≤1000) (hb:∀ x ∈ L,SOk x.re∧cnt x.re≤1000000) (s:List UInt8) (hsl:s.length≤59) (f:Int) (w:World) (hS:RS w (fun _=>True) a L) (hT:Tab w) :
  Calls Tryd.prog 9 #[.slice a L.length cap,.string ⟨s.toArray⟩,.int .i64 f] w fun e w'=>e=.returned (.tuple #[.int .i64 (bestI s f L).1,.int .i64 (bestI s f L).2,.bool (decide (0≤(bestI s f L).1))])∧Keep (fun _=>False) w w':=by
 have hB:=bestF_all s f L;generalize bestI s f L=R at *;have H0:=hid (And.intro hS (And.intro hb (And.intro hB hT)));clear hS hb hB hT
 go_enter Tryd.func9,Tryd.ntmps9
 go_wp2_with fail
 go_loopg [6,7,13] L.length (fun gg u6 u7 i wr=>∃ (k:Nat) (p:Int × Int),i=.int .i64 k∧k+gg=L.length∧u6=.int .i64 p.1∧u7=.int .i64 p.2∧bestF s f (L.drop k) k p=R∧Keep (fun _=>False) w wr)
 case atStart=>exact ⟨0,(-1,-1),rfl,by omega,rfl,rfl,by rw [List.drop_zero];exact H0.out.2.2.1,Keep.refl _ _⟩
 case round =>
  obtain ⟨k,⟨p1,p2⟩,rfl,hk,rfl,rfl,hst,hq⟩:=hrel
  dsimp only at *
  by_cases hlt:k<L.length
  ·have hlt':(k:Int)<L.length:=by omega
   have i0:(0:Int)≤k:=by omega
   obtain ⟨x,hx⟩:∃ x,L[k]?=some x:=⟨L[k],List.getElem?_eq_getElem hlt⟩;have hSw:=H0.out.1.keepF hq;obtain ⟨bl,off,a1,e1,rfl,hbl,-,hle,L1,C1⟩:=hSw.get hx;obtain ⟨c0,c1,c2,c3,c4,c5,c6,c7,c8⟩:=rnine C1;obtain ⟨hx2,hx3⟩:=H0.out.2.1 x (List.mem_of_getElem? hx);have hcall:=clong_any x.re hx2 s hsl f a1 e1 wr L1 (H0.out.2.2.2.keep hq) hx3;rw [bestF_at s f hx] at hst;generalize longA s x.re f=V at *;have HQ:=hid (And.intro hcall (And.intro hst hq));clear hcall hst hq hSw C1 L1 hle hbl hx hx2 hx3;go_wp2_with fail;refine HQ.out.1.mono ?_;rintro e w2 ⟨rfl,q2⟩;have Q2:=hid (HQ.out.2.2.trans q2);have hst:=HQ.out.2.1;clear q2 c0 c1 c2 c3 c4 c5 c6 c7 c8
   by_cases hc:f<V∧p2<V
   ·rw [if_pos hc] at hst
    obtain ⟨h1,h2⟩:=hc;have HT:=hid hst;clear hst HQ;go_wp2_with fail
    go_roundg (L.length - (k+1))
    case measure=>omega
    case rel=>exact ⟨k+1,(k,V),by go_num,by omega,rfl,rfl,HT.out,Q2.out⟩
   ·rw [if_neg hc] at hst
    have HT:=hid hst;have hc':¬ f<V∨(f<V∧¬ p2<V):=by omega
    clear hst hc HQ
    rcases hc' with h1 | ⟨h1,h2⟩
    all_goals
     go_wp2_with fail
     go_roundg (L.length - (k+1))
     case measure=>omega
     case rel=>exact ⟨k+1,(p1,p2),by go_num,by omega,rfl,rfl,HT.out,Q2.out⟩
  ·have hke:k=L.length:=by omega
   subst hke;rw [List.drop_length,bestF] at hst;subst hst;have HQ:=hid hq;clear hq;go_wp2_with fail;refine bodyPost_ret (v:=.tuple #[.int .i64 p1,.int .i64 p2,.bool (decide (0≤p1))]) (by simp [results,Tryd.results9,go_sem]) rfl ?_
   exact ⟨rfl,HQ.out⟩
end P11
end Go.Proofs.YthcjfgfbeollpaaDoor
