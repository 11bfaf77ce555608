/- Layer 11, the code: widen and add. -/
import Derived.Test.YthcjfgfbeollpaaDoorKB42
import Derived.Deep.RegionLaw
set_option maxRecDepth 100000
set_option maxHeartbeats 32000000
open Go.Lib (hid)
namespace Go.Proofs.YthcjfgfbeollpaaDoor
namespace P11
open Go.RowKit Base Bytes P07 P08 P09
open Sets (ST pc cnt_le)
inductive SlW (w:World):Value→Nat→Prop
 | none:SlW w (.slice none 0 0) 0
 | word (g c x:Nat) (hc:1≤c) (hx:x<18446744073709551616) (hg:Wd w g x):SlW w (.slice (some ⟨g,0,none⟩) 1 c) x
theorem SlW.keep {S:Nat→Prop} {w w':World} {v:Value} {x:Nat} (h:SlW w v x) (q:Keep S w w') (hS:∀ g,v.ownBlock=some g→¬ S g):SlW w' v x:=by
 cases h with
 | none=>exact .none
 | word g c x hc hx hg=>exact .word g c x hc hx (hg.keep q (hS g rfl))
theorem SlW.lt {w:World} {v:Value} {x:Nat} (h:SlW w v x):∀ g,v.ownBlock=some g→g<w.heap.size:=by
 intro g hg
 cases h with
 | none=>cases hg
 | word g' c x hc hx hg' =>
  cases hg
  exact hg'.lt
theorem set_same {cur:Array Value} {o:Nat} {v:Value} (h:cur[o]?=some v):cur.setIfInBounds o v=cur:=by
 apply Array.ext_getElem?
 intro i;rw [Array.getElem?_setIfInBounds]
 by_cases e:o=i
 ·subst e
  have:=(Array.getElem?_eq_some_iff.1 h).1;rw [if_pos rfl,if_pos this,h]
 ·rw [if_neg e]
theorem widen_word (b o:Nat) (t:TypeId) (cur:Array Value) (g c:Nat) (w:World) (hA:At w b t cur) (h0:cur[o]?=some (.int .i64 0)) (h1:cur[o+1]?=some (.slice (some ⟨g,0,none⟩) 1 c)) :
  Calls Tryd.prog 43 #[.pointer (some ⟨b,o,none⟩),.int .i64 0,.int .i64 1] w fun e w'=>e=.returned (.tuple #[])∧Keep (fun _=>False) w w':=by
 have HN:=hid (fun W=>none_any (some ⟨g,0,none⟩) 1 c (b:=false) rfl W)
 have c0:=hA.cell h0;have c1:=hA.cell h1;have HA:=hid hA;have f0:=hA.frozen o;clear hA
 go_enter Tryd.func43,Tryd.ntmps43
 go_wp2_with fail;refine (HN.out _).mono ?_;rintro e w1 ⟨rfl,q1⟩;have H1:=hid (And.intro (HA.out.keep q1 (fun h=>h)) q1)
 clear q1 c0 c1 f0;have c0:=H1.out.1.cell h0;have c1:=H1.out.1.cell h1;go_wp2_with fail
 go_quiet (fail)
 go_wp2_with fail
 go_end0
 exact ⟨rfl,H1.out.2.drewN _⟩
theorem grow_one (w:World) (ty:TypeId):∃ g c w',(Builtin.append_ #[46,3] ty #[.slice none 0 0,.int .i64 1]).run Tryd.prog w=.ok (.slice (some ⟨g,0,none⟩) 1 c) w'∧w.heap.size≤g∧1≤c∧Wd w' g 0∧Keep (fun _=>False) w w':=by
 obtain ⟨i0,hi,hz0,hz1,hz2⟩:=info_parts infoU;have hr:=Lib.run_append_nil_zeros (P:=Tryd.prog) w 46 3 ty 22 i0 (.int .u64 0) .i64 .i64 Tryd.underlying46 Tryd.underlying3 hi hz0 1 (by omega) (by rw [hz1];omega) (by omega) (by rw [hz2];omega)
 have hzc:∀ m,(Builtin.zeroCells (Value.int .u64 0).cells m)=Array.replicate m (.int .u64 0):=fun m=>by
  apply Array.ext
  ·simp [Builtin.zeroCells,Value.cells]
  ·intro i h1 h2
   simp [Builtin.zeroCells,Value.cells,Nat.mod_one]
 rw [hzc,hzc] at hr;have hge:=grownCap_ge w 1 0 22;generalize grownCap w 1 0 22=cap at *;refine ⟨_,_,_,hr,Nat.le_refl _,hge,⟨_,At.new w.drew _ _,?_⟩,((Keep.refl _ w).drew).alloc _⟩;rw [Array.getElem?_append_left (by simp)]
 rfl
theorem wpList_grow_one {w:World} {ops:Array Oper} {rest:List Oper} {o:Oper} {a:Act} {Q:Exit→Act→World→Prop} (hgd:o.guard=none) (s x:Operand)
  (ho:o.op=.call { callee:=.builtin .append,args:=#[s,x],argTypes:=#[46,3] }) (hs:a.eval s=.slice none 0 0) (hx:a.eval x=.int .i64 1)
  (h:∀ g c w',w.heap.size≤g→1≤c→Wd w' g 0→Keep (fun _=>False) w w'→wpList Tryd.prog ops Q rest (a.put o.dst (.slice (some ⟨g,0,none⟩) 1 c)) w'):wpList Tryd.prog ops Q (o::rest) a w:=by
 obtain ⟨g,c,w',hr,h1,h2,h3,h4⟩:=grow_one w o.type;exact Lib.wpList_append_run w hgd s x _ _ ho _ _ hs hx _ _ hr (h g c w' h1 h2 h3 h4)
theorem widen_none (b o:Nat) (t:TypeId) (cur:Array Value) (w:World) (hA:At w b t cur) (h0:cur[o]?=some (.int .i64 0)) (h1:cur[o+1]?=some (.slice none 0 0)) :
  Calls Tryd.prog 43 #[.pointer (some ⟨b,o,none⟩),.int .i64 0,.int .i64 1] w fun e w'=>∃ g c,e=.returned (.tuple #[])∧At w' b t (cur.setIfInBounds (o+1) (.slice (some ⟨g,0,none⟩) 1 c))∧1≤c∧Wd w' g 0∧w.heap.size≤g∧Keep (fun k=>k=b) w w':=by
 have HN:=hid (fun W=>none_any none 0 0 (b:=true) rfl W)
 have c0:=hA.cell h0;have c1:=hA.cell h1;have HA:=hid hA;have f0:=hA.frozen o;clear hA
 go_enter Tryd.func43,Tryd.ntmps43
 go_wp2_with fail;refine (HN.out _).mono ?_;rintro e w1 ⟨rfl,q1⟩;have hs:=(HA.out.keep q1 (fun h=>h)).set o (.int .i64 0)
 rw [set_same h0] at hs;have qs:=(q1.mono (T:=fun k=>k=b) (fun _ h=>h.elim)).setCell (p:=⟨b,o,none⟩) (fun _=>rfl) (.int .i64 0)
 have H1:=hid (And.intro hs qs);have f1:=(HA.out.keep q1 (fun h=>h)).frozen o
 have c2:=(HA.out.keep q1 (fun h=>h)).cell h0
 clear q1 c0 c1 f0 hs qs;go_upto_region 2 with fail;generalize (w1.setCell ⟨b,o,none⟩ (.int .i64 0))=W at *;clear f1 c2;have c0:=H1.out.1.cell h0;have c1:=H1.out.1.cell h1;have f1:=H1.out.1.frozen (o+1);go_wp2_with fail
 go_quiet (fail)
 go_wp2_with (at_builtin;refine wpList_grow_one rfl _ _ rfl rfl rfl ?_;rintro g c w2 hg hc hw q;have f2:=((H1.out.1.drewN _).keep q (fun h=>h)).frozen (o+1);have HW:=hid (And.intro hg (And.intro hc (And.intro hw (And.intro ((H1.out.1.drewN _).keep q (fun h=>h)) (And.intro ((H1.out.2.drewN _).trans (q.mono (fun _ h=>h.elim))) (And.intro (((H1.out.1.drewN _).keep q (fun h=>h)).cell h1) H1.out.2.size))))));have c2:=HW.out.2.2.2.2.2.1;clear hg hc hw q)
 have hgb:b<g:=by
  have h2:=H1.out.1.lt;have h3:W.heap.size≤g:=HW.out.1;omega
 have ha:=HW.out.2.2.2.1.set (o+1) (.slice (some ⟨g,0,none⟩) 1 c);have qa:=HW.out.2.2.2.2.1.setCell (p:=⟨b,o+1,none⟩) (fun _=>rfl) (.slice (some ⟨g,0,none⟩) 1 c)
 have hwd:=HW.out.2.2.1.keep ((Keep.refl (fun k=>k=b) w2).setCell (p:=⟨b,o+1,none⟩) (fun _=>rfl) (.slice (some ⟨g,0,none⟩) 1 c)) (by omega)
 have hsz:w.heap.size≤g:=by
  have h2:=HW.out.2.2.2.2.2.2;have h3:W.heap.size≤g:=HW.out.1;omega
 go_end0
 exact ⟨g,c,rfl,ha,HW.out.2.1,hwd,hsz,qa⟩
theorem pc_small (x:Nat):(pc x:Int)≤64:=by
 have:=cnt_le x.testBit 64;unfold pc;omega
def Added (w:World) (b o:Nat) (t:TypeId) (cur:Array Value) (sl:Value) (z:Nat) (e:Ending) (w':World):Prop :=
 ∃ (k:Int) (sl':Value),e=.returned (.int .i64 k)∧At w' b t (cur.setIfInBounds (o+1) sl')∧SlW w' sl' z∧(z=0→sl'=sl)∧(∀ g,sl'.ownBlock=some g→sl.ownBlock=some g∨w.heap.size≤g)∧Keep (fun k=>k=b∨sl.ownBlock=some k) w w'
theorem add_zero (b o:Nat) (t:TypeId) (cur:Array Value) (sl:Value) (x:Nat) (w:World) (hA:At w b t cur) (hc1:cur[o+1]?=some sl) (hs:SlW w sl x) :
  Calls Tryd.prog 34 #[.pointer (some ⟨b,o,none⟩),plV none 0 0] w (Added w b o t cur sl x):=by
 have HN:=hid (fun W=>none_any none 0 0 (b:=true) rfl W)
 have a1:=At.new w (plC none 0 0) 48;have q:=(Keep.refl (fun _=>False) w).alloc (.cells (plC none 0 0) 48)
 obtain ⟨⟨c0,c1⟩,-⟩:=cells2 a1;have H0:=hid (And.intro hA (And.intro hs q));clear hA hs a1 q
 go_enter Tryd.func34,Tryd.ntmps34
 go_upto_region 1 with fail;generalize (w.alloc (.cells (plC none 0 0) 48))=W at *;go_wp2_with fail;refine (HN.out _).mono ?_;rintro e w1 ⟨rfl,q1⟩;have H1:=hid (H0.out.2.2.trans q1);clear q1 c0 c1;go_wp2_with fail;go_ret;refine ⟨0,sl,rfl,?_,H0.out.2.1.keep H1.out (fun _ _ h=>h),fun _=>rfl,fun g hg=>.inl hg,H1.out.mono (fun _ h=>h.elim)⟩
 rw [set_same hc1];exact H0.out.1.keep H1.out (fun h=>h)
theorem add_word (b o:Nat) (t:TypeId) (cur:Array Value) (sl:Value) (x m g1 c1:Nat) (w:World) (hA:At w b t cur) (ht:t≠22) (hc0:cur[o]?=some (.int .i64 0)) (hc1:cur[o+1]?=some sl) (hs:SlW w sl x)
  (h0m:m≠0) (hm:m<2305843009213693952) (hg1:Wd w g1 m) (hne:sl.ownBlock≠some g1) :
  Calls Tryd.prog 34 #[.pointer (some ⟨b,o,none⟩),plV (some ⟨g1,0,none⟩) 1 c1] w (Added w b o t cur sl (x ||| m)):=by
 have HN:=hid (fun W=>none_any (some ⟨g1,0,none⟩) 1 c1 (b:=false) rfl W)
 have a1:=At.new w (plC (some ⟨g1,0,none⟩) 1 c1) 48;have q:=(Keep.refl (fun _=>False) w).alloc (.cells (plC (some ⟨g1,0,none⟩) 1 c1) 48)
 obtain ⟨⟨d0,d1⟩,-⟩:=cells2 a1;have HWd:RowKit.Hid (∀ W,Keep (fun _=>False) w W→Calls Tryd.prog 43 #[.pointer (some ⟨b,o,none⟩),.int .i64 0,.int .i64 1] W fun e w'=>∃ g c,e=.returned (.tuple #[])∧At w' b t (cur.setIfInBounds (o+1) (.slice (some ⟨g,0,none⟩) 1 c))∧1≤c∧Wd w' g x∧(sl.ownBlock=some g∨w.heap.size≤g)∧Keep (fun k=>k=b) W w'):=by
  refine hid (fun W qW=>?_)
  cases hs with
  | none =>
   refine (widen_none b o t cur W (hA.keep qW (fun h=>h)) hc0 hc1).mono ?_
   rintro e w' ⟨g,c,rfl,h1,h2,h3,h4,h5⟩;exact ⟨g,c,rfl,h1,h2,h3,.inr (Nat.le_trans qW.size h4),h5⟩
  | word g c _ hc hx hg =>
   refine (widen_word b o t cur g c W (hA.keep qW (fun h=>h)) hc0 hc1).mono ?_
   rintro e w' ⟨rfl,h5⟩;refine ⟨g,c,rfl,?_,hc,hg.keep (qW.trans h5) (fun h=>h),.inl rfl,h5.mono (fun _ h=>h.elim)⟩
   rw [set_same hc1];exact hA.keep (qW.trans h5) (fun h=>h)
 have hxlt:x<18446744073709551616:=by
  cases hs with
  | none=>omega
  | word g c _ hc hx hg=>exact hx
 have hor:=u64_or_nat x m hxlt (by omega)
 have han:=u64_andNot_nat m x (by omega) hxlt
 have hpl:m &&& (18446744073709551615 - x)<18446744073709551616:=Nat.lt_of_le_of_lt Nat.and_le_left (by omega)
 have hz0:x ||| m≠0:=fun e=>by
  obtain ⟨j,hj⟩:=Nat.exists_testBit_of_ne_zero h0m;have h:=congrArg (fun y=>Nat.testBit y j) e
  simp only [Nat.testBit_or,hj,Bool.or_true,Nat.zero_testBit] at h
  cases h
 have hzl:x ||| m<18446744073709551616:=Nat.or_lt_two_pow (n:=64) hxlt (by omega)
 generalize m &&& (18446744073709551615 - x)=p at *;have HP:=hid (fun W:World=>ones_any p hpl W)
 have hpc:=pc_small p;generalize pc p=pn at *;generalize x ||| m=z at *
 have hoc:o+1<cur.size:=(Array.getElem?_eq_some_iff.1 hc1).1;have H0:=hid (And.intro hA (And.intro hs (And.intro q (And.intro a1 (And.intro hg1 (And.intro hzl (And.intro hne (And.intro hoc hz0))))))));clear hA hs a1 q hg1 hpl hne hzl hxlt hoc hz0 h0m
 go_enter Tryd.func34,Tryd.ntmps34
 go_upto_region 1 with fail;generalize (w.alloc (.cells (plC (some ⟨g1,0,none⟩) 1 c1) 48))=W at *;go_wp2_with fail;refine (HN.out _).mono ?_;rintro e w1 ⟨rfl,q1⟩;have H1:=hid (And.intro (H0.out.2.2.2.1.keep q1 (fun h=>h)) (H0.out.2.2.1.trans q1))
 clear q1 d0 d1;obtain ⟨⟨d0,d1⟩,-⟩:=cells2 H1.out.1;go_wp2_with fail;refine (HWd.out _ H1.out.2).mono ?_;rintro e w2 ⟨g,c,rfl,hA2,hc,hw,hgo,q2⟩;have hb1:b<w.heap.size:=H0.out.1.lt;have hg1w:g1<w.heap.size:=H0.out.2.2.2.2.1.lt;have hwW:=H1.out.2.size;have hB2:=H1.out.1.keep q2 (by omega)
 have hgb:g≠b:=hw.ne hA2 ht;have hg1b:g1≠b:=H0.out.2.2.2.2.1.ne H0.out.1 ht;have hgg:g≠g1:=by
  rcases hgo with h | h
  ·intro e
   subst e;exact H0.out.2.2.2.2.2.2.1 h
  ·omega
 have hgt:g≠w.heap.size:=by
  have:=hw.ne hB2 (by decide)
  exact this
 have hG2:=(H0.out.2.2.2.2.1.keep H1.out.2 (fun h=>h)).keep q2 hg1b
 have k1:=hG2.cell;clear d0 d1;obtain ⟨⟨d0,d1⟩,-⟩:=cells2 hB2;have kw:=hw.cell;have kf:=hw.frozen;have e0:w2.cell? ⟨b,o,none⟩=some (.int .i64 0):=hA2.cell (by rw [Array.getElem?_setIfInBounds,if_neg (by omega)];exact hc0)
 have e1:w2.cell? ⟨b,o+1,none⟩=some (.slice (some ⟨g,0,none⟩) 1 c):=hA2.cell (by rw [Array.getElem?_setIfInBounds,if_pos rfl,if_pos H0.out.2.2.2.2.2.2.2.1])
 have H2:=hid (And.intro hA2 (And.intro hw (And.intro hgo (And.intro q2 (And.intro hgb (And.intro hgg (And.intro hgt (And.intro hc hB2))))))));clear hA2 hw hgo q2 hgb hgg hgt hB2 hG2 hg1b;go_wp2_with fail
 go_loopg [5,24] 1 (fun gg u v wr=>(gg=1∧u=.int .i64 0∧v=.int .i64 0∧w2=wr)∨(gg=0∧u=.int .i64 (pn:Int)∧v=.int .i64 1∧Wd wr g z∧Keep (fun b=>b=g) w2 wr))
 case atStart=>exact .inl ⟨rfl,rfl,rfl,rfl⟩
 case round =>
  rcases hrel with ⟨rfl,rfl,rfl,rfl⟩ | ⟨rfl,rfl,rfl,hwz,qz⟩
  ·go_wp2_with fail
   go_quiet (fail)
   go_wp2_with fail;refine (HP.out _).mono ?_;rintro e w3 ⟨rfl,rfl⟩;go_wp2_with fail;have hs:=fun n=>(show Wd (w2.drewN n) g x from H2.out.2.1).set z
   have qs:=fun n=>((Keep.refl (fun b=>b=g) w2).drewN n).setCell (p:=⟨g,0,none⟩) (fun _=>rfl) (.int .u64 (z:Int))
   have HS2:=hid (And.intro hs qs);clear hs qs
   go_roundg 0
   case measure=>omega
   case rel=>exact .inr ⟨rfl,by go_num,rfl,HS2.out.1 _,HS2.out.2 _⟩
  ·have hB3:=H2.out.2.2.2.2.2.2.2.2.keep qz (fun h=>H2.out.2.2.2.2.2.2.1 h.symm)
   have HZ:=hid (And.intro hwz qz);clear d0 d1 k1 kw kf e0 e1 hwz qz;obtain ⟨⟨d0,d1⟩,-⟩:=cells2 hB3;clear hB3;go_wp2_with fail;go_ret;have hgo:=H2.out.2.2.1;refine ⟨pn,.slice (some ⟨g,0,none⟩) 1 c,rfl,H2.out.1.keep HZ.out.2 (fun h=>H2.out.2.2.2.2.1 h.symm),.word _ _ _ H2.out.2.2.2.2.2.2.2.1 H0.out.2.2.2.2.2.1 HZ.out.1,fun e=>absurd e H0.out.2.2.2.2.2.2.2.2,fun k hk=>?_,?_⟩
   ·cases hk
    exact hgo
   ·refine ((H1.out.2.mono (T:=fun k=>k=b∨sl.ownBlock=some k) (fun _ h=>h.elim)).next H2.out.2.2.2.1 (fun i hi _=>.inl hi)).next HZ.out.2 (fun i hi hl=>?_)
    have hi:i=g:=hi;subst hi
    rcases hgo with h | h
    ·exact .inr h
    ·omega
theorem add_any (b o:Nat) (t:TypeId) (cur:Array Value) (sl:Value) (x m:Nat) (ok:Nat→Prop) (a:Option Addr) (n c:Nat) (w:World) (hA:At w b t cur) (ht:t≠22) (hc0:cur[o]?=some (.int .i64 0)) (hc1:cur[o+1]?=some sl) (hs:SlW w sl x)
  (hy:PlW w ok m a n c) (hne:∀ g,ok g→g<w.heap.size→sl.ownBlock≠some g) :
  Calls Tryd.prog 34 #[.pointer (some ⟨b,o,none⟩),plV a n c] w (Added w b o t cur sl (x ||| m)):=by
 cases hy with
 | none =>
  rw [Nat.or_zero];exact add_zero b o t cur sl x w hA hc1 hs
 | word _ g c h0 hm hc hg ho=>exact add_word b o t cur sl x m g c w hA ht hc0 hc1 hs h0 hm hg (hne g ho hg.lt)
end P11
end Go.Proofs.YthcjfgfbeollpaaDoor
