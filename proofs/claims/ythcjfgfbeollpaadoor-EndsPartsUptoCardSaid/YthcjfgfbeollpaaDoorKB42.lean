/- Layer 11, the code: without. -/
import Derived.Test.YthcjfgfbeollpaaDoorKB40
import Derived.Laws.BitsAllLaws
set_option maxRecDepth 100000
set_option maxHeartbeats 32000000
open Go.Lib (hid)
namespace Go.Proofs.YthcjfgfbeollpaaDoor
namespace P11
open Go.RowKit Base Bytes P07 P08 P09
open Sets (ST)
theorem trimmed_none (w:World):Calls Tryd.prog 42 #[.int .i64 0,.slice none 0 0] w fun e w'=>e=.returned (plV none 0 0)∧Keep (fun _=>False) w w':=by
 have q:=(Keep.refl (fun _=>False) w).alloc (.cells plZ 48)
 have hz:=At.new w plZ 48;have HH:=hid (And.intro hz q);clear hz q
 go_enter Tryd.func42,Tryd.ntmps42
 go_upto_region 1 with fail;generalize (w.alloc (.cells plZ 48))=W at *
 go_loopg [1] 0 (fun gg v wr=>v=.slice none 0 0∧W=wr)
 case atStart=>exact ⟨rfl,rfl⟩
 case round =>
  obtain ⟨rfl,rfl⟩:=hrel;go_wp2_with fail
  go_loopg [0,1] 0 (fun gg u v wr=>u=.int .i64 0∧v=.slice none 0 0∧W=wr)
  case atStart=>exact ⟨rfl,rfl,rfl⟩
  case round =>
   obtain ⟨rfl,rfl,rfl⟩:=hrel;obtain ⟨⟨c0,c1⟩,f0,f1⟩:=cells2 HH.out.1;go_wp2_with fail
   change bodyPost _ _ _ _ _ (put2 W w.heap.size (.int .i64 0) (.slice none 0 0))
   have a:=set2 HH.out.1 (.int .i64 0) (.slice none 0 0);have qq:=keep2 HH.out.2 (b:=w.heap.size) (fun h=>absurd h (Nat.lt_irrefl _)) (.int .i64 0) (.slice none 0 0)
   generalize (put2 W w.heap.size (.int .i64 0) (.slice none 0 0))=W9 at *;obtain ⟨⟨d0,d1⟩,-⟩:=cells2 a;exact bodyPost_ret (v:=plV none 0 0) (by simp [results,Tryd.results42,go_sem,d0,d1]) rfl ⟨rfl,qq⟩
theorem wout_zero (y:Nat):wout 0 y=0:=Nat.zero_and _
theorem wout_none {x:Nat} (hx:x<2305843009213693952):wout x 0=x:=bit_ext fun j=>by
 rw [wout_bit (by omega) (by omega),Nat.zero_testBit]
 simp
theorem wout_lt {x:Nat} (hx:x<2305843009213693952) (y:Nat):wout x y<2305843009213693952:=Nat.lt_of_le_of_lt Nat.and_le_left hx
theorem without_any (x y:Nat) (okx oky:Nat→Prop) (a1 a2:Option Addr) (n1 c1 n2 c2:Nat) (w:World) (h1:PlW w okx x a1 n1 c1) (h2:PlW w oky y a2 n2 c2) :
  Calls Tryd.prog 49 #[plV a1 n1 c1,plV a2 n2 c2] w fun e w'=>∃ a n c,e=.returned (plV a n c)∧PlW w' (fun g=>w.heap.size≤g) (wout x y) a n c∧Keep (fun _=>False) w w':=by
 have b1:=((At.new w (plC a1 n1 c1) 48).alloc (.cells (plC a2 n2 c2) 48)).alloc (.cells plZ 48);have b2:=(At.new (w.alloc (.cells (plC a1 n1 c1) 48)) (plC a2 n2 c2) 48).alloc (.cells plZ 48);have b3:=At.new ((w.alloc (.cells (plC a1 n1 c1) 48)).alloc (.cells (plC a2 n2 c2) 48)) plZ 48;have q:=(((Keep.refl (fun _=>False) w).alloc (.cells (plC a1 n1 c1) 48)).alloc (.cells (plC a2 n2 c2) 48)).alloc (.cells plZ 48)
 rw [show (w.alloc (.cells (plC a1 n1 c1) 48)).heap.size=w.heap.size+1 from by simp] at b2
 rw [show ((w.alloc (.cells (plC a1 n1 c1) 48)).alloc (.cells (plC a2 n2 c2) 48)).heap.size=w.heap.size+2 from by simp] at b3
 have h1':=h1.keepF q;have h2':=h2.keepF q;have H0:=hid (And.intro b1 (And.intro b2 (And.intro b3 q)));obtain ⟨⟨d0,d1⟩,-⟩:=cells2 b1;obtain ⟨⟨d2,d3⟩,-⟩:=cells2 b2;clear b1 b2 b3 q h2;have hx:=h1.lt;have hy:=h2'.lt
 cases h1 with
 | none =>
  have HC:=hid (fun W=>clone_none W)
  have HT:=hid (fun W=>trimmed_none W)
  have hn2:=h2'.len;have hmin:min (0:Int) n2=0:=by omega
  rw [wout_zero];clear h1' h2' hx hy
  go_enter Tryd.func49,Tryd.ntmps49
  go_upto_region 1 with fail;generalize (((w.alloc (.cells (plC none 0 0) 48)).alloc (.cells (plC a2 n2 c2) 48)).alloc (.cells plZ 48))=W at *;go_wp2_with fail;refine (HC.out _).mono ?_;rintro e w1 ⟨rfl,q1⟩;have H1:=hid (And.intro (H0.out.1.keep q1 (fun h=>h)) (And.intro (H0.out.2.1.keep q1 (fun h=>h)) (And.intro (H0.out.2.2.1.keep q1 (fun h=>h)) (H0.out.2.2.2.trans q1))))
  clear q1 d0 d1 d2 d3 HC;obtain ⟨⟨d0,d1⟩,-⟩:=cells2 H1.out.1;obtain ⟨⟨d2,d3⟩,-⟩:=cells2 H1.out.2.1;go_wp2_with fail
  go_loopg [6] 0 (fun gg u wr=>u=.int .i64 0∧w1=wr)
  case atStart=>exact ⟨rfl,rfl⟩
  case round =>
   obtain ⟨rfl,rfl⟩:=hrel;go_wp2_with fail;refine (HT.out _).mono ?_;rintro e w3 ⟨rfl,q3⟩;have H3:=hid (And.intro (H1.out.2.2.1.keep q3 (fun h=>h)) (H1.out.2.2.2.trans q3))
   clear q3 d0 d1 d2 d3 HT;obtain ⟨⟨c0,c1'⟩,f0,f1⟩:=cells2 H3.out.1;go_wp2_with fail
   change bodyPost _ _ _ _ _ (put2 w3 (w.heap.size+2) (.int .i64 0) (.slice none 0 0))
   have a:=set2 H3.out.1 (.int .i64 0) (.slice none 0 0);have qq:=keep2 H3.out.2 (b:=w.heap.size+2) (fun h=>absurd h (by omega)) (.int .i64 0) (.slice none 0 0)
   generalize (put2 w3 (w.heap.size+2) (.int .i64 0) (.slice none 0 0))=W9 at *;obtain ⟨⟨e0,e1⟩,-⟩:=cells2 a;exact bodyPost_ret (v:=plV none 0 0) (by simp [results,Tryd.results49,go_sem,e0,e1]) rfl ⟨_,_,_,rfl,.none,qq⟩
 | word _ g1 _ h0 hm hc hg ho =>
  cases h2' with
  | none =>
   rw [wout_none hx]
   cases h1' with
   | word _ _ _ _ _ _ hg1 _ =>
    have HC:=hid (fun W (h:Wd W g1 x)=>clone_word g1 x c1 W h)
    have HT:=hid (fun (g c:Nat) (cur:Array Value) (W:World) (hA:At W g 22 cur) (h:cur[0]?=some (.int .u64 ((x:Nat):Int))) (hc:1≤c)=>trimmed_any g 1 c (x) cur W hA h (.inl rfl) hx hc)
    have HG:=hid (And.intro hg1 trivial);have HX:=hid (And.intro hx hy);clear hg1 hx hy hg ho
    go_enter Tryd.func49,Tryd.ntmps49
    go_upto_region 1 with fail;generalize (((w.alloc (.cells (plC (some ⟨g1,0,none⟩) 1 c1) 48)).alloc (.cells (plC none 0 0) 48)).alloc (.cells plZ 48))=W at *;go_wp2_with fail;refine (HC.out _ HG.out.1).mono ?_;rintro e w1 ⟨g',c',rfl,hg',hc',hwd,q1⟩;have H1:=hid (And.intro (H0.out.1.keep q1 (fun h=>h)) (And.intro (H0.out.2.1.keep q1 (fun h=>h)) (And.intro (H0.out.2.2.1.keep q1 (fun h=>h)) (And.intro (H0.out.2.2.2.trans q1) (And.intro hg' hc')))))
    have k1:=hwd.cell;have kf:=hwd.frozen;have HW:=hid hwd;have hm1:1≤c':=hc';have HS:=hid H0.out.2.2.2.size;clear q1 d0 d1 d2 d3 HC hg' hc' hwd;obtain ⟨⟨d0,d1⟩,-⟩:=cells2 H1.out.1;obtain ⟨⟨d2,d3⟩,-⟩:=cells2 H1.out.2.1;go_wp2_with fail
    go_loopg [6] 0 (fun gg u wr=>u=.int .i64 0∧w1=wr)
    case atStart=>exact ⟨rfl,rfl⟩
    case round =>
     obtain ⟨rfl,rfl⟩:=hrel;obtain ⟨cur,hA,hcur⟩:=HW.out;have HB:=hid (And.intro H1.out.2.2.1 (And.intro H1.out.2.2.2.1 (show w.heap.size+2<g' by have:=H1.out.2.2.2.2.1;have:=H0.out.2.2.1.lt;omega)))
     go_wp2_with fail;refine (HT.out _ _ _ _ hA hcur hm1).mono ?_;rintro e w3 ⟨a3,n3,c3,rfl,hp3,q3⟩;have H3:=hid (And.intro (HB.out.1.keep q3 (fun h=>h)) (And.intro (HB.out.2.1.trans q3) (And.intro hp3 HB.out.2.2)))
     clear q3 hp3 d0 d1 d2 d3 HT hA hcur;obtain ⟨⟨c0,c1'⟩,f0,f1⟩:=cells2 H3.out.1;go_wp2_with fail
     change bodyPost _ _ _ _ _ (put2 w3 (w.heap.size+2) (.int .i64 0) (.slice a3 n3 c3))
     have a:=set2 H3.out.1 (.int .i64 0) (.slice a3 n3 c3);have qq:=keep2 H3.out.2.1 (b:=w.heap.size+2) (fun h=>absurd h (by omega)) (.int .i64 0) (.slice a3 n3 c3)
     have hp:=H3.out.2.2.1.keep (keep2 (Keep.refl (fun b=>b=w.heap.size+2) w3) (b:=w.heap.size+2) (fun _=>rfl) (.int .i64 0) (.slice a3 n3 c3)) (fun g hg _ h=>by have:=H3.out.2.2.2;omega)
     generalize (put2 w3 (w.heap.size+2) (.int .i64 0) (.slice a3 n3 c3))=W9 at *;obtain ⟨⟨e0,e1⟩,-⟩:=cells2 a;exact bodyPost_ret (v:=plV a3 n3 c3) (by simp [results,Tryd.results49,go_sem,e0,e1]) rfl ⟨_,_,_,rfl,hp.mono (fun g hg _=>by have:=H3.out.2.2.2;omega),qq⟩
  | word _ g2 _ h0' hm' hc2 hg2 ho' =>
   cases h1' with
   | word _ _ _ _ _ _ hg1 _ =>
    have HC:=hid (fun W (h:Wd W g1 x)=>clone_word g1 x c1 W h)
    have HT:=hid (fun (g c:Nat) (cur:Array Value) (W:World) (hA:At W g 22 cur) (h:cur[0]?=some (.int .u64 ((wout x y:Nat):Int))) (hc:1≤c)=>trimmed_any g 1 c (wout x y) cur W hA h (.inl rfl) (wout_lt hx y) hc)
    have han:=u64_andNot_nat x y (by omega) (by omega)
    rw [show x &&& (18446744073709551615 - y)=wout x y from rfl] at han
    generalize wout x y=z at *;have HG:=hid (And.intro hg1 hg2);have HX:=hid (And.intro hx hy);clear hg1 hx hy hg ho hg2
    go_enter Tryd.func49,Tryd.ntmps49
    go_upto_region 1 with fail;generalize (((w.alloc (.cells (plC (some ⟨g1,0,none⟩) 1 c1) 48)).alloc (.cells (plC (some ⟨g2,0,none⟩) 1 c2) 48)).alloc (.cells plZ 48))=W at *;go_wp2_with fail;refine (HC.out _ HG.out.1).mono ?_;rintro e w1 ⟨g',c',rfl,hg',hc',hwd,q1⟩;have H1:=hid (And.intro (H0.out.1.keep q1 (fun h=>h)) (And.intro (H0.out.2.1.keep q1 (fun h=>h)) (And.intro (H0.out.2.2.1.keep q1 (fun h=>h)) (And.intro (H0.out.2.2.2.trans q1) (And.intro hg' hc')))))
    have k2:=(HG.out.2.keep q1 (fun h=>h)).cell
    have k1:=hwd.cell;have kf:=hwd.frozen;have HW:=hid hwd;have hm1:1≤c':=hc';have HS:=hid H0.out.2.2.2.size;clear q1 d0 d1 d2 d3 HC hg' hc' hwd;obtain ⟨⟨d0,d1⟩,-⟩:=cells2 H1.out.1;obtain ⟨⟨d2,d3⟩,-⟩:=cells2 H1.out.2.1;go_wp2_with fail
    go_loopg [6] 1 (fun gg u wr=>(gg=1∧u=.int .i64 0∧w1=wr)∨(gg=0∧u=.int .i64 1∧Wd wr g' z∧Keep (fun b=>b=g') w1 wr))
    case atStart=>exact .inl ⟨rfl,rfl,rfl⟩
    case round =>
     rcases hrel with ⟨rfl,rfl,rfl⟩ | ⟨rfl,rfl,hwz,qz⟩
     ·go_wp2_with fail
      go_region
      all_goals
       have hs:=HW.out.set z;have qs:=(Keep.refl (fun b=>b=g') w1).setCell (p:=⟨g',0,none⟩) (fun _=>rfl) (.int .u64 (z:Int))
       have HS2:=hid (And.intro hs qs);clear hs qs;generalize (w1.setCell ⟨g',0,none⟩ (.int .u64 (z:Int)))=W5 at *;go_wp2_with fail
       go_roundg 0
       case measure=>omega
       case rel=>exact .inr ⟨rfl,rfl,(show Wd W5.drew g' z from HS2.out.1),HS2.out.2.drew⟩
     ·obtain ⟨cur,hA,hcur⟩:=hwz
      have hbg:w.heap.size+2<g':=by
       have:=H1.out.2.2.2.2.1;have:=H0.out.2.2.1.lt;omega
      have HB:=hid (And.intro (H1.out.2.2.1.keep qz (by omega)) (And.intro (H1.out.1.keep qz (by omega)) (And.intro (H1.out.2.2.2.1.next qz (fun i hi hl=>by omega)) hbg)))
      obtain ⟨⟨d0,d1⟩,-⟩:=cells2 (H1.out.1.keep qz (by omega))
      obtain ⟨⟨d2,d3⟩,-⟩:=cells2 (H1.out.2.1.keep qz (by omega))
      clear qz hbg;go_wp2_with fail;refine (HT.out _ _ _ _ hA hcur hm1).mono ?_;rintro e w3 ⟨a3,n3,c3,rfl,hp3,q3⟩;have H3:=hid (And.intro (HB.out.1.keep q3 (fun h=>h)) (And.intro (HB.out.2.2.1.trans q3) (And.intro hp3 HB.out.2.2.2)))
      clear q3 hp3 d0 d1 d2 d3 HT hA hcur;obtain ⟨⟨c0,c1'⟩,f0,f1⟩:=cells2 H3.out.1;go_wp2_with fail
      change bodyPost _ _ _ _ _ (put2 w3 (w.heap.size+2) (.int .i64 0) (.slice a3 n3 c3))
      have a:=set2 H3.out.1 (.int .i64 0) (.slice a3 n3 c3);have qq:=keep2 H3.out.2.1 (b:=w.heap.size+2) (fun h=>absurd h (by omega)) (.int .i64 0) (.slice a3 n3 c3)
      have hp:=H3.out.2.2.1.keep (keep2 (Keep.refl (fun b=>b=w.heap.size+2) w3) (b:=w.heap.size+2) (fun _=>rfl) (.int .i64 0) (.slice a3 n3 c3)) (fun g hg _ h=>by have:=H3.out.2.2.2;omega)
      generalize (put2 w3 (w.heap.size+2) (.int .i64 0) (.slice a3 n3 c3))=W9 at *;obtain ⟨⟨e0,e1⟩,-⟩:=cells2 a;exact bodyPost_ret (v:=plV a3 n3 c3) (by simp [results,Tryd.results49,go_sem,e0,e1]) rfl ⟨_,_,_,rfl,hp.mono (fun g hg _=>by have:=H3.out.2.2.2;omega),qq⟩
end P11
end Go.Proofs.YthcjfgfbeollpaaDoor
