/- Layer 11, the code: sets of places by value (a word of bits at most, as texts have less than 61 bytes): placeAt, none, trimmed, has, last. -/
import Derived.Test.YthcjfgfbeollpaaDoorKB32
import Derived.Test.YthcjfgfbeollpaaDoorKB12
import Derived.Test.YthcjfgfbeollpaaDoorKB04
import Derived.Maps.AppendAt
import Derived.Lib.AppendZeros
import Derived.Laws.EntriesVeiled
set_option maxRecDepth 100000
set_option maxHeartbeats 32000000
open Go.Lib (hid)
namespace Go.Proofs.YthcjfgfbeollpaaDoor
namespace P11
open Go.RowKit Base Bytes P07 P08 P09
open Sets (ST)
def Wd (w:World) (g x:Nat):Prop:=∃ cur,At w g 22 cur∧cur[0]?=some (.int .u64 x)
theorem Wd.keep {S:Nat→Prop} {w w':World} {g x:Nat} (h:Wd w g x) (q:Keep S w w') (hg:¬ S g):Wd w' g x:=by
 obtain ⟨cur,h1,h2⟩:=h;exact ⟨cur,h1.keep q hg,h2⟩
theorem Wd.lt {w:World} {g x:Nat} (h:Wd w g x):g<w.heap.size:=by
 obtain ⟨cur,h1,h2⟩:=h;exact h1.lt
theorem Wd.cell {w:World} {g x:Nat} (h:Wd w g x):w.cell? ⟨g,0,none⟩=some (.int .u64 x):=by
 obtain ⟨cur,h1,h2⟩:=h;exact h1.cell h2
theorem Wd.frozen {w:World} {g x:Nat} (h:Wd w g x):w.frozen? ⟨g,0,none⟩=false:=by
 obtain ⟨cur,h1,h2⟩:=h;exact h1.frozen 0
theorem Wd.set {w:World} {g x:Nat} (h:Wd w g x) (y:Nat):Wd (w.setCell ⟨g,0,none⟩ (.int .u64 y)) g y:=by
 obtain ⟨cur,h1,h2⟩:=h;refine ⟨_,h1.set 0 _,?_⟩;have:=(Array.getElem?_eq_some_iff.1 h2).1
 simp [this]
theorem Wd.drew {w:World} {g x:Nat} (h:Wd w g x):Wd w.drew g x:=h
theorem Wd.of {w:World} {g x:Nat} {cs:Array Value} (h:At w g 22 cs) (hx:cs[0]?=some (.int .u64 x)):Wd w g x:=⟨cs,h,hx⟩
theorem Wd.ne {w:World} {g x b:Nat} {t:TypeId} {cs:Array Value} (h:Wd w g x) (k:At w b t cs) (ht:t≠22):g≠b:=by
 obtain ⟨cur,h1,-⟩:=h;intro e;subst e;unfold At at h1 k;rw [h1] at k;injection k with k;injection k with _ k;exact ht k.symm
@[reducible] def plV (a:Option Addr) (n c:Nat):Value:=.agg #[.int .i64 0,.slice a n c]
@[reducible] def plC (a:Option Addr) (n c:Nat):Array Value:=#[.int .i64 0,.slice a n c]
inductive PlW (w:World) (ok:Nat→Prop):Nat→Option Addr→Nat→Nat→Prop
 | none:PlW w ok 0 none 0 0
 | word (m g c:Nat) (h0:m≠0) (hm:m<2305843009213693952) (hc:1≤c) (hg:Wd w g m) (ho:ok g):PlW w ok m (some ⟨g,0,none⟩) 1 c
theorem PlW.keep {S:Nat→Prop} {w w':World} {ok:Nat→Prop} {m n c:Nat} {a:Option Addr} (h:PlW w ok m a n c) (q:Keep S w w') (hS:∀ g,ok g→g<w.heap.size→¬ S g):PlW w' ok m a n c:=by
 cases h with
 | none=>exact .none
 | word m g c h0 hm hc hg ho=>exact .word m g c h0 hm hc (hg.keep q (hS g ho hg.lt)) ho
theorem PlW.keepF {w w':World} {ok:Nat→Prop} {m n c:Nat} {a:Option Addr} (h:PlW w ok m a n c) (q:Keep (fun _=>False) w w'):PlW w' ok m a n c:=h.keep q (fun _ _ _ h=>h)
theorem PlW.mono {w:World} {ok ok':Nat→Prop} {m n c:Nat} {a:Option Addr} (h:PlW w ok m a n c) (k:∀ g,ok g→g<w.heap.size→ok' g):PlW w ok' m a n c:=by
 cases h with
 | none=>exact .none
 | word m g c h0 hm hc hg ho=>exact .word m g c h0 hm hc hg (k g ho hg.lt)
theorem PlW.lt {w:World} {ok:Nat→Prop} {m n c:Nat} {a:Option Addr} (h:PlW w ok m a n c):m<2305843009213693952:=by
 cases h with
 | none=>omega
 | word m g c h0 hm hc hg ho=>exact hm
theorem PlW.len {w:World} {ok:Nat→Prop} {m n c:Nat} {a:Option Addr} (h:PlW w ok m a n c):(n=0↔m=0)∧n≤1∧c ≥ n:=by
 cases h with
 | none=>omega
 | word m g c h0 hm hc hg ho=>omega
theorem cells2 {w:World} {b:Nat} {t:TypeId} {y0 y1:Value} (h:At w b t #[y0,y1]) :
  (w.cell? ⟨b,0,none⟩=some y0∧w.cell? ⟨b,1,none⟩=some y1)∧(w.frozen? ⟨b,0,none⟩=false∧w.frozen? ⟨b,1,none⟩=false) :=
 ⟨⟨h.cell rfl,h.cell rfl⟩,h.frozen 0,h.frozen 1⟩
def put2 (w:World) (b:Nat) (v0 v1:Value):World:=(w.setCell ⟨b,0,none⟩ v0).setCell ⟨b,1,none⟩ v1
theorem set2 {w:World} {b:Nat} {t:TypeId} {y0 y1:Value} (h:At w b t #[y0,y1]) (v0 v1:Value):At (put2 w b v0 v1) b t #[v0,v1]:=(h.set 0 v0).set 1 v1
theorem keep2 {S:Nat→Prop} {a w:World} (h:Keep S a w) {b:Nat} (hp:b<a.heap.size→S b) (v0 v1:Value):Keep S a (put2 w b v0 v1) :=
 (h.setCell (p:=⟨b,0,none⟩) hp v0).setCell (p:=⟨b,1,none⟩) hp v1
@[reducible] def plZ:Array Value:=#[.int .i64 0,.slice none 0 0]
theorem none_any (a:Option Addr) (n c:Nat) {b:Bool} (hb:decide (n=0)=b) (w:World):Calls Tryd.prog 29 #[plV a n c] w fun e w'=>e=.returned (.bool b)∧Keep (fun _=>False) w w':=by
 have a1:=At.new w (plC a n c) 48;have q:=(Keep.refl (fun _=>False) w).alloc (.cells (plC a n c) 48)
 have hd:(((n:Int) == 0):Bool)=b:=by
  rw [← hb]
  by_cases h:n=0 <;> simp [h]
 have H0:=hid (And.intro q hd);obtain ⟨⟨c0,c1⟩,-⟩:=cells2 a1;clear a1 q hd hb
 go_enter Tryd.func29,Tryd.ntmps29
 go_upto_region 1 with fail;generalize (w.alloc (.cells (plC a n c) 48))=W at *;go_wp2_with fail;go_ret;exact ⟨Bytes.ret_bool H0.out.2,H0.out.1⟩
theorem shl_one:∀ p,p<61→IntKind.u64.wrap ((2:Int) ^ p)=((2 ^ p:Nat):Int):=by decide +kernel
theorem placeAt_any (p:Nat) (hp:p≤60) (w:World):Calls Tryd.prog 26 #[.int .i64 p] w fun e w'=>∃ a n c,e=.returned (plV a n c)∧PlW w' (fun g=>w.heap.size≤g) (2 ^ p) a n c∧Keep (fun _=>False) w w':=by
 go_enter Tryd.func26,Tryd.ntmps26
 go_upto_region 1 with fail;go_wp2_with fail;have e1:((p:Int) / 64)=0:=by omega
 have e2:p % 64=p:=by omega
 rw [e1,e2,shl_one p (by omega)]
 have a1:=(At.new w (plC (some ⟨w.heap.size+1,0,none⟩) 1 1) 48).alloc (.cells #[.int .u64 ((2 ^ p:Nat):Int)] 22);have a2:=At.new (w.alloc (.cells (plC (some ⟨w.heap.size+1,0,none⟩) 1 1) 48)) #[.int .u64 ((2 ^ p:Nat):Int)] 22;rw [show (w.alloc (.cells (plC (some ⟨w.heap.size+1,0,none⟩) 1 1) 48)).heap.size=w.heap.size+1 from by simp] at a2
 have q:=((Keep.refl (fun _=>False) w).alloc (.cells (plC (some ⟨w.heap.size+1,0,none⟩) 1 1) 48)).alloc (.cells #[.int .u64 ((2 ^ p:Nat):Int)] 22)
 generalize ((w.alloc (.cells (plC (some ⟨w.heap.size+1,0,none⟩) 1 1) 48)).alloc (.cells #[.int .u64 ((2 ^ p:Nat):Int)] 22))=W at *;obtain ⟨⟨c0,c1⟩,-⟩:=cells2 a1;have hlt:2 ^ p<2 ^ 61:=Nat.pow_lt_pow_right (by omega) (by omega)
 have hpos:=Nat.two_pow_pos p;exact bodyPost_ret (v:=plV (some ⟨w.heap.size+1,0,none⟩) 1 1) (by simp [results,Tryd.results26,go_sem,c0,c1]) rfl ⟨_,_,_,rfl,.word _ _ _ (by omega) hlt (by omega) (.of a2 rfl) (by show w.heap.size≤w.heap.size+1;omega),q⟩
theorem bitLen_top:∀ (f x:Nat),x<f→x≠0→x<18446744073709551616→1≤Lib.bitLen x∧x.testBit (Lib.bitLen x - 1)=true∧∀ j,Lib.bitLen x≤j→x.testBit j=false
 | 0,_,h,_,_=>absurd h (Nat.not_lt_zero _)
 | f+1,x,hf,h0,hx=>by
  have e:=Lib.bitLen_half x h0 hx
  by_cases h2:x / 2=0
  ·have h1:x=1:=by omega
   subst h1;have e1:Lib.bitLen 1=1:=by decide +kernel
   rw [e1];refine ⟨Nat.le_refl _,rfl,fun j hj=>?_⟩
   obtain ⟨k,rfl⟩:∃ k,j=k+1:=⟨j - 1,by omega⟩
   rw [Nat.testBit_succ];exact Nat.zero_testBit k
  ·obtain ⟨a1,a2,a3⟩:=bitLen_top f (x / 2) (by omega) h2 (by omega)
   generalize Lib.bitLen (x / 2)=n at *;rw [e];obtain ⟨k,rfl⟩:∃ k,n=k+1:=⟨n - 1,by omega⟩
   refine ⟨by omega,?_,fun j hj=>?_⟩
   ·rw [show 1+(k+1) - 1=k+1 by omega,Nat.testBit_succ]
    exact a2
   ·obtain ⟨i,rfl⟩:∃ i,j=i+1:=⟨j - 1,by omega⟩
    rw [Nat.testBit_succ];exact a3 i (by omega)
def lastM (m:Nat):Int:=if m=0 then -1 else ((Lib.bitLen m - 1:Nat):Int)
theorem last_any (m:Nat) (ok:Nat→Prop) (a:Option Addr) (n c:Nat) (w:World) (h:PlW w ok m a n c):Calls Tryd.prog 19 #[plV a n c] w fun e w'=>e=.returned (.int .i64 (lastM m))∧Keep (fun _=>False) w w':=by
 have a1:=At.new w (plC a n c) 48;have q:=(Keep.refl (fun _=>False) w).alloc (.cells (plC a n c) 48)
 have h':=h.keepF q;have H0:=hid (And.intro a1 q);obtain ⟨⟨c0,c1⟩,-⟩:=cells2 a1
 cases h with
 | none =>
  have HN:=hid (fun W=>none_any none 0 0 (b:=true) rfl W)
  clear h' a1 q
  go_enter Tryd.func19,Tryd.ntmps19
  go_upto_region 1 with fail;generalize (w.alloc (.cells (plC none 0 0) 48))=W at *;go_wp2_with fail;refine (HN.out _).mono ?_;rintro e w1 ⟨rfl,q1⟩;have H1:=hid (H0.out.2.trans q1);clear q1 c0 c1;go_wp2_with fail;go_ret;exact ⟨rfl,H1.out⟩
 | word m g c h0 hm hc hg ho =>
  cases h' with
  | word _ _ _ _ _ _ hg' _ =>
   have hbl:=bitLen_top (m+1) m (Nat.lt_succ_self _) h0 (by omega)
   have hb64:Lib.bitLen m≤64:=by
    refine Decidable.byContradiction fun hn=>?_
    have h2:=hbl.2.1;rw [Nat.testBit_lt_two_pow (Nat.lt_of_lt_of_le (show m<2 ^ 61 from hm) (Nat.pow_le_pow_right (by omega) (by omega)))] at h2
    cases h2
   have hL:lastM m=(Lib.bitLen m:Int) - 1:=by
    unfold lastM;rw [if_neg h0];omega
   have HL:=hid (fun W:World=>Lay.bits_Len64 (m:Int) W (by omega) (by omega))
   have HG:=hid hg';have HN:=hid (fun W=>none_any (some ⟨g,0,none⟩) 1 c (b:=false) rfl W)
   have hn0:Lib.bitLen m≤64:=hb64;rw [hL];rw [Int.toNat_natCast] at HL;generalize Lib.bitLen m=B at *;have HB:=hid hbl.1;clear hg a1 q hbl h0 hL hb64
   go_enter Tryd.func19,Tryd.ntmps19
   go_upto_region 1 with fail;generalize (w.alloc (.cells (plC (some ⟨g,0,none⟩) 1 c) 48))=W at *;go_wp2_with fail;refine (HN.out _).mono ?_;rintro e w1 ⟨rfl,q1⟩;clear c0 c1;have c2:=(HG.out.keep q1 (fun h=>h)).cell
   obtain ⟨⟨c0,c1⟩,-⟩:=cells2 (H0.out.1.keep q1 (fun h=>h))
   have H1:=hid (H0.out.2.trans q1);clear q1;go_wp2_with fail
   go_quiet ((go_at_call 30;exact quiet_same ((HL.out _).mono fun _ _ r=>⟨r.1,r.2.symm⟩)))
   go_wp2_with fail;go_ret;exact ⟨rfl,H1.out.drewN _⟩
end P11
namespace P11
open Go.RowKit Base Bytes P07 P08 P09
open Sets (ST)
theorem chas_any (s:ST) (hs:s.Ok) (b:Nat) (hb:b<256) (w:World):Calls Tryd.prog 41 #[val s,.int .u8 b] w fun e w'=>e=.returned (.bool (s.has b))∧Keep (fun _=>False) w w':=by
 have hc:=(At.new w (cells s) 24).cell (cells_at s (b / 64) (by omega))
 have hx:=bit_and _ (b % 64) (hs.w (b / 64));have HX:=hid hx;clear hx;unfold ST.has;generalize s.w (b / 64)=x at *
 go_enter Tryd.func41,Tryd.ntmps41
 go_wp2
 go_ret;exact ⟨Bytes.ret_bool HX.out,(Keep.refl _ _).alloc _⟩
theorem trimmed_any (g n c m:Nat) (cur:Array Value) (w:World) (hA:At w g 22 cur) (h0:cur[0]?=some (.int .u64 m)) (hn:n=1∨n=2∧cur[1]?=some (.int .u64 0)) (hm:m<2305843009213693952) (hc:n≤c) :
  Calls Tryd.prog 42 #[.int .i64 0,.slice (some ⟨g,0,none⟩) n c] w fun e w'=>∃ a n' c',e=.returned (plV a n' c')∧PlW w' (fun k=>k=g) m a n' c'∧Keep (fun _=>False) w w':=by
 have q:=(Keep.refl (fun _=>False) w).alloc (.cells plZ 48)
 have hz:=At.new w plZ 48;have e0:=(hA.keep q (fun h=>h)).cell h0
 have e1:n=2→(w.alloc (.cells plZ 48)).cell? ⟨g,1,none⟩=some (.int .u64 0):=fun h2=>(hA.keep q (fun h=>h)).cell (hn.resolve_left (by omega)).2
 have hW:=Wd.of (hA.keep q (fun h=>h)) h0
 have HH:=hid (And.intro hz (And.intro q (And.intro hW hm)));have E1:=hid e1;have hn2:n=1∨n=2:=by rcases hn with h | h;exact .inl h;exact .inr h.1
 have hc1:1≤c:=by omega
 clear hz q hW hm hA h0 hn e1
 go_enter Tryd.func42,Tryd.ntmps42
 go_upto_region 1 with fail;generalize (w.alloc (.cells plZ 48))=W at *
 go_loopg [1] n (fun gg v wr=>∃ k:Nat,v=.slice (some ⟨g,0,none⟩) k c∧k=gg∧k≤n∧(k=0→m=0)∧W=wr)
 case atStart=>exact ⟨n,rfl,rfl,Nat.le_refl _,fun h=>by omega,rfl⟩
 case round =>
  obtain ⟨k,rfl,rfl,hkn,hk0,rfl⟩:=hrel;have HK:=hid hk0;clear hk0
  by_cases k2:k=2
  ·subst k2
   have d1:=E1.out (by omega)
   have hc2:2≤c:=by omega
   go_wp2_with fail
   go_roundg 1
   case measure=>omega
   case rel=>exact ⟨1,rfl,rfl,by omega,fun h=>by omega,rfl⟩
  ·by_cases k1:k=1
   ·subst k1
    by_cases hm0:m=0
    ·have t0:((m:Int) == 0)=true:=by simp [hm0]
     have HM:=hid hm0;clear hm0 k2;go_wp2_with fail
     go_roundg 0
     case measure=>omega
     case rel=>exact ⟨0,rfl,rfl,by omega,fun _=>HM.out,rfl⟩
    ·have t0:((m:Int) == 0)=false:=by simp [hm0]
     have HM:=hid hm0;clear hm0 k2;go_wp2_with fail
     go_loopg [0,1] 0 (fun gg u v wr=>u=.int .i64 0∧v=.slice (some ⟨g,0,none⟩) 1 c∧W=wr)
     case atStart=>exact ⟨rfl,rfl,rfl⟩
     case round =>
      obtain ⟨rfl,rfl,rfl⟩:=hrel;obtain ⟨⟨c0,c1⟩,f0,f1⟩:=cells2 HH.out.1;go_wp2_with fail
      change bodyPost _ _ _ _ _ (put2 W w.heap.size (.int .i64 0) (.slice (some ⟨g,0,none⟩) 1 c))
      have a:=set2 HH.out.1 (.int .i64 0) (.slice (some ⟨g,0,none⟩) 1 c);have qq:=keep2 HH.out.2.1 (b:=w.heap.size) (fun h=>absurd h (Nat.lt_irrefl _)) (.int .i64 0) (.slice (some ⟨g,0,none⟩) 1 c)
      have hw:=HH.out.2.2.1.keep (keep2 (Keep.refl (fun b=>b=w.heap.size) W) (b:=w.heap.size) (fun _=>rfl) (.int .i64 0) (.slice (some ⟨g,0,none⟩) 1 c)) (HH.out.2.2.1.ne HH.out.1 (by decide))
      generalize (put2 W w.heap.size (.int .i64 0) (.slice (some ⟨g,0,none⟩) 1 c))=W9 at *;obtain ⟨⟨d0,d1⟩,-⟩:=cells2 a;exact bodyPost_ret (v:=plV (some ⟨g,0,none⟩) 1 c) (by simp [results,Tryd.results42,go_sem,d0,d1]) rfl ⟨_,_,_,rfl,.word _ _ _ HM.out HH.out.2.2.2 hc1 hw rfl,qq⟩
   ·have k0:k=0:=by omega
    subst k0;have HM:=hid (HK.out rfl);clear HK;go_wp2_with fail
    go_loopg [0,1] 0 (fun gg u v wr=>u=.int .i64 0∧v=.slice (some ⟨g,0,none⟩) 0 c∧W=wr)
    case atStart=>exact ⟨rfl,rfl,rfl⟩
    case round =>
     obtain ⟨rfl,rfl,rfl⟩:=hrel;obtain ⟨⟨c0,c1⟩,f0,f1⟩:=cells2 HH.out.1;go_wp2_with fail
     change bodyPost _ _ _ _ _ (put2 W w.heap.size (.int .i64 0) (.slice none 0 0))
     have a:=set2 HH.out.1 (.int .i64 0) (.slice none 0 0);have qq:=keep2 HH.out.2.1 (b:=w.heap.size) (fun h=>absurd h (Nat.lt_irrefl _)) (.int .i64 0) (.slice none 0 0)
     generalize (put2 W w.heap.size (.int .i64 0) (.slice none 0 0))=W9 at *;obtain ⟨⟨d0,d1⟩,-⟩:=cells2 a;exact bodyPost_ret (v:=plV none 0 0) (by simp [results,Tryd.results42,go_sem,d0,d1]) rfl ⟨_,_,_,rfl,by rw [HM.out];exact .none,qq⟩
theorem infoU:(Tryd.prog.info? 22).map (fun i=>(i.zero,i.size,i.bytes))=some (some (.int .u64 0),1,8):=by kernel_rfl
theorem word_copy {w:World} {g m cap:Nat} (h:Wd w g m) (ty:TypeId) :
  ∃ g' cap' w',(Builtin.append_ #[46,46] ty #[.slice (some ⟨w.heap.size,0,none⟩) 0 0,.slice (some ⟨g,0,none⟩) 1 cap]).run Tryd.prog (w.alloc (.cells #[] 22))=.ok (.slice (some ⟨g',0,none⟩) 1 cap') w'∧w.heap.size≤g'∧1≤cap'∧Wd w' g' m∧Keep (fun _=>False) w w':=by
 obtain ⟨i0,hi0,hz0,hz1,hz2⟩:=info_parts infoU;have q:=(Keep.refl (fun _=>False) w).alloc (.cells #[] 22)
 have h1:=h.keep q (fun h=>h)
 obtain ⟨v',w',hrun,h2,h3,_,h5⟩:=run_append_own_at (P:=Tryd.prog) (w.alloc (.cells #[] 22)) 0 46 ty 22 i0 (.int .u64 0) 1 8 Tryd.underlying46 hi0 hz0 hz1 hz2 rfl (by omega) (.slice (some ⟨w.heap.size,0,none⟩) 0 0) 0 []
  ⟨rfl,.inr ⟨_,0,#[],rfl,Nat.zero_le _,At.new w #[] 22,Nat.le_refl _,Nat.zero_le _,rfl,rfl⟩⟩ ⟨g,0,none⟩ 1 cap [.int .u64 m] rfl
  (fun j u hu=>by
   match j,hu with
   | 0,hu =>
    cases hu
    exact h1.cell
   | j+1,hu=>simp at hu) (by intro v hv;simp at hv;rw [hv];rfl) (by simp only [maxLen];omega) (by omega) (Nat.zero_le _)
 rw [Nat.zero_add,List.nil_append] at h2
 rcases h2.2 with ⟨rfl,hc⟩ | ⟨g',cap',cur,rfl,_,hg,a1,a2,a3,a4⟩
 ·omega
 ·have ha:At w' g' 22 cur:=hg
  refine ⟨g',cap',w',hrun,?_,a1,⟨cur,ha,?_⟩,q.next (IL.Keep.of_grown h3) (fun i hh _=>?_)⟩
  ·rcases h5 with h5 | h5
   ·have h5':some g'=some w.heap.size:=h5
    injection h5' with h5';omega
   ·have h5':some g'=some _:=h5
    injection h5' with h5'
    simp at h5'
    omega
  ·have h6:(cur.toList.take (1 * 1))[0]?=([Value.int .u64 m]:List Value)[0]?:=by rw [a4]
   rw [List.getElem?_take_of_lt (by omega)] at h6
   simpa using h6
  ·have hh':some w.heap.size=some i:=hh
   injection hh' with hh';omega
theorem clone_none (w:World):Calls Tryd.prog 52 #[.slice none 0 0] w fun e w'=>e=.returned (.slice none 0 0)∧Keep (fun _=>False) w w':=by
 have hb:∀ W,(binOp BinOp.eql 46 (.slice none 0 0) (.slice none 0 0)).run Tryd.prog W=.ok (.bool true) W:=fun W=>by kernel_rfl
 go_enter Tryd.func52,Tryd.ntmps52
 go_wp2_with fail;go_ret;exact ⟨rfl,Keep.refl _ _⟩
theorem clone_word (g m c:Nat) (w:World) (h:Wd w g m):Calls Tryd.prog 52 #[.slice (some ⟨g,0,none⟩) 1 c] w fun e w'=>∃ g' c',e=.returned (.slice (some ⟨g',0,none⟩) 1 c')∧w.heap.size≤g'∧1≤c'∧Wd w' g' m∧Keep (fun _=>False) w w':=by
 obtain ⟨g',c',w1,hrun,h1,h2,h3,h4⟩:=word_copy (cap:=c) h 46;have H:=hid (And.intro h1 (And.intro h2 (And.intro h3 h4)));clear h1 h2 h3 h4 h;have hb:∀ W,(binOp BinOp.eql 46 (.slice (some ⟨g,0,none⟩) 1 c) (.slice none 0 0)).run Tryd.prog W=.ok (.bool false) W:=fun W=>by kernel_rfl
 go_enter Tryd.func52,Tryd.ntmps52
 go_wp2_with (at_builtin;refine Lib.wpList_append_run _ rfl _ _ _ _ rfl _ _ rfl rfl _ _ hrun ?_);go_ret;exact ⟨_,_,rfl,H.out.1,H.out.2.1,H.out.2.2.1,H.out.2.2.2⟩
end P11
end Go.Proofs.YthcjfgfbeollpaaDoor
