/- The code's reader (layer 7): span. -/
import Derived.Test.YtlmfbchgkjgljaaGreatKZ12
import Derived.Test.YtlmfbchgkjgljaaGreatKZ20
import Derived.Laws.StructEq
set_option maxRecDepth 100000
set_option maxHeartbeats 32000000
open Go.Lib (hid)
namespace Go.Proofs.YtlmfbchgkjgljaaGreat
namespace P07
open Go.RowKit Base Bytes
open Sets (ST)
structure Rs (w:World) (b:Nat) (l:List UInt8) (ty:TypeId) (o:Array Value) (s:PS) (W:World):Prop where
 rd:Rd W b l s
 out:At W w.heap.size ty o
 keep:Keep (fun i=>i=b) w W
 low:b<w.heap.size
theorem Rs.start {w:World} {b:Nat} {l:List UInt8} {s:PS} (h:Rd w b l s) (ty:TypeId) (o:Array Value):Rs w b l ty o s (w.alloc (.cells o ty)) :=
 ⟨h.alloc _,At.new w o ty,(Keep.refl _ w).alloc _,At.lt h⟩
theorem Rs.step {w:World} {b:Nat} {l:List UInt8} {ty:TypeId} {o:Array Value} {s s':PS} {W W':World} (I:Rs w b l ty o s W) (h:Rd W' b l s') (q:Keep (fun i=>i=b) W W'):Rs w b l ty o s' W' :=
 ⟨h,I.out.keep q (by have:=I.low;omega),I.keep.trans q,I.low⟩
theorem Rs.quiet {w:World} {b:Nat} {l:List UInt8} {ty:TypeId} {o:Array Value} {s:PS} {W W':World} (I:Rs w b l ty o s W) (q:Keep (fun _=>False) W W'):Rs w b l ty o s W' :=
 I.step (I.rd.keep q (fun h=>h)) (upk b q)
theorem Rs.ne {w:World} {b:Nat} {l:List UInt8} {ty:TypeId} {o:Array Value} {s:PS} {W:World} (I:Rs w b l ty o s W):b≠w.heap.size:=by have:=I.low;omega
@[reducible] def VS (_:World) (v:Value) (L:List Nat):Prop:=v=val (mkS L)∧∀ x ∈ L,x<256
theorem mk_append (L M:List Nat):mkS (L++M)=ST.or (mkS L) (mkS M):=by
 refine ST.ext (mk_ok _ _ rfl) (ST.or_ok (mk_ok _ _ rfl) (mk_ok _ _ rfl)) (fun b hb=>?_)
 rw [mk_has b hb _ _ rfl,ST.has_or _ _ _ hb,mk_has b hb _ _ rfl,mk_has b hb _ _ rfl,Bool.eq_iff_iff]
 simp
theorem mk_upto (lo hi:Nat):mkS (upto lo hi)=ST.range lo hi:=by
 refine ST.ext (mk_ok _ _ rfl) (ST.range_ok _ _) (fun b hb=>?_)
 rw [mk_has b hb _ _ rfl,ST.has_range _ _ _ hb]
 apply decide_eq_decide.2
 unfold upto;rw [List.mem_map]
 constructor
 ·rintro ⟨i,hi,rfl⟩
  have:=List.mem_range.1 hi;omega
 ·rintro ⟨h1,h2⟩
  exact ⟨b - lo,List.mem_range.2 (by omega),by omega⟩
theorem rspan_any (b:Nat) (l:List UInt8) (s:PS) (hb:s.bad=none) (hp:s.pos≤l.length) (hl:l.length≤100000000) (w:World) (h:Rd w b l s) :
  Calls Tryz.prog 114 #[.pointer (some ⟨b,0,none⟩)] w (Outs w b l VS (range1 l s)):=by
 have hby:=fun W h1=>rbyte_any b l s hb hp hl W h1
 have r1:=one_range l s;have hp1:=fun h=>one_sharp.toTame.pos_le hb hp h
 have hr:range1 l s=dashB (one l s).1 (nxt l (one l s).2) l (one l s).2:=rfl;have hbd:∀ x,(one l s).2.bad=some x→(range1 l s).2.bad=some x:=fun x h=>by rw [hr];exact (dash_tame _).bad l _ x h
 obtain ⟨r,hrr⟩:∃ r,range1 l s=r:=⟨_,rfl⟩;rw [hrr] at hr hbd ⊢;obtain ⟨⟨lo,s1⟩,h1⟩:∃ q,one l s=q:=⟨_,rfl⟩;rw [h1] at hby r1 hp1 hr hbd
 dsimp only at r1 hp1 hr hbd
 obtain ⟨lo,rfl⟩:∃ n:Nat,lo=n:=⟨lo.toNat,by omega⟩
 have HC:=hid (And.intro hby (And.intro hp1 (And.intro hr hbd)));have W0:=hid (Rs.start h 24 zeros);clear h hby hp1 hr hbd hrr h1 hb hp
 go_enter Tryz.func114,Tryz.ntmps114
 go_wp2_with fail;generalize (w.alloc (.cells zeros 24))=V at *;refine (HC.out.1 V W0.out.rd).mono ?_;intro e w2 hO
 rcases hO.split with ⟨hb2,v,rfl,hv,h2,q2⟩ | ⟨x,hb2,rfl,q2⟩
 ·unfold VB at hv
  subst hv;have I2:=W0.out.step h2 q2;clear h2 q2 hO;have hpos:=HC.out.2.1 hb2
  by_cases h45:nxt l s1=45
  ·have hlt:=nxt_lt (l:=l) (s:=s1) (by omega)
   have ht:=take_yes b 45 l s1 h45 hl w2 I2.rd;have hby:=fun W h1=>rbyte_any b l s1.adv hb2 (show s1.pos+1≤l.length by omega) hl W h1
   have r2:=one_range l s1.adv;have hr:=HC.out.2.2.1;unfold dashB hiP at hr;rw [if_pos h45] at hr;have ha:s1.adv.pos=s1.pos+1:=rfl;rw [ha] at hr;obtain ⟨⟨hi,s2⟩,h1⟩:∃ q,one l s1.adv=q:=⟨_,rfl⟩;rw [h1] at hby r2 hr
   dsimp only at r2 hr
   obtain ⟨hi,rfl⟩:∃ n:Nat,hi=n:=⟨hi.toNat,by omega⟩
   have H2:=hid (And.intro I2 (And.intro ht (And.intro hby hr)));clear I2 ht hby hr h1 h45 hb2 ha;go_wp2_with fail;refine H2.out.2.1.mono ?_;rintro e w3 ⟨rfl,h3,q3⟩;have c1:w3.cell? ⟨b,1,none⟩=some (.int .i64 ((s1.pos:Int)+1)):=h3.cell (o:=1) rfl;have H3:=hid (And.intro (H2.out.1.step h3 q3) h3);clear h3 q3;go_wp2_with fail;refine (H2.out.2.2.1 w3 H3.out.2).mono ?_;intro e w4 hO
   rcases hO.split with ⟨hb4,v,rfl,hv,h4,q4⟩ | ⟨x,hb4,rfl,q4⟩
   ·unfold VB at hv
    subst hv;have I4:=H3.out.1.step h4 q4;clear h4 q4 hO c1
    by_cases hlo:hi<lo
    ·have hlo':(hi:Int)<(lo:Int):=by omega
     have H4:=hid (And.intro I4 hb4);clear I4 hb4;go_wp2_with fail;refine ⟨rfl,Outs.gave (x:=s1.pos+1) ?_ H4.out.1.keep⟩;rw [H2.out.2.2.2,if_pos ⟨H4.out.2,by omega⟩]
     exact bad_fail H4.out.2 _
    ·have hlo':¬ (hi:Int)<(lo:Int):=by omega
     have hof:=of_any lo hi (by omega) (by omega) w4
     have hr:=H2.out.2.2.2;rw [if_neg (by rintro ⟨_,h⟩;omega)] at hr
     have hmk:=mk_upto lo hi;have H4:=hid (And.intro I4 (And.intro hb4 (And.intro hof (And.intro hr hmk))));clear I4 hb4 hof hr hmk;obtain ⟨R,hR⟩:∃ R,ST.range lo hi=R:=⟨_,rfl⟩;rw [hR] at H4;go_wp2_with fail;refine H4.out.2.2.1.mono ?_;rintro e w5 ⟨rfl,q5⟩;have I5:=H4.out.1.quiet q5;obtain ⟨⟨d0,d1,d2,d3⟩,f0,f1,f2,f3⟩:=cells4 I5.out;have H5:=hid I5;clear I5 q5 hR;go_wp2_with fail;have a:=set4 H5.out.out (.int .u64 R.x0) (.int .u64 R.x1) (.int .u64 R.x2) (.int .u64 R.x3);have q:=keep4 H5.out.keep (b:=w.heap.size) (fun h=>absurd h (by simp)) (.int .u64 R.x0) (.int .u64 R.x1) (.int .u64 R.x2) (.int .u64 R.x3)
     have p:At _ b _ _:=(((At.setOther H5.out.rd (p:=⟨w.heap.size,0,none⟩) H5.out.ne (.int .u64 R.x0)).setOther (p:=⟨w.heap.size,1,none⟩) H5.out.ne (.int .u64 R.x1)).setOther (p:=⟨w.heap.size,2,none⟩) H5.out.ne (.int .u64 R.x2)).setOther (p:=⟨w.heap.size,3,none⟩) H5.out.ne (.int .u64 R.x3);generalize World.setCell _ _ _=W2 at *;obtain ⟨⟨e0,e1,e2,e3⟩,-⟩:=cells4 a;refine bodyPost_ret (v:=val R) (by simp [results,Tryz.results114,go_sem,e0,e1,e2,e3]) rfl ?_
     refine Outs.ok (by rw [H4.out.2.2.2.1];exact H4.out.2.1) (by rw [H4.out.2.2.2.1];exact ⟨by rw [H4.out.2.2.2.2],upto_lt (by omega) (by omega)⟩) (by rw [H4.out.2.2.2.1];exact p) q
   ·have H4:=hid (And.intro hb4 (H3.out.1.keep.trans q4))
    clear hb4 q4 hO;go_wp2_with fail;refine ⟨rfl,Outs.gave (x:=x) ?_ H4.out.2⟩;rw [H2.out.2.2.2,if_neg (by rintro ⟨h,_⟩;rw [H4.out.1] at h;cases h)]
    exact H4.out.1
  ·have ht:=take_no b 45 l s1 hb2 h45 w2 I2.rd
   have hof:=fun W=>of_any lo lo (by omega) (by omega) W
   have hr:=HC.out.2.2.1;unfold dashB at hr;rw [if_neg h45] at hr;have hmk:=mk_upto lo lo;have H2:=hid (And.intro I2 (And.intro ht (And.intro hof (And.intro hr (And.intro hmk hb2)))));clear I2 ht hof hr h45 hb2 hmk;obtain ⟨R,hR⟩:∃ R,ST.range lo lo=R:=⟨_,rfl⟩;rw [hR] at H2;go_wp2_with fail;refine H2.out.2.1.mono ?_;rintro e w3 ⟨rfl,h3,q3⟩;have H3:=hid (H2.out.1.step h3 q3);clear h3 q3;have hlo':¬ (lo:Int)<(lo:Int):=by omega
   go_wp2_with fail;refine (H2.out.2.2.1 w3).mono ?_;rintro e w5 ⟨rfl,q5⟩;have I5:=H3.out.quiet q5;obtain ⟨⟨d0,d1,d2,d3⟩,f0,f1,f2,f3⟩:=cells4 I5.out;have H5:=hid I5;clear I5 q5 hR;go_wp2_with fail;have a:=set4 H5.out.out (.int .u64 R.x0) (.int .u64 R.x1) (.int .u64 R.x2) (.int .u64 R.x3);have q:=keep4 H5.out.keep (b:=w.heap.size) (fun h=>absurd h (by simp)) (.int .u64 R.x0) (.int .u64 R.x1) (.int .u64 R.x2) (.int .u64 R.x3)
   have p:At _ b _ _:=(((At.setOther H5.out.rd (p:=⟨w.heap.size,0,none⟩) H5.out.ne (.int .u64 R.x0)).setOther (p:=⟨w.heap.size,1,none⟩) H5.out.ne (.int .u64 R.x1)).setOther (p:=⟨w.heap.size,2,none⟩) H5.out.ne (.int .u64 R.x2)).setOther (p:=⟨w.heap.size,3,none⟩) H5.out.ne (.int .u64 R.x3);generalize World.setCell _ _ _=W2 at *;obtain ⟨⟨e0,e1,e2,e3⟩,-⟩:=cells4 a;refine bodyPost_ret (v:=val R) (by simp [results,Tryz.results114,go_sem,e0,e1,e2,e3]) rfl ?_
   refine Outs.ok (by rw [H2.out.2.2.2.1];exact H2.out.2.2.2.2.2) (by rw [H2.out.2.2.2.1];exact ⟨by rw [H2.out.2.2.2.2.1],upto_lt (by omega) (by omega)⟩) (by rw [H2.out.2.2.2.1];exact p) q
 ·have H2:=hid (And.intro hb2 (W0.out.keep.trans q2))
  clear hb2 q2 hO;go_wp2_with fail;exact ⟨rfl,Outs.gave (x:=x) (HC.out.2.2.2 _ H2.out.1) H2.out.2⟩
end P07
namespace P08
open Sets P07
def hd:List UInt8→Int
 | []=>-1
 | c::_=>c.toNat
theorem nxt_drop (l:List UInt8) (p o:Nat):P07.nxt l ⟨p,none,o⟩=hd (l.drop p):=by
 unfold P07.nxt byteAt
 by_cases h:p<l.length
 ·rw [if_pos ⟨rfl,h⟩,List.drop_eq_getElem_cons h]
  simp [hd,h]
 ·rw [if_neg (by simp;omega),List.drop_eq_nil_of_le (by omega)]
  rfl
def hexd (k:Nat):UInt8:=([48,49,50,51,52,53,54,55,56,57,97,98,99,100,101,102]:List UInt8).getD k 0
def esc (b:Nat):List UInt8:=if plainN b then [UInt8.ofNat b] else [92,120,hexd (b / 16),hexd (b % 16)]
def spanT (lo hi:Nat):List UInt8:=if hi=lo then esc lo else if hi=lo+1 then esc lo++esc hi else esc lo++[45]++esc hi
def spansT (L:List (Nat × Nat)):List UInt8:=L.flatMap fun r=>spanT r.1 r.2
def textT (s:ST):List UInt8 :=
 if s.count=256 then [46] else if s.count=1 then esc (Sets.nxt s.has 0) else if s.count≤128 then 91::(spansT (rgs s.has 256)++[93]) else 91::94::(spansT (rgs s.not.has 256)++[93])
end P08
namespace P08
open P07
open Sets (ST)
def numT (n:Nat):List UInt8:=if n<10 then [UInt8.ofNat (48+n)] else [UInt8.ofNat (48+n / 10),UInt8.ofNat (48+n % 10)]
def times (lo hi:Int):List UInt8 :=
 if lo=0∧hi=-1 then [42] else if lo=1∧hi=-1 then [43] else if lo=0∧hi=1 then [63] else 123::(numT lo.toNat++(if hi=-1 then [44,125] else if lo<hi then 44::(numT hi.toNat++[125]) else [125]))
def Bare (k:Int) (s:ST) (mn mx:Int) (n:Nat):Prop :=
 (k=1∧s=ST.none∧mn=0∧mx=0∧n=0)∨(k=2∧mn=0∧mx=0∧n=0)∨((k=3∨k=4)∧s=ST.none∧mn=0∧mx=0∧2≤n)∨(k=5∧s=ST.none∧n=1∧0≤mn∧mn≤20∧(mx=-1∨mn≤mx∧mx≤20))
def rnd (k j:Int):Bool:=if k=3 then decide (j=1∨j=3∨j=4) else if k=4 then decide (j=4) else decide (j≠2)
def br (b:Bool) (u:List UInt8):List UInt8:=if b then 40::(u++[41]) else u
mutual
def RT:Nat→T→Prop
 | d,.nd k s mn mx l=>Bare k s mn mx l.length∧s.Ok∧RL d k l
def RL:Nat→Int→List T→Prop
 | _,_,[]=>True
 | d,k,t::l=>(if rnd k t.kind then 1≤d∧RT (d - 1) t else RT d t)∧RL d k l
end
mutual
def txt:T→List UInt8
 | .nd k s mn mx l=>if k=2 then textT s else subT k true l++(if k=5 then times mn mx else [])
def subT:Int→Bool→List T→List UInt8
 | _,_,[]=>[]
 | k,b,t::l=>(if k=4∧b=false then [124] else [])++(br (rnd k t.kind) (txt t)++subT k false l)
end
theorem RT.bare {d:Nat} {k:Int} {s:ST} {mn mx:Int} {l:List T} (h:RT d (.nd k s mn mx l)):Bare k s mn mx l.length∧s.Ok∧RL d k l:=by rw [RT] at h;exact h
theorem RL_cons {d:Nat} {k:Int} {t:T} {l:List T} (h:RL d k (t::l)):(if rnd k t.kind then 1≤d∧RT (d - 1) t else RT d t)∧RL d k l:=by rw [RL] at h;exact h
def Al (F:Nat) (t:T):Prop:=∀ (d o:Nat) (l r:List UInt8) (p:Nat),d+o=12→RT d t→l.length<F→l.drop p=txt t++r→(hd r=-1∨hd r=41)→altD F (d+1) l ⟨p,none,o⟩=(t,⟨p+(txt t).length,none,o⟩)
def okHd (c:Int):Prop:=c≠-1∧c≠124∧c≠41∧c≠42∧c≠43∧c≠63∧c≠123
theorem kinds {d:Nat} {t:T} (h:RT d t):t.kind=1∨t.kind=2∨t.kind=3∨t.kind=4∨t.kind=5:=by
 match t,h with
 | .nd k s mn mx l,h =>
  have hb:=h.bare.1;unfold Bare at hb
  show k=1∨k=2∨k=3∨k=4∨k=5
  omega
theorem okHd.goes {r:List UInt8} (h:okHd (hd r)):P07.goes (hd r):=by
 unfold okHd at h;refine ⟨?_,h.2.1,h.2.2.1⟩
 cases r with
 | nil=>simp [hd] at h
 | cons c r=>simp [hd]
theorem cat_one {F:Nat} {A:List UInt8→PS→T × PS} {l:List UInt8} {p q o:Nat} {t:T} (h:itemP F A l ⟨p,none,o⟩=(t,⟨q,none,o⟩)) (hg:P07.goes (hd (l.drop p))) (hs:¬ P07.goes (hd (l.drop q))) (hF:2≤F):catP F A l ⟨p,none,o⟩=(t,⟨q,none,o⟩):=by
 obtain ⟨F,rfl⟩:∃ g,F=g+2:=⟨F - 2,by omega⟩
 unfold catP;rw [catL,nxt_drop,if_pos hg,h]
 dsimp only
 rw [catL,nxt_drop,if_neg hs]
 rfl
end P08
namespace P08
open P07
open Sets (ST)
def Opn {α:Type} (f:List UInt8→PS→α × PS):Prop:=∀ l s,(f l s).2.opn=s.opn
theorem fail_opn (s:PS) (k:Nat):(s.fail k).opn=s.opn:=by unfold PS.fail;split <;> rfl
theorem digit_opn:Opn digit:=fun l s=>by
 unfold digit
 split
 ·rfl
 ·exact fail_opn _ _
theorem two_opn:Opn two:=fun l s=>by
 unfold two;exact (digit_opn _ _).trans (digit_opn _ _)
theorem esc_opn:Opn escP:=fun l s=>by
 unfold escP escB
 split
 ·exact two_opn _ _
 ·split
  ·rfl
  ·split
   ·rfl
   ·split
    ·rfl
    ·exact fail_opn _ _
theorem one_opn:Opn one:=fun l s=>by
 unfold one oneB
 split
 ·rfl
 ·split
  ·exact esc_opn _ _
  ·exact fail_opn _ _
theorem hi_opn (lo:Int):Opn (hiP lo):=fun l s=>by
 unfold hiP
 dsimp only
 split
 ·exact (fail_opn _ _).trans (one_opn _ _)
 ·exact one_opn _ _
theorem range_opn:Opn range1:=fun l s=>by
 unfold range1 dashB
 split
 ·exact (hi_opn _ _ _).trans (one_opn _ _)
 ·exact one_opn _ _
theorem set_opn:∀ f acc,Opn (setP f acc)
 | 0,acc=>fun l s=>rfl
 | f+1,acc=>fun l s=>by
  rw [setP]
  split
  ·split
   ·rfl
   ·exact (set_opn f _ _ _).trans (range_opn _ _)
  ·rfl
theorem num2_opn (d:Int):Opn (num2 d):=fun l s=>by
 unfold num2 numB2
 split <;> rfl
theorem num_opn:Opn num:=fun l s=>by
 unfold num numB
 split
 ·exact num2_opn _ _ _
 ·exact fail_opn _ _
theorem number_opn:Opn number:=fun l s=>by
 unfold number
 dsimp only
 split
 ·exact (fail_opn _ _).trans (num_opn _ _)
 ·exact num_opn _ _
theorem must_opn (c:Int):Opn (must c):=fun l s=>by
 unfold must
 show (if P07.nxt l s=c then s else s.fail s.pos).opn=_
 split
 ·rfl
 ·exact fail_opn _ _
theorem max_opn (mn:Int):Opn (maxP mn):=fun l s=>by
 unfold maxP maxB
 split
 ·rfl
 ·unfold maxC
  dsimp only
  split
  ·exact (fail_opn _ _).trans (number_opn _ _)
  ·exact number_opn _ _
theorem cma_opn (mn:Int):Opn (cmaP mn):=fun l s=>by
 unfold cmaP cmaB
 split
 ·exact max_opn _ _ _
 ·rfl
theorem braces_opn:Opn braces:=fun l s=>by
 unfold braces;exact (must_opn _ _ _).trans ((cma_opn _ _ _).trans (number_opn _ _))
theorem clsQ_opn (F:Nat) (nt:Bool):Opn (clsQ F nt):=fun l s=>by
 unfold clsQ;exact (must_opn _ _ _).trans (set_opn _ _ _ _)
theorem cls_opn (F:Nat):Opn (clsP F):=fun l s=>by
 unfold clsP clsB
 split
 ·exact clsQ_opn _ _ _ _
 ·exact clsQ_opn _ _ _ _
theorem lit_opn:Opn litP:=fun l s=>one_opn l s
def Gives {α:Type} (f:List UInt8→PS→α × PS) (o:Nat) (P:α→Prop):Prop:=∀ l s,s.opn=o→s.bad=none→(f l s).2.bad=none→P (f l s).1∧(f l s).2.opn=o
theorem before {α:Type} {f:List UInt8→PS→α × PS} (h:Tame f) {l:List UInt8} {s:PS} (hb:(f l s).2.bad=none):s.bad=none:=by
 cases e:s.bad with
 | none=>rfl
 | some b =>
  rw [h.bad l s b e] at hb
  cases hb
theorem fail_bad (s:PS) (k:Nat):(s.fail k).bad≠none:=by
 unfold PS.fail
 split
 ·simp
 ·assumption
theorem dig_bounds {c:Int} (h:isDig c=true):0≤c - 48∧c - 48≤9:=by
 unfold isDig at h;have:=of_decide_eq_true h;omega
theorem num_gives {l:List UInt8} {s:PS} (h:(num l s).2.bad=none):0≤(num l s).1:=by
 unfold num numB at h ⊢
 split at h
 ·rename_i h1
  rw [if_pos h1];unfold num2 numB2;have:=dig_bounds h1
  split
  ·rename_i h2
   have:=dig_bounds h2
   dsimp only
   omega
  ·exact this.1
 ·exact absurd h (fail_bad _ _)
theorem number_gives {l:List UInt8} {s:PS} (h:(number l s).2.bad=none):0≤(number l s).1∧(number l s).1≤20:=by
 unfold number at h ⊢
 dsimp only at h ⊢
 split at h
 ·exact absurd h (fail_bad _ _)
 ·rename_i h1
  have h2:=num_gives h;refine ⟨h2,?_⟩
  rcases Int.lt_or_le 20 (num l s).1 with h3 | h3
  ·exact absurd ⟨h,h3⟩ h1
  ·exact h3
theorem max_gives {mn:Int} {l:List UInt8} {s:PS} (h:(maxP mn l s).2.bad=none):(maxP mn l s).1=-1∨mn≤(maxP mn l s).1∧(maxP mn l s).1≤20:=by
 unfold maxP maxB at h ⊢
 split at h
 ·rename_i h1
  rw [if_pos h1];exact .inl rfl
 ·rename_i h1
  rw [if_neg h1];unfold maxC at h ⊢
  dsimp only at h ⊢
  split at h
  ·exact absurd h (fail_bad _ _)
  ·rename_i h2
   have h3:=number_gives h
   rcases Int.lt_or_le (number l s).1 mn with h4 | h4
   ·exact absurd ⟨h,h4⟩ h2
   ·exact .inr ⟨h4,h3.2⟩
theorem cma_gives {mn:Int} (hm:mn≤20) {l:List UInt8} {s:PS} (h:(cmaP mn l s).2.bad=none):(cmaP mn l s).1=-1∨mn≤(cmaP mn l s).1∧(cmaP mn l s).1≤20:=by
 unfold cmaP cmaB at h ⊢
 split at h
 ·rename_i h1
  rw [if_pos h1];exact max_gives h
 ·rename_i h1
  rw [if_neg h1];exact .inr ⟨Int.le_refl _,hm⟩
theorem braces_gives {l:List UInt8} {s:PS} (h:(braces l s).2.bad=none):0≤(braces l s).1.1∧(braces l s).1.1≤20∧((braces l s).1.2=-1∨(braces l s).1.1≤(braces l s).1.2∧(braces l s).1.2≤20):=by
 have h1:(cmaP (number l s).1 l (number l s).2).2.bad=none:=before (must_tame 125 (by decide)) h
 have h2:(number l s).2.bad=none:=before (cma_tame _) h1;have h3:=number_gives h2;exact ⟨h3.1,h3.2,cma_gives h3.2 h1⟩
mutual
theorem RT_mono:∀ (t:T) (d e:Nat),RT d t→d≤e→RT e t
 | .nd k s mn mx l,d,e,h,hd=>by
  have:=h.bare;rw [RT];exact ⟨this.1,this.2.1,RL_mono l d e k this.2.2 hd⟩
theorem RL_mono:∀ (l:List T) (d e:Nat) (k:Int),RL d k l→d≤e→RL e k l
 | [],d,e,k,h,hd=>by rw [RL];trivial
 | t::l,d,e,k,h,hd=>by
  obtain ⟨h1,h2⟩:=RL_cons h;rw [RL];refine ⟨?_,RL_mono l d e k h2 hd⟩
  split
  ·rename_i h3
   rw [if_pos h3] at h1;exact ⟨by omega,RT_mono t (d - 1) (e - 1) h1.2 (by omega)⟩
  ·rename_i h3
   rw [if_neg h3] at h1;exact RT_mono t d e h1 hd
end
def IA (d:Nat) (a:T):Prop:=(∃ s:ST,s.Ok∧a=clsT s)∨(1≤d∧RT (d - 1) a)
def IS (d:Nat) (k:Int) (t:T):Prop:=if rnd k t.kind then 1≤d∧RT (d - 1) t else RT d t
theorem class_RT {s:ST} (hs:s.Ok) (d:Nat):RT d (clsT s):=by
 unfold clsT;rw [RT];exact ⟨.inr (.inl ⟨rfl,rfl,rfl,rfl⟩),hs,by rw [RL];trivial⟩
theorem IA.is {d:Nat} {a:T} (h:IA d a) (k:Int) (hk:k=3∨k=4∨k=5):IS d k a:=by
 unfold IS
 rcases h with ⟨s,hs,rfl⟩ | ⟨h1,h2⟩
 ·have e:rnd k (clsT s).kind=false:=by
   show rnd k 2=false
   unfold rnd
   rcases hk with rfl | rfl | rfl <;> decide
  rw [if_neg (by rw [e];decide)]
  exact class_RT hs d
 ·split
  ·exact ⟨h1,h2⟩
  ·exact RT_mono a _ _ h2 (by omega)
theorem IS.rt {d:Nat} {k:Int} {t:T} (h:IS d k t):RT d t:=by
 unfold IS at h
 split at h
 ·exact RT_mono t _ _ h.2 (by omega)
 ·exact h
theorem RL_all {d:Nat} {k:Int}:∀ (L:List T),(∀ t,t ∈ L→IS d k t)→RL d k L
 | [],_=>by rw [RL];trivial
 | t::L,h=>by
  rw [RL];exact ⟨h t (by simp),RL_all L fun u hu=>h u (List.mem_cons_of_mem _ hu)⟩
theorem rep_RT {d:Nat} {a:T} (h:IA d a) {lo hi:Int} (h0:0≤lo) (h1:lo≤20) (h2:hi=-1∨lo≤hi∧hi≤20):RT d (repT a lo hi):=by
 unfold repT;rw [RT];refine ⟨.inr (.inr (.inr ⟨rfl,rfl,rfl,h0,h1,h2⟩)),ST.none_ok,RL_all _ fun t ht=>?_⟩
 rw [List.mem_singleton.1 ht];exact h.is 5 (by omega)
theorem rep_is {d:Nat} {a:T} (h:IA d a) {lo hi:Int} (h0:0≤lo) (h1:lo≤20) (h2:hi=-1∨lo≤hi∧hi≤20) (k:Int) (hk:k=3∨k=4):IS d k (repT a lo hi):=by
 have e:rnd k (repT a lo hi).kind=false:=by
  show rnd k 5=false
  unfold rnd
  rcases hk with rfl | rfl <;> decide
 unfold IS;rw [if_neg (by rw [e];decide)]
 exact rep_RT h h0 h1 h2
def AG (F d:Nat):Prop:=∀ o,d+o=12→Gives (altD F (d+1)) o (RT d)
theorem atom_gives {F d o:Nat} (hdo:d+o=12) (ih:∀ e,d=e+1→AG F e):Gives (atomP F (altD F d)) o (IA d):=fun l s ho hb h=>by
 unfold atomP atomB at h ⊢
 by_cases h1:P07.nxt l s=40
 ·rw [if_pos h1] at h ⊢
  by_cases h2:s.opn=12
  ·rw [if_pos h2] at h
   exact absurd h (fail_bad _ _)
  ·rw [if_neg h2] at h ⊢
   obtain ⟨e,rfl⟩:∃ e,d=e+1:=⟨d - 1,by omega⟩
   unfold parP at h ⊢
   dsimp only at h ⊢
   have h3:=before (must_tame 41 (by decide)) h
   dsimp only at h3
   obtain ⟨h4,h5⟩:=ih e rfl (o+1) (by omega) l { s.adv with opn:=s.adv.opn+1 } (by show s.opn+1=_;omega) hb h3
   refine ⟨.inr ⟨by omega,h4⟩,?_⟩
   rw [must_opn]
   dsimp only
   rw [h5]
   rfl
 ·rw [if_neg h1] at h ⊢
  by_cases h2:P07.nxt l s=46
  ·rw [if_pos h2] at h ⊢
   exact ⟨.inl ⟨_,ST.not_ok _,rfl⟩,ho⟩
  ·rw [if_neg h2] at h ⊢
   by_cases h3:P07.nxt l s=91
   ·rw [if_pos h3] at h ⊢
    refine ⟨.inl ?_,(cls_opn F _ _).trans ho⟩;unfold clsP clsB clsQ;have key:∀ (nt:Bool) (L:List Nat),(if nt then notS (mkS L) else mkS L).Ok:=fun nt L=>by
     cases nt
     ·exact mk_ok _ _ rfl
     ·exact ST.not_ok _
    split
    ·exact ⟨_,key true _,rfl⟩
    ·exact ⟨_,key false _,rfl⟩
   ·rw [if_neg h3] at h ⊢
    exact ⟨.inl ⟨_,mk_ok _ _ rfl,rfl⟩,(lit_opn _ _).trans ho⟩
theorem item_gives {F d o:Nat} (hdo:d+o=12) (ih:∀ e,d=e+1→AG F e):Gives (itemP F (altD F d)) o (fun t=>IS d 3 t∧IS d 4 t):=fun l s ho hb h=>by
 unfold itemP at h ⊢;have h0:=before (sg_tame (atomP F (altD F d) l s).1) h;obtain ⟨h1,h2⟩:=atom_gives hdo ih l s ho hb h0;generalize atomP F (altD F d) l s=x at *;unfold sgB at h ⊢
 by_cases c1:P07.nxt l x.2=42
 ·rw [if_pos c1] at h ⊢
  exact ⟨⟨rep_is h1 (by omega) (by omega) (.inl rfl) 3 (by omega),rep_is h1 (by omega) (by omega) (.inl rfl) 4 (by omega)⟩,h2⟩
 ·rw [if_neg c1] at h ⊢
  by_cases c2:P07.nxt l x.2=43
  ·rw [if_pos c2] at h ⊢
   exact ⟨⟨rep_is h1 (by omega) (by omega) (.inl rfl) 3 (by omega),rep_is h1 (by omega) (by omega) (.inl rfl) 4 (by omega)⟩,h2⟩
  ·rw [if_neg c2] at h ⊢
   by_cases c3:P07.nxt l x.2=63
   ·rw [if_pos c3] at h ⊢
    exact ⟨⟨rep_is h1 (by omega) (by omega) (.inr ⟨by omega,by omega⟩) 3 (by omega),rep_is h1 (by omega) (by omega) (.inr ⟨by omega,by omega⟩) 4 (by omega)⟩,h2⟩
   ·rw [if_neg c3] at h ⊢
    by_cases c4:P07.nxt l x.2=123
    ·rw [if_pos c4] at h ⊢
     obtain ⟨b1,b2,b3⟩:=braces_gives h;exact ⟨⟨rep_is h1 b1 b2 b3 3 (by omega),rep_is h1 b1 b2 b3 4 (by omega)⟩,(braces_opn _ _).trans h2⟩
    ·rw [if_neg c4] at h ⊢
     exact ⟨⟨h1.is 3 (by omega),h1.is 4 (by omega)⟩,h2⟩
theorem catL_gives {F d o:Nat} (hdo:d+o=12) (ih:∀ e,d=e+1→AG F e):∀ f acc,(∀ t,t ∈ acc→IS d 3 t∧IS d 4 t)→Gives (catL F (altD F d) f acc) o (fun L=>∀ t,t ∈ L→IS d 3 t∧IS d 4 t)
 | 0,acc,ha=>fun l s ho hb h=>⟨ha,ho⟩
 | f+1,acc,ha=>fun l s ho hb h=>by
  rw [catL] at h ⊢
  split at h
  ·rename_i hg
   rw [if_pos hg];have h0:=before (catL_tame F (altD_tame F d) f _) h;obtain ⟨h1,h2⟩:=item_gives hdo ih l s ho hb h0;refine catL_gives hdo ih f _ (fun t ht=>?_) l _ h2 h0 h
   rcases List.mem_append.1 ht with ht | ht
   ·exact ha t ht
   ·rw [List.mem_singleton.1 ht]
    exact h1
  ·rename_i hg
   rw [if_neg hg];exact ⟨ha,ho⟩
theorem cat_gives {F d o:Nat} (hdo:d+o=12) (ih:∀ e,d=e+1→AG F e):Gives (catP F (altD F d)) o (IS d 4):=fun l s ho hb h=>by
 unfold catP at h ⊢;obtain ⟨h1,h2⟩:=catL_gives hdo ih F [] (by simp) l s ho hb h
 refine ⟨?_,h2⟩;generalize (catL F (altD F d) F [] l s).1=L at *
 dsimp only
 match L,h1 with
 | [],_ =>
  unfold IS;rw [if_neg (by show ¬ rnd 4 1=true;decide)]
  unfold wrapC;rw [RT];exact ⟨.inl ⟨rfl,rfl,rfl,rfl,rfl⟩,ST.none_ok,by rw [RL];trivial⟩
 | [t],h1=>exact (h1 t (by simp)).2
 | a::b::L,h1 =>
  unfold IS;rw [if_neg (by show ¬ rnd 4 3=true;decide)]
  unfold wrapC;rw [RT];exact ⟨.inr (.inr (.inl ⟨.inl rfl,rfl,rfl,rfl,by simp⟩)),ST.none_ok,RL_all _ fun t ht=>(h1 t ht).1⟩
theorem altL_gives {F d o:Nat} (hdo:d+o=12) (ih:∀ e,d=e+1→AG F e):∀ f acc,acc≠[]→(∀ t,t ∈ acc→IS d 4 t)→Gives (altL F (altD F d) f acc) o (fun L=>L≠[]∧∀ t,t ∈ L→IS d 4 t)
 | 0,acc,hn,ha=>fun l s ho hb h=>⟨⟨hn,ha⟩,ho⟩
 | f+1,acc,hn,ha=>fun l s ho hb h=>by
  rw [altL] at h ⊢
  split at h
  ·rename_i hg
   rw [if_pos hg];have h0:=before (altL_tame F (altD_tame F d) f _) h;obtain ⟨h1,h2⟩:=cat_gives hdo ih l s.adv ho hb h0;refine altL_gives hdo ih f _ (by simp) (fun t ht=>?_) l _ h2 h0 h
   rcases List.mem_append.1 ht with ht | ht
   ·exact ha t ht
   ·rw [List.mem_singleton.1 ht]
    exact h1
  ·rename_i hg
   rw [if_neg hg];exact ⟨⟨hn,ha⟩,ho⟩
theorem alt_gives {F d:Nat} (ih:∀ e,d=e+1→AG F e):AG F d:=fun o hdo l s ho hb h=>by
 change (altP F (altD F d) l s).2.bad=none at h
 show RT d (altP F (altD F d) l s).1∧(altP F (altD F d) l s).2.opn=o
 unfold altP at h ⊢
 dsimp only at h ⊢
 have h0:=before (altL_tame F (altD_tame F d) F _) h;obtain ⟨h1,h2⟩:=cat_gives hdo ih l s ho hb h0;obtain ⟨⟨h3,h4⟩,h5⟩:=altL_gives hdo ih F [(catP F (altD F d) l s).1] (by simp) (fun t ht=>by rw [List.mem_singleton.1 ht];exact h1) l _ h2 h0 h
 refine ⟨?_,h5⟩;generalize (altL F (altD F d) F [(catP F (altD F d) l s).1] l (catP F (altD F d) l s).2).1=L at *
 match L,h3,h4 with
 | [t],_,h4=>exact (h4 t (by simp)).rt
 | a::b::L,_,h4 =>
  unfold wrapA;rw [RT];exact ⟨.inr (.inr (.inl ⟨.inr rfl,rfl,rfl,rfl,by simp⟩)),ST.none_ok,RL_all _ h4⟩
theorem ag_all {F:Nat}:∀ d,AG F d
 | 0=>alt_gives fun e he=>by omega
 | d+1=>alt_gives fun e he=>by
  rw [show e=d from by omega]
  exact ag_all d
theorem read_right {F:Nat} {l:List UInt8} {t:T} (h:parse F l=.inr t):RT 12 t:=by
 obtain ⟨h1,h2,-⟩:=right_run h;have:=(ag_all (F:=F) 12 0 rfl l s0 rfl rfl h2).1
 change RT 12 (altD F 13 l s0).1 at this
 rw [h1] at this;exact this
theorem sub_right {d:Nat} {k:Int}:∀ {L:List T},RL d k L→∀ t,t ∈ L→RT d t
 | [],_,t,h=>by simp at h
 | a::L,hR,t,h=>by
  obtain ⟨h1,h2⟩:=RL_cons hR
  rcases List.mem_cons.1 h with rfl | h
  ·exact IS.rt (k:=k) h1
  ·exact sub_right h2 t h
end P08
namespace P08
open P07 Bytes
open Sets (ST)
def bareB (t:T):Bool :=
 if t.kind=1 then eqB t.set ST.none && (decide (t.mn=0) && (decide (t.mx=0) && decide (t.subs.length=0)))
 else if t.kind=2 then decide (t.mn=0) && (decide (t.mx=0) && decide (t.subs.length=0))
 else if t.kind=3∨t.kind=4 then eqB t.set ST.none && (decide (t.mn=0) && (decide (t.mx=0) && decide (2≤t.subs.length)))
 else if t.kind=5 then eqB t.set ST.none && (decide (t.subs.length=1) && (decide (0≤t.mn) && (decide (t.mn≤20) && (decide (t.mx=-1) || (decide (t.mn≤t.mx) && decide (t.mx≤20))))))
 else false
theorem bareB_iff (k:Int) (s:ST) (mn mx:Int) (l:List T):bareB (.nd k s mn mx l)=true↔Bare k s mn mx l.length:=by
 unfold bareB Bare T.kind T.set T.mn T.mx T.subs
 dsimp only
 by_cases h1:k=1
 ·rw [if_pos h1]
  simp only [Bool.and_eq_true,decide_eq_true_eq,eqB_iff]
  constructor
  ·rintro ⟨e1,h2,h3,h4⟩
   exact .inl ⟨h1,e1,h2,h3,h4⟩
  ·rintro (h | h | h | h)
   ·exact h.2
   ·omega
   ·omega
   ·omega
 ·rw [if_neg h1]
  by_cases h2:k=2
  ·rw [if_pos h2]
   simp only [Bool.and_eq_true,decide_eq_true_eq]
   constructor
   ·rintro ⟨e2,e3,e4⟩
    exact .inr (.inl ⟨h2,e2,e3,e4⟩)
   ·rintro (h | h | h | h)
    ·omega
    ·exact h.2
    ·omega
    ·omega
  ·rw [if_neg h2]
   by_cases h3:k=3∨k=4
   ·rw [if_pos h3]
    simp only [Bool.and_eq_true,decide_eq_true_eq,eqB_iff]
    constructor
    ·rintro ⟨e1,e2,e3,e4⟩
     exact .inr (.inr (.inl ⟨h3,e1,e2,e3,e4⟩))
    ·rintro (h | h | h | h)
     ·omega
     ·omega
     ·exact h.2
     ·omega
   ·rw [if_neg h3]
    by_cases h4:k=5
    ·rw [if_pos h4]
     simp only [Bool.and_eq_true,Bool.or_eq_true,decide_eq_true_eq,eqB_iff]
     constructor
     ·rintro ⟨e1,e2,e3,e4,e5⟩
      exact .inr (.inr (.inr ⟨h4,e1,e2,e3,e4,e5⟩))
     ·rintro (h | h | h | h)
      ·omega
      ·omega
      ·omega
      ·exact h.2
    ·rw [if_neg h4]
     constructor
     ·intro h
      cases h
     ·intro h
      omega
mutual
def SOk:T→Prop
 | .nd _ s _ _ l=>s.Ok∧SOkL l
def SOkL:List T→Prop
 | []=>True
 | t::l=>SOk t∧SOkL l
end
mutual
def opn:T→Int
 | .nd k s mn mx l=>if bareB (.nd k s mn mx l) then opnL k 0 l else -1
def opnL:Int→Int→List T→Int
 | _,m,[]=>m
 | k,m,t::l=>if opn t<0 then -1 else opnL k (max m (if rnd k t.kind then opn t+1 else opn t)) l
end
theorem SOk_cons {t:T} {l:List T} (h:SOkL (t::l)):SOk t∧SOkL l:=by rw [SOkL] at h;exact h
mutual
theorem opn_iff:∀ (t:T) (d:Nat),SOk t→((0≤opn t∧opn t≤d)↔RT d t)
 | .nd k s mn mx l,d,hs=>by
  rw [SOk] at hs;rw [opn,RT];have hb:=bareB_iff k s mn mx l
  by_cases h:bareB (.nd k s mn mx l)=true
  ·rw [if_pos h]
   have:=opnL_iff l d k 0 hs.2 (Int.le_refl 0);rw [this]
   constructor
   ·rintro ⟨-,h2⟩
    exact ⟨hb.1 h,hs.1,h2⟩
   ·rintro ⟨-,-,h2⟩
    exact ⟨by omega,h2⟩
  ·rw [if_neg h]
   constructor
   ·intro h2
    omega
   ·rintro ⟨h2,-⟩
    exact absurd (hb.2 h2) h
theorem opnL_iff:∀ (l:List T) (d:Nat) (k m:Int),SOkL l→0≤m→((0≤opnL k m l∧opnL k m l≤d)↔m≤d∧RL d k l)
 | [],d,k,m,_,hm=>by
  rw [opnL,RL];exact ⟨fun h=>⟨h.2,trivial⟩,fun h=>⟨hm,h.1⟩⟩
 | t::l,d,k,m,hs,hm=>by
  obtain ⟨h1,h2⟩:=SOk_cons hs;rw [opnL,RL]
  by_cases h:opn t<0
  ·rw [if_pos h]
   constructor
   ·intro h3
    omega
   ·rintro ⟨-,h3,-⟩
    split at h3
    ·have:=(opn_iff t (d - 1) h1).2 h3.2
     omega
    ·have:=(opn_iff t d h1).2 h3
     omega
  ·rw [if_neg h]
   rw [opnL_iff l d k _ h2 (by omega)]
   constructor
   ·rintro ⟨h3,h4⟩
    refine ⟨by omega,?_,h4⟩
    split
    ·rename_i hr
     rw [if_pos hr] at h3;exact ⟨by omega,(opn_iff t (d - 1) h1).1 (by omega)⟩
    ·rename_i hr
     rw [if_neg hr] at h3;exact (opn_iff t d h1).1 (by omega)
   ·rintro ⟨h3,h4,h5⟩
    refine ⟨?_,h5⟩
    split
    ·rename_i hr
     rw [if_pos hr] at h4;have:=(opn_iff t (d - 1) h1).2 h4.2;omega
    ·rename_i hr
     rw [if_neg hr] at h4;have:=(opn_iff t d h1).2 h4;omega
end
def rightB (t:T):Bool:=decide (0≤opn t) && decide (opn t≤12)
theorem rightB_iff {t:T} (h:SOk t):rightB t=true↔RT 12 t:=by
 rw [← opn_iff t 12 h];unfold rightB
 simp
theorem opnL_append (k:Int):∀ (l:List T) (m:Int) (t:T),0≤m→opnL k m (l++[t])=if opnL k m l<0 then -1 else if opn t<0 then -1 else max (opnL k m l) (if rnd k t.kind then opn t+1 else opn t)
 | [],m,t,hm=>by
  rw [List.nil_append,opnL,opnL,opnL,if_neg (show ¬ m<0 by omega)]
 | s::l,m,t,hm=>by
  rw [List.cons_append,opnL,opnL]
  by_cases h:opn s<0
  ·rw [if_pos h,if_pos h,if_pos (by omega)]
  ·rw [if_neg h,if_neg h,opnL_append k l _ t (by omega)]
mutual
theorem opn_le:∀ t:T,opn t≤cnt t
 | .nd k s mn mx l=>by
  rw [opn,cnt]
  split
  ·have:=opnL_le l k 0
   omega
  ·omega
theorem opnL_le:∀ (l:List T) (k m:Int),opnL k m l≤max m (cntL l+1)
 | [],k,m=>by rw [opnL];omega
 | t::l,k,m=>by
  rw [opnL,cntL]
  split
  ·omega
  ·have h1:=opnL_le l k (max m (if rnd k t.kind then opn t+1 else opn t))
   have h2:=opn_le t;have h3:(if rnd k t.kind then opn t+1 else opn t)≤opn t+1:=by split <;> omega
   generalize (if rnd k t.kind then opn t+1 else opn t)=X at *
   omega
end
end P08
namespace P08
open Go.RowKit Base Bytes P07
open Sets (ST)
theorem fround_any (t s:T) (a:Option Addr) (c:Nat) (b:Option Addr) (e:Nat) (w:World):Calls Tryz.prog 53 #[nodeV t a c,nodeV s b e] w fun e w'=>e=.returned (.bool (rnd t.kind s.kind))∧Keep (fun _=>False) w w':=by
 have q:=((Keep.refl (fun _=>False) w).alloc (.cells (ncells t a c) 27)).alloc (.cells (ncells s b e) 27)
 go_enter Tryz.func53,Tryz.ntmps53
 go_wp2_with fail
 all_goals
  go_ret;refine ⟨Bytes.ret_bool ?_,q⟩;rw [Bool.eq_iff_iff];unfold rnd
  try simp_all
  try omega
theorem fbare_any (t:T) (a:Option Addr) (c:Nat) (w:World):Calls Tryz.prog 52 #[nodeV t a c] w fun e w'=>e=.returned (.bool (bareB t))∧Keep (fun _=>False) w w':=by
 have a0:=At.new w (ncells t a c) 27;have q:=(Keep.refl (fun _=>False) w).alloc (.cells (ncells t a c) 27)
 obtain ⟨E,hE⟩:∃ E,eqB t.set ST.none=E:=⟨_,rfl⟩;have es:∀ W,(Op.equalIn 10000 24 (.agg #[.int .u64 (t.set.x0:Int),.int .u64 (t.set.x1:Int),.int .u64 (t.set.x2:Int),.int .u64 (t.set.x3:Int)]) (.agg #[.int .u64 0,.int .u64 0,.int .u64 0,.int .u64 0])).run Tryz.prog W=.ok E W:=fun W=>by
  rw [← hE];exact eq_set t.set ST.none W
 have HE:=hid (And.intro hE q);clear hE q
 cases E
 all_goals
  go_enter Tryz.func52,Tryz.ntmps52
  go_wp2_with fail
  all_goals
   go_ret;refine ⟨Bytes.ret_bool ?_,HE.out.2⟩;rw [Bool.eq_iff_iff];unfold bareB;rw [HE.out.1];clear a0 es HE
   try simp_all
   try omega
end P08
namespace P08
open Go.RowKit Base Bytes P07
open Sets (ST)
theorem opnL_neg (k:Int):∀ (L:List T) (m:Int) (i:Nat) (s:T),L[i]?=some s→opn s<0→opnL k m L=-1
 | [],m,i,s,h,_=>by simp at h
 | t::L,m,0,s,h,hs=>by
  simp at h
  subst h;rw [opnL,if_pos hs]
 | t::L,m,i+1,s,h,hs=>by
  rw [opnL]
  split
  ·rfl
  ·exact opnL_neg k L _ i s (by simpa using h) hs
theorem opn_bare {t:T} (h:bareB t=true):opn t=opnL t.kind 0 t.subs:=by
 cases t with
 | nd k s mn mx l=>rw [opn,if_pos h];rfl
theorem opn_not {t:T} (h:bareB t=false):opn t=-1:=by
 cases t with
 | nd k s mn mx l=>rw [opn,if_neg (by rw [h];decide)]
theorem opnL_pre (k:Int) (L:List T) (i:Nat) {s:T} (hs:L[i]?=some s) (h:0≤opnL k 0 (L.take i)) (h2:0≤opn s):opnL k 0 (L.take (i+1))=max (opnL k 0 (L.take i)) (if rnd k s.kind then opn s+1 else opn s):=by
 rw [List.take_add_one,hs]
 show opnL k 0 (L.take i++[s])=_
 rw [opnL_append k _ 0 s (by omega),if_neg (by omega),if_neg (by omega)]
theorem ncells_keep {w w':World} {bl o:Nat} {t:T} {a:Option Addr} {c:Nat} (h:∀ j v,(ncells t a c)[j]?=some v→w.cell? ⟨bl,o+j,none⟩=some v) (q:Keep (fun _=>False) w w') (hb:bl<w.heap.size) :
  ∀ j v,(ncells t a c)[j]?=some v→w'.cell? ⟨bl,o+j,none⟩=some v:=fun j v hv=>(q.cell (a:=⟨bl,o+j,none⟩) hb (fun h=>h)).trans (h j v hv)
theorem fopen_all:∀ (n:Nat) (t:T),SizeOf.sizeOf t<n→cnt t≤1000000000→∀ (a:Option Addr) (c:Nat) (w:World),Lie w (fun _=>True) a t.subs →
  Calls Tryz.prog 31 #[nodeV t a c] w fun e w'=>e=.returned (.int .i64 (opn t))∧Keep (fun _=>False) w w'
 | 0,_,h,_,_,_,_,_=>absurd h (Nat.not_lt_zero _)
 | n+1,t,h,hc,a,c,w,hL=>by
  have hlen:=hL.len;have a0:=At.new w (ncells t a c) 27;have q:=(Keep.refl (fun _=>False) w).alloc (.cells (ncells t a c) 27)
  have H0:=hid (And.intro a0 (And.intro q (And.intro hL (fopen_all n))));rw [cnt_eq] at hc;have hbl:∀ k,opnL t.kind 0 (t.subs.take k)≤1000000001:=fun k=>by
   have h0:=opnL_le (t.subs.take k) t.kind 0;have h2:=cntL_append (t.subs.take k) (t.subs.drop k);rw [List.take_append_drop] at h2;omega
  have HD:=hid hbl;clear q hL hbl;have c0:=a0;clear a0
  go_enter Tryz.func31,Tryz.ntmps31
  go_wp2_with fail;have c7':(w.alloc (.cells (ncells t a c) 27)).cell? ⟨w.heap.size,7,none⟩=some (.slice a t.subs.length c):=c0.cell (o:=7) rfl;generalize (w.alloc (.cells (ncells t a c) 27))=W at *;refine (fbare_any t a c W).mono ?_;rintro e w1 ⟨rfl,q1⟩;have C0:=c0.keep q1 (fun h=>h)
  have Q1:=hid (H0.out.2.1.trans q1)
  cases hb:bareB t with
  | false =>
   have ho:=opn_not hb;have HO:=hid ho;clear ho hb
   go_wp2
   go_ret;exact ⟨by rw [HO.out];rfl,Q1.out⟩
  | true =>
   obtain ⟨D,hD⟩:∃ D,opnL t.kind 0 t.subs=D:=⟨_,rfl⟩;have HO:=hid (And.intro (opn_bare hb) hD);clear hb hD c7' c0;go_wp2_with fail
   go_loopg [3,4] t.subs.length (fun gg m i wr=>∃ k:Nat,i=.int .i64 k∧k+gg=t.subs.length∧m=.int .i64 (opnL t.kind 0 (t.subs.take k))∧0≤opnL t.kind 0 (t.subs.take k)∧Keep (fun _=>False) w1 wr)
   case atStart=>exact ⟨0,rfl,by omega,by rw [List.take_zero,opnL],by rw [List.take_zero,opnL];exact Int.le_refl 0,Keep.refl _ _⟩
   case round =>
    obtain ⟨k,rfl,hk,rfl,h0,hq⟩:=hrel;have A0:=C0.keep hq (fun h=>h)
    have c0:wr.cell? ⟨w.heap.size,0,none⟩=some (.int .i64 t.kind):=A0.cell (o:=0) rfl;have c1:wr.cell? ⟨w.heap.size,1,none⟩=some (.int .u64 t.set.x0):=A0.cell (o:=1) rfl;have c2:wr.cell? ⟨w.heap.size,2,none⟩=some (.int .u64 t.set.x1):=A0.cell (o:=2) rfl;have c3:wr.cell? ⟨w.heap.size,3,none⟩=some (.int .u64 t.set.x2):=A0.cell (o:=3) rfl;have c4:wr.cell? ⟨w.heap.size,4,none⟩=some (.int .u64 t.set.x3):=A0.cell (o:=4) rfl;have c5:wr.cell? ⟨w.heap.size,5,none⟩=some (.int .i64 t.mn):=A0.cell (o:=5) rfl;have c6:wr.cell? ⟨w.heap.size,6,none⟩=some (.int .i64 t.mx):=A0.cell (o:=6) rfl;have c7:wr.cell? ⟨w.heap.size,7,none⟩=some (.slice a t.subs.length c):=A0.cell (o:=7) rfl;have hm:=HD.out k
    by_cases hlt:k<t.subs.length
    ·have hlt':(k:Int)<t.subs.length:=by omega
     obtain ⟨s,hs⟩:∃ s,t.subs[k]?=some s:=⟨t.subs[k],List.getElem?_eq_getElem hlt⟩;have LL:=hid (H0.out.2.2.1.keepF (Q1.out.trans hq));obtain ⟨bl,off,a1,e1,rfl,-,hbl,-,L1,C1⟩:=LL.out.get hs;obtain ⟨d0,d1,d2,d3,d4,d5,d6,d7⟩:=ncell C1;have hsl:=sub_less hs;have hcl:=cntL_le hs;have hcall:=H0.out.2.2.2 s (by omega) (by omega) a1 e1 wr L1
     have hds:opn s≤1000000000:=by
      have:=opn_le s;omega
     have hpre:0≤opn s→_:=opnL_pre t.kind t.subs k hs h0;have hneg:=opnL_neg t.kind t.subs 0 k s hs;have HQ:=hid (And.intro hq (And.intro hcall (And.intro hpre (And.intro hneg (And.intro hs (And.intro C1 hbl))))));clear hq hcall hpre hneg hs L1 C1 A0 hbl;have i0:(0:Int)≤k:=by omega
     obtain ⟨x,hx⟩:∃ x,opn s=x:=⟨_,rfl⟩;obtain ⟨m,hmm⟩:∃ m,opnL t.kind 0 (t.subs.take k)=m:=⟨_,rfl⟩;rw [hx] at hds;rw [hmm] at hm h0;have HX:=hid (And.intro hx hmm);rw [hmm];clear hx hmm;go_wp2_with fail;refine HQ.out.2.1.mono ?_;rintro e w2 ⟨rfl,q2⟩;rw [HX.out.1];have QQ:=hid (And.intro (HQ.out.1.trans q2) q2)
     by_cases hx:x<0
     ·have hneg:=HQ.out.2.2.2.1
      rw [HX.out.1] at hneg;have hD:D=-1:=HO.out.2.symm.trans (hneg hx);have HD1:=hid (And.intro hD QQ.out.1);clear hD hneg q2
      go_wp2
      go_ret;exact ⟨by rw [HO.out.1,HO.out.2,HD1.out.1];rfl,Q1.out.trans HD1.out.2⟩
     ·have A0:=C0.keep QQ.out.1 (fun h=>h)
      have C2:=ncells_keep HQ.out.2.2.2.2.2.1 q2 HQ.out.2.2.2.2.2.2;have hS:∀ w',Keep (fun _=>False) w2 w'→Keep (fun _=>False) w2 w'∧w'.cell? ⟨w.heap.size,0,none⟩=some (.int .i64 t.kind)∧w'.cell? ⟨w.heap.size,1,none⟩=some (.int .u64 t.set.x0)∧w'.cell? ⟨w.heap.size,2,none⟩=some (.int .u64 t.set.x1)∧w'.cell? ⟨w.heap.size,3,none⟩=some (.int .u64 t.set.x2)∧w'.cell? ⟨w.heap.size,4,none⟩=some (.int .u64 t.set.x3)∧w'.cell? ⟨w.heap.size,5,none⟩=some (.int .i64 t.mn)∧w'.cell? ⟨w.heap.size,6,none⟩=some (.int .i64 t.mx)∧w'.cell? ⟨w.heap.size,7,none⟩=some (.slice (some ⟨bl,off,none⟩) t.subs.length c)∧w'.cell? ⟨bl,off+k * 8,none⟩=some (.int .i64 s.kind)∧w'.cell? ⟨bl,off+k * 8+1,none⟩=some (.int .u64 s.set.x0)∧w'.cell? ⟨bl,off+k * 8+2,none⟩=some (.int .u64 s.set.x1)∧w'.cell? ⟨bl,off+k * 8+3,none⟩=some (.int .u64 s.set.x2)∧w'.cell? ⟨bl,off+k * 8+4,none⟩=some (.int .u64 s.set.x3)∧w'.cell? ⟨bl,off+k * 8+5,none⟩=some (.int .i64 s.mn)∧w'.cell? ⟨bl,off+k * 8+6,none⟩=some (.int .i64 s.mx)∧w'.cell? ⟨bl,off+k * 8+7,none⟩=some (.slice a1 s.subs.length e1):=fun w' q'=>by
       have e1:=fun j v h=>(q'.cell (a:=⟨bl,off+k * 8+j,none⟩) (World.block_lt_of_cell? w2 _ (C2 j v h)) (fun h=>h)).trans (C2 j v h)
       have e0:=A0.keep q' (fun h=>h)
       exact ⟨q',e0.cell (o:=0) rfl,e0.cell (o:=1) rfl,e0.cell (o:=2) rfl,e0.cell (o:=3) rfl,e0.cell (o:=4) rfl,e0.cell (o:=5) rfl,e0.cell (o:=6) rfl,e0.cell (o:=7) rfl,e1 0 _ rfl,e1 1 _ rfl,e1 2 _ rfl,e1 3 _ rfl,e1 4 _ rfl,e1 5 _ rfl,e1 6 _ rfl,e1 7 _ rfl⟩
      have HS:=hid hS;have hst:=HQ.out.2.2.1;rw [HX.out.1,HX.out.2] at hst;have HP:=hid (And.intro (hst (by omega)) HQ.out.2.2.2.2.1)
      have hx0:0≤x:=by omega
      have HR:=hid (fun W'=>fround_any t s (some ⟨bl,off,none⟩) c a1 e1 W')
      obtain ⟨r,hr⟩:∃ r,rnd t.kind s.kind=r:=⟨_,rfl⟩;rw [hr] at HP HR;clear hst A0 q2 d0 d1 d2 d3 d4 d5 d6 d7 C2 hS hr;go_wp2_with fail
      go_region_held3 (fun w'=>Keep (fun _=>False) w2 w'∧w'.cell? ⟨w.heap.size,0,none⟩=some (.int .i64 t.kind)∧w'.cell? ⟨w.heap.size,1,none⟩=some (.int .u64 t.set.x0)∧w'.cell? ⟨w.heap.size,2,none⟩=some (.int .u64 t.set.x1)∧w'.cell? ⟨w.heap.size,3,none⟩=some (.int .u64 t.set.x2)∧w'.cell? ⟨w.heap.size,4,none⟩=some (.int .u64 t.set.x3)∧w'.cell? ⟨w.heap.size,5,none⟩=some (.int .i64 t.mn)∧w'.cell? ⟨w.heap.size,6,none⟩=some (.int .i64 t.mx)∧w'.cell? ⟨w.heap.size,7,none⟩=some (.slice (some ⟨bl,off,none⟩) t.subs.length c)∧w'.cell? ⟨bl,off+k * 8,none⟩=some (.int .i64 s.kind)∧w'.cell? ⟨bl,off+k * 8+1,none⟩=some (.int .u64 s.set.x0)∧w'.cell? ⟨bl,off+k * 8+2,none⟩=some (.int .u64 s.set.x1)∧w'.cell? ⟨bl,off+k * 8+3,none⟩=some (.int .u64 s.set.x2)∧w'.cell? ⟨bl,off+k * 8+4,none⟩=some (.int .u64 s.set.x3)∧w'.cell? ⟨bl,off+k * 8+5,none⟩=some (.int .i64 s.mn)∧w'.cell? ⟨bl,off+k * 8+6,none⟩=some (.int .i64 s.mx)∧w'.cell? ⟨bl,off+k * 8+7,none⟩=some (.slice a1 s.subs.length e1)) (first | exact HS.out _ ((Keep.refl _ _).drew) | exact HS.out _ (Keep.trans (And.left (by assumption)) q)) (first
       | (go_at_call 53;refine (HR.out _).mono ?_;rintro e w2 ⟨rfl,q⟩))
      all_goals
       rename_i hh
       have HK:=hid (QQ.out.1.trans hh.1);clear hh;have j1:IntKind.i64.wrap (x+1)=x+1:=by rw [IntKind.wrap_i64];omega
       cases r
       ·have em:opnL t.kind 0 (t.subs.take (k+1))=max m (x):=by rw [HP.out.1,if_neg (by decide)]
        have EM:=hid em;clear em;go_wp2_with fail
        go_roundg (t.subs.length - (k+1))
        case measure=>omega
        case rel=>exact ⟨k+1,by go_num,by omega,by rw [EM.out],by rw [EM.out];omega,HK.out⟩
       ·have em:opnL t.kind 0 (t.subs.take (k+1))=max m (x+1):=by rw [HP.out.1,if_pos rfl]
        have EM:=hid em;clear em;go_wp2_with fail
        go_roundg (t.subs.length - (k+1))
        case measure=>omega
        case rel=>exact ⟨k+1,by go_num,by omega,by rw [EM.out],by rw [EM.out];omega,HK.out⟩
    ·have hke:k=t.subs.length:=by omega
     subst hke;rw [List.take_length,HO.out.2] at hm h0 ⊢;have HQ:=hid hq;clear hq A0;go_wp2_with fail;go_ret;exact ⟨by rw [HO.out.1,HO.out.2];rfl,Q1.out.trans HQ.out⟩
end P08
namespace P08
open Go.RowKit Base Bytes P07
open Sets (ST)
theorem fright_any (t:T) (hc:cnt t≤1000000000) (a:Option Addr) (c:Nat) (w:World) (hL:Lie w (fun _=>True) a t.subs):Calls Tryz.prog 11 #[nodeV t a c] w fun e w'=>e=.returned (.bool (rightB t))∧Keep (fun _=>False) w w':=by
 have hO:=fun w' (q:Keep (fun _=>False) w w')=>fopen_all _ t (Nat.lt_succ_self _) hc a c w' (hL.keepF q)
 have HO:=hid hO;have q0:=(Keep.refl (fun _=>False) w).alloc (.cells (ncells t a c) 27)
 have HQ0:=hid q0;obtain ⟨x,hx⟩:∃ x,opn t=x:=⟨_,rfl⟩;have hr:rightB t=(decide (0≤x) && decide (x≤12)):=by rw [← hx];rfl
 rw [hx] at HO;rw [hr];clear hO hr hx q0
 go_enter Tryz.func11,Tryz.ntmps11
 go_wp2_with fail;refine (HO.out _ (by first | exact HQ0.out | exact Keep.refl _ _)).mono ?_
 rintro e w1 ⟨rfl,q1⟩;have HQ:=hid q1;clear q1
 by_cases h1:0≤x <;> by_cases h2:x≤12
 all_goals
  have b1:=h1;have b2:=h2
  go_wp2
  all_goals
   go_ret;refine ⟨?_,by first | exact HQ0.out.trans HQ.out | exact HQ.out⟩
   all_goals (first | rfl | simp [b1,b2])
end P08
namespace P08
open P07
open Sets (ST)
mutual
def rgt:Nat→T→Bool
 | d,.nd k s mn mx l=>if d=0 then false else bareB (.nd k s mn mx l) && rgtL (d - 1) k l
def rgtL:Nat→Int→List T→Bool
 | _,_,[]=>true
 | d,k,t::l=>rgt (if rnd k t.kind then d else d+1) t && rgtL d k l
end
theorem rgt_zero (t:T):rgt 0 t=false:=by
 cases t
 rw [rgt,if_pos rfl]
theorem rgt_succ (d:Nat) (t:T):rgt (d+1) t=(bareB t && rgtL d t.kind t.subs):=by
 cases t
 rw [rgt,if_neg (by omega)]
 rfl
mutual
theorem rgt_iff:∀ (t:T) (d:Nat),SOk t→(rgt (d+1) t=true↔RT d t)
 | .nd k s mn mx l,d,h=>by
  rw [SOk] at h;rw [rgt,if_neg (by omega),RT,Bool.and_eq_true,bareB_iff,Nat.add_sub_cancel,rgtL_iff l d k h.2]
  exact ⟨fun h1=>⟨h1.1,h.1,h1.2⟩,fun h1=>⟨h1.1,h1.2.2⟩⟩
theorem rgtL_iff:∀ (l:List T) (d:Nat) (k:Int),SOkL l→(rgtL d k l=true↔RL d k l)
 | [],d,k,_=>by
  rw [rgtL,RL]
  simp
 | t::l,d,k,h=>by
  obtain ⟨h1,h2⟩:=SOk_cons h;rw [rgtL,RL,Bool.and_eq_true,rgtL_iff l d k h2];refine and_congr ?_ Iff.rfl
  cases rnd k t.kind with
  | true =>
   rw [if_pos rfl,if_pos rfl]
   cases d with
   | zero =>
    rw [rgt_zero]
    simp
   | succ e =>
    rw [rgt_iff t e h1]
    simp
  | false =>
   rw [if_neg (by decide),if_neg (by decide)]
   exact rgt_iff t d h1
end
theorem rgt_right {t:T} (h:SOk t):rgt 13 t=rightB t:=by
 have h1:=rgt_iff t 12 h;have h2:=rightB_iff h
 cases e:rgt 13 t with
 | true=>exact ((h2.2 (h1.1 e))).symm
 | false =>
  cases e2:rightB t with
  | true=>rw [h1.2 (h2.1 e2)] at e;cases e
  | false=>rfl
theorem rgtL_get {d:Nat} {k:Int}:∀ (L:List T) (i:Nat) (s:T),L[i]?=some s→rgtL d k L=true→rgt (if rnd k s.kind then d else d+1) s=true
 | [],i,s,h,_=>by simp at h
 | t::L,0,s,h,hr=>by
  simp at h
  subst h;rw [rgtL,Bool.and_eq_true] at hr;exact hr.1
 | t::L,i+1,s,h,hr=>by
  rw [rgtL,Bool.and_eq_true] at hr;exact rgtL_get L i s (by simpa using h) hr.2
theorem rgtL_not {d:Nat} {k:Int} (L:List T) (i:Nat) (s:T) (h:L[i]?=some s) (hr:rgt (if rnd k s.kind then d else d+1) s=false):rgtL d k L=false:=by
 cases e:rgtL d k L with
 | false=>rfl
 | true =>
  rw [rgtL_get L i s h e] at hr
  cases hr
theorem rgtL_take {d:Nat} {k:Int} (L:List T) (i:Nat) (s:T) (h:L[i]?=some s) (h0:rgtL d k (L.take i)=true) (hr:rgt (if rnd k s.kind then d else d+1) s=true):rgtL d k (L.take (i+1))=true:=by
 have key:∀ M:List T,rgtL d k M=true→rgtL d k (M++[s])=true:=fun M=>by
  induction M with
  | nil =>
   intro _;rw [List.nil_append,rgtL,rgtL,hr]
   rfl
  | cons t M ih =>
   intro hM;rw [rgtL,Bool.and_eq_true] at hM;rw [List.cons_append,rgtL,hM.1,ih hM.2]
   rfl
 rw [List.take_add_one,h];exact key _ h0
end P08
namespace P08
open Go.RowKit Base Bytes P07
open Sets (ST)
structure NodeP (w:World) (bl o:Nat) (t:T) (a:Option Addr) (c:Nat):Prop where
 lt:bl<w.heap.size
 cs:∀ j v,(ncells t a c)[j]?=some v→w.cell? ⟨bl,o+j,none⟩=some v
theorem NodeP.keep {S:Nat→Prop} {w w':World} {bl o:Nat} {t:T} {a:Option Addr} {c:Nat} (h:NodeP w bl o t a c) (q:Keep S w w') (hS:¬ S bl):NodeP w' bl o t a c :=
 ⟨Nat.lt_of_lt_of_le h.lt q.size,fun j v hv=>(q.cell (a:=⟨bl,o+j,none⟩) h.lt hS).trans (h.cs j v hv)⟩
theorem NodeP.keepF {w w':World} {bl o:Nat} {t:T} {a:Option Addr} {c:Nat} (h:NodeP w bl o t a c) (q:Keep (fun _=>False) w w'):NodeP w' bl o t a c:=h.keep q (fun h=>h)
theorem NodeP.of_at {w:World} {b:Nat} {t:T} {a:Option Addr} {c:Nat} {ty:TypeId} (h:At w b ty (ncells t a c)):NodeP w b 0 t a c :=
 ⟨h.lt,fun j v hv=>by rw [Nat.zero_add];exact h.cell hv⟩
theorem NodeP.eight {w:World} {bl o:Nat} {t:T} {a:Option Addr} {c:Nat} (h:NodeP w bl o t a c) :
  w.cell? ⟨bl,o,none⟩=some (.int .i64 t.kind)∧w.cell? ⟨bl,o+1,none⟩=some (.int .u64 t.set.x0)∧w.cell? ⟨bl,o+2,none⟩=some (.int .u64 t.set.x1)∧w.cell? ⟨bl,o+3,none⟩=some (.int .u64 t.set.x2)∧w.cell? ⟨bl,o+4,none⟩=some (.int .u64 t.set.x3)∧w.cell? ⟨bl,o+5,none⟩=some (.int .i64 t.mn)∧w.cell? ⟨bl,o+6,none⟩=some (.int .i64 t.mx)∧w.cell? ⟨bl,o+7,none⟩=some (.slice a t.subs.length c) :=
 ⟨h.cs 0 _ rfl,h.cs 1 _ rfl,h.cs 2 _ rfl,h.cs 3 _ rfl,h.cs 4 _ rfl,h.cs 5 _ rfl,h.cs 6 _ rfl,h.cs 7 _ rfl⟩
theorem brk_is {k j:Int} {r:Bool} (hr:rnd k j=r) (w:World):Calls Tryz.prog 76 #[.int .i64 k,.int .i64 j] w fun e w'=>e=.returned (.bool r)∧w=w':=by
 subst hr
 go_enter Tryz.func76,Tryz.ntmps76
 go_wp2_with fail
 all_goals
  go_ret;refine ⟨Bytes.ret_bool ?_,rfl⟩;rw [Bool.eq_iff_iff];unfold rnd
  try simp_all
  try omega
def tmsB (lo hi:Int):Bool:=decide (0≤lo) && (decide (lo≤20) && (decide (hi=-1) || (decide (lo≤hi) && decide (hi≤20))))
theorem tms_is {lo hi:Int} {r:Bool} (hr:tmsB lo hi=r) (w:World):Calls Tryz.prog 91 #[.int .i64 lo,.int .i64 hi] w fun e w'=>e=.returned (.bool r)∧w=w':=by
 subst hr
 go_enter Tryz.func91,Tryz.ntmps91
 go_wp2_with fail
 all_goals
  go_ret;refine ⟨Bytes.ret_bool ?_,rfl⟩;rw [Bool.eq_iff_iff];unfold tmsB
  try simp_all
  try omega
theorem fields_any (t:T) (bl o:Nat) (a:Option Addr) (c:Nat) (w:World) (h:NodeP w bl o t a c):Calls Tryz.prog 75 #[.pointer (some ⟨bl,o,none⟩)] w fun e w'=>e=.returned (.bool (bareB t))∧Keep (fun _=>False) w w':=by
 obtain ⟨E,hE⟩:∃ E,eqB t.set ST.none=E:=⟨_,rfl⟩;have es:∀ W,(Op.equalIn 10000 24 (.agg #[.int .u64 (t.set.x0:Int),.int .u64 (t.set.x1:Int),.int .u64 (t.set.x2:Int),.int .u64 (t.set.x3:Int)]) (.agg #[.int .u64 0,.int .u64 0,.int .u64 0,.int .u64 0])).run Tryz.prog W=.ok E W:=fun W=>by
  rw [← hE];exact eq_set t.set ST.none W
 have HE:=hid hE;have HP:=hid h;have hk:(t.kind == 1)=true∨((t.kind == 1)=false∧(t.kind == 2)=true)∨True:=.inr (.inr trivial);obtain ⟨c0,c1,c2,c3,c4,c5,c6,c7⟩:=h.eight;clear hE h hk;obtain ⟨R,hR⟩:∃ R,tmsB t.mn t.mx=R:=⟨_,rfl⟩;have HR:=hid hR;clear hR;have hz:((t.mn == 0)=true∧(t.mx == 0)=true∧t.mn=0∧t.mx=0)∨((t.mn == 0)=true∧(t.mx == 0)=false∧¬ (t.mn=0∧t.mx=0))∨((t.mn == 0)=false∧¬ (t.mn=0∧t.mx=0)):=by
  by_cases h1:t.mn=0 <;> by_cases h2:t.mx=0 <;> simp [h1,h2]
 have q:∀ k,Keep (fun _=>False) w (w.drewN k):=fun k=>(Keep.refl _ w).drewN k
 have HQ:=hid q;clear q
 by_cases h5:t.kind=5
 ·have k1:(t.kind == 1)=false:=by simp [h5]
  have k2:(t.kind == 2)=false:=by simp [h5]
  have k3:(t.kind == 3)=false:=by simp [h5]
  have k4:(t.kind == 4)=false:=by simp [h5]
  have k5:(t.kind == 5)=true:=by simp [h5]
  have hb:bareB t=(E && (decide (t.subs.length=1) && R)):=by
   unfold bareB;rw [if_neg (by omega),if_neg (by omega),if_neg (by omega),if_pos h5,HE.out,← HR.out]
   rfl
  rw [hb];clear hb h5;have hl:(((t.subs.length:Int) == 1)=true∧t.subs.length=1)∨(((t.subs.length:Int) == 1)=false∧¬ t.subs.length=1):=by
   by_cases h1:t.subs.length=1
   ·exact .inl ⟨by simp [h1],h1⟩
   ·exact .inr ⟨by simp;omega,h1⟩
  rcases hz with ⟨z1,z2,-,-⟩ | ⟨z1,z2,-⟩ | ⟨z1,-⟩
  all_goals
   rcases hl with ⟨l1,l2⟩ | ⟨l1,l2⟩
  all_goals
   have HL:=hid l2;clear l2
   cases E <;> cases R
  all_goals
   go_enter Tryz.func75,Tryz.ntmps75
   go_wp2_with fail
   go_quiet (fail)
   go_wp2_with fail
   go_quiet ((go_at_call 91;exact quiet_same2 (tms_is HR.out _)))
   go_wp2_with fail;go_ret;exact ⟨Bytes.ret_bool (by simp [HL.out]),(HQ.out _).drewN _⟩
 ·have k5:(t.kind == 5)=false:=by simp [h5]
  have H5:=hid h5;clear h5
  rcases hz with ⟨z1,z2,z3,z4⟩ | ⟨z1,z2,z3⟩ | ⟨z1,z3⟩
  ·have HZ:=hid (And.intro z3 z4)
   clear z3 z4
   cases E
   all_goals
    go_enter Tryz.func75,Tryz.ntmps75
    go_wp2_with fail
    go_quiet (fail)
    go_wp2_with fail
    all_goals
     go_ret;refine ⟨Bytes.ret_bool ?_,HQ.out _⟩;have h5:=H5.out;have hz:=HZ.out;rw [Bool.eq_iff_iff];unfold bareB;rw [HE.out];clear es HE c0 c1 c2 c3 c4 c5 c6 c7
     try simp_all
     try omega
  ·have HZ:=hid z3
   clear z3
   cases E
   all_goals
    go_enter Tryz.func75,Tryz.ntmps75
    go_wp2_with fail
    go_quiet (fail)
    go_wp2_with fail
    all_goals
     go_ret;refine ⟨Bytes.ret_bool ?_,HQ.out _⟩;have h5:=H5.out;have hz:=HZ.out;rw [Bool.eq_iff_iff];unfold bareB;rw [HE.out];clear es HE c0 c1 c2 c3 c4 c5 c6 c7
     try simp_all
     try omega
  ·have HZ:=hid z3
   clear z3
   cases E
   all_goals
    go_enter Tryz.func75,Tryz.ntmps75
    go_wp2_with fail
    go_quiet (fail)
    go_wp2_with fail
    all_goals
     go_ret;refine ⟨Bytes.ret_bool ?_,HQ.out _⟩;have h5:=H5.out;have hz:=HZ.out;rw [Bool.eq_iff_iff];unfold bareB;rw [HE.out];clear es HE c0 c1 c2 c3 c4 c5 c6 c7
     try simp_all
     try omega
end P08
namespace P09
open P07 P08 Bytes
open Sets (ST)
def wstep (k mn mx:Int) (w:Int):Int:=if k=5∧mx=-1 then w * (mn+1)+1 else if k=5 then (w+2) * mx else w
mutual
def wd:T→Int
 | .nd k _ mn mx l=>wdL k mn mx 1 l
def wdL:Int→Int→Int→Int→List T→Int
 | _,_,_,acc,[]=>acc
 | k,mn,mx,acc,t::l=>wdL k mn mx (min (acc+wstep k mn mx (wd t)) 1073741824) l
end
theorem wstep_ge {k mn mx w:Int} (hw:0≤w) (hmn:0≤mn) (hmx:-1≤mx):0≤wstep k mn mx w:=by
 unfold wstep
 split
 ·have:=Int.mul_nonneg hw (show (0:Int)≤mn+1 by omega)
  omega
 ·rename_i h
  split
  ·rename_i h5
   have:mx≠-1:=fun e=>h ⟨h5,e⟩
   exact Int.mul_nonneg (by omega) (by omega)
  ·exact hw
mutual
def noneB:T→Bool
 | .nd k s mn _ l=>if k=2 then eqB s ST.none else if k=3 then anyN l else if k=4 then allN l else if k=5 then decide (0<mn) && headN l else false
def anyN:List T→Bool
 | []=>false
 | t::l=>noneB t || anyN l
def allN:List T→Bool
 | []=>true
 | t::l=>noneB t && allN l
def headN:List T→Bool
 | []=>false
 | t::_=>noneB t
end
theorem noneB_eq (t:T):noneB t=if t.kind=2 then eqB t.set ST.none else if t.kind=3 then anyN t.subs else if t.kind=4 then allN t.subs else if t.kind=5 then decide (0<t.mn) && headN t.subs else false:=by
 cases t
 rw [noneB]
 rfl
end P09
namespace P08
open P07
open Sets (ST)
mutual
theorem RT_sok:∀ (t:T) (d:Nat),RT d t→SOk t
 | .nd k s mn mx l,d,h=>by
  have:=h.bare;rw [SOk];exact ⟨this.2.1,RL_sok l d k this.2.2⟩
theorem RL_sok:∀ (l:List T) (d:Nat) (k:Int),RL d k l→SOkL l
 | [],d,k,h=>by rw [SOkL];trivial
 | t::l,d,k,h=>by
  obtain ⟨h1,h2⟩:=RL_cons h;rw [SOkL];exact ⟨RT_sok t d (IS.rt (k:=k) h1),RL_sok l d k h2⟩
end
theorem RL_get {d:Nat} {k:Int}:∀ {L:List T} {i:Nat} {s:T},RL d k L→L[i]?=some s→RT d s:=fun hR h=>sub_right hR _ (List.mem_of_getElem? h)
theorem RT.subs {d:Nat} {t:T} (h:RT d t):RL d t.kind t.subs:=by
 cases t
 exact h.bare.2.2
end P08
end Go.Proofs.YtlmfbchgkjgljaaGreat
