/- Layer 11, the code: what a block is to the parts of an expression (its kind); what is kept of a Rep's answers; how the heap goes on. -/
import Derived.Test.YthcjfgfbeollpaaDoorKB47
import Derived.Test.YthcjfgfbeollpaaDoorKB11
import Derived.Test.YthcjfgfbeollpaaDoorKB29
import Derived.Test.YthcjfgfbeollpaaDoorKB31
import Derived.Test.YthcjfgfbeollpaaDoorKB30
set_option maxRecDepth 100000
set_option maxHeartbeats 32000000
open Go.Lib (hid)
namespace Go.Proofs.YthcjfgfbeollpaaDoor
namespace P11
open Go.RowKit Go.Maps Go.ChangeMaps Go.MapKept Base Bytes P07 P08 P09 P10 Seen
open Sets (ST pc cnt_le)
theorem countP_less {L:List Nat} {f g:Nat→Bool} (hle:∀ x,f x=true→g x=true) {j:Nat} (hj:j ∈ L) (hf:f j=false) (hg:g j=true):L.countP f<L.countP g:=by
 have hL:∀ L:List Nat,L.countP f≤L.countP g:=fun L=>List.countP_mono_left fun x _ hx=>hle x hx
 induction L with
 | nil=>simp at hj
 | cons x L ih =>
  rw [List.countP_cons,List.countP_cons]
  rcases List.mem_cons.1 hj with rfl | hm
  ·rw [hf,hg,if_neg (by decide),if_pos rfl]
   have:=hL L;omega
  ·have h1:=ih hm
   have h2:(if f x=true then 1 else 0)≤(if g x=true then 1 else 0):=by
    by_cases h:f x=true
    ·rw [if_pos h,if_pos (hle x h)]
     exact Nat.le_refl _
    ·rw [if_neg h]
     exact Nat.zero_le _
   omega
@[reducible] def MV:Option (Nat × Nat)→Value
 | none=>plV none 0 0
 | some (g,c)=>plV (some ⟨g,0,none⟩) 1 c
def encM:Option (Nat × Nat)→DataW Unit
 | none=>.lit (.int .i64 (-1))
 | some (g,c)=>.agg [.lit (.int .i64 g),.lit (.int .i64 c)]
def placeR:Value→Option (DataW Unit × List MemPlace)
 | .agg cs=>match cs.toList with
  | [.int .i64 0,.slice none 0 0]=>some (.lit (.int .i64 (-1)),[])
  | [.int .i64 0,.slice (some ⟨g,0,none⟩) 1 c]=>some (.agg [.lit (.int .i64 g),.lit (.int .i64 c)],[])
  | _=>none
 | _=>none
theorem placeR_mk (e:Option (Nat × Nat)):placeR (MV e)=some (encM e,[]):=by
 match e with
 | none=>rfl
 | some (g,c)=>rfl
theorem placeR_inv {v:Value} {e:Option (Nat × Nat)} {ps:List MemPlace} (h:placeR v=some (encM e,ps)):v=MV e:=by
 cases v with
 | agg cs =>
  simp only [placeR] at h
  match e with
  | none =>
   split at h
   ·rename_i hc
    show Value.agg cs=Value.agg #[.int .i64 0,.slice none 0 0]
    rw [show cs=#[.int .i64 0,.slice none 0 0] from by rw [← hc]]
   ·simp [encM] at h
   ·cases h
  | some (g,c) =>
   split at h
   ·simp [encM] at h
   ·rename_i g' c' hc
    simp only [encM,Option.some.injEq,Prod.mk.injEq,DataW.agg.injEq,List.cons.injEq,DataW.lit.injEq,Lit.int.injEq,true_and,and_true] at h
    obtain ⟨⟨h1,h2⟩,-⟩:=h;have h1:=Int.ofNat_inj.1 h1;have h2:=Int.ofNat_inj.1 h2;subst h1 h2
    show Value.agg cs=Value.agg #[.int .i64 0,.slice (some ⟨g',0,none⟩) 1 c']
    rw [show cs=#[.int .i64 0,.slice (some ⟨g',0,none⟩) 1 c'] from by rw [← hc]]
   ·cases h
 | _=>simp [placeR] at h
def absent (E:Int→Option (Option (Nat × Nat))):Nat:=(List.range 61).countP fun p:Nat=>(E (p:Int)).isNone
def MpW (w:World) (b:Nat) (E:Int→Option (Option (Nat × Nat))):Prop :=
 ∃ n D,n+absent E≤61∧w.ownsMap Tryd.prog 3 placeR b n D∧(∀ x:Int,D.atKey (.int .i64 x) (encM none)=encM ((E x).getD none))∧∀ x:Int,Maps.has D (.int .i64 x)=(E x).isSome
theorem MpW.keep {S:Nat→Prop} {w w':World} {b:Nat} {E:Int→Option (Option (Nat × Nat))} (h:MpW w b E) (q:Keep S w w') (hn:¬ S b):MpW w' b E:=by
 obtain ⟨n,D,h1,h2,r⟩:=h;refine ⟨n,D,h1,?_,r⟩;have hlt:=World.ownsMap.lt h2;obtain ⟨es,clock,hb,r⟩:=h2;exact ⟨es,clock,(q.block b hlt hn).trans hb,r⟩
theorem MpW.lt {w:World} {b:Nat} {E:Int→Option (Option (Nat × Nat))} (h:MpW w b E):b<w.heap.size:=by
 obtain ⟨n,D,h1,h2,r⟩:=h;exact World.ownsMap.lt h2
theorem MpW.new (w:World):MpW (w.alloc (.map #[] 0)) w.heap.size (fun _=>none) :=
 ⟨0,.map [],by
  show 0+absent (fun _=>none)≤61
  unfold absent;rw [Nat.zero_add]
  exact Nat.le_trans List.countP_le_length (by simp),World.ownsMap_made w _ _ _,fun _=>rfl,fun _=>rfl⟩
theorem zeroP (w:World):(zeroValue 48).run Tryd.prog w=.ok (plV none 0 0) w:=by kernel_rfl
theorem MpW.look {w:World} {b:Nat} {E:Int→Option (Option (Nat × Nat))} (h:MpW w b E) {x:Int} (h1:-9223372036854775808≤x) (h2:x≤9223372036854775807) :
  (Instr.lookup 69 (.map (some b)) (.int .i64 x) true).run Tryd.prog w=.ok (.tuple #[MV ((E x).getD none),.bool (E x).isSome]) w:=by
 obtain ⟨n,D,-,hm,ha,hh⟩:=h;obtain ⟨v,ps,hrun,hv⟩:=World.ownsMap.look_ok hm Seen.law Tryd.underlying69 (zeroP w) (placeR_mk none) (keyOf_id h1 h2);rw [ha] at hv;rw [hh] at hrun;rw [hrun,placeR_inv hv]
theorem MpW.put {w:World} {b:Nat} {E:Int→Option (Option (Nat × Nat))} (h:MpW w b E) {p:Nat} (hp:p≤60) (hE:E (p:Int)=none) (e:Option (Nat × Nat)) :
  ∃ w',(Instr.mapUpdate 69 (.map (some b)) (.int .i64 p) (MV e)).run Tryd.prog w=.ok () w'∧MpW w' b (fun y=>if y=(p:Int) then some e else E y)∧Keep (·=b) w w':=by
 obtain ⟨n,D,hn,hm,ha,hh⟩:=h;have hless:absent (fun y=>if y=(p:Int) then some e else E y)<absent E:=by
  unfold absent;refine countP_less (j:=p) (fun x hx=>?_) (List.mem_range.2 (by omega)) (by simp) (by rw [hE];rfl)
  dsimp only at hx ⊢
  by_cases hxp:(x:Int)=p
  ·rw [if_pos hxp] at hx
   cases hx
  ·rw [if_neg hxp] at hx
   exact hx
 obtain ⟨w',hrun,hown,hg⟩:=World.ownsMap.update hm Seen.law Tryd.underlying69 (show n<maxLen by simp only [maxLen];omega) (keyOf_id (show -9223372036854775808≤(p:Int) by omega) (by omega)) (placeR_mk e)
 refine ⟨w',hrun,⟨n+1,_,by omega,hown,fun y=>?_,fun y=>?_⟩,Seen.keep_grown hg⟩
 ·by_cases hy:y=(p:Int)
  ·subst hy
   rw [atKey_put_same (World.ownsMap.isMap hm) (show WideAt.IsKeyLit (.int .i64 (p:Int)) from trivial)]
   simp
  ·rw [atKey_put_other (by simpa using hy),ha]
   simp [hy]
 ·by_cases hy:y=(p:Int)
  ·subst hy
   rw [has_put_same (World.ownsMap.isMap hm) (show WideAt.IsKeyLit (.int .i64 (p:Int)) from trivial)]
   simp
  ·rw [has_put_other (by simpa using hy),hh]
   simp [hy]
inductive Kd
 | no | val (m:Nat) | word (d:Nat) | told (t:T) | mp (t:T)
def Kd.mut:Kd→Prop
 | .word _=>True
 | .told _=>True
 | .mp _=>True
 | _=>False
@[reducible] def toldC (asks:Int) (sl:Value) (all:Int) (m:Nat):Array Value:=#[.int .i64 asks,.int .i64 0,sl,.int .i64 all,.map (some m)]
def VE (τ:Nat→Kd):Option (Nat × Nat)→Nat→Prop
 | none,x=>x=0
 | some (g,c),x=>τ g=.val x∧1≤c
structure Inv (s:List UInt8) (w:World) (τ:Nat→Kd):Prop where
 lt:∀ b,τ b≠.no→b<w.heap.size
 told:∀ b t,τ b=.told t→∃ asks sl all m x,At w b 71 (toldC asks sl all m)∧SlW w sl x∧(∀ g,sl.ownBlock=some g→τ g=.word b)∧τ m=.mp t
 mp:∀ b t,τ b=.mp t→∃ E,MpW w b E∧∀ (y:Int) e,E y=some e→∃ p:Nat,y=p∧p≤s.length∧VE τ e (rch s (Mat t) (2 ^ p))
 val:∀ b m,τ b=.val m→Wd w b m∧m≠0∧m<2305843009213693952
 tab:Tab w
 tg:τ 0=.no
theorem Inv.keep {s:List UInt8} {w w':World} {τ:Nat→Kd} (h:Inv s w τ) {S:Nat→Prop} (q:Keep S w w') (hS:∀ b,S b→b<w.heap.size→τ b=.no) (hT:¬ S 0):Inv s w' τ:=by
 have hn:∀ b,τ b≠.no→¬ S b:=fun b hb hs=>hb (hS b hs (h.lt b hb))
 refine ⟨fun b hb=>Nat.lt_of_lt_of_le (h.lt b hb) q.size,fun b t hb=>?_,fun b t hb=>?_,fun b m hb=>?_,Tab.keepS h.tab q hT,h.tg⟩
 ·obtain ⟨asks,sl,all,m,x,h1,h2,h3,h4⟩:=h.told b t hb
  exact ⟨asks,sl,all,m,x,h1.keep q (hn b (by rw [hb];simp)),h2.keep q (fun g hg=>hn g (by rw [h3 g hg];simp)),h3,h4⟩
 ·obtain ⟨E,h1,h2⟩:=h.mp b t hb
  exact ⟨E,h1.keep q (hn b (by rw [hb];simp)),h2⟩
 ·obtain ⟨h1,h2⟩:=h.val b m hb
  exact ⟨h1.keep q (hn b (by rw [hb];simp)),h2⟩
theorem Inv.keepF {s:List UInt8} {w w':World} {τ:Nat→Kd} (h:Inv s w τ) (q:Keep (fun _=>False) w w'):Inv s w' τ:=h.keep q (fun _ h=>h.elim) (fun h=>h)
theorem Inv.start (s:List UInt8) {w:World} (hT:Tab w):Inv s w (fun _=>.no) :=
 ⟨fun b h=>absurd rfl h,fun b t h=>(by cases h),fun b t h=>(by cases h),fun b m h=>(by cases h),hT,rfl⟩
structure Ev (s:List UInt8) (w:World) (τ:Nat→Kd) (w':World) (τ':Nat→Kd):Prop where
 q:Keep (fun b=>(τ b).mut) w w'
 ext:∀ b,b<w.heap.size→τ' b=τ b
 inv:Inv s w' τ'
theorem Ev.refl {s:List UInt8} {w:World} {τ:Nat→Kd} (h:Inv s w τ):Ev s w τ w τ:=⟨Keep.refl _ _,fun _ _=>rfl,h⟩
theorem Ev.trans {s:List UInt8} {w w1 w2:World} {τ τ1 τ2:Nat→Kd} (h:Ev s w τ w1 τ1) (k:Ev s w1 τ1 w2 τ2):Ev s w τ w2 τ2 :=
 ⟨h.q.next k.q (fun i hi hl=>by rw [h.ext i hl] at hi;exact hi),fun b hb=>(k.ext b (Nat.lt_of_lt_of_le hb h.q.size)).trans (h.ext b hb),k.inv⟩
theorem Ev.own {s:List UInt8} {w w1 w2:World} {τ τ1:Nat→Kd} (h:Ev s w τ w1 τ1) {S:Nat→Prop} (q:Keep S w1 w2) (hS:∀ b,S b→b<w1.heap.size→w.heap.size≤b∧τ1 b=.no) (hT:Tab w):Ev s w τ w2 τ1 :=
 ⟨h.q.next q (fun i hi hl=>by have:=hS i hi (Nat.lt_of_lt_of_le hl h.q.size);omega),h.ext,h.inv.keep q (fun b hb hl=>(hS b hb hl).2) (fun hg=>by
  have h1:=Tab.lt hT;have h2:=hS _ hg (Nat.lt_of_lt_of_le h1 h.q.size)
  omega)⟩
theorem Ev.quiet {s:List UInt8} {w w1 w2:World} {τ τ1:Nat→Kd} (h:Ev s w τ w1 τ1) (q:Keep (fun _=>False) w1 w2):Ev s w τ w2 τ1 :=
 ⟨h.q.next q (fun _ h=>h.elim),h.ext,h.inv.keepF q⟩
theorem Ev.new {s:List UInt8} {w w1:World} {τ τ1:Nat→Kd} (h:Ev s w τ w1 τ1) {b:Nat} (hb:w1.heap.size≤b):τ1 b=.no:=by
 refine Classical.byContradiction fun hn=>?_
 have:=h.inv.lt b hn;omega
theorem Inv.turn {s:List UInt8} {w w':World} {τ:Nat→Kd} (h:Inv s w τ) {d:Nat} {t:T} (hd:τ d=.told t) {asks all asks' all':Int} {sl sl':Value} {m x':Nat}
  (hA:At w d 71 (toldC asks sl all m)) (hw:∀ g,sl.ownBlock=some g→τ g=.word d) (hm:τ m=.mp t)
  (hA':At w' d 71 (toldC asks' sl' all' m)) (hs':SlW w' sl' x') (ho:∀ g,sl'.ownBlock=some g→sl.ownBlock=some g∨w.heap.size≤g) (q:Keep (fun k=>k=d∨sl.ownBlock=some k) w w') :
  ∃ τ',Ev s w τ w' τ':=by
 have hlt:=h.lt;have hm':m<w.heap.size:=hlt m (by rw [hm];simp)
 refine ⟨fun b=>if sl'.ownBlock=some b∧w.heap.size≤b then .word d else τ b,?_⟩
 have hold:∀ b,b<w.heap.size→(if sl'.ownBlock=some b∧w.heap.size≤b then Kd.word d else τ b)=τ b:=fun b hb=>if_neg (fun h=>by omega)
 have hcase:∀ b k,(if sl'.ownBlock=some b∧w.heap.size≤b then Kd.word d else τ b)=k→(∀ e,k≠.word e)→τ b=k:=fun b k hk hne=>by
  by_cases hc:sl'.ownBlock=some b∧w.heap.size≤b
  ·rw [if_pos hc] at hk
   exact absurd hk.symm (hne d)
  ·rw [if_neg hc] at hk
   exact hk
 have hne:∀ b k,τ b=k→(∀ e,k≠.word e)→b≠d→¬ (b=d∨sl.ownBlock=some b):=fun b k hb hk hbd hor=>by
  rcases hor with h1 | h1
  ·exact hbd h1
  ·exact hk d (by rw [← hb,hw b h1])
 have hdm:d≠m:=by
  intro e;rw [e,hm] at hd
  cases hd
 refine ⟨q.mono (fun k hk=>?_),hold,fun b hb=>?_,fun b t' hb=>?_,fun b t' hb=>?_,fun b y hb=>?_,?_,?_⟩
 ·rcases hk with rfl | hk
  ·rw [hd];trivial
  ·rw [hw k hk];trivial
 ·by_cases hc:sl'.ownBlock=some b∧w.heap.size≤b
  ·exact hs'.lt b hc.1
  ·rw [if_neg hc] at hb
   exact Nat.lt_of_lt_of_le (hlt b hb) q.size
 ·have hb1:=hcase b _ hb (fun e=>by simp)
  clear hb
  by_cases hbd:b=d
  ·subst hbd
   obtain rfl:t=t':=Kd.told.inj (hd.symm.trans hb1);refine ⟨asks',sl',all',m,x',hA',hs',fun g hg=>?_,?_⟩
   ·by_cases hc:w.heap.size≤g
    ·exact if_pos ⟨hg,hc⟩
    ·rw [hold g (by omega)]
     exact hw g ((ho g hg).resolve_right hc)
   ·rw [hold m hm']
    exact hm
  ·obtain ⟨a1,a2,a3,a4,a5,b1,b2,b3,b4⟩:=h.told b t' hb1
   refine ⟨a1,a2,a3,a4,a5,b1.keep q (hne b _ hb1 (fun e=>by simp) hbd),b2.keep q (fun g hg hor=>?_),fun g hg=>?_,?_⟩
   ·have h5:=b3 g hg
    rcases hor with h1 | h1
    ·rw [h1,hd] at h5
     cases h5
    ·rw [hw g h1] at h5
     injection h5 with h5;exact hbd h5.symm
   ·have h5:=b3 g hg
    rw [hold g (hlt g (by rw [h5];simp))]
    exact h5
   ·rw [hold a4 (hlt a4 (by rw [b4];simp))]
    exact b4
 ·have hb:=hcase b _ hb (fun e=>by simp)
  obtain ⟨E,h1,h2⟩:=h.mp b t' hb;refine ⟨E,h1.keep q (hne b _ hb (fun e=>by simp) (fun e=>by rw [e,hd] at hb;cases hb)),fun y e hy=>?_⟩
  obtain ⟨p,p1,p2,p3⟩:=h2 y e hy;refine ⟨p,p1,p2,?_⟩
  match e,p3 with
  | none,p3=>exact p3
  | some (g,c),⟨p3,p4⟩=>exact ⟨(hold g (hlt g (by rw [p3];simp))).trans p3,p4⟩
 ·have hb:=hcase b _ hb (fun e=>by simp)
  obtain ⟨h1,h2⟩:=h.val b y hb;exact ⟨h1.keep q (hne b _ hb (fun e=>by simp) (fun e=>by rw [e,hd] at hb;cases hb)),h2⟩
 ·refine Tab.keepS h.tab q (fun hor=>?_)
  rcases hor with h1 | h1
  ·have:=h.tg
   rw [h1,hd] at this
   cases this
  ·have:=h.tg
   rw [hw _ h1] at this
   cases this
 ·exact (hold _ (Tab.lt h.tab)).trans h.tg
theorem Inv.note {s:List UInt8} {w w':World} {τ:Nat→Kd} (h:Inv s w τ) {m:Nat} {t:T} (hm:τ m=.mp t) {E:Int→Option (Option (Nat × Nat))} (hE:∀ (y:Int) e,E y=some e→∃ p:Nat,y=p∧p≤s.length∧VE τ e (rch s (Mat t) (2 ^ p)))
  {p:Nat} (hp:p≤s.length) {a:Option Addr} {n c:Nat} (hv:PlW w (fun g=>τ g=.no) (rch s (Mat t) (2 ^ p)) a n c) {e:Option (Nat × Nat)} (he:MV e=plV a n c) (q:Keep (·=m) w w') (hM:MpW w' m (fun y=>if y=(p:Int) then some e else E y)) :
  ∃ τ',(∀ b,(∀ g,a=some ⟨g,0,none⟩→b≠g)→τ' b=τ b)∧(∀ g,a=some ⟨g,0,none⟩→τ' g=.val (rch s (Mat t) (2 ^ p)))∧Inv s w' τ':=by
 have hlt:=h.lt;have hmlt:=hlt m (by rw [hm];simp)
 have hgm:¬ 0=m:=fun e=>by
  have:=h.tg;rw [e,hm] at this
  cases this
 obtain ⟨z,hz⟩:∃ z,rch s (Mat t) (2 ^ p)=z:=⟨_,rfl⟩;rw [hz] at hv ⊢;have hgo:∀ τ':Nat→Kd,(∀ b,τ b≠.no→τ' b=τ b)→(∀ b,τ' b≠τ b→∃ x,τ' b=.val x∧Wd w' b x∧x≠0∧x<2305843009213693952)→VE τ' e z→τ' 0=.no→Inv s w' τ':=fun τ' t1 t2 t3 t4=>by
  have hb0:∀ b k,τ' b=k→(∀ x,k≠.val x)→τ b=k:=fun b k hb hk=>by
   refine Classical.byContradiction fun hn=>?_
   obtain ⟨x,hx,-⟩:=t2 b (fun e=>hn (by rw [← e];exact hb))
   exact hk x (by rw [← hb,hx])
  refine ⟨fun b hb=>?_,fun b t' hb=>?_,fun b t' hb=>?_,fun b y hb=>?_,Tab.keepS h.tab q hgm,t4⟩
  ·by_cases h1:τ b=.no
   ·obtain ⟨x,-,h2,-⟩:=t2 b (fun e=>hb (by rw [e,h1]))
    exact h2.lt
   ·exact Nat.lt_of_lt_of_le (hlt b h1) q.size
  ·have hb:=hb0 b _ hb (fun x=>by simp)
   obtain ⟨a1,a2,a3,a4,a5,b1,b2,b3,b4⟩:=h.told b t' hb;refine ⟨a1,a2,a3,a4,a5,b1.keep q (fun e=>by rw [e,hm] at hb;cases hb),b2.keep q (fun g hg e=>by have:=b3 g hg;rw [e,hm] at this;cases this),fun g hg=>?_,?_⟩
   ·rw [t1 g (by rw [b3 g hg];simp)]
    exact b3 g hg
   ·rw [t1 a4 (by rw [b4];simp)]
    exact b4
  ·have hb:=hb0 b _ hb (fun x=>by simp)
   have hve:∀ e' x,VE τ e' x→VE τ' e' x:=fun e' x hx=>by
    match e',hx with
    | none,hx=>exact hx
    | some (g,c),⟨p3,p4⟩=>exact ⟨(t1 g (by rw [p3];simp)).trans p3,p4⟩
   by_cases hbm:b=m
   ·subst hbm
    obtain rfl:t=t':=Kd.mp.inj (hm.symm.trans hb);refine ⟨_,hM,fun y e' hy=>?_⟩
    by_cases hyp:y=(p:Int)
    ·rw [if_pos hyp] at hy
     injection hy with hy;subst hy;exact ⟨p,hyp,hp,by rw [hz];exact t3⟩
    ·rw [if_neg hyp] at hy
     obtain ⟨p1,p2,p3,p4⟩:=hE y e' hy;exact ⟨p1,p2,p3,hve _ _ p4⟩
   ·obtain ⟨E',h1,h2⟩:=h.mp b t' hb
    refine ⟨E',h1.keep q hbm,fun y e' hy=>?_⟩
    obtain ⟨p1,p2,p3,p4⟩:=h2 y e' hy;exact ⟨p1,p2,p3,hve _ _ p4⟩
  ·by_cases h1:τ' b=τ b
   ·rw [h1] at hb
    obtain ⟨h2,h3⟩:=h.val b y hb;exact ⟨h2.keep q (fun e=>by rw [e,hm] at hb;cases hb),h3⟩
   ·obtain ⟨x,hx,h2,h3⟩:=t2 b h1
    rw [hx] at hb;injection hb with hb;subst hb;exact ⟨h2,h3⟩
 cases hv with
 | none =>
  refine ⟨τ,fun _ _=>rfl,fun g hg=>(by cases hg),hgo τ (fun _ _=>rfl) (fun b hb=>absurd rfl hb) ?_ h.tg⟩
  match e,he with
  | none,_=>rfl
  | some (g,c),he=>simp [MV] at he
 | word _ g c h0 hx hc hg hno =>
  have hgt:0≠g:=fun e=>by
   have h1:=h.tab 0 (by decide)
   have h2:=hg.cell;rw [← e] at h2;rw [h1] at h2
   cases h2
  refine ⟨fun b=>if b=g then .val z else τ b,fun b hb=>if_neg (hb g rfl),fun g' hg'=>?_,hgo _ (fun b hb=>?_) (fun b hb=>?_) ?_ ?_⟩
  ·injection hg' with hg'
   injection hg' with hg';exact if_pos hg'.symm
  ·exact if_neg (fun e=>hb (by rw [e];exact hno))
  ·by_cases hbg:b=g
   ·subst hbg
    exact ⟨z,if_pos rfl,hg.keep q (fun e=>by have hno:τ b=.no:=hno;rw [e,hm] at hno;cases hno),h0,hx⟩
   ·exact absurd (if_neg hbg) hb
  ·match e,he with
   | none,he=>simp [MV] at he
   | some (g',c'),he =>
    simp [MV] at he
    exact ⟨if_pos he.1,by omega⟩
  ·exact (if_neg hgt).trans h.tg
end P11
namespace P11
open Go.RowKit Base Bytes P07 P08 P09 P10
open Sets (ST pc cnt_le)
theorem mcat_empty:∀ L:List T,MCat L []↔∀ u ∈ L,Mat u []
 | []=>by rw [mcat_nil];simp
 | t::L=>by
  rw [mcat_cons]
  constructor
  ·rintro ⟨u,v,e,h1,h2⟩
   obtain ⟨rfl,rfl⟩:=List.append_eq_nil_iff.1 e.symm;intro x hx
   rcases List.mem_cons.1 hx with rfl | hx
   ·exact h1
   ·exact (mcat_empty L).1 h2 x hx
  ·exact fun h=>⟨[],[],rfl,h t (List.mem_cons_self ..),(mcat_empty L).2 fun u hu=>h u (List.mem_cons_of_mem _ hu)⟩
theorem malt_empty:∀ L:List T,MAlt L []↔∃ u ∈ L,Mat u []
 | []=>⟨fun h=>absurd h (malt_nil _),fun ⟨u,h,_⟩=>by simp at h⟩
 | t::L=>by
  rw [malt_cons,malt_empty L]
  constructor
  ·rintro (h | ⟨u,h1,h2⟩)
   ·exact ⟨t,List.mem_cons_self ..,h⟩
   ·exact ⟨u,List.mem_cons_of_mem _ h1,h2⟩
  ·rintro ⟨u,h1,h2⟩
   rcases List.mem_cons.1 h1 with rfl | h1
   ·exact .inl h2
   ·exact .inr ⟨u,h1,h2⟩
def cntB (L:List T):Nat:=L.countP nullB
theorem cntB_at {L:List T} {i:Nat} {u:T} (h:L[i]?=some u):cntB (L.take (i+1))=cntB (L.take i)+if nullB u=true then 1 else 0:=by
 unfold cntB;have hi:=(List.getElem?_eq_some_iff.1 h).1;have hg:=(List.getElem?_eq_some_iff.1 h).2;rw [List.take_succ_eq_append_getElem hi,List.countP_append,List.countP_singleton,hg]
theorem cntB_le (L:List T):cntB L≤L.length:=List.countP_le_length
theorem cntB_all (L:List T):cntB L=L.length↔∀ u ∈ L,nullB u=true:=List.countP_eq_length
theorem cntB_any (L:List T):0<cntB L↔∃ u ∈ L,nullB u=true:=List.countP_pos_iff
theorem one_nosubs {d:Nat} {t:T} (h:RT d t) (hk:t.kind=1∨t.kind=2):t.subs=[]:=by
 match t,h,hk with
 | .nd k s mn mx l,h,hk =>
  have hb:=h.bare.1;have hk:k=1∨k=2:=hk;unfold Bare at hb
  show l=[]
  rcases hb with hb | hb | hb | hb | hb
  all_goals first | exact hb.2.2.2.2 | exact hb.2.2.2 | (exfalso;omega) | (simp_all)
theorem alt_some {d:Nat} {t:T} (h:RT d t) (hk:t.kind=3∨t.kind=4):∃ u,t.subs[0]?=some u:=by
 match t,h,hk with
 | .nd k s mn mx l,h,hk =>
  have hb:=h.bare.1;have hk:k=3∨k=4:=hk;unfold Bare at hb;have hl:0<l.length:=by omega
  exact ⟨_,List.getElem?_eq_getElem hl⟩
theorem nullB_124 {d:Nat} {t:T} (h:RT d t) (hk2:t.kind≠2) (hk5:t.kind≠5):nullB t=(decide (cntB t.subs=t.subs.length) || (decide (t.kind=4) && decide (0<cntB t.subs))):=by
 rw [Bool.eq_iff_iff,null_mat h,Bool.or_eq_true,Bool.and_eq_true,decide_eq_true_eq,decide_eq_true_eq,decide_eq_true_eq];have hsub:∀ u ∈ t.subs,nullB u=true↔Mat u []:=fun u hu=>by
  obtain ⟨i,hi⟩:=List.mem_iff_getElem?.1 hu;exact null_mat (sub_RT h hi)
 rcases P08.kinds h with k | k | k | k | k
 ·rw [mat_k1 k,one_nosubs h (.inl k)]
  simp [cntB]
 ·exact absurd k hk2
 ·rw [mat_k3 k,mcat_empty,cntB_all,k]
  constructor
  ·exact fun hh=>.inl fun u hu=>(hsub u hu).2 (hh u hu)
  ·rintro (hh | hh)
   ·exact fun u hu=>(hsub u hu).1 (hh u hu)
   ·omega
 ·rw [mat_k4 k,malt_empty,cntB_all,cntB_any]
  constructor
  ·rintro ⟨u,h1,h2⟩
   exact .inr ⟨k,u,h1,(hsub u h1).2 h2⟩
  ·rintro (hh | ⟨-,u,h1,h2⟩)
   ·obtain ⟨u,hu⟩:=alt_some h (.inr k)
    have hu:=List.mem_of_getElem? hu;exact ⟨u,hu,(hsub u hu).1 (hh u hu)⟩
   ·exact ⟨u,h1,(hsub u h1).1 h2⟩
 ·exact absurd k hk5
def lowT (t u:T):Nat:=if nullB u=true then 0 else t.mn.toNat
theorem nullB_5 {d:Nat} {t u:T} (h:RT d t) (hk:t.kind=5) (hs:t.subs=[u]):nullB t=decide (lowT t u=0):=by
 obtain ⟨u',hs',m0,-,hx,-⟩:=kind5_one h hk;obtain rfl:u=u':=by
  rw [hs] at hs';injection hs'
 have hu:nullB u=true↔Mat u []:=null_mat (sub_RT h (i:=0) (by rw [hs];rfl))
 rw [Bool.eq_iff_iff,null_mat h,decide_eq_true_eq,mat_k5 hk,hs];unfold lowT
 constructor
 ·rintro ⟨n,h1,h2,h3⟩
  by_cases hn:nullB u=true
  ·rw [if_pos hn]
  ·rw [if_neg hn]
   cases n with
   | zero=>omega
   | succ n =>
    obtain ⟨a,b,e,h4,-⟩:=h3;obtain ⟨rfl,rfl⟩:=List.append_eq_nil_iff.1 e.symm;exact absurd (hu.2 ((mhd_cons u [] []).1 h4)) hn
 ·intro hl
  by_cases hn:nullB u=true
  ·exact ⟨t.mn.toNat,by omega,by omega,Pow.nil ((mhd_cons u [] []).2 (hu.1 hn)) _⟩
  ·rw [if_neg hn] at hl
   exact ⟨0,by omega,by omega,rfl⟩
structure PR where
 nb:Nat
 no:Nat
 rb:Nat
 sc:Nat
 td:Option Nat
@[reducible] def tdp (td:Option Nat):Value:=.pointer (td.map fun d=>⟨d,0,none⟩)
@[reducible] def pcells (r:PR) (t:T):Array Value:=#[.pointer (some ⟨r.nb,r.no,none⟩),.slice (some ⟨r.rb,0,none⟩) t.subs.length r.sc,.bool (nullB t),tdp r.td]
inductive PT (w:World) (τ:Nat→Kd) (ok:Nat→Prop):T→PR→Prop
 | mk (t:T) (r:PR) (a:Option Addr) (c:Nat) (hN:NodeP w r.nb r.no t a c) (hn:τ r.nb=.no) (hnk:ok r.nb) (ht:(t.kind=5∧∃ d,r.td=some d∧τ d=.told t)∨(t.kind≠5∧r.td=none)) (hb:r.rb<w.heap.size) (hm:τ r.rb=.no) (hbk:ok r.rb) (f:Nat→PR)
   (hl:t.subs.length≤9223372036854775807) (hc:∀ i u,t.subs[i]?=some u→∀ j v,(pcells (f i) u)[j]?=some v→w.cell? ⟨r.rb,i * 4+j,none⟩=some v) (hs:∀ i u,t.subs[i]?=some u→PT w τ ok u (f i)):PT w τ ok t r
theorem PT.ev {s:List UInt8} {w w':World} {τ τ':Nat→Kd} {ok:Nat→Prop} (hi:∀ b,τ b≠.no→b<w.heap.size) (h:Ev s w τ w' τ') {t:T} {r:PR} (k:PT w τ ok t r):PT w' τ' ok t r:=by
 induction k with
 | mk t r a c hN hn hnk ht hb hm hbk f hl hc hs ih =>
  have hmut:∀ b,τ b=.no→¬ (τ b).mut:=fun b hb hm=>by rw [hb] at hm;exact hm
  refine .mk t r a c (hN.keep h.q (hmut _ hn)) (by rw [h.ext _ hN.lt];exact hn) hnk ?_ (Nat.lt_of_lt_of_le hb h.q.size) (by rw [h.ext _ hb];exact hm) hbk f hl (fun i u hu j v hv=>(h.q.cell (a:=⟨r.rb,i * 4+j,none⟩) hb (hmut _ hm)).trans (hc i u hu j v hv)) ih
  rcases ht with ⟨k5,d,h1,h2⟩ | ht
  ·exact .inl ⟨k5,d,h1,by rw [h.ext d (hi d (by rw [h2];simp))];exact h2⟩
  ·exact .inr ht
theorem PT.keep {S:Nat→Prop} {w w':World} {τ:Nat→Kd} {ok:Nat→Prop} (q:Keep S w w') (hS:∀ b,ok b→¬ S b) {t:T} {r:PR} (k:PT w τ ok t r):PT w' τ ok t r:=by
 induction k with
 | mk t r a c hN hn hnk ht hb hm hbk f hl hc hs ih =>
  exact .mk t r a c (hN.keep q (hS _ hnk)) hn hnk ht (Nat.lt_of_lt_of_le hb q.size) hm hbk f hl (fun i u hu j v hv=>(q.cell (a:=⟨r.rb,i * 4+j,none⟩) hb (hS _ hbk)).trans (hc i u hu j v hv)) ih
theorem PT.mono {w:World} {τ τ':Nat→Kd} {ok ok':Nat→Prop} (hk:∀ b,b<w.heap.size→ok b→ok' b) (hτ:∀ b,b<w.heap.size→ok b→τ' b=τ b) (hd:∀ b t,τ b=.told t→τ' b=.told t) {t:T} {r:PR} (k:PT w τ ok t r):PT w τ' ok' t r:=by
 induction k with
 | mk t r a c hN hn hnk ht hb hm hbk f hl hc hs ih =>
  refine .mk t r a c hN ((hτ _ hN.lt hnk).trans hn) (hk _ hN.lt hnk) ?_ hb ((hτ _ hb hbk).trans hm) (hk _ hb hbk) f hl hc ih
  rcases ht with ⟨k5,d,h1,h2⟩ | ht
  ·exact .inl ⟨k5,d,h1,hd d _ h2⟩
  ·exact .inr ht
theorem least_any (b o nb no rb sc:Nat) (t u:T) (a:Option Addr) (c:Nat) (L:Nat) (hL:lowT t u=L) (hs:t.subs=[u]) (hm:0≤t.mn) (w:World) (h0:w.cell? ⟨b,o,none⟩=some (.pointer (some ⟨nb,no,none⟩))) (h1:w.cell? ⟨b,o+1,none⟩=some (.slice (some ⟨rb,0,none⟩) t.subs.length sc)) (hN:NodeP w nb no t a c)
  (h2:w.cell? ⟨rb,2,none⟩=some (.bool (nullB u))) :
  Calls Tryd.prog 40 #[.pointer (some ⟨b,o,none⟩)] w fun e w'=>e=.returned (.int .i64 L)∧w=w':=by
 obtain ⟨c0,c1,c2,c3,c4,c5,c6,c7⟩:=hN.eight;rw [hs] at h1;have h1:w.cell? ⟨b,o+1,none⟩=some (.slice (some ⟨rb,0,none⟩) 1 sc):=h1;unfold lowT at hL;have hmn:t.mn=(t.mn.toNat:Int):=by omega
 generalize t.mn.toNat=mn at *;rw [hmn] at c5;obtain ⟨x,hx⟩:∃ x,nullB u=x:=⟨_,rfl⟩;rw [hx] at h2 hL;have HL:=hid hL;clear hL hx hmn hm hs c0 c1 c2 c3 c4 c6 c7 hN
 cases x with
 | true =>
  go_enter Tryd.func40,Tryd.ntmps40
  go_wp2_with fail;go_ret;exact ⟨by rw [← HL.out];rfl,rfl⟩
 | false =>
  go_enter Tryd.func40,Tryd.ntmps40
  go_wp2_with fail;go_ret;exact ⟨by rw [← HL.out];rfl,rfl⟩
theorem nullB_2 {d:Nat} {t:T} (h:RT d t) (hk:t.kind=2):nullB t=false:=by
 cases e:nullB t with
 | false=>rfl
 | true =>
  obtain ⟨b,hb,-⟩:=(mat_k2 hk []).1 ((null_mat h).1 e)
  cases hb
theorem isBlank_any (b o nb no rb sc:Nat) (t:T) (d:Nat) (hR:RT d t) (a:Option Addr) (c:Nat) (w:World) (h0:w.cell? ⟨b,o,none⟩=some (.pointer (some ⟨nb,no,none⟩))) (h1:w.cell? ⟨b,o+1,none⟩=some (.slice (some ⟨rb,0,none⟩) t.subs.length sc)) (hN:NodeP w nb no t a c)
  (hlen:t.subs.length≤9223372036854775807) (h2:∀ i u,t.subs[i]?=some u→w.cell? ⟨rb,i * 4+2,none⟩=some (.bool (nullB u))) :
  Calls Tryd.prog 32 #[.pointer (some ⟨b,o,none⟩)] w fun e w'=>e=.returned (.bool (nullB t))∧w=w':=by
 have hk:=P08.kinds hR
 by_cases k2:t.kind=2
 ·have c0:=hN.eight.1
  rw [nullB_2 hR k2];rw [k2] at c0;clear h1 h2 hN hR hk k2 hlen
  go_enter Tryd.func32,Tryd.ntmps32
  go_wp2_with fail;go_ret;exact ⟨rfl,rfl⟩
 by_cases k5:t.kind=5
 ·obtain ⟨u,hs,m0,-,-,-⟩:=kind5_one hR k5
  have c0:=hN.eight.1;rw [k5] at c0;have hn:=nullB_5 hR k5 hs;have hu:=h2 0 u (by rw [hs];rfl)
  rw [Nat.zero_mul,Nat.zero_add] at hu;obtain ⟨L,hL⟩:∃ L,lowT t u=L:=⟨_,rfl⟩;rw [hL] at hn;have HC:=hid (least_any b o nb no rb sc t u a c L hL hs m0 w h0 h1 hN hu);obtain ⟨x,hx⟩:∃ x,nullB t=x:=⟨_,rfl⟩;rw [hx] at hn ⊢;have hd:(((L:Int) == 0):Bool)=x:=by
   rw [hn]
   by_cases h:L=0 <;> simp [h]
  have HD:=hid hd;clear h1 h2 hN hR hk k2 k5 hlen hn hu hL hs m0 hx hd
  go_enter Tryd.func32,Tryd.ntmps32
  go_wp2_with fail;refine HC.out.mono ?_;rintro e w1 ⟨rfl,rfl⟩;go_wp2_with fail;go_ret;exact ⟨Bytes.ret_bool HD.out,rfl⟩
 have hn:=nullB_124 hR k2 k5;have c0:=hN.eight.1;have hk2:(t.kind == 2)=false:=by simp [k2]
 have hk5:(t.kind == 5)=false:=by simp [k5]
 have hall:cntB t.subs=cntB (t.subs.take t.subs.length):=by rw [List.take_length]
 have hle:=cntB_le t.subs;obtain ⟨x,hx⟩:∃ x,nullB t=x:=⟨_,rfl⟩;rw [hx] at hn ⊢;obtain ⟨kd,hkd⟩:∃ kd,t.kind=kd:=⟨_,rfl⟩;rw [hkd] at hn c0 hk2 hk5;obtain ⟨n,hnl⟩:∃ n,t.subs.length=n:=⟨_,rfl⟩;rw [hnl] at hn h1 hall hle hlen;have H0:=hid (And.intro hn (And.intro hall (And.intro hle (And.intro h2 hnl))));clear hn hall hle h2 hN hR hk k2 k5 hx hkd hnl
 go_enter Tryd.func32,Tryd.ntmps32
 go_wp2_with fail
 go_loopg [3,24] n (fun gg v i wr=>∃ k:Nat,i=.int .i64 k∧k+gg=n∧v=.int .i64 (cntB (t.subs.take k))∧w=wr)
 case atStart=>exact ⟨0,rfl,by omega,rfl,rfl⟩
 case round =>
  obtain ⟨k,rfl,hkn,rfl,rfl⟩:=hrel
  by_cases hlt:k<n
  ·have hlt':(k:Int)<n:=by omega
   have i0:(0:Int)≤k:=by omega
   obtain ⟨u,hu⟩:∃ u,t.subs[k]?=some u:=⟨_,List.getElem?_eq_getElem (by rw [H0.out.2.2.2.2];exact hlt)⟩
   have e2:=H0.out.2.2.2.1 k u hu;have hat:=cntB_at hu;have hcl:cntB (t.subs.take k)≤k:=Nat.le_trans (cntB_le _) (by rw [List.length_take];omega)
   generalize nullB u=y at *;generalize cntB (t.subs.take k)=z at *;have hw1:IntKind.i64.wrap ((z:Int)+1)=((z+1:Nat):Int):=by rw [IntKind.wrap_i64];omega
   clear hu hcl
   cases y with
   | true =>
    rw [if_pos rfl] at hat;have HZ:=hid hat;clear hat;go_wp2_with fail
    go_roundg (n - (k+1))
    case measure=>omega
    case rel=>exact ⟨k+1,by go_num,by omega,by rw [HZ.out];rfl,rfl⟩
   | false =>
    rw [if_neg (by decide)] at hat
    have HZ:=hid hat;clear hat hw1;go_wp2_with fail
    go_roundg (n - (k+1))
    case measure=>omega
    case rel=>exact ⟨k+1,by go_num,by omega,by rw [HZ.out];rfl,rfl⟩
  ·have hke:k=n:=by omega
   subst hke;rw [← H0.out.2.1];have hn:=H0.out.1;have hle:=H0.out.2.2.1;generalize cntB t.subs=z at *;clear H0
   by_cases hz:z=k
   ·have t1:((z:Int) == k)=true:=by simp [hz]
    have HX:=hid (show x=true by rw [hn];simp [hz])
    clear hn hz;go_wp2_with fail;go_ret;exact ⟨by rw [HX.out];rfl,rfl⟩
   ·have t1:((z:Int) == k)=false:=by simp;omega
    by_cases h4:kd=4
    ·have t4:(kd == 4)=true:=by simp [h4]
     by_cases hz0:0<z
     ·have t0:(0:Int)<z:=by omega
      have HX:=hid (show x=true by rw [hn];simp [h4,hz0])
      clear hn hz h4;go_wp2_with fail;go_ret;exact ⟨by rw [HX.out];rfl,rfl⟩
     ·have t0:¬ (0:Int)<z:=by omega
      have HX:=hid (show x=false by rw [hn];simp [h4,hz0,hz])
      clear hn hz h4;go_wp2_with fail;go_ret;exact ⟨by rw [HX.out];rfl,rfl⟩
    ·have t4:(kd == 4)=false:=by simp [h4]
     have HX:=hid (show x=false by rw [hn];simp [h4,hz])
     clear hn hz h4;go_wp2_with fail;go_ret;exact ⟨by rw [HX.out];rfl,rfl⟩
end P11
namespace P11
open Go.RowKit Go.Maps Go.ChangeMaps Go.MapKept Base Bytes P07 P08 P09 P10
open Sets (ST pc cnt_le)
theorem Lie.heap {w:World} {ok:Nat→Prop} {a:Option Addr} {L:List T} (h:Lie w ok a L):Lie w (fun b=>ok b∧b<w.heap.size) a L:=by
 induction h with
 | nil a=>exact .nil a
 | cons bl off L A C hL hb hok hC hc _ ih=>exact .cons bl off L A C hL hb ⟨hok,hb⟩ hC hc ih
theorem Inv.grow {s:List UInt8} {w:World} {τ:Nat→Kd} (h:Inv s w τ) {d m:Nat} (t:T) (hd:τ d=.no) (hm:τ m=.no) (hA:At w d 71 (toldC 0 (.slice none 0 0) 0 m)) (hM:MpW w m (fun _=>none)) :
  Inv s w (fun b=>if b=d then .told t else if b=m then .mp t else τ b):=by
 have hdm:d≠m:=by
  intro e;subst e;obtain ⟨n,D,-,⟨es,clock,hb,-⟩,-⟩:=hM;unfold At at hA;rw [hA] at hb
  cases hb
 have hgd:0≠d:=fun e=>by
  have h1:w.cell? ⟨0,0,none⟩=_:=h.tab 0 (by decide)
  have h2:=hA.cell (o:=0) rfl;rw [← e] at h2;rw [h1] at h2
  cases h2
 have hgm:0≠m:=fun e=>by
  have h1:w.cell? ⟨0,0,none⟩=_:=h.tab 0 (by decide)
  obtain ⟨n,D,-,⟨es,clock,hb,-⟩,-⟩:=hM;unfold World.cell? at h1;rw [e,hb] at h1
  cases h1
 have hold:∀ b,τ b≠.no→(if b=d then Kd.told t else if b=m then .mp t else τ b)=τ b:=fun b hb=>by
  rw [if_neg (fun e=>hb (by rw [e];exact hd)),if_neg (fun e=>hb (by rw [e];exact hm))]
 have hcase:∀ b k,(if b=d then Kd.told t else if b=m then .mp t else τ b)=k→b=d∧k=.told t∨b=m∧k=.mp t∨τ b=k:=fun b k hk=>by
  by_cases h1:b=d
  ·rw [if_pos h1] at hk
   exact .inl ⟨h1,hk.symm⟩
  ·rw [if_neg h1] at hk
   by_cases h2:b=m
   ·rw [if_pos h2] at hk
    exact .inr (.inl ⟨h2,hk.symm⟩)
   ·rw [if_neg h2] at hk
    exact .inr (.inr hk)
 have hve:∀ e' x,VE τ e' x→VE (fun b=>if b=d then Kd.told t else if b=m then .mp t else τ b) e' x:=fun e' x hx=>by
  match e',hx with
  | none,hx=>exact hx
  | some (g,c),⟨p3,p4⟩=>exact ⟨(hold g (by rw [p3];simp)).trans p3,p4⟩
 refine ⟨fun b hb=>?_,fun b t' hb=>?_,fun b t' hb=>?_,fun b y hb=>?_,h.tab,?_⟩
 ·rcases hcase b _ rfl with ⟨h1,-⟩ | ⟨h1,-⟩ | h1
  ·rw [h1];exact hA.lt
  ·rw [h1];exact hM.lt
  ·exact h.lt b (by rw [h1];exact hb)
 ·rcases hcase b _ hb with ⟨h1,h2⟩ | ⟨h1,h2⟩ | h1
  ·injection h2 with h2
   subst h1 h2;exact ⟨0,_,0,m,0,hA,.none,fun g hg=>(by cases hg),by rw [if_neg (fun e=>hdm e.symm),if_pos rfl]⟩
  ·cases h2
  ·obtain ⟨a1,a2,a3,a4,a5,b1,b2,b3,b4⟩:=h.told b t' h1
   exact ⟨a1,a2,a3,a4,a5,b1,b2,fun g hg=>(hold g (by rw [b3 g hg];simp)).trans (b3 g hg),(hold a4 (by rw [b4];simp)).trans b4⟩
 ·rcases hcase b _ hb with ⟨h1,h2⟩ | ⟨h1,h2⟩ | h1
  ·cases h2
  ·subst h1
   exact ⟨_,hM,fun y e hy=>by cases hy⟩
  ·obtain ⟨E',k1,k2⟩:=h.mp b t' h1
   refine ⟨E',k1,fun y e' hy=>?_⟩
   obtain ⟨p1,p2,p3,p4⟩:=k2 y e' hy;exact ⟨p1,p2,p3,hve _ _ p4⟩
 ·rcases hcase b _ hb with ⟨h1,h2⟩ | ⟨h1,h2⟩ | h1
  ·cases h2
  ·cases h2
  ·exact h.val b y h1
 ·show (if _ then _ else _)=_
  rw [if_neg hgd,if_neg hgm];exact h.tg
theorem infoPart:(Tryd.prog.info? 60).map (fun i=>(i.zero,i.size,i.bytes))=some (some (.agg #[.pointer none,.slice none 0 0,.bool false,.pointer none]),4,48):=by kernel_rfl
theorem make_parts (n:Nat) (hn:n≤1000000) (w:World):∃ cur:Array Value,cur.size=n * 4∧(Instr.makeSlice 57 (.int .i64 n) (.int .i64 n)).run Tryd.prog w=.ok (.slice (some ⟨w.heap.size,0,none⟩) n n) (w.alloc (.cells cur 60)):=by
 obtain ⟨i0,hi0,hz0,hz1,hz2⟩:=info_parts infoPart;have hr:=run_make (P:=Tryd.prog) w 57 60 i0 (.agg #[.pointer none,.slice none 0 0,.bool false,.pointer none]) Tryd.underlying57 hi0 hz0 .i64 .i64 (n:Int) (n:Int) (by omega) (Int.le_refl _) (by rw [hz2];omega) (by omega)
 rw [Int.toNat_natCast,hz1] at hr;exact ⟨_,size_madeCells _ _,hr⟩
theorem pcells_four (r:PR) (u:T) {cur:Nat→Option Value}:(∀ j v,(pcells r u)[j]?=some v→cur j=some v)↔cur 0=some (.pointer (some ⟨r.nb,r.no,none⟩))∧cur 1=some (.slice (some ⟨r.rb,0,none⟩) u.subs.length r.sc)∧cur 2=some (.bool (nullB u))∧cur 3=some (tdp r.td):=by
 constructor
 ·exact fun h=>⟨h 0 _ rfl,h 1 _ rfl,h 2 _ rfl,h 3 _ rfl⟩
 ·rintro ⟨h0,h1,h2,h3⟩ j v hv
  match j,hv with
  | 0,hv=>cases hv;exact h0
  | 1,hv=>cases hv;exact h1
  | 2,hv=>cases hv;exact h2
  | 3,hv=>cases hv;exact h3
  | j+4,hv=>simp at hv
def RowP (w:World) (rb n k:Nat) (L:List T) (f:Nat→PR):Prop :=
 ∃ cur,At w rb 60 cur∧cur.size=n * 4∧∀ i u,i<k→L[i]?=some u→∀ j v,(pcells (f i) u)[j]?=some v→cur[i * 4+j]?=some v
theorem RowP.keep {S:Nat→Prop} {w w':World} {rb n k:Nat} {L:List T} {f:Nat→PR} (h:RowP w rb n k L f) (q:Keep S w w') (hS:¬ S rb):RowP w' rb n k L f:=by
 obtain ⟨cur,h1,h2,h3⟩:=h;exact ⟨cur,h1.keep q hS,h2,h3⟩
def putP (w:World) (b o:Nat) (r:PR) (u:T):World :=
 (((w.setCell ⟨b,o,none⟩ (.pointer (some ⟨r.nb,r.no,none⟩))).setCell ⟨b,o+1,none⟩ (.slice (some ⟨r.rb,0,none⟩) u.subs.length r.sc)).setCell ⟨b,o+2,none⟩ (.bool (nullB u))).setCell ⟨b,o+3,none⟩ (tdp r.td)
theorem putP_keep {S:Nat→Prop} {a w:World} (h:Keep S a w) {b:Nat} (hp:b<a.heap.size→S b) (o:Nat) (r:PR) (u:T):Keep S a (putP w b o r u) :=
 (((h.setCell (p:=⟨b,o,none⟩) hp _).setCell (p:=⟨b,o+1,none⟩) hp _).setCell (p:=⟨b,o+2,none⟩) hp _).setCell (p:=⟨b,o+3,none⟩) hp _
theorem RowP.put {w:World} {rb n k:Nat} {L:List T} {f:Nat→PR} (h:RowP w rb n k L f) (hk:k<n) (r:PR) {u:T} (hu:L[k]?=some u):RowP (putP w rb (k * 4) r u) rb n (k+1) L (fun i=>if i=k then r else f i):=by
 obtain ⟨cur,h1,h2,h3⟩:=h;refine ⟨_,(((h1.set (k * 4) _).set (k * 4+1) _).set (k * 4+2) _).set (k * 4+3) _,by simpa using h2,fun i x hi hx=>?_⟩
 by_cases hik:i=k
 ·subst hik
  obtain rfl:u=x:=Option.some.inj (hu.symm.trans hx)
  dsimp only
  rw [if_pos rfl];refine (pcells_four r u).2 ⟨?_,?_,?_,?_⟩
  all_goals
   simp only [Array.getElem?_setIfInBounds,Array.size_setIfInBounds]
   repeat (first | rw [if_pos trivial] | rw [if_pos (by omega)] | rw [if_neg (by omega)])
 ·dsimp only
  rw [if_neg hik];intro j v hv;have hj:j<4:=(Array.getElem?_eq_some_iff.1 hv).1;have h4:=h3 i x (by omega) hx j v hv
  simp only [Array.getElem?_setIfInBounds]
  rw [if_neg (by omega),if_neg (by omega),if_neg (by omega),if_neg (by omega)]
  exact h4
theorem RowP.there {w:World} {rb n k:Nat} {L:List T} {f:Nat→PR} (h:RowP w rb n k L f) {i:Nat} (hi:i<n):∃ y0 y1 y2 y3,(w.cell? ⟨rb,i * 4,none⟩=some y0∧w.cell? ⟨rb,i * 4+1,none⟩=some y1∧w.cell? ⟨rb,i * 4+2,none⟩=some y2∧w.cell? ⟨rb,i * 4+3,none⟩=some y3)∧(w.frozen? ⟨rb,i * 4,none⟩=false∧w.frozen? ⟨rb,i * 4+1,none⟩=false∧w.frozen? ⟨rb,i * 4+2,none⟩=false∧w.frozen? ⟨rb,i * 4+3,none⟩=false):=by
 obtain ⟨cur,h1,h2,h3⟩:=h;exact ⟨_,_,_,_,⟨h1.cell (Array.getElem?_eq_getElem (by omega)),h1.cell (Array.getElem?_eq_getElem (by omega)),h1.cell (Array.getElem?_eq_getElem (by omega)),h1.cell (Array.getElem?_eq_getElem (by omega))⟩,h1.frozen _,h1.frozen _,h1.frozen _,h1.frozen _⟩
theorem RowP.get {w:World} {rb n k:Nat} {L:List T} {f:Nat→PR} (h:RowP w rb n k L f) {i:Nat} {u:T} (hi:i<k) (hu:L[i]?=some u) (j:Nat) (v:Value) (hv:(pcells (f i) u)[j]?=some v):w.cell? ⟨rb,i * 4+j,none⟩=some v:=by
 obtain ⟨cur,h1,h2,h3⟩:=h;exact h1.cell (h3 i u hi hu j v hv)
theorem lenT_cnt:∀ L:List T,L.length≤cntL L
 | []=>Nat.le_refl _
 | t::L=>by
  have:=lenT_cnt L;have:=P09.cnt_pos t;rw [List.length_cons,cntL];omega
@[reducible] def partZ:Array Value:=#[.pointer none,.slice none 0 0,.bool false,.pointer none]
def Parted (s:List UInt8) (t:T) (N0:Nat) (τ:Nat→Kd) (w:World) (e:Ending) (w':World):Prop :=
 ∃ r τ',e=.returned (.agg (pcells r t))∧Ev s w τ w' τ'∧Keep (fun _=>False) w w'∧PT w' τ' (fun b=>b<N0∨w.heap.size≤b) t r
def PartOk (s:List UInt8) (N0:Nat) (t:T):Prop:=∀ (d:Nat),RT d t→cnt t≤1000000→∀ (nb no:Nat) (a:Option Addr) (c:Nat) (w:World) (τ:Nat→Kd),Inv s w τ→(∀ b,b<N0→τ b=.no)→N0≤w.heap.size→nb<N0→NodeP w nb no t a c→Lie w (fun b=>b<N0) a t.subs →
 Calls Tryd.prog 24 #[.pointer (some ⟨nb,no,none⟩)] w (Parted s t N0 τ w)
def PRel (s:List UInt8) (N0:Nat) (t:T) (n rb:Nat) (w:World) (τ:Nat→Kd) (WB wr:World) (k:Nat) (τk:Nat→Kd) (f:Nat→PR):Prop :=
 Ev s w τ wr τk∧Keep (fun b=>b=rb) WB wr∧RowP wr rb n k t.subs f∧(∀ b,b<WB.heap.size→τk b=τ b)∧∀ i u,i<k→t.subs[i]?=some u→PT wr τk (fun b=>b<N0∨WB.heap.size≤b) u (f i)
theorem part_round {s:List UInt8} {N0:Nat} {t u:T} {n rb k:Nat} {w WB wr w5:World} {τ τk τ5:Nat→Kd} {f:Nat→PR} {r:PR} (hI:Inv s w τ) (hNw:N0≤w.heap.size) (hrw:w.heap.size<rb) (hrb:rb<WB.heap.size) (hk:k<n) (hu:t.subs[k]?=some u)
  (h:PRel s N0 t n rb w τ WB wr k τk f) (ev5:Ev s wr.drew τk w5 τ5) (q5:Keep (fun _=>False) wr w5) (pt5:PT w5 τ5 (fun b=>b<N0∨wr.drew.heap.size≤b) u r) :
  PRel s N0 t n rb w τ WB (putP w5 rb (k * 4) r u) (k+1) τ5 (fun i=>if i=k then r else f i):=by
 obtain ⟨hev,hq,hrow,hτ,hpt⟩:=h;have hsz:WB.heap.size≤wr.heap.size:=hq.size;have ev35:Ev s wr τk w5 τ5:=Ev.trans ((Ev.refl hev.inv).quiet ((Keep.refl (fun _=>False) wr).drew)) ev5
 have hrbn:τ rb=.no:=Classical.byContradiction fun hn=>by
  have:=hI.lt rb hn;omega
 have hrb5:τ5 rb=.no:=(ev35.ext rb (by omega)).trans ((hτ rb hrb).trans hrbn)
 have q6:Keep (fun b=>b=rb) w5 (putP w5 rb (k * 4) r u):=putP_keep (Keep.refl (fun b=>b=rb) w5) (fun _=>rfl) _ _ _
 refine ⟨(hev.trans ev35).own q6 (fun b hb _=>?_) hI.tab,(hq.trans (q5.mono (fun _ h=>h.elim))).trans q6,(hrow.keep q5 (fun h=>h)).put hk r hu,fun b hb=>(ev35.ext b (by omega)).trans (hτ b hb),fun i x hi hx=>?_⟩
 ·have hb:b=rb:=hb
  subst hb;exact ⟨by omega,hrb5⟩
 ·have hok:∀ b,(b<N0∨WB.heap.size≤b)→¬ b=rb:=fun b hb e=>by
   subst e;omega
  by_cases hik:i=k
  ·subst hik
   obtain rfl:u=x:=Option.some.inj (hu.symm.trans hx)
   dsimp only
   rw [if_pos rfl];refine (pt5.mono (ok':=fun b=>b<N0∨WB.heap.size≤b) (fun b _ hb=>?_) (fun _ _ _=>rfl) (fun _ _ h=>h)).keep q6 hok
   rcases hb with hb | hb
   ·exact .inl hb
   ·have hb:wr.heap.size≤b:=hb
    exact .inr (by omega)
  ·dsimp only
   rw [if_neg hik];exact ((hpt i x (by omega) hx).ev hev.inv.lt ev35).keep q6 hok
theorem part_end {s:List UInt8} {N0:Nat} {t:T} {n rb nb no:Nat} {w WB wr W9:World} {τ τk τ9:Nat→Kd} {f:Nat→PR} {a:Option Addr} {c:Nat} {td:Option Nat} (hI:Inv s w τ) (hN0:∀ b,b<N0→τ b=.no) (hNw:N0≤w.heap.size) (hnb:nb<N0) (hrw:w.heap.size<rb) (hrb:rb+1<WB.heap.size) (hn:t.subs.length=n) (hnl:n≤1000000)
  (hwB:Keep (fun _=>False) w WB) (h:PRel s N0 t n rb w τ WB wr n τk f) (hN:NodeP wr nb no t a c) (q:Keep (fun b=>b=rb+1∨b=w.heap.size) wr W9) (hτ9:∀ b,b<wr.heap.size→τ9 b=τk b) (hI9:Inv s W9 τ9)
  (ht:(t.kind=5∧∃ d,td=some d∧τ9 d=.told t)∨(t.kind≠5∧td=none)) :
  Ev s w τ W9 τ9∧Keep (fun _=>False) w W9∧PT W9 τ9 (fun b=>b<N0∨w.heap.size≤b) t ⟨nb,no,rb,n,td⟩:=by
 obtain ⟨hev,hq,hrow,hτ,hpt⟩:=h;have hsz:WB.heap.size≤wr.heap.size:=hq.size;have hwsz:=hwB.size;have hnew:∀ b,w.heap.size≤b→b<WB.heap.size→τ9 b=.no:=fun b h1 h2=>by
  rw [hτ9 b (by omega),hτ b h2]
  exact Classical.byContradiction fun hn=>by
   have:=hI.lt b hn;omega
 have hkf:Keep (fun _=>False) w W9:=(hwB.next hq (fun i hi hl=>by have hi:i=rb:=hi;omega)).next q (fun i hi hl=>by omega)
 refine ⟨⟨hkf.mono (fun _ h=>h.elim),fun b hb=>(hτ9 b (by omega)).trans ((hτ b (by omega))),hI9⟩,hkf,?_⟩
 refine .mk t _ a c (hN.keep q (by omega)) ?_ (.inl hnb) ht (Nat.lt_of_lt_of_le (show rb<wr.heap.size by omega) q.size) (hnew rb (by omega) (by omega)) (.inr (by show w.heap.size≤rb;omega)) f (by omega) (fun i u hu j v hv=>?_) (fun i u hu=>?_)
 ·show τ9 nb=.no
  rw [hτ9 nb (by omega),hτ nb (by omega)]
  exact hN0 nb hnb
 ·have hi:i<n:=by rw [← hn];exact (List.getElem?_eq_some_iff.1 hu).1
  exact (q.cell (a:=⟨rb,i * 4+j,none⟩) (show rb<wr.heap.size by omega) (by show ¬ (rb=rb+1∨rb=w.heap.size);omega)).trans (hrow.get hi hu j v hv)
 ·have hi:i<n:=by rw [← hn];exact (List.getElem?_eq_some_iff.1 hu).1
  have h1:=(hpt i u hi hu).mono (τ':=τ9) (ok':=fun b=>(b<N0∨w.heap.size≤b)∧b≠rb+1∧b≠w.heap.size) (fun b hb hok=>⟨by omega,by omega,by omega⟩) (fun b hb _=>hτ9 b hb) (fun b t' hb=>(hτ9 b (hev.inv.lt b (by rw [hb];simp))).trans hb)
  refine (h1.keep q (fun b hb e=>?_)).mono (fun b _ hb=>hb.1) (fun _ _ _=>rfl) (fun _ _ h=>h)
  rcases e with e | e
  ·exact hb.2.1 e
  ·exact hb.2.2 e
theorem part_step (s:List UInt8) (N0:Nat) (t:T) (ih:∀ u ∈ t.subs,PartOk s N0 u):PartOk s N0 t:=by
 intro d hR hcnt nb no a c w τ hI hN0 hNw hnb hN hL;obtain ⟨n,hnl⟩:∃ n,t.subs.length=n:=⟨_,rfl⟩;have hn:n≤1000000:=by
  have h1:=lenT_cnt t.subs;have h2:=cnt_eq t;omega
 have qA:=(Keep.refl (fun _=>False) w).alloc (.cells partZ 60)
 have aA:=At.new w partZ 60;have hNA:=hN.keepF qA;have EA:=(Ev.refl hI).quiet qA;have HN:=hid (And.intro hNA (And.intro EA (And.intro aA (And.intro qA (hL.keepF qA)))));have HK:=hid (And.intro hR (And.intro hcnt (And.intro hN0 (And.intro hNw (And.intro hnb (And.intro hI (And.intro ih hnl)))))));obtain ⟨c0,c1,c2,c3,c4,c5,c6,c7⟩:=hNA.eight;rw [hnl] at c7;clear hI hN hL qA aA hNA EA hR hcnt hN0 hNw hnb ih
 go_enter Tryd.func24,Tryd.ntmps24
 go_upto_region 1 with fail;generalize (w.alloc (.cells partZ 60))=WA at *;obtain ⟨cur,hcur,hmk⟩:=make_parts n hn WA;clear c0 c1 c2 c3 c4 c5 c6;go_upto_region 2 with fail;have qB:=((Keep.refl (fun _=>False) WA).alloc (.cells cur 60)).alloc (.cells #[.pointer (some ⟨nb,no,none⟩),.slice (some ⟨WA.heap.size,0,none⟩) n n,.bool false,.pointer none] 60)
 have a1:=(At.new WA cur 60).alloc (.cells #[.pointer (some ⟨nb,no,none⟩),.slice (some ⟨WA.heap.size,0,none⟩) n n,.bool false,.pointer none] 60);have a2:=At.new (WA.alloc (.cells cur 60)) #[.pointer (some ⟨nb,no,none⟩),.slice (some ⟨WA.heap.size,0,none⟩) n n,.bool false,.pointer none] 60;rw [show (WA.alloc (.cells cur 60)).heap.size=WA.heap.size+1 from by simp] at a2
 have hszA:w.heap.size<WA.heap.size:=HN.out.2.2.1.lt;obtain ⟨rb,hrb⟩:∃ rb,WA.heap.size=rb:=⟨_,rfl⟩;rw [hrb] at qB a1 a2 hszA ⊢;have HB:=hid (And.intro (HN.out.1.keepF qB) (And.intro (HN.out.2.1.quiet qB) (And.intro (HN.out.2.2.1.keep qB (fun h=>h)) (And.intro a1 (And.intro a2 (And.intro (HN.out.2.2.2.1.trans qB) (And.intro (HN.out.2.2.2.2.keepF qB) (And.intro hszA hcur))))))))
 clear HN qB a1 a2 hmk hcur c7 hszA hrb;generalize ((WA.alloc (.cells cur 60)).alloc (.cells #[.pointer (some ⟨nb,no,none⟩),.slice (some ⟨rb,0,none⟩) n n,.bool false,.pointer none] 60))=WB at *;obtain ⟨c0,c1,c2,c3,c4,c5,c6,c7⟩:=HB.out.1.eight;rw [hnl] at c7;clear c0 c1 c2 c3 c4 c5 c6;go_wp2_with fail
 go_loopg [18] n (fun gg v wr=>∃ (k:Nat) (τk:Nat→Kd) (f:Nat→PR),v=.int .i64 k∧k+gg=n∧PRel s N0 t n rb w τ WB wr k τk f)
 case atStart =>
  exact ⟨0,τ,fun _=>⟨0,0,0,0,none⟩,rfl,by omega,HB.out.2.1,Keep.refl _ _,⟨cur,HB.out.2.2.2.1,HB.out.2.2.2.2.2.2.2.2,fun i u h=>absurd h (Nat.not_lt_zero _)⟩,fun _ _=>rfl,fun i u h=>absurd h (Nat.not_lt_zero _)⟩
 case round =>
  obtain ⟨k,τk,f,rfl,hk,hrelk⟩:=hrel;obtain ⟨hev,hq,hrow,hτ,hpt⟩:=hrelk;have hsz:=HB.out.2.2.2.2.2.2.2.1;have hrbB:rb+1<WB.heap.size:=HB.out.2.2.2.2.1.lt;have hnbr:¬ nb=rb:=by
   have:=HK.out.2.2.2.2.1;have:=HK.out.2.2.2.1;omega
  by_cases hlt:k<n
  ·have hlt':(k:Int)<n:=by omega
   have i0:(0:Int)≤k:=by omega
   obtain ⟨u,hu⟩:∃ u,t.subs[k]?=some u:=⟨_,List.getElem?_eq_getElem (by rw [hnl];exact hlt)⟩
   obtain ⟨bl,off,a',c',ha,hbl,-,hcu,hLu,hcu'⟩:=(HB.out.2.2.2.2.2.2.1.keep hq (fun b hb hr=>by
    have:=HK.out.2.2.2.1;have hb:b<N0:=hb
    omega)).get hu
   subst ha;have hNu:NodeP wr bl (off+k * 8) u a' c':=⟨by have:=HK.out.2.2.2.1;have:=hev.q.size;omega,hcu'⟩
   have hcall:=fun W' (q:Keep (fun _=>False) wr W')=>HK.out.2.2.2.2.2.2.1 u (List.mem_of_getElem? hu) d (sub_RT HK.out.1 hu) (by
    have h1:=HK.out.2.1;have h2:=cntL_le hu;have h3:=cnt_eq t;omega) bl (off+k * 8) a' c' W' τk (hev.inv.keepF q) (fun b hb=>by
     rw [hτ b (by have:=HK.out.2.2.2.1;omega)]
     exact HK.out.2.2.1 b hb) (by have:=HK.out.2.2.2.1;have:=hev.q.size;have:=q.size;omega) hbl (hNu.keepF q) (hLu.keepF q)
   have hNr:=HB.out.1.keep hq hnbr;have hPr:=HB.out.2.2.2.2.1.keep hq (show ¬ rb+1=rb by omega)
   have c7:wr.cell? ⟨nb,no+7,none⟩=some (.slice (some ⟨bl,off,none⟩) n c):=by
    have:=hNr.eight.2.2.2.2.2.2.2;rw [hnl] at this;exact this
   have e1:wr.cell? ⟨rb+1,1,none⟩=some (.slice (some ⟨rb,0,none⟩) n n):=hPr.cell rfl;have H1:=hid (And.intro hcall (And.intro hev (And.intro hq (And.intro hrow (And.intro hτ (And.intro hpt (And.intro hNr (And.intro hPr (And.intro hu (And.intro hrbB (And.intro hsz hk)))))))))));clear hcall hev hq hrow hτ hpt hNr hPr hu hrbB hsz hnbr hNu hLu hcu hcu' hbl;go_upto_region 5 with fail
   go_region_with (
    go_at_call 24;refine (H1.out.1 _ ((Keep.refl _ _).drew)).mono ?_;rintro e w5 ⟨r,τ5,rfl,ev5,q5,pt5⟩;have Q5:=hid (((Keep.refl (fun _=>False) wr).drew).trans q5);have e1':w5.cell? ⟨rb+1,1,none⟩=some (.slice (some ⟨rb,0,none⟩) n n):=(H1.out.2.2.2.2.2.2.2.1.keep Q5.out (fun h=>h)).cell rfl;obtain ⟨y0,y1,y2,y3,⟨g0,g1,g2,g3⟩,f0,f1,f2,f3⟩:=(H1.out.2.2.2.1.keep Q5.out (fun h=>h)).there hlt;have H5:=hid (And.intro ev5 pt5);clear ev5 q5 pt5)
   all_goals
    change Exit.inBlock _ _ _ _ (putP w5 rb (k * 4) r u)
    have HR:=hid (part_round HK.out.2.2.2.2.2.1 HK.out.2.2.2.1 H1.out.2.2.2.2.2.2.2.2.2.2.1 (show rb<WB.heap.size by have:=H1.out.2.2.2.2.2.2.2.2.2.1;omega) hlt H1.out.2.2.2.2.2.2.2.2.1 (show PRel s N0 t n rb w τ WB wr k τk f from ⟨H1.out.2.1,H1.out.2.2.1,H1.out.2.2.2.1,H1.out.2.2.2.2.1,H1.out.2.2.2.2.2.1⟩) H5.out.1 Q5.out H5.out.2)
    generalize putP w5 rb (k * 4) r u=w6 at *;clear e1' g0 g1 g2 g3 f0 f1 f2 f3;go_wp2_with fail
    go_roundg (n - (k+1))
    case measure =>
     have:=H1.out.2.2.2.2.2.2.2.2.2.2.2;omega
    case rel=>exact ⟨k+1,τ5,_,by go_num,by omega,HR.out⟩
  ·have hke:k=n:=by omega
   subst hke;have hNr:=HB.out.1.keep hq hnbr;have hPr:=HB.out.2.2.2.2.1.keep hq (show ¬ rb+1=rb by omega)
   have hAr:=HB.out.2.2.1.keep hq (show ¬ w.heap.size=rb by omega)
   have hbl:=hid (fun (W:World) (q:Keep (fun b=>b=rb+1) wr W) (h0:W.cell? ⟨rb+1,0,none⟩=some (.pointer (some ⟨nb,no,none⟩))) (h1:W.cell? ⟨rb+1,1,none⟩=some (.slice (some ⟨rb,0,none⟩) t.subs.length k))=>isBlank_any (rb+1) 0 nb no rb k t d HK.out.1 a c W h0 (by rw [Nat.zero_add];exact h1) (hNr.keep q (by have:=HK.out.2.2.2.2.1;have:=HK.out.2.2.2.1;omega)) (by rw [hnl];omega) (fun i u hu=>(q.cell (a:=⟨rb,i * 4+2,none⟩) (show rb<wr.heap.size by have:=hq.size;omega) (by show ¬ rb=rb+1;omega)).trans (hrow.get (by rw [← hnl];exact (List.getElem?_eq_some_iff.1 hu).1) hu 2 _ rfl)))
   have HE:=hid (And.intro hev (And.intro hq (And.intro hrow (And.intro hτ (And.intro hpt (And.intro hNr (And.intro hPr (And.intro hAr (And.intro hrbB hsz)))))))));obtain ⟨c0,c1,c2,c3,c4,c5,c6,c7'⟩:=hNr.eight;clear hev hq hrow hτ hpt c1 c2 c3 c4 c5 c6 c7' c7 hnbr hNr;have p0:=hPr.cell (o:=0) rfl;have p1:=hPr.cell (o:=1) rfl;have pf2:=hPr.frozen 2;have pf3:=hPr.frozen 3;have p3:=hPr.cell (o:=3) rfl;have p2:=hPr.cell (o:=2) rfl;clear hPr hAr hrbB hsz;have p123:=hid (And.intro p0 (And.intro p1 (And.intro p2 p3)));have hmm:=@run_makeMap Tryd.prog
   go_upto_if 37 with fail
   go_cut [] (fun wx=>∃ (τ8:Nat→Kd) (td:Option Nat),Keep (fun b=>b=rb+1) wr wx∧(∀ b,b<wr.heap.size→τ8 b=τk b)∧Inv s wx τ8∧At wx (rb+1) 60 #[.pointer (some ⟨nb,no,none⟩),.slice (some ⟨rb,0,none⟩) k k,.bool false,tdp td]∧((t.kind=5∧∃ d,td=some d∧τ8 d=.told t)∨(t.kind≠5∧td=none)))
   case first =>
    by_cases k5:t.kind=5
    ·have t5:(t.kind == 5)=true:=by simp [k5]
     have K5:=hid k5;clear k5;have qX:=((Keep.refl (fun _=>False) wr).alloc (.map #[] 0)).alloc (.cells #[.int .i64 0,.int .i64 0,.slice none 0 0,.int .i64 0,.map (some wr.heap.size)] 71)
     have aP:=HE.out.2.2.2.2.2.2.1.keep qX (fun h=>h)
     have aM:=(MpW.new wr).keep ((Keep.refl (fun _=>False) (wr.alloc (.map #[] 0))).alloc (.cells #[.int .i64 0,.int .i64 0,.slice none 0 0,.int .i64 0,.map (some wr.heap.size)] 71)) (fun h=>h)
     have aD:=At.new (wr.alloc (.map #[] 0)) #[.int .i64 0,.int .i64 0,.slice none 0 0,.int .i64 0,.map (some wr.heap.size)] 71;rw [show (wr.alloc (.map #[] 0)).heap.size=wr.heap.size+1 from by simp] at aD
     have x3:=aP.cell (o:=3) rfl;have xf3:=aP.frozen 3;have HX:=hid (And.intro qX (And.intro aP (And.intro aM aD)));clear qX aP aM aD p0 p1 p2 p3 pf2 pf3;go_wp2_with fail;have hnd:=HE.out.1.new (b:=wr.heap.size+1) (by omega)
     have hnm:=HE.out.1.new (b:=wr.heap.size) (Nat.le_refl _);have hI9:=Inv.grow (HE.out.1.inv.keepF HX.out.1) t hnd hnm HX.out.2.2.2 HX.out.2.2.1;have hrbn:τk (rb+1)=.no:=by
      rw [HE.out.2.2.2.1 (rb+1) HE.out.2.2.2.2.2.2.2.2.1];refine Classical.byContradiction fun hn=>?_
      have h1:=HK.out.2.2.2.2.2.1.lt (rb+1) hn;have h2:=HE.out.2.2.2.2.2.2.2.2.2;omega
     have hsr:rb+1<wr.heap.size:=by
      have h1:=HE.out.2.1.size;have h2:=HE.out.2.2.2.2.2.2.2.2.1;omega
     have hq3:=(Keep.refl (fun b=>b=rb+1) ((wr.alloc (.map #[] 0)).alloc (.cells #[.int .i64 0,.int .i64 0,.slice none 0 0,.int .i64 0,.map (some wr.heap.size)] 71))).setCell (p:=⟨rb+1,3,none⟩) (fun _=>rfl) (.pointer (some ⟨wr.heap.size+1,0,none⟩))
     have hI10:=hI9.keep hq3 (fun b hb _=>by
      have hb:b=rb+1:=hb;subst hb;rw [if_neg (by omega),if_neg (by omega)]
      exact hrbn) (fun hb=>by
      have h1:=Tab.lt HK.out.2.2.2.2.2.1.tab;have h2:=HE.out.2.2.2.2.2.2.2.2.2;have hb:0=rb+1:=hb
      omega)
     have hP3:=HX.out.2.1.set 3 (.pointer (some ⟨wr.heap.size+1,0,none⟩));have hQ3:=(HX.out.1.mono (T:=fun b=>b=rb+1) (fun _ h=>h.elim)).trans hq3
     have HF:=hid (And.intro hQ3 (And.intro hI10 hP3));clear hI9 hq3 hI10 hP3 hQ3 x3 xf3
     go_meet
     case rel =>
      refine ⟨_,some (wr.heap.size+1),HF.out.1,fun b hb=>?_,HF.out.2.1,HF.out.2.2,.inl ⟨K5.out,_,rfl,if_pos rfl⟩⟩
      rw [if_neg (by omega),if_neg (by omega)]
    ·have t5:(t.kind == 5)=false:=by simp [k5]
     have K5:=hid k5;clear k5;go_wp2_with fail
     go_meet
     case rel=>exact ⟨τk,none,Keep.refl _ _,fun _ _=>rfl,HE.out.1.inv,HE.out.2.2.2.2.2.2.1,.inr ⟨K5.out,rfl⟩⟩
   case rest =>
    obtain ⟨τ8,td,hq8,hτ8,hI8,hP8,ht8⟩:=hcut;have hbr:=HE.out.2.2.2.2.2.2.2.2;have hA8:=HE.out.2.2.2.2.2.2.2.1.keep hq8 (by omega)
    have hPr:=hP8;have p0:=hP8.cell (o:=0) rfl;have p1:=hP8.cell (o:=1) rfl;have p2:=hP8.cell (o:=2) rfl;have pf2:=hP8.frozen 2;have HBL:=hid (hbl.out wc hq8 p0 (by rw [hnl];exact p1))
    have hpc:pcells ⟨nb,no,rb,k,td⟩ t=#[.pointer (some ⟨nb,no,none⟩),.slice (some ⟨rb,0,none⟩) k k,.bool (nullB t),tdp td]:=by
     show (#[.pointer (some ⟨nb,no,none⟩),.slice (some ⟨rb,0,none⟩) t.subs.length k,.bool (nullB t),tdp td]:Array Value)=_
     rw [hnl]
    have H8:=hid (And.intro hq8 (And.intro hτ8 (And.intro hI8 (And.intro hP8 (And.intro ht8 (And.intro hA8 hpc))))));generalize nullB t=bl at *;clear hq8 hτ8 hI8 hP8 ht8 hA8 hpc hPr hbr c0;go_wp2_with fail;refine HBL.out.mono ?_;rintro e w7 ⟨rfl,rfl⟩;go_upto_region 10 with fail;have hs9:At (wc.setCell ⟨rb+1,2,none⟩ (.bool bl)) (rb+1) 60 #[.pointer (some ⟨nb,no,none⟩),.slice (some ⟨rb,0,none⟩) k k,.bool bl,tdp td]:=H8.out.2.2.2.1.set 2 (.bool bl);have hq9:=(Keep.refl (fun b=>b=rb+1∨b=w.heap.size) wc).setCell (p:=⟨rb+1,2,none⟩) (fun _=>.inl rfl) (.bool bl)
    have hA9:=H8.out.2.2.2.2.2.1.setOther (p:=⟨rb+1,2,none⟩) (by show w.heap.size≠rb+1;have:=HE.out.2.2.2.2.2.2.2.2.2;omega) (.bool bl)
    clear p0 p1 p2 pf2;generalize (wc.setCell ⟨rb+1,2,none⟩ (.bool bl))=W9 at *;obtain ⟨⟨p0,p1,p2,p3⟩,-⟩:=cells4 hs9;obtain ⟨⟨r0,r1,r2,r3⟩,rf0,rf1,rf2,rf3⟩:=cells4 hA9;have H9:=hid (And.intro hq9 hA9);clear hs9 hq9 hA9;go_wp2_with fail;have aX:=set4 H9.out.2 (.pointer (some ⟨nb,no,none⟩)) (.slice (some ⟨rb,0,none⟩) k k) (.bool bl) (tdp td);have qX:=keep4 H9.out.1 (b:=w.heap.size) (fun _=>.inr rfl) (.pointer (some ⟨nb,no,none⟩)) (.slice (some ⟨rb,0,none⟩) k k) (.bool bl) (tdp td)
    change bodyPost _ _ _ _ _ ((((W9.setCell ⟨w.heap.size,0,none⟩ (.pointer (some ⟨nb,no,none⟩))).setCell ⟨w.heap.size,1,none⟩ (.slice (some ⟨rb,0,none⟩) k k)).setCell ⟨w.heap.size,2,none⟩ (.bool bl)).setCell ⟨w.heap.size,3,none⟩ (tdp td))
    have hq89:=((H8.out.1.mono (T:=fun b=>b=rb+1∨b=w.heap.size) (fun _ h=>.inl h))).trans qX
    have hnoB:∀ b,w.heap.size≤b→b<WB.heap.size→τ8 b=.no:=fun b h1 h2=>by
     have h3:=HE.out.2.1.size;rw [H8.out.2.1 b (by omega),HE.out.2.2.2.1 b h2]
     exact Classical.byContradiction fun hn=>by
      have:=HK.out.2.2.2.2.2.1.lt b hn;omega
    have hbr:=HE.out.2.2.2.2.2.2.2.2
    have iX:=H8.out.2.2.1.keep qX (fun b hb _=>by
     rcases hb with hb | hb
     ·exact hnoB b (by omega) (by omega)
     ·exact hnoB b (by omega) (by omega)) (fun hb=>by
     have h1:=Tab.lt HK.out.2.2.2.2.2.1.tab
     omega)
    have hend:=part_end HK.out.2.2.2.2.2.1 HK.out.2.2.1 HK.out.2.2.2.1 HK.out.2.2.2.2.1 hbr.2 hbr.1 hnl hn HB.out.2.2.2.2.2.1 ⟨HE.out.1,HE.out.2.1,HE.out.2.2.1,HE.out.2.2.2.1,HE.out.2.2.2.2.1⟩ HE.out.2.2.2.2.2.1 hq89 H8.out.2.1 iX H8.out.2.2.2.2.1;generalize ((((W9.setCell ⟨w.heap.size,0,none⟩ (.pointer (some ⟨nb,no,none⟩))).setCell ⟨w.heap.size,1,none⟩ (.slice (some ⟨rb,0,none⟩) k k)).setCell ⟨w.heap.size,2,none⟩ (.bool bl)).setCell ⟨w.heap.size,3,none⟩ (tdp td))=W10 at *;obtain ⟨⟨e0,e1,e2,e3⟩,-⟩:=cells4 aX;refine bodyPost_ret (v:=.agg #[.pointer (some ⟨nb,no,none⟩),.slice (some ⟨rb,0,none⟩) k k,.bool bl,tdp td]) (by simp [results,Tryd.results24,go_sem,e0,e1,e2,e3]) rfl ?_
    exact ⟨⟨nb,no,rb,k,td⟩,τ8,by rw [H8.out.2.2.2.2.2.2],hend⟩
theorem part_all (s:List UInt8) (N0:Nat):∀ (n:Nat) (t:T),SizeOf.sizeOf t<n→PartOk s N0 t
 | 0,_,h=>absurd h (Nat.not_lt_zero _)
 | n+1,t,h=>part_step s N0 t fun u hu=>by
  obtain ⟨i,hi⟩:=List.mem_iff_getElem?.1 hu;exact part_all s N0 n u (by have:=sub_less hi;omega)
end P11
namespace P11
open Go.RowKit Base Bytes P07 P08 P09 P10
open Sets (ST pc cnt_le)
structure EvN (N:Nat) (s:List UInt8) (w:World) (τ:Nat→Kd) (w':World) (τ':Nat→Kd):Prop extends Ev s w τ w' τ' where
 lt0:∀ b,τ b≠.no→b<w.heap.size
 big:∀ b t,τ b=.mp t∨τ b=.told t→N≤SizeOf.sizeOf t→w'.heap[b]?=w.heap[b]?
theorem mp_told {τ:Nat→Kd} {b:Nat} {t:T} (h:τ b=.mp t∨τ b=.told t):τ b≠.no:=by
 rcases h with h | h
 ·rw [h];simp
 ·rw [h];simp
theorem EvN.refl {N:Nat} {s:List UInt8} {w:World} {τ:Nat→Kd} (h:Inv s w τ):EvN N s w τ w τ:=⟨Ev.refl h,h.lt,fun _ _ _ _=>rfl⟩
theorem EvN.trans {N:Nat} {s:List UInt8} {w w1 w2:World} {τ τ1 τ2:Nat→Kd} (h:EvN N s w τ w1 τ1) (k:EvN N s w1 τ1 w2 τ2):EvN N s w τ w2 τ2 :=
 ⟨h.toEv.trans k.toEv,h.lt0,fun b t hb ht=>(k.big b t (by rw [h.ext b (h.lt0 b (mp_told hb))];exact hb) ht).trans (h.big b t hb ht)⟩
theorem EvN.own {N:Nat} {s:List UInt8} {w w1 w2:World} {τ τ1:Nat→Kd} (h:EvN N s w τ w1 τ1) {S:Nat→Prop} (q:Keep S w1 w2) (hS:∀ b,S b→b<w1.heap.size→w.heap.size≤b∧τ1 b=.no) (hT:Tab w):EvN N s w τ w2 τ1 :=
 ⟨h.toEv.own q hS hT,h.lt0,fun b t hb ht=>by
  have hlt:=h.lt0 b (mp_told hb);have hlt1:b<w1.heap.size:=Nat.lt_of_lt_of_le hlt h.q.size
  exact (q.block b hlt1 (fun hs=>by have:=(hS b hs hlt1).1;omega)).trans (h.big b t hb ht)⟩
theorem EvN.quiet {N:Nat} {s:List UInt8} {w w1 w2:World} {τ τ1:Nat→Kd} (h:EvN N s w τ w1 τ1) (q:Keep (fun _=>False) w1 w2):EvN N s w τ w2 τ1 :=
 ⟨h.toEv.quiet q,h.lt0,fun b t hb ht=>(q.block b (Nat.lt_of_lt_of_le (h.lt0 b (mp_told hb)) h.q.size) (fun h=>h)).trans (h.big b t hb ht)⟩
theorem EvN.mono {N M:Nat} {s:List UInt8} {w w1:World} {τ τ1:Nat→Kd} (h:EvN N s w τ w1 τ1) (hN:N≤M):EvN M s w τ w1 τ1:=⟨h.toEv,h.lt0,fun b t hb ht=>h.big b t hb (by omega)⟩
theorem EvN.new {N:Nat} {s:List UInt8} {w w1:World} {τ τ1:Nat→Kd} (h:EvN N s w τ w1 τ1) {b:Nat} (hb:w1.heap.size≤b):τ1 b=.no:=h.toEv.new hb
theorem plw_put {S:Nat→Prop} {w w':World} {ok:Nat→Prop} {m n c b:Nat} {a:Option Addr} {t:TypeId} {cs:Array Value} (h:PlW w ok m a n c) (hA:At w b t cs) (ht:t≠22) (q:Keep S w w') (hS:∀ g,S g→g=b):PlW w' ok m a n c:=by
 cases h with
 | none=>exact .none
 | word m g c h0 hm hc hg ho=>exact .word m g c h0 hm hc (hg.keep q (fun h=>hg.ne hA ht (hS g h))) ho
theorem plw_block {w:World} {ok:Nat→Prop} {m n c g:Nat} {a:Option Addr} (h:PlW w ok m a n c) (ha:a=some ⟨g,0,none⟩):ok g∧g<w.heap.size:=by
 cases h with
 | none=>cases ha
 | word m g' c h0 hm hc hg ho =>
  cases ha
  exact ⟨ho,hg.lt⟩
theorem slw_pl {w:World} {sl:Value} {z:Nat} (h:SlW w sl z) (h0:z=0→sl=.slice none 0 0) (hz:z<2305843009213693952):∃ a n c,sl=.slice a n c∧PlW w (fun g=>sl.ownBlock=some g) z a n c∧∀ g,a=some ⟨g,0,none⟩→sl.ownBlock=some g:=by
 cases h with
 | none=>exact ⟨none,0,0,rfl,.none,fun g hg=>by cases hg⟩
 | word g c x hc hx hg =>
  by_cases e:z=0
  ·have:=h0 e
   cases this
  ·exact ⟨_,_,_,rfl,.word z g c e hz hc hg rfl,fun g' hg'=>by cases hg';rfl⟩
def Ended (s:List UInt8) (N z:Nat) (a:Option Addr) (τ:Nat→Kd) (w:World) (e:Ending) (w':World):Prop :=
 ∃ a' n' c' τ',e=.returned (plV a' n' c')∧EvN N s w τ w' τ'∧PlW w' (fun g=>(w.heap.size≤g∧τ' g=.no)∨(g<w.heap.size∧a=some ⟨g,0,none⟩)) z a' n' c'
def Fresh (s:List UInt8) (N z:Nat) (τ:Nat→Kd) (w:World) (e:Ending) (w':World):Prop :=
 ∃ a' n' c' τ',e=.returned (plV a' n' c')∧EvN N s w τ w' τ'∧PlW w' (fun g=>w.heap.size≤g∧τ' g=.no) z a' n' c'
structure PtA (w:World) (τ:Nat→Kd) (ok:Nat→Prop) (t:T) (bl o:Nat) (r:PR):Prop where
 lt:bl<w.heap.size
 no:τ bl=.no
 cs:∀ j v,(pcells r t)[j]?=some v→w.cell? ⟨bl,o+j,none⟩=some v
 pt:PT w τ ok t r
theorem PtA.ev {s:List UInt8} {w w':World} {τ τ':Nat→Kd} {ok:Nat→Prop} {t:T} {bl o:Nat} {r:PR} (h:PtA w τ ok t bl o r) (hi:∀ b,τ b≠.no→b<w.heap.size) (ev:Ev s w τ w' τ'):PtA w' τ' ok t bl o r :=
 ⟨Nat.lt_of_lt_of_le h.lt ev.q.size,(ev.ext bl h.lt).trans h.no,fun j v hv=>(ev.q.cell (a:=⟨bl,o+j,none⟩) h.lt (fun hm=>by have hm:(τ bl).mut:=hm;rw [h.no] at hm;exact hm)).trans (h.cs j v hv),h.pt.ev hi ev⟩
theorem PtA.four {w:World} {τ:Nat→Kd} {ok:Nat→Prop} {t:T} {bl o:Nat} {r:PR} (h:PtA w τ ok t bl o r) :
  w.cell? ⟨bl,o,none⟩=some (.pointer (some ⟨r.nb,r.no,none⟩))∧w.cell? ⟨bl,o+1,none⟩=some (.slice (some ⟨r.rb,0,none⟩) t.subs.length r.sc)∧w.cell? ⟨bl,o+2,none⟩=some (.bool (nullB t))∧w.cell? ⟨bl,o+3,none⟩=some (tdp r.td) :=
 ⟨h.cs 0 _ rfl,h.cs 1 _ rfl,h.cs 2 _ rfl,h.cs 3 _ rfl⟩
theorem PtA.node {w:World} {τ:Nat→Kd} {ok:Nat→Prop} {t:T} {bl o:Nat} {r:PR} (h:PtA w τ ok t bl o r):∃ a c,NodeP w r.nb r.no t a c:=by
 cases h.pt with
 | mk t r a c hN hn hnk ht hb hm hbk f hl hc hs=>exact ⟨a,c,hN⟩
theorem PtA.told {w:World} {τ:Nat→Kd} {ok:Nat→Prop} {t:T} {bl o:Nat} {r:PR} (h:PtA w τ ok t bl o r) (hk:t.kind=5):∃ d,r.td=some d∧τ d=.told t:=by
 cases h.pt with
 | mk t r a c hN hn hnk ht hb hm hbk f hl hc hs =>
  rcases ht with ⟨-,d,h1,h2⟩ | ⟨h1,-⟩
  ·exact ⟨d,h1,h2⟩
  ·exact absurd hk h1
theorem PtA.len {w:World} {τ:Nat→Kd} {ok:Nat→Prop} {t:T} {bl o:Nat} {r:PR} (h:PtA w τ ok t bl o r):t.subs.length≤9223372036854775807:=by
 cases h.pt with
 | mk t r a c hN hn hnk ht hb hm hbk f hl hc hs=>exact hl
theorem PtA.sub {w:World} {τ:Nat→Kd} {ok:Nat→Prop} {t:T} {bl o:Nat} {r:PR} (h:PtA w τ ok t bl o r) {i:Nat} {u:T} (hu:t.subs[i]?=some u):∃ r',PtA w τ ok u r.rb (i * 4) r':=by
 cases h.pt with
 | mk t r a c hN hn hnk ht hb hm hbk f hl hc hs=>exact ⟨f i,hb,hm,hc i u hu,hs i u hu⟩
def EndsC (s:List UInt8) (t:T):Prop:=∀ (d:Nat),RT d t→∀ (bl o:Nat) (r:PR) (ok:Nat→Prop) (w:World) (τ:Nat→Kd) (m:Nat) (a:Option Addr) (n c:Nat),Inv s w τ→PtA w τ ok t bl o r→InT s m→PlW w (fun g=>¬ (τ g).mut) m a n c →
 Calls Tryd.prog 25 #[.pointer (some ⟨bl,o,none⟩),.string ⟨s.toArray⟩,plV a n c] w (Ended s (SizeOf.sizeOf t+1) (rch s (Mat t) m) a τ w)
def Rel1 (N:Nat) (s:List UInt8) (u:T) (m:Nat) (w:World) (τ:Nat→Kd) (k:Nat) (wr:World):Prop :=
 ∃ τk a n c,EvN N s w τ wr τk∧At wr w.heap.size 48 (plC a n c)∧At wr (w.heap.size+1) 48 plZ∧PlW wr (fun g=>¬ (τk g).mut) (rch s (Pow (Mat u) k) m) a n c∧τk w.heap.size=.no∧τk (w.heap.size+1)=.no
def Rel2 (N:Nat) (s:List UInt8) (u:T) (m L:Nat) (w:World) (τ:Nat→Kd) (b:Nat) (k gg:Nat) (wr:World):Prop :=
 ∃ τk a n c al now sl,EvN N s w τ wr τk∧At wr w.heap.size 48 (plC a n c)∧At wr (w.heap.size+1) 48 plZ∧At wr b 48 #[.int .i64 0,sl]∧Bfs s (Mat u) m L k al now
  ∧ PlW wr (fun g=>¬ (τk g).mut∧sl.ownBlock≠some g) now a n c∧SlW wr sl al∧(al=0→sl=.slice none 0 0)∧(∀ g,sl.ownBlock=some g→w.heap.size≤g∧τk g=.no)∧τk w.heap.size=.no∧τk (w.heap.size+1)=.no∧τk b=.no
  ∧ gg=2 * fre s al+(if now=0 then 0 else 1)∧(now≠0→k+fre s al≤L+s.length+1)∧k≤L+s.length+2
theorem rel1_next {N:Nat} {s:List UInt8} {u:T} {m k:Nat} {w wr w5:World} {τ τk τ5:Nat→Kd} {a a':Option Addr} {n c n' c':Nat} (hT:Tab w) (hev:EvN N s w τ wr τk) (hA:At wr w.heap.size 48 (plC a n c)) (hR:At wr (w.heap.size+1) 48 plZ) (hp:PlW wr (fun g=>¬ (τk g).mut) (rch s (Pow (Mat u) k) m) a n c) (h0:τk w.heap.size=.no) (h1:τk (w.heap.size+1)=.no)
  (ev5:EvN N s wr τk w5 τ5) (p5:PlW w5 (fun g=>(wr.heap.size≤g∧τ5 g=.no)∨(g<wr.heap.size∧a=some ⟨g,0,none⟩)) (rch s (Mat u) (rch s (Pow (Mat u) k) m)) a' n' c') :
  At w5 w.heap.size 48 (plC a n c)∧Rel1 N s u m w τ (k+1) (put2 w5 w.heap.size (.int .i64 0) (.slice a' n' c')):=by
 have nm:∀ b,τk b=.no→¬ (τk b).mut:=fun b hb hm=>by rw [hb] at hm;exact hm
 have hA5:=hA.keep ev5.q (nm _ h0);have q6:=keep2 (Keep.refl (fun b=>b=w.heap.size) w5) (b:=w.heap.size) (fun _=>rfl) (.int .i64 0) (.slice a' n' c')
 have hs0:w.heap.size<wr.heap.size:=hA.lt;have hs1:w.heap.size+1<wr.heap.size:=hR.lt;refine ⟨hA5,τ5,a',n',c',(hev.trans ev5).own q6 (fun b hb _=>?_) hT,set2 hA5 _ _,(hR.keep ev5.q (nm _ h1)).keep q6 (by omega),?_,(ev5.ext _ hs0).trans h0,(ev5.ext _ hs1).trans h1⟩
 ·have hb:b=w.heap.size:=hb
  subst hb;exact ⟨Nat.le_refl _,(ev5.ext _ hs0).trans h0⟩
 ·rw [rch_pow]
  refine (plw_put p5 hA5 (by decide) q6 (fun g hg=>hg)).mono (fun g hg _=>?_)
  rcases hg with ⟨-,hg⟩ | ⟨hg1,hg2⟩
  ·rw [hg]
   exact fun h=>h
  ·rw [ev5.ext g hg1]
   exact (plw_block hp hg2).1
theorem fre_gg {s:List UInt8} {al now:Nat} (h:InT s now) (hd:∀ j,now.testBit j=true→¬ al.testBit j=true):fre s (al ||| now)+(if now=0 then 0 else 1)≤fre s al:=by
 by_cases h0:now=0
 ·rw [if_pos h0,h0,Nat.or_zero]
  exact Nat.le_refl _
 ·rw [if_neg h0]
  exact fre_or h h0 hd
theorem rel2_start {N:Nat} {s:List UInt8} {u:T} {m L tb:Nat} {w W1 w2:World} {τ τk:Nat→Kd} {a:Option Addr} {n c:Nat} {sl:Value} (hT:Tab w) (hlen:s.length≤59) (hev:EvN N s w τ W1 τk) (hA:At W1 w.heap.size 48 (plC a n c)) (hR:At W1 (w.heap.size+1) 48 plZ)
  (hp:PlW W1 (fun g=>¬ (τk g).mut) (rch s (Pow (Mat u) L) m) a n c) (h0:τk w.heap.size=.no) (h1:τk (w.heap.size+1)=.no) (hB:At W1 tb 48 plZ) (htb:w.heap.size+1<tb) (h2:τk tb=.no)
  (hAt:At w2 tb 48 (plZ.setIfInBounds (0+1) sl)) (hsl:SlW w2 sl (0 ||| rch s (Pow (Mat u) L) m)) (hz:0 ||| rch s (Pow (Mat u) L) m=0→sl=.slice none 0 0) (ho:∀ g,sl.ownBlock=some g→(Value.slice none 0 0).ownBlock=some g∨W1.heap.size≤g) (q2:Keep (fun k=>k=tb∨(Value.slice none 0 0).ownBlock=some k) W1 w2) :
  ∃ gg,Rel2 N s u m L w τ tb L gg w2:=by
 have q2:Keep (fun k=>k=tb) W1 w2:=q2.mono (fun k h=>h.resolve_right (fun e=>by cases e))
 have ho:∀ g,sl.ownBlock=some g→W1.heap.size≤g:=fun g hg=>(ho g hg).resolve_left (fun e=>by cases e)
 rw [Nat.zero_or] at hsl hz;have hsz:w.heap.size≤W1.heap.size:=hev.q.size;refine ⟨_,τk,a,n,c,_,_,sl,hev.own q2 (fun b hb _=>?_) hT,hA.keep q2 (by omega),hR.keep q2 (by omega),hAt,Bfs.start s (Mat u) m L,?_,hsl,hz,fun g hg=>⟨Nat.le_trans hsz (ho g hg),hev.new (ho g hg)⟩,h0,h1,h2,rfl,fun _=>?_,?_⟩
 ·have hb:b=tb:=hb
  subst hb;exact ⟨by omega,h2⟩
 ·refine plw_put (hp.mono (fun g hg hl=>⟨hg,fun e=>?_⟩)) hB (by decide) q2 (fun g hg=>hg)
  have:=ho g e;omega
 ·have:=fre_le s (rch s (Pow (Mat u) L) m)
  omega
 ·omega
def Rel2m (N:Nat) (s:List UInt8) (w:World) (τ:Nat→Kd) (tb:Nat) (sl:Value) (al now':Nat) (w7:World):Prop :=
 ∃ τ5 a6 n6 c6,EvN N s w τ w7 τ5∧At w7 w.heap.size 48 (plC a6 n6 c6)∧At w7 (w.heap.size+1) 48 plZ∧At w7 tb 48 #[.int .i64 0,sl]
  ∧ PlW w7 (fun g=>¬ (τ5 g).mut∧sl.ownBlock≠some g) now' a6 n6 c6∧SlW w7 sl al∧(∀ g,sl.ownBlock=some g→w.heap.size≤g∧τ5 g=.no)∧τ5 w.heap.size=.no∧τ5 (w.heap.size+1)=.no∧τ5 tb=.no
theorem rel2_mid {N:Nat} {s:List UInt8} {tb al now':Nat} {w wr w5 w6:World} {τ τk τ5:Nat→Kd} {a a6:Option Addr} {n c n6 c6:Nat} {sl:Value} (hT:Tab w) (htb:w.heap.size+1<tb) (hev:EvN N s w τ wr τk) (hA:At wr w.heap.size 48 (plC a n c)) (hR:At wr (w.heap.size+1) 48 plZ) (hB:At wr tb 48 #[.int .i64 0,sl])
  (hsl:SlW wr sl al) (hso:∀ g,sl.ownBlock=some g→w.heap.size≤g∧τk g=.no) (h0:τk w.heap.size=.no) (h1:τk (w.heap.size+1)=.no) (h2:τk tb=.no) (ev5:EvN N s wr.drew τk w5 τ5) (p6:PlW w6 (fun g=>w5.heap.size≤g) now' a6 n6 c6) (q6:Keep (fun _=>False) w5 w6) :
  At w6 w.heap.size 48 (plC a n c)∧Rel2m N s w τ tb sl al now' (put2 w6 w.heap.size (.int .i64 0) (.slice a6 n6 c6)):=by
 have nm:∀ b,τk b=.no→¬ (τk b).mut:=fun b hb hm=>by rw [hb] at hm;exact hm
 have ev35:EvN N s wr τk w5 τ5:=EvN.trans ((EvN.refl hev.inv).quiet ((Keep.refl (fun _=>False) wr).drew)) ev5
 have ev36:=ev35.quiet q6;have hA6:=hA.keep ev36.q (nm _ h0);have hR6:=hR.keep ev36.q (nm _ h1);have hB6:=hB.keep ev36.q (nm _ h2);have hsl6:=hsl.keep ev36.q (fun g hg=>nm g (hso g hg).2)
 have q7:=keep2 (Keep.refl (fun b=>b=w.heap.size) w6) (b:=w.heap.size) (fun _=>rfl) (.int .i64 0) (.slice a6 n6 c6)
 have hs0:w.heap.size<wr.heap.size:=hA.lt;have hs1:w.heap.size+1<wr.heap.size:=hR.lt;have hs2:tb<wr.heap.size:=hB.lt;have hs5:=ev35.q.size;refine ⟨hA6,τ5,a6,n6,c6,(hev.trans ev36).own q7 (fun b hb _=>?_) hT,set2 hA6 _ _,hR6.keep q7 (by omega),hB6.keep q7 (by omega),?_,?_,fun g hg=>?_,(ev35.ext _ hs0).trans h0,(ev35.ext _ hs1).trans h1,(ev35.ext _ hs2).trans h2⟩
 ·have hb:b=w.heap.size:=hb
  subst hb;exact ⟨Nat.le_refl _,(ev35.ext _ hs0).trans h0⟩
 ·refine plw_put (p6.mono (fun g hg _=>⟨?_,fun e=>?_⟩)) hA6 (by decide) q7 (fun g hg=>hg)
  ·rw [ev5.new hg]
   exact fun h=>h
  ·have:=hsl.lt g e
   omega
 ·cases hsl6 with
  | none=>exact .none
  | word g c _ hc hx hg=>exact .word g c _ hc hx (hg.keep q7 (fun e=>hg.ne hA6 (by decide) e))
 ·obtain ⟨h3,h4⟩:=hso g hg
  exact ⟨h3,(ev35.ext g (hsl.lt g hg)).trans h4⟩
theorem rel2_next {N:Nat} {s:List UInt8} {u:T} {m L tb k al now now' gg:Nat} {w w7 w8:World} {τ:Nat→Kd} {sl sl':Value} (hT:Tab w) (hlen:s.length≤59) (htb:w.heap.size+1<tb) (hb:Bfs s (Mat u) m L k al now) (hn:now≠0) (hkb:now≠0→k+fre s al≤L+s.length+1) (hnow:now'=wout (rch s (Mat u) now) al) (hal:al<2305843009213693952) (hgg:gg=2 * fre s al+(if now=0 then 0 else 1))
  (h7:Rel2m N s w τ tb sl al now' w7) (hz0:al=0→sl=.slice none 0 0) (hAt:At w8 tb 48 ((#[.int .i64 0,sl]:Array Value).setIfInBounds (0+1) sl')) (hsl':SlW w8 sl' (al ||| now')) (hz:al ||| now'=0→sl'=sl) (ho:∀ g,sl'.ownBlock=some g→sl.ownBlock=some g∨w7.heap.size≤g) (q8:Keep (fun k=>k=tb∨sl.ownBlock=some k) w7 w8) :
  ∃ gg',gg'<gg∧Rel2 N s u m L w τ tb (k+1) gg' w8:=by
 obtain ⟨τ5,a6,n6,c6,hev,hA,hR,hB,hp,hsl,hso,h0,h1,h2⟩:=h7;have hs2:tb<w7.heap.size:=hB.lt;have hsz:=hev.q.size;have hnb:∀ j,now'.testBit j=true↔(rch s (Mat u) now).testBit j=true∧¬ al.testBit j=true:=fun j=>by
  rw [hnow];exact wout_bit (by have:=(rch_in s (Mat u) now).lt (by omega);omega) (by omega) j
 have hb':=hb.step hnb;have hin:InT s now':=hb'.in_now;have hfr:=fre_gg hin (fun j hj=>((hnb j).1 hj).2)
 have hkb:=hkb hn;rw [if_neg hn] at hgg;have hne:∀ b,sl.ownBlock=some b→b≠w.heap.size∧b≠w.heap.size+1:=fun b hbb=>by
  cases hsl with
  | none=>cases hbb
  | word g c _ hc hx hg =>
   cases hbb
   exact ⟨hg.ne hA (by decide),hg.ne hR (by decide)⟩
 refine ⟨2 * fre s (al ||| now')+(if now'=0 then 0 else 1),?_,τ5,a6,n6,c6,_,_,sl',hev.own q8 (fun b hb _=>?_) hT,hA.keep q8 ?_,hR.keep q8 ?_,hAt,hb',?_,hsl',?_,fun g hg=>?_,h0,h1,h2,rfl,fun hn'=>?_,?_⟩
 ·by_cases hn':now'=0
  ·rw [if_pos hn'] at hfr ⊢
   omega
  ·rw [if_neg hn'] at hfr ⊢
   omega
 ·rcases hb with hb | hb
  ·subst hb
   exact ⟨by omega,h2⟩
  ·exact hso b hb
 ·rintro (h | h)
  ·omega
  ·exact (hne _ h).1 rfl
 ·rintro (h | h)
  ·omega
  ·exact (hne _ h).2 rfl
 ·cases hp with
  | none=>exact .none
  | word _ g _ hx0 hx hc hg hok =>
   refine .word _ g _ hx0 hx hc (hg.keep q8 ?_) ⟨hok.1,fun e=>?_⟩
   ·rintro (h | h)
    ·exact hg.ne hB (by decide) h
    ·exact hok.2 h
   ·rcases ho g e with h | h
    ·exact hok.2 h
    ·have:=hg.lt
     omega
 ·intro h
  rw [hz h];have hal0:al=0:=bit_ext fun j=>by
   have h3:=congrArg (fun y=>Nat.testBit y j) h
   simp only [Nat.testBit_or,Nat.zero_testBit] at h3
   rw [Nat.zero_testBit]
   cases e:al.testBit j with
   | false=>simp
   | true=>rw [e] at h3;simp at h3
  exact hz0 hal0
 ·rcases ho g hg with h | h
  ·exact hso g h
  ·exact ⟨by omega,hev.new h⟩
 ·rw [if_neg hn'] at hfr
  omega
 ·omega
theorem res_end {N:Nat} {s:List UInt8} {w W:World} {τ τk:Nat→Kd} {al:Nat} {a:Option Addr} {n c:Nat} (hT:Tab w) (hev:EvN N s w τ W τk) (hR:At W (w.heap.size+1) 48 plZ) (hp:PlW W (fun g=>w.heap.size≤g∧τk g=.no) al a n c) (h1:τk (w.heap.size+1)=.no) :
  At (put2 W (w.heap.size+1) (.int .i64 0) (.slice a n c)) (w.heap.size+1) 48 (plC a n c)∧EvN N s w τ (put2 W (w.heap.size+1) (.int .i64 0) (.slice a n c)) τk∧PlW (put2 W (w.heap.size+1) (.int .i64 0) (.slice a n c)) (fun g=>w.heap.size≤g∧τk g=.no) al a n c:=by
 have q7:=keep2 (Keep.refl (fun b=>b=w.heap.size+1) W) (b:=w.heap.size+1) (fun _=>rfl) (.int .i64 0) (.slice a n c)
 refine ⟨set2 hR _ _,hev.own q7 (fun b hb _=>?_) hT,plw_put hp hR (by decide) q7 (fun g hg=>hg)⟩
 have hb:b=w.heap.size+1:=hb;subst hb;exact ⟨by omega,h1⟩
theorem repeated_any (s:List UInt8) (hsl:s.length≤59) (t u:T) (d:Nat) (hR:RT d t) (hk:t.kind=5) (hs:t.subs=[u]) (ih:EndsC s u) (bl o:Nat) (r:PR) (ok:Nat→Prop) (w:World) (τ:Nat→Kd) (m:Nat) (a:Option Addr) (n c:Nat) (hI:Inv s w τ) (hP:PtA w τ ok t bl o r) (hm:InT s m) (hp:PlW w (fun g=>¬ (τ g).mut) m a n c) :
  Calls Tryd.prog 45 #[.pointer (some ⟨bl,o,none⟩),.string ⟨s.toArray⟩,plV a n c] w (Fresh s (SizeOf.sizeOf t) (rch s (Mat t) m) τ w):=by
 obtain ⟨u',hs',m0,m20,hx,-⟩:=kind5_one hR hk;have hT:=hI.tab;have b1:=(At.new w (plC a n c) 48).alloc (.cells plZ 48);have b2:=At.new (w.alloc (.cells (plC a n c) 48)) plZ 48;rw [show (w.alloc (.cells (plC a n c) 48)).heap.size=w.heap.size+1 from by simp] at b2
 have q:=((Keep.refl (fun _=>False) w).alloc (.cells (plC a n c) 48)).alloc (.cells plZ 48)
 have hev:=(EvN.refl (N:=SizeOf.sizeOf t) hI).quiet q;have hn0:∀ b,w.heap.size≤b→τ b=.no:=fun b hb=>(Ev.refl hI).new hb
 obtain ⟨L,hL⟩:∃ L,lowT t u=L:=⟨_,rfl⟩;have hL20:L≤20:=by
  rw [← hL];unfold lowT
  split <;> omega
 have hr0:Rel1 (SizeOf.sizeOf t) s u m w τ 0 ((w.alloc (.cells (plC a n c) 48)).alloc (.cells plZ 48)) :=
  ⟨τ,a,n,c,hev,b1,b2,by rw [rch_pow0 (Mat u) hm];exact hp.keepF q,hn0 _ (Nat.le_refl _),hn0 _ (by omega)⟩
 have hu0:t.subs[0]?=some u:=by rw [hs];rfl
 have hleast:∀ W τ',EvN (SizeOf.sizeOf t) s w τ W τ'→Calls Tryd.prog 40 #[.pointer (some ⟨bl,o,none⟩)] W fun e w'=>e=.returned (.int .i64 L)∧W=w':=fun W τ' ev=>by
  have hP':=hP.ev hI.lt ev.toEv;obtain ⟨a',c',hN⟩:=hP'.node;obtain ⟨f0,f1,-,-⟩:=hP'.four;obtain ⟨r',hs0⟩:=hP'.sub hu0;have:=hs0.four.2.2.1;rw [Nat.zero_mul,Nat.zero_add] at this;exact least_any bl o r.nb r.no r.rb r.sc t u a' c' L hL hs m0 W f0 f1 hN this
 have hends:∀ W τ' m' a' n' c',EvN (SizeOf.sizeOf t) s w τ W τ'→InT s m'→PlW W (fun g=>¬ (τ' g).mut) m' a' n' c'→Calls Tryd.prog 25 #[.pointer (some ⟨r.rb,0,none⟩),.string ⟨s.toArray⟩,plV a' n' c'] W (Ended s (SizeOf.sizeOf t) (rch s (Mat u) m') a' τ' W):=fun W τ' m' a' n' c' ev hm' hp'=>by
  obtain ⟨r',hs0⟩:=(hP.ev hI.lt ev.toEv).sub hu0;rw [Nat.zero_mul] at hs0;refine (ih d (sub_RT hR hu0) r.rb 0 r' ok W τ' m' a' n' c' ev.inv hs0 hm' hp').mono ?_;rintro e w' ⟨a5,n5,c5,τ5,h1,h2,h3⟩;exact ⟨a5,n5,c5,τ5,h1,h2.mono (by have:=sub_less hu0;omega),h3⟩
 have hpart:∀ W τ',EvN (SizeOf.sizeOf t) s w τ W τ'→W.cell? ⟨bl,o,none⟩=some (.pointer (some ⟨r.nb,r.no,none⟩))∧W.cell? ⟨bl,o+1,none⟩=some (.slice (some ⟨r.rb,0,none⟩) 1 r.sc)∧W.cell? ⟨r.nb,r.no+6,none⟩=some (.int .i64 t.mx):=fun W τ' ev=>by
  have hP':=hP.ev hI.lt ev.toEv;obtain ⟨a',c',hN⟩:=hP'.node;obtain ⟨f0,f1,-,-⟩:=hP'.four;rw [hs] at f1;exact ⟨f0,f1,hN.eight.2.2.2.2.2.2.1⟩
 have H0:=hid (And.intro hr0 (And.intro hleast (And.intro hends (And.intro hpart (And.intro hT (And.intro hI (And.intro hm hn0)))))));have hrch:∀ (k al now:Nat),Bfs s (Mat u) m L k al now→(t.mx=-1∨(k:Int)≤t.mx)→now=0∨(k:Int)=t.mx→rch s (Mat t) m=al:=fun k al now hb h1 h2 =>
  rch_5 (lo:=L) hk hs m0 (by omega) (nullB u) (null_mat (sub_RT hR hu0)) (by rw [← hL];rfl) hb h1 h2
 have HR:=hid hrch;have hLx:t.mx=-1∨(L:Int)≤t.mx:=by
  rw [← hL];unfold lowT
  split <;> omega
 obtain ⟨mx,hmx⟩:∃ mx,t.mx=mx:=⟨_,rfl⟩;rw [hmx] at HR hLx hx;have hmx20:mx≤20:=by omega
 have hmxm:-1≤mx:=by omega
 obtain ⟨Z,hZ⟩:∃ Z,rch s (Mat t) m=Z:=⟨_,rfl⟩;rw [hZ] at HR ⊢;have h1p:=hpart _ _ hev;rw [hmx] at H0;obtain ⟨p0,p1,-⟩:=h1p;clear hr0 hleast hends hpart hT hI hm hn0 hp hP hev b1 b2 q ih hR hrch hx m20 hs' m0 hL hs hk hu0 hZ hmx
 go_enter Tryd.func45,Tryd.ntmps45
 go_upto_region 1 with fail;generalize ((w.alloc (.cells (plC a n c) 48)).alloc (.cells plZ 48))=W at *;go_wp2_with fail;clear p0 p1
 go_loopg [8] L (fun gg v wr=>∃ k:Nat,v=.int .i64 k∧k+gg=L∧Rel1 (SizeOf.sizeOf t) s u m w τ k wr)
 case atStart=>exact ⟨0,rfl,by omega,H0.out.1⟩
 case round =>
  obtain ⟨k,rfl,hkg,hrel1⟩:=hrel;obtain ⟨τk,a1,n1,c1,hev,hA,hRz,hpl,hn1,hn2⟩:=hrel1;have HL:=hid (H0.out.2.1 wr τk hev)
  by_cases hlt:k<L
  ·have hlt':(k:Int)<L:=by omega
   have HC:=hid (H0.out.2.2.1 wr τk _ a1 n1 c1 hev (rch_in s _ _) hpl);have HP:=hid (And.intro hev (And.intro hA (And.intro hRz (And.intro hpl (And.intro hn1 hn2)))));obtain ⟨⟨d0,d1⟩,-⟩:=cells2 hA;clear hev hA hRz hpl hn1 hn2;go_wp2_with fail;refine HL.out.mono ?_;rintro e w1 ⟨rfl,rfl⟩;go_wp2_with fail;refine HC.out.mono ?_;rintro e w5 ⟨a5,n5,c5,τ5,rfl,ev5,p5⟩;obtain ⟨hA5,hnext⟩:=rel1_next H0.out.2.2.2.2.1 HP.out.1 HP.out.2.1 HP.out.2.2.1 HP.out.2.2.2.1 HP.out.2.2.2.2.1 HP.out.2.2.2.2.2 ev5 p5;have HN:=hid hnext;clear d0 d1 ev5 p5 hnext;obtain ⟨⟨d0,d1⟩,e0,e1⟩:=cells2 hA5;clear hA5;go_wp2_with fail
   go_roundg (L - (k+1))
   case measure=>omega
   case rel=>exact ⟨k+1,by go_num,by omega,HN.out⟩
  ·have hkL:L=k:=by omega
   clear hlt hkg;subst hkL;have HP:=hid (And.intro hev (And.intro hA (And.intro hRz (And.intro hpl (And.intro hn1 hn2)))));obtain ⟨⟨d0,d1⟩,-⟩:=cells2 hA;clear hev hA hRz hpl hn1 hn2;go_wp2_with fail;refine HL.out.mono ?_;rintro e w1 ⟨rfl,rfl⟩;go_upto_region 6 with fail;have qT:=(Keep.refl (fun _=>False) wr).alloc (.cells plZ 48)
   have aT:=At.new wr plZ 48;have HT:=hid (And.intro (HP.out.1.quiet qT) (And.intro (HP.out.2.1.keep qT (fun h=>h)) (And.intro (HP.out.2.2.1.keep qT (fun h=>h)) (And.intro (HP.out.2.2.2.1.keepF qT) (And.intro HP.out.2.2.2.2.1 (And.intro HP.out.2.2.2.2.2 (And.intro aT (HP.out.1.new (Nat.le_refl _)))))))))
   have hszT:w.heap.size+1<wr.heap.size:=HP.out.2.2.1.lt;clear qT aT HP HL d0 d1;obtain ⟨tb,htb⟩:∃ tb,wr.heap.size=tb:=⟨_,rfl⟩;rw [htb] at HT hszT ⊢;clear htb;generalize (wr.alloc (.cells plZ 48))=W1 at *;obtain ⟨⟨d0,d1⟩,-⟩:=cells2 HT.out.2.1;have HA:=hid (add_any tb 0 48 plZ (.slice none 0 0) 0 (rch s (Pow (Mat u) L) m) _ a1 n1 c1 W1 HT.out.2.2.2.2.2.2.1 (by decide) rfl rfl .none HT.out.2.2.2.1 (fun g _ _ h=>by cases h))
   go_wp2_with fail;refine HA.out.mono ?_;rintro e w2 ⟨kk,sl,rfl,hAt,hsl1,hsl0,hslo,q2⟩;obtain ⟨gg0,hrel0⟩:=rel2_start H0.out.2.2.2.2.1 hsl HT.out.1 HT.out.2.1 HT.out.2.2.1 HT.out.2.2.2.1 HT.out.2.2.2.2.1 HT.out.2.2.2.2.2.1 HT.out.2.2.2.2.2.2.1 hszT HT.out.2.2.2.2.2.2.2 hAt hsl1 hsl0 hslo q2;have HS:=hid hrel0;clear d0 d1 hAt hsl1 hsl0 hslo q2 HT HA hrel0 W1;go_wp2_with fail
   go_loopg [8] gg0 (fun gg v wr=>∃ k:Nat,v=.int .i64 k∧(mx=-1∨(k:Int)≤mx)∧Rel2 (SizeOf.sizeOf t) s u m L w τ tb k gg wr)
   case atStart=>exact ⟨_,rfl,hLx,HS.out⟩
   case round =>
    obtain ⟨k,rfl,hkx,hrel2⟩:=hrel;obtain ⟨τk,a2,n2,c2,al,now,sl,hev,hA,hRz,hB,hbfs,hpl,hsw,hs0,hso,hn1,hn2,hn3,hgg,hkb,hkl⟩:=hrel2;obtain ⟨f0,-,f6⟩:=H0.out.2.2.2.1 wr τk hev;have hall:=hbfs.in_to.lt (show s.length≤60 by omega)
    obtain ⟨a3,n3,c3,rfl,hpt,hpo⟩:=slw_pl hsw hs0 hall;have HE:=hid (And.intro hev (And.intro hA (And.intro hRz (And.intro hB (And.intro hbfs (And.intro hpl (And.intro hsw (And.intro hs0 (And.intro hso (And.intro hn1 (And.intro hn2 (And.intro hn3 (And.intro hgg (And.intro hkb (And.intro hpt hall)))))))))))))));obtain ⟨⟨d0,d1⟩,-⟩:=cells2 hA;obtain ⟨⟨t0,t1⟩,-⟩:=cells2 hB;obtain ⟨⟨r0,r1⟩,rf0,rf1⟩:=cells2 hRz;have hnz:=hpl.len;have HN:=hid (fun (b:Bool) (hb:decide (n2=0)=b)=>none_any a2 n2 c2 hb wr)
    have hk100:k≤200:=by omega
    clear hev hRz hbfs hpl hsw hs0 hso hn1 hn2 hn3 hgg hkb hpt hpo hA hB hkl
    by_cases hkm:(k:Int)=mx
    ·have tk:(((k:Int) != mx):Bool)=false:=by simp [hkm]
     have hZ:=HR.out k al now HE.out.2.2.2.2.1 hkx (.inr hkm);have HZ:=hid hZ;clear hZ hkm;go_wp2_with fail
     change bodyPost _ _ _ _ _ (put2 wr (w.heap.size+1) (.int .i64 0) (.slice a3 n3 c3))
     obtain ⟨hX,hY,hZ⟩:=res_end H0.out.2.2.2.2.1 HE.out.1 HE.out.2.2.1 (HE.out.2.2.2.2.2.2.2.2.2.2.2.2.2.2.1.mono (fun g hg _=>HE.out.2.2.2.2.2.2.2.2.1 g hg)) HE.out.2.2.2.2.2.2.2.2.2.2.1
     rw [← HZ.out] at hZ;generalize put2 wr (w.heap.size+1) (.int .i64 0) (.slice a3 n3 c3)=W9 at *;obtain ⟨⟨e0,e1⟩,-⟩:=cells2 hX;exact bodyPost_ret (v:=plV a3 n3 c3) (by simp [results,Tryd.results45,go_sem,e0,e1]) rfl ⟨_,_,_,τk,rfl,hY,hZ⟩
    ·have tk:(((k:Int) != mx):Bool)=true:=by simp [hkm]
     by_cases hn0:now=0
     ·have hb0:decide (n2=0)=true:=by simp [hnz.1.2 hn0]
      have HN0:=hid (HN.out true hb0);have hZ:=HR.out k al now HE.out.2.2.2.2.1 hkx (.inl hn0);have HZ:=hid hZ;clear hZ hkm hn0 hnz HN hb0;go_wp2_with fail;refine HN0.out.mono ?_;rintro e w4 ⟨rfl,q4⟩;have H4:=hid (And.intro (HE.out.1.quiet q4) (And.intro (HE.out.2.2.1.keep q4 (fun h=>h)) (And.intro ((HE.out.2.2.2.2.2.2.2.2.2.2.2.2.2.2.1.mono (fun g hg _=>HE.out.2.2.2.2.2.2.2.2.1 g hg)).keepF q4) (HE.out.2.2.2.1.keep q4 (fun h=>h)))))
      clear q4 d0 d1 t0 t1 r0 r1 rf0 rf1 f0 f6;obtain ⟨⟨t0,t1⟩,-⟩:=cells2 H4.out.2.2.2;obtain ⟨⟨r0,r1⟩,rf0,rf1⟩:=cells2 H4.out.2.1;go_wp2_with fail
      change bodyPost _ _ _ _ _ (put2 w4 (w.heap.size+1) (.int .i64 0) (.slice a3 n3 c3))
      obtain ⟨hX,hY,hZ⟩:=res_end H0.out.2.2.2.2.1 H4.out.1 H4.out.2.1 H4.out.2.2.1 HE.out.2.2.2.2.2.2.2.2.2.2.1;rw [← HZ.out] at hZ;generalize put2 w4 (w.heap.size+1) (.int .i64 0) (.slice a3 n3 c3)=W9 at *;obtain ⟨⟨e0,e1⟩,-⟩:=cells2 hX;exact bodyPost_ret (v:=plV a3 n3 c3) (by simp [results,Tryd.results45,go_sem,e0,e1]) rfl ⟨_,_,_,τk,rfl,hY,hZ⟩
     ·have hb0:decide (n2=0)=false:=by simp;omega
      have HN0:=hid (HN.out false hb0);have hkx1:mx=-1∨(((k+1:Nat):Int))≤mx:=by omega
      have HK1:=hid (And.intro hkx1 hn0);clear hkm hn0 hnz HN hb0 hkx1;go_wp2_with fail;refine HN0.out.mono ?_;rintro e w4 ⟨rfl,q4⟩;have hev4:=HE.out.1.quiet q4;have hA4:=HE.out.2.1.keep q4 (fun h=>h)
      have hB4:=HE.out.2.2.2.1.keep q4 (fun h=>h)
      have HC:=hid (fun W' (q':Keep (fun _=>False) w4 W')=>H0.out.2.2.1 W' τk now a2 n2 c2 (hev4.quiet q') HE.out.2.2.2.2.1.in_now ((HE.out.2.2.2.2.2.1.mono (fun g hg _=>hg.1)).keepF (q4.trans q')))
      have HPT:=hid (HE.out.2.2.2.2.2.2.2.2.2.2.2.2.2.2.1.keepF q4);have H4:=hid (And.intro hev4 (And.intro hA4 (And.intro (HE.out.2.2.1.keep q4 (fun h=>h)) (And.intro hB4 (HE.out.2.2.2.2.2.2.1.keep q4 (fun _ _ h=>h))))))
      clear q4 d0 d1 t0 t1 r0 r1 rf0 rf1 f0 f6 hev4;obtain ⟨⟨d0,d1⟩,-⟩:=cells2 hA4;obtain ⟨⟨t0,t1⟩,-⟩:=cells2 hB4;clear hA4 hB4;have nm:∀ b,τk b=.no→¬ (τk b).mut:=fun b hb hm=>by rw [hb] at hm;exact hm
      have hnm:=hid nm;clear nm;go_upto_region 9 with fail
      go_region_with (first
       | (go_at_call 25;refine (HC.out _ ((Keep.refl _ _).drew)).mono ?_;rintro e w5 ⟨a5,n5,c5,τ5,rfl,ev5,p5⟩;have ev45:EvN (SizeOf.sizeOf t) s w4 τk w5 τ5:=EvN.trans ((EvN.refl H4.out.1.inv).quiet ((Keep.refl (fun _=>False) w4).drew)) ev5;obtain ⟨⟨t0',t1'⟩,-⟩:=cells2 (H4.out.2.2.2.1.keep ev45.q (hnm.out _ HE.out.2.2.2.2.2.2.2.2.2.2.2.1));have py:=HPT.out.keep ev45.q (fun g hg _=>hnm.out _ (HE.out.2.2.2.2.2.2.2.2.1 g hg).2);have H5:=hid (And.intro ev5 (And.intro p5 (And.intro py ev45)));clear ev5 p5 py ev45)
       | (go_at_call 49;refine (without_any _ _ _ _ _ _ _ _ _ _ _ H5.out.2.1 H5.out.2.2.1).mono ?_;rintro e w6 ⟨a6,n6,c6,rfl,p6,q6⟩;obtain ⟨⟨d0',d1'⟩,df0',df1'⟩:=cells2 ((H4.out.2.1.keep H5.out.2.2.2.q (hnm.out _ HE.out.2.2.2.2.2.2.2.2.2.1)).keep q6 (fun h=>h));have H6:=hid (And.intro p6 q6);clear p6 q6))
      all_goals
       change Exit.then _ _ _ _ (put2 w6 w.heap.size (.int .i64 0) (.slice a6 n6 c6))
       have hmid:=(rel2_mid H0.out.2.2.2.2.1 hszT H4.out.1 H4.out.2.1 H4.out.2.2.1 H4.out.2.2.2.1 H4.out.2.2.2.2 HE.out.2.2.2.2.2.2.2.2.1 HE.out.2.2.2.2.2.2.2.2.2.1 HE.out.2.2.2.2.2.2.2.2.2.2.1 HE.out.2.2.2.2.2.2.2.2.2.2.2.1 H5.out.1 H6.out.1 H6.out.2).2;clear d0 d1 t0 t1 t0' t1' d0' d1' df0' df1' H6 H5;generalize put2 w6 w.heap.size (.int .i64 0) (.slice a6 n6 c6)=w7 at *;have HM:=hid hmid;obtain ⟨τ7,a7,n7,c7,hev7,hA7,hR7,hB7,hp7,hsl7,hso7,-,-,-⟩:=hmid;obtain ⟨⟨d0,d1⟩,-⟩:=cells2 hA7;have HAd:=hid (add_any tb 0 48 #[.int .i64 0,.slice a3 n3 c3] (.slice a3 n3 c3) al _ _ a7 n7 c7 w7 hB7 (by decide) rfl rfl hsl7 hp7 (fun g hg _=>hg.2))
       clear hev7 hA7 hR7 hB7 hp7 hsl7 hso7;go_wp2_with fail;refine HAd.out.mono ?_;rintro e w8 ⟨kk2,sl',rfl,hAt,hsl',hz',ho',q8⟩;obtain ⟨gg',hlt',hrel'⟩:=rel2_next H0.out.2.2.2.2.1 hsl hszT HE.out.2.2.2.2.1 HK1.out.2 HE.out.2.2.2.2.2.2.2.2.2.2.2.2.2.1 rfl HE.out.2.2.2.2.2.2.2.2.2.2.2.2.2.2.2 HE.out.2.2.2.2.2.2.2.2.2.2.2.2.1 HM.out HE.out.2.2.2.2.2.2.2.1 hAt hsl' hz' ho' q8;have HX:=hid (And.intro hlt' hrel');clear hlt' hrel' hAt hsl' hz' ho' q8 d0 d1 HAd HM;go_wp2_with fail
       go_roundg gg'
       case measure=>exact HX.out.1
       case rel=>exact ⟨k+1,by go_num,HK1.out.1,HX.out.2⟩
end P11
end Go.Proofs.YthcjfgfbeollpaaDoor
