/- Layer 11, the code: asked. -/
import Derived.Test.YthcjfgfbeollpaaDoorKB50
set_option maxRecDepth 100000
set_option maxHeartbeats 32000000
open Go.Lib (hid)
namespace Go.Proofs.YthcjfgfbeollpaaDoor
namespace P11
open Go.RowKit Go.Maps Go.ChangeMaps Go.MapKept Base Bytes P07 P08 P09 P10 IL
open Sets (ST pc cnt_le)
theorem MpW.same {w w':World} {b:Nat} {E:Int→Option (Option (Nat × Nat))} (h:MpW w b E) (e:w'.heap[b]?=w.heap[b]?):MpW w' b E:=by
 obtain ⟨n,D,h1,⟨es,clock,hb,r⟩,h3⟩:=h;exact ⟨n,D,h1,⟨es,clock,e.trans hb,r⟩,h3⟩
theorem VE.ext {τ τ':Nat→Kd} {e:Option (Nat × Nat)} {z:Nat} (h:VE τ e z) (k:∀ g,τ g=.val z→τ' g=.val z):VE τ' e z:=by
 match e,h with
 | none,h=>exact h
 | some (g,c),⟨h1,h2⟩=>exact ⟨k g h1,h2⟩
theorem EvN.turn {N:Nat} {s:List UInt8} {w w':World} {τ:Nat→Kd} (h:Inv s w τ) {d:Nat} {t:T} (hN:SizeOf.sizeOf t<N) (hd:τ d=.told t) {asks all asks' all':Int} {sl sl':Value} {m x':Nat}
  (hA:At w d 71 (toldC asks sl all m)) (hw:∀ g,sl.ownBlock=some g→τ g=.word d) (hm:τ m=.mp t)
  (hA':At w' d 71 (toldC asks' sl' all' m)) (hs':SlW w' sl' x') (ho:∀ g,sl'.ownBlock=some g→sl.ownBlock=some g∨w.heap.size≤g) (q:Keep (fun k=>k=d∨sl.ownBlock=some k) w w') :
  ∃ τ',EvN N s w τ w' τ':=by
 obtain ⟨τ',ev⟩:=h.turn hd hA hw hm hA' hs' ho q;refine ⟨τ',ev,h.lt,fun b t' hb ht=>q.block b (h.lt b (mp_told hb)) (fun hk=>?_)⟩
 rcases hk with hk | hk
 ·rw [hk,hd] at hb
  rcases hb with hb | hb
  ·cases hb
  ·injection hb with hb
   rw [← hb] at ht;omega
 ·have:=hw b hk
  rw [this] at hb
  rcases hb with hb | hb
  ·cases hb
  ·cases hb
def lowM (m i:Nat):Nat:=((plm m).take i).foldl (fun z p=>z ||| 2 ^ p.toNat) 0
theorem lowM_zero (m:Nat):lowM m 0=0:=rfl
theorem lowM_next {m i p:Nat} (h:(plm m)[i]?=some (p:Int)):lowM m (i+1)=lowM m i ||| 2 ^ p:=by
 unfold lowM;have hi:=(List.getElem?_eq_some_iff.1 h).1;have hg:=(List.getElem?_eq_some_iff.1 h).2;rw [List.take_succ_eq_append_getElem hi,List.foldl_append,hg]
 rfl
theorem lst_fold (f:Nat→Bool) (j:Nat):∀ k,((lst f k).foldl (fun z (p:Int)=>z ||| 2 ^ p.toNat) 0).testBit j=(decide (j<k) && f j)
 | 0=>by simp [lst]
 | k+1=>by
  rw [lst];have ih:=lst_fold f j k
  by_cases hf:f k=true
  ·rw [if_pos hf,List.foldl_append,List.foldl_cons,List.foldl_nil,Nat.testBit_or,ih,Int.toNat_natCast,Nat.testBit_two_pow]
   by_cases e:k=j
   ·subst e
    simp [hf]
   ·rw [decide_eq_false e,Bool.or_false]
    congr 1
    rw [Bool.eq_iff_iff]
    simp
    omega
  ·rw [if_neg hf,ih]
   by_cases e:j=k
   ·subst e
    simp [hf]
   ·congr 1
    rw [Bool.eq_iff_iff]
    simp
    omega
theorem lowM_all {m:Nat} (hm:m<2305843009213693952):lowM m (plm m).length=m:=by
 unfold lowM;rw [List.take_length];refine Nat.eq_of_testBit_eq fun j=>?_
 show ((lst m.testBit 61).foldl _ 0).testBit j=_
 rw [lst_fold]
 by_cases hj:j<61
 ·simp [hj]
 ·rw [decide_eq_false hj,Bool.false_and]
  exact (Nat.testBit_lt_two_pow (Nat.lt_of_lt_of_le (show m<2 ^ 61 from hm) (Nat.pow_le_pow_right (by omega) (by omega)))).symm
theorem lst_mem (f:Nat→Bool) (x:Int):∀ k,x ∈ lst f k→∃ p:Nat,x=p∧p<k∧f p=true
 | 0,h=>by simp [lst] at h
 | k+1,h=>by
  rw [lst] at h
  by_cases hf:f k=true
  ·rw [if_pos hf,List.mem_append] at h
   rcases h with h | h
   ·obtain ⟨p,h1,h2,h3⟩:=lst_mem f x k h
    exact ⟨p,h1,by omega,h3⟩
   ·rw [List.mem_singleton] at h
    exact ⟨k,h,by omega,hf⟩
  ·rw [if_neg hf] at h
   obtain ⟨p,h1,h2,h3⟩:=lst_mem f x k h;exact ⟨p,h1,by omega,h3⟩
theorem plm_get {m i:Nat} {x:Int} (h:(plm m)[i]?=some x):∃ p:Nat,x=p∧p<61∧m.testBit p=true:=lst_mem m.testBit x 61 (List.mem_of_getElem? h)
theorem plm_pos {m:Nat} (h0:m≠0) (hm:m<2305843009213693952):0<(plm m).length:=by
 refine Decidable.byContradiction fun hn=>?_
 have h1:=lowM_all hm;rw [show (plm m).length=0 by omega,lowM_zero] at h1
 exact h0 h1.symm
theorem inT_pow {s:List UInt8} {p:Nat} (h:p≤s.length):InT s (2 ^ p):=fun j hj=>by
 rw [Nat.testBit_two_pow,decide_eq_true_eq] at hj;omega
theorem plw_mv {w:World} {ok:Nat→Prop} {m n c:Nat} {a:Option Addr} (h:PlW w ok m a n c):∃ e,MV e=plV a n c:=by
 cases h with
 | none=>exact ⟨Option.none,rfl⟩
 | word m g c h0 hm hc hg ho=>exact ⟨some (g,c),rfl⟩
theorem ve_plw {s:List UInt8} {w:World} {τ:Nat→Kd} (h:Inv s w τ) {e:Option (Nat × Nat)} {z:Nat} (hv:VE τ e z):∃ a n c,MV e=plV a n c∧PlW w (fun g=>τ g=.val z) z a n c:=by
 match e,hv with
 | none,hv =>
  have hv:z=0:=hv;subst hv;exact ⟨_,_,_,rfl,.none⟩
 | some (g,c),⟨h1,h2⟩ =>
  obtain ⟨a1,a2,a3⟩:=h.val g z h1;exact ⟨_,_,_,rfl,.word z g c a2 a3 h2 a1 h1⟩
theorem slw_put {S:Nat→Prop} {w w':World} {v:Value} {x b:Nat} {t:TypeId} {cs:Array Value} (h:SlW w v x) (hA:At w b t cs) (ht:t≠22) (q:Keep S w w') (hS:∀ g,S g→g=b):SlW w' v x:=by
 cases h with
 | none=>exact .none
 | word g c x hc hx hg=>exact .word g c x hc hx (hg.keep q (fun h=>hg.ne hA ht (hS g h)))
theorem PtA.toldAt {s:List UInt8} {w:World} {τ:Nat→Kd} {ok:Nat→Prop} {t:T} {bl o:Nat} {r:PR} (h:PtA w τ ok t bl o r) (hI:Inv s w τ) (hk:t.kind=5) :
  ∃ d asks sl all m x,r.td=some d∧τ d=.told t∧At w d 71 (toldC asks sl all m)∧SlW w sl x∧(∀ g,sl.ownBlock=some g→τ g=.word d)∧τ m=.mp t∧w.cell? ⟨bl,o+3,none⟩=some (.pointer (some ⟨d,0,none⟩)):=by
 obtain ⟨d,h1,h2⟩:=h.told hk;obtain ⟨asks,sl,all,m,x,a1,a2,a3,a4⟩:=hI.told d t h2;have h3:=h.four.2.2.2;rw [h1] at h3;exact ⟨d,asks,sl,all,m,x,h1,h2,a1,a2,a3,a4,h3⟩
structure Rel3 (N:Nat) (s:List UInt8) (t:T) (m:Nat) (w:World) (τ:Nat→Kd) (tb lb i:Nat) (wr:World) (τk:Nat→Kd) (sl:Value) (al:Nat):Prop where
 ev:EvN N s w τ wr τk
 res:At wr (w.heap.size+1) 48 plZ
 to_:At wr tb 48 #[.int .i64 0,sl]
 sl_:SlW wr sl al
 nil_:al=0→sl=.slice none 0 0
 own:∀ g,sl.ownBlock=some g→lb<g∧τk g=.no
 list_:∀ (j:Nat) (x:Int),(plm m)[j]?=some x→wr.cell? ⟨lb,j,none⟩=some (.int .i64 x)
 lbl:lb<wr.heap.size
 lbn:τk lb=.no
 tbn:τk tb=.no
 rn:τk (w.heap.size+1)=.no
 al_:al=rch s (Mat t) (lowM m i)
structure Mid3 (N:Nat) (s:List UInt8) (w:World) (τ:Nat→Kd) (m tb lb kb z:Nat) (sl:Value) (al:Nat) (wx:World) (τx:Nat→Kd) (a3:Option Addr) (n3 c3:Nat):Prop where
 ev:EvN N s w τ wx τx
 res:At wx (w.heap.size+1) 48 plZ
 to_:At wx tb 48 #[.int .i64 0,sl]
 sl_:SlW wx sl al
 own:∀ g,sl.ownBlock=some g→lb<g∧τx g=.no
 list_:∀ (j:Nat) (x:Int),(plm m)[j]?=some x→wx.cell? ⟨lb,j,none⟩=some (.int .i64 x)
 lbl:lb<wx.heap.size
 lbn:τx lb=.no
 tbn:τx tb=.no
 rn:τx (w.heap.size+1)=.no
 kn:At wx kb 48 (plC a3 n3 c3)
 pl:PlW wx (fun g=>¬ (τx g).mut∧sl.ownBlock≠some g) z a3 n3 c3
theorem rel3_known {N:Nat} {s:List UInt8} {t:T} {m:Nat} {w:World} {τ:Nat→Kd} {tb lb i:Nat} {wr:World} {τk:Nat→Kd} {sl:Value} {al z:Nat} {a3:Option Addr} {n3 c3:Nat} (h:Rel3 N s t m w τ tb lb i wr τk sl al) (hp:PlW wr (fun g=>τk g=.val z) z a3 n3 c3) :
  Mid3 N s w τ m tb lb wr.heap.size z sl al (wr.alloc (.cells (plC a3 n3 c3) 48)) τk a3 n3 c3:=by
 have q:=(Keep.refl (fun _=>False) wr).alloc (.cells (plC a3 n3 c3) 48)
 refine ⟨h.ev.quiet q,h.res.keep q (fun h=>h),h.to_.keep q (fun h=>h),h.sl_.keep q (fun _ _ h=>h),h.own,fun j x hx=>(q.cell (a:=⟨lb,j,none⟩) h.lbl (fun h=>h)).trans (h.list_ j x hx),Nat.lt_of_lt_of_le h.lbl q.size,h.lbn,h.tbn,h.rn,At.new wr _ _,(hp.keepF q).mono (fun g hg _=>⟨?_,fun e=>?_⟩)⟩
 ·rw [show τk g=.val z from hg]
  exact fun h=>h
 ·have:=(h.own g e).2
  rw [show τk g=.val z from hg] at this
  cases this
set_option linter.unusedVariables false in
theorem rel3_w7 {s:List UInt8} {t:T} {m:Nat} {w:World} {τ:Nat→Kd} {tb lb i mb z d:Nat} {wr W5 w6 W7:World} {τk τ6:Nat→Kd} {sl:Value} {al:Nat} {a6:Option Addr} {n6 c6:Nat} {E:Int→Option (Option (Nat × Nat))} {cs:Array Value} (hT:Tab w)
  (h:Rel3 (SizeOf.sizeOf t+1) s t m w τ tb lb i wr τk sl al) (q5:Keep (fun _=>False) (wr.alloc (.cells (plC none 0 0) 48)) W5) (ev6:EvN (SizeOf.sizeOf t) s W5 τk w6 τ6) (p6:PlW w6 (fun g=>W5.heap.size≤g∧τ6 g=.no) z a6 n6 c6)
  (h7:W7=put2 w6 wr.heap.size (.int .i64 0) (.slice a6 n6 c6)) (hmb:τk mb=.mp t) (hd:τk d=.told t) (hA:At wr d 71 cs) (hM:MpW wr mb E) :
  EvN (SizeOf.sizeOf t+1) s w τ W7 τ6∧At w6 wr.heap.size 48 (plC none 0 0)∧At W7 wr.heap.size 48 (plC a6 n6 c6)∧At W7 d 71 cs∧MpW W7 mb E:=by
 have nm:∀ b,τk b=.no→¬ (τk b).mut:=fun b hb hm=>by rw [hb] at hm;exact hm
 have qK:=(Keep.refl (fun _=>False) wr).alloc (.cells (plC none 0 0) 48)
 have aK:=At.new wr (plC none 0 0) 48;have q05:=qK.trans q5;have hkK:=aK.keep q5 (fun h=>h)
 have hkn:τk wr.heap.size=.no:=h.ev.new (Nat.le_refl _);have ev06:EvN (SizeOf.sizeOf t+1) s wr τk w6 τ6:=((EvN.refl h.ev.inv).quiet q05).trans (ev6.mono (Nat.le_succ _));have hk6:=hkK.keep ev6.q (nm _ hkn);have q7:Keep (fun b=>b=wr.heap.size) w6 W7:=by
  rw [h7];exact keep2 (Keep.refl (fun b=>b=wr.heap.size) w6) (b:=wr.heap.size) (fun _=>rfl) _ _
 have hs5:wr.heap.size<W5.heap.size:=hkK.lt;have hs6:=ev6.q.size;have hsw:=h.ev.q.size;have hk6n:τ6 wr.heap.size=.no:=(ev6.ext _ hs5).trans hkn;have hblk:∀ b,τk b=.mp t∨τk b=.told t→W7.heap[b]?=wr.heap[b]?:=fun b hb=>by
  have hlt:=h.ev.inv.lt b (mp_told hb);have e1:=q05.block b hlt (fun h=>h)
  have e2:=ev6.big b t hb (Nat.le_refl _);have e3:=q7.block b (by omega) (by omega:¬ b=wr.heap.size)
  exact e3.trans (e2.trans e1)
 refine ⟨(h.ev.trans ev06).own q7 (fun b hb _=>?_) hT,hk6,?_,(hblk d (.inr hd)).trans hA,hM.same (hblk mb (.inl hmb))⟩
 ·have hb:b=wr.heap.size:=hb
  subst hb;exact ⟨hsw,hk6n⟩
 ·rw [h7]
  exact set2 hk6 _ _
theorem rel3_unknown {s:List UInt8} {t:T} {m:Nat} {w:World} {τ:Nat→Kd} {tb lb i mb p:Nat} {wr W5 w6 W7 W8:World} {τk τ6:Nat→Kd} {sl:Value} {al:Nat} {a6:Option Addr} {n6 c6:Nat} {E:Int→Option (Option (Nat × Nat))} {e':Option (Nat × Nat)} (hT:Tab w) (htb:w.heap.size+1<tb) (hlb:tb<lb)
  (h:Rel3 (SizeOf.sizeOf t+1) s t m w τ tb lb i wr τk sl al) (q5:Keep (fun _=>False) (wr.alloc (.cells (plC none 0 0) 48)) W5) (ev6:EvN (SizeOf.sizeOf t) s W5 τk w6 τ6) (p6:PlW w6 (fun g=>W5.heap.size≤g∧τ6 g=.no) (rch s (Mat t) (2 ^ p)) a6 n6 c6)
  (h7:W7=put2 w6 wr.heap.size (.int .i64 0) (.slice a6 n6 c6)) (hmb:τk mb=.mp t) (hE:∀ (y:Int) e,E y=some e→∃ p:Nat,y=p∧p≤s.length∧VE τk e (rch s (Mat t) (2 ^ p))) (hp:p≤s.length) (he:MV e'=plV a6 n6 c6)
  (q8:Keep (·=mb) W7.drew W8) (hM:MpW W8 mb (fun y=>if y=(p:Int) then some e' else E y)) :
  ∃ τ8,Mid3 (SizeOf.sizeOf t+1) s w τ m tb lb wr.heap.size (rch s (Mat t) (2 ^ p)) sl al W8 τ8 a6 n6 c6:=by
 have nm:∀ b,τk b=.no→¬ (τk b).mut:=fun b hb hm=>by rw [hb] at hm;exact hm
 have qK:=(Keep.refl (fun _=>False) wr).alloc (.cells (plC none 0 0) 48)
 have aK:=At.new wr (plC none 0 0) 48;have q05:=qK.trans q5;have hkK:=aK.keep q5 (fun h=>h)
 have hkn:τk wr.heap.size=.no:=h.ev.new (Nat.le_refl _);have ev06:EvN (SizeOf.sizeOf t+1) s wr τk w6 τ6:=((EvN.refl h.ev.inv).quiet q05).trans (ev6.mono (Nat.le_succ _));have hk6:=hkK.keep ev6.q (nm _ hkn);have q7:Keep (fun b=>b=wr.heap.size) w6 W7:=by
  rw [h7];exact keep2 (Keep.refl (fun b=>b=wr.heap.size) w6) (b:=wr.heap.size) (fun _=>rfl) _ _
 have hk7:At W7 wr.heap.size 48 (plC a6 n6 c6):=by
  rw [h7];exact set2 hk6 _ _
 have hs5:wr.heap.size<W5.heap.size:=hkK.lt;have hs6:=ev6.q.size;have hsw:=h.ev.q.size;have hlw:=h.lbl;have hk6n:τ6 wr.heap.size=.no:=(ev6.ext _ hs5).trans hkn
 have ev7:=(h.ev.trans ev06).own q7 (fun b hb _=>by
  have hb:b=wr.heap.size:=hb;subst hb
  exact ⟨hsw,hk6n⟩) hT
 have hmlt:=h.ev.inv.lt mb (by rw [hmb];simp)
 have hm6:τ6 mb=.mp t:=(ev06.ext mb hmlt).trans hmb;have p7:PlW W7 (fun g=>W5.heap.size≤g∧τ6 g=.no) (rch s (Mat t) (2 ^ p)) a6 n6 c6:=plw_put p6 hk6 (by decide) q7 (fun _ h=>h)
 obtain ⟨τ8,t1,t2,hI8⟩:=(ev7.inv.keepF ((Keep.refl (fun _=>False) W7).drew)).note hm6 (E:=E) (fun y e hy=>by
  obtain ⟨p1,p2,p3,p4⟩:=hE y e hy
  exact ⟨p1,p2,p3,p4.ext (fun g hg=>(ev06.ext g (h.ev.inv.lt g (by rw [hg];simp))).trans hg)⟩) hp ((p7.keepF ((Keep.refl (fun _=>False) W7).drew)).mono (ok':=fun g=>τ6 g=.no) (fun g hg _=>hg.2)) he q8 hM
 have hnew:∀ g,a6=some ⟨g,0,none⟩→W5.heap.size≤g:=fun g hg=>(plw_block p7 hg).1.1
 have ht8:∀ b,b<W5.heap.size→τ8 b=τ6 b:=fun b hb=>t1 b (fun g hg e=>by have:=hnew g hg;omega)
 have q78:Keep (fun b=>b=mb) W7 W8:=((Keep.refl (fun b=>b=mb) W7).drew).trans q8
 have ht8k:∀ b,b<wr.heap.size→τ8 b=τk b:=fun b hb=>(ht8 b (by omega)).trans (ev6.ext b (by omega))
 have hmne:∀ b,τ6 b=.no→¬ b=mb:=fun b hb e=>by rw [e,hm6] at hb;cases hb
 have h6no:∀ b,b<wr.heap.size→τk b=.no→τ6 b=.no:=fun b hb hn=>(ev6.ext b (by omega)).trans hn
 have hrl:w.heap.size+1<wr.heap.size:=by omega
 have htl:tb<wr.heap.size:=by omega
 have q68:∀ b,b<wr.heap.size→τk b=.no→W8.heap[b]?=wr.heap[b]?:=fun b hb hn=>by
  have e1:=ev06.q.block b hb (nm b hn);have e2:=q7.block b (by omega) (by omega:¬ b=wr.heap.size)
  have e3:=q78.block b (by have:=q7.size;omega) (hmne b (h6no b hb hn))
  exact e3.trans (e2.trans e1)
 have hat:∀ b t' cs,At wr b t' cs→b<wr.heap.size→τk b=.no→At W8 b t' cs:=fun b t' cs ha hb hn=>(q68 b hb hn).trans ha
 refine ⟨τ8,⟨⟨⟨?_,fun b hb=>(ht8k b (by omega)).trans (h.ev.ext b hb),hI8⟩,h.ev.lt0,fun b t' hb ht=>?_⟩,hat _ _ _ h.res hrl h.rn,hat _ _ _ h.to_ htl h.tbn,?_,fun g hg=>?_,fun j x hx=>?_,?_,(ht8k lb hlw).trans h.lbn,(ht8k tb htl).trans h.tbn,(ht8k _ hrl).trans h.rn,?_,?_⟩⟩
 ·refine ev7.q.next q78 (fun k hk hl=>?_)
  have hk:k=mb:=hk;have e:τ k=.mp t:=by rw [← h.ev.ext k hl,hk];exact hmb
  show (τ k).mut
  rw [e];trivial
 ·rw [← ev7.big b t' hb ht]
  refine q78.block b (by have:=ev7.lt0 b (mp_told hb);have:=ev7.q.size;omega) (fun e=>?_)
  have hbl:=ev7.lt0 b (mp_told hb);have e1:τ b=.mp t:=by rw [← h.ev.ext b hbl,show b=mb from e];exact hmb
  rw [e1] at hb
  rcases hb with hb | hb
  ·injection hb with hb
   rw [← hb] at ht;omega
  ·cases hb
 ·have hsl:=h.sl_
  cases hsl with
  | none=>exact .none
  | word g c _ hc hx hg =>
   obtain ⟨cur,c1,c2⟩:=hg;exact .word g c _ hc hx ⟨cur,hat _ _ _ c1 c1.lt (h.own g rfl).2,c2⟩
 ·obtain ⟨o1,o2⟩:=h.own g hg
  exact ⟨o1,(ht8k g (h.sl_.lt g hg)).trans o2⟩
 ·exact (World.cell?_of_block (q68 lb hlw h.lbn)).trans (h.list_ j x hx)
 ·have:=q78.size
  have:=q7.size;omega
 ·exact hk7.keep q78 (hmne _ hk6n)
 ·refine (p7.keep q78 (fun g hg _=>hmne g hg.2)).mono (fun g hg _=>⟨fun hmu=>?_,fun e=>?_⟩)
  ·by_cases hga:a6=some ⟨g,0,none⟩
   ·rw [t2 g hga] at hmu
    exact hmu
   ·have hne:τ8 g=τ6 g:=t1 g (fun g' hg' e=>hga (by rw [hg',e]))
    rw [hne,hg.2] at hmu;exact hmu
  ·have h1:=h.sl_.lt g e
   have h2:=hg.1;omega
theorem rel3_next {N:Nat} {s:List UInt8} {t:T} {m:Nat} {w:World} {τ:Nat→Kd} {tb lb kb i p:Nat} {wx w8:World} {τx:Nat→Kd} {sl sl':Value} {al:Nat} {a3:Option Addr} {n3 c3:Nat} (hT:Tab w) (htb:w.heap.size+1<tb) (hlb:tb<lb) (h:Mid3 N s w τ m tb lb kb (rch s (Mat t) (2 ^ p)) sl al wx τx a3 n3 c3)
  (hal:al=rch s (Mat t) (lowM m i)) (hpi:(plm m)[i]?=some (p:Int)) (hnil:al=0→sl=.slice none 0 0)
  (hAt:At w8 tb 48 ((#[.int .i64 0,sl]:Array Value).setIfInBounds (0+1) sl')) (hsl':SlW w8 sl' (al ||| rch s (Mat t) (2 ^ p))) (hz:al ||| rch s (Mat t) (2 ^ p)=0→sl'=sl) (ho:∀ g,sl'.ownBlock=some g→sl.ownBlock=some g∨wx.heap.size≤g) (q8:Keep (fun k=>k=tb∨sl.ownBlock=some k) wx w8) :
  Rel3 N s t m w τ tb lb (i+1) w8 τx sl' (al ||| rch s (Mat t) (2 ^ p)):=by
 have hlw:=h.lbl;have hsz:=h.ev.q.size;have hS:∀ b,(b=tb∨sl.ownBlock=some b)→w.heap.size≤b∧τx b=.no:=fun b hb=>by
  rcases hb with hb | hb
  ·subst hb
   exact ⟨by omega,h.tbn⟩
  ·have:=h.own b hb
   exact ⟨by omega,this.2⟩
 refine ⟨h.ev.own q8 (fun b hb _=>hS b hb) hT,h.res.keep q8 (fun e=>?_),hAt,hsl',fun e=>?_,fun g hg=>?_,fun j x hx=>(q8.cell (a:=⟨lb,j,none⟩) hlw (fun e=>?_)).trans (h.list_ j x hx),Nat.lt_of_lt_of_le hlw q8.size,h.lbn,h.tbn,h.rn,?_⟩
 ·rcases e with e | e
  ·omega
  ·have:=(h.own _ e).1
   omega
 ·rw [hz e]
  refine hnil (bit_ext fun j=>?_)
  have h3:=congrArg (fun y=>Nat.testBit y j) e
  simp only [Nat.testBit_or,Nat.zero_testBit] at h3
  rw [Nat.zero_testBit]
  cases e':al.testBit j with
  | false=>simp
  | true=>rw [e'] at h3;simp at h3
 ·rcases ho g hg with h1 | h1
  ·exact h.own g h1
  ·exact ⟨by omega,h.ev.new h1⟩
 ·rcases e with e | e
  ·have e:lb=tb:=e
   omega
  ·have:=(h.own _ e).1
   exact Nat.lt_irrefl _ this
 ·rw [lowM_next hpi,rch_or,hal]
theorem asked_any (s:List UInt8) (hsl:s.length≤59) (t u:T) (d0:Nat) (hR:RT d0 t) (hk:t.kind=5) (hs:t.subs=[u]) (ih:EndsC s u) (bl o:Nat) (r:PR) (ok:Nat→Prop) (w:World) (τ:Nat→Kd) (m:Nat) (a:Option Addr) (n c:Nat) (hI:Inv s w τ) (hP:PtA w τ ok t bl o r) (hm:InT s m) (hm0:m≠0) (hp:PlW w (fun g=>¬ (τ g).mut) m a n c) :
  Calls Tryd.prog 35 #[.pointer (some ⟨bl,o,none⟩),.string ⟨s.toArray⟩,plV a n c] w (Fresh s (SizeOf.sizeOf t+1) (rch s (Mat t) m) τ w):=by
 have hT:=hI.tab;have b1:=(At.new w (plC a n c) 48).alloc (.cells plZ 48);have b2:=At.new (w.alloc (.cells (plC a n c) 48)) plZ 48;rw [show (w.alloc (.cells (plC a n c) 48)).heap.size=w.heap.size+1 from by simp] at b2
 have q:=((Keep.refl (fun _=>False) w).alloc (.cells (plC a n c) 48)).alloc (.cells plZ 48)
 have hev:=(EvN.refl (N:=SizeOf.sizeOf t+1) hI).quiet q;have hn0:∀ b,w.heap.size≤b→τ b=.no:=fun b hb=>(Ev.refl hI).new hb
 have hrep:∀ W τ' m' a' n' c',EvN (SizeOf.sizeOf t+1) s w τ W τ'→InT s m'→PlW W (fun g=>¬ (τ' g).mut) m' a' n' c'→Calls Tryd.prog 45 #[.pointer (some ⟨bl,o,none⟩),.string ⟨s.toArray⟩,plV a' n' c'] W (Fresh s (SizeOf.sizeOf t) (rch s (Mat t) m') τ' W):=fun W τ' m' a' n' c' ev hm' hp' =>
  repeated_any s hsl t u d0 hR hk hs ih bl o r ok W τ' m' a' n' c' ev.inv (hP.ev hI.lt ev.toEv) hm' hp'
 have htold:∀ W τ',EvN (SizeOf.sizeOf t+1) s w τ W τ'→∃ d asks sl all m x,r.td=some d∧τ' d=.told t∧At W d 71 (toldC asks sl all m)∧SlW W sl x∧(∀ g,sl.ownBlock=some g→τ' g=.word d)∧τ' m=.mp t∧W.cell? ⟨bl,o+3,none⟩=some (.pointer (some ⟨d,0,none⟩)):=fun W τ' ev =>
  (hP.ev hI.lt ev.toEv).toldAt ev.inv hk
 obtain ⟨Z,hZ⟩:∃ Z,rch s (Mat t) m=Z:=⟨_,rfl⟩;have H0:=hid (And.intro hT (And.intro hI (And.intro hrep (And.intro htold (And.intro hZ (And.intro hm (And.intro hm0 hn0)))))));rw [hZ];have hpA:=hp.keepF q;have HA:=hid (And.intro hev (And.intro b1 (And.intro b2 hpA)));obtain ⟨d,asks,sl,all,mb,x,htd,hd,hA,hsl1,hsw,hmb,hptr⟩:=htold _ _ hev;have hdlt:d<w.heap.size:=hI.lt d (by rw [hd];simp)
 have hA1:=hA.set 0 (.int .i64 (wrap64 (asks+1)));have c0:=hA.cell (o:=0) rfl;have f0:=hA.frozen 0;have qs:=(Keep.refl (fun k=>k=d) ((w.alloc (.cells (plC a n c) 48)).alloc (.cells plZ 48))).setCell (p:=⟨d,0,none⟩) (fun _=>rfl) (.int .i64 (wrap64 (asks+1)))
 have HD:=hid (And.intro hA (And.intro hsl1 (And.intro hsw (And.intro hmb (And.intro hd (And.intro hdlt (And.intro hA1 qs)))))));have hblt:bl<w.heap.size:=hP.lt;have hbn:bl≠d:=by
  intro e;have:=hP.no;rw [e,hd] at this
  cases this
 have hbno:=hP.no;have hmn0:∀ g,¬ (τ g).mut→g≠d∧sl.ownBlock≠some g:=fun g hg=>⟨fun e=>hg (by rw [e,hd];trivial),fun e=>hg (by rw [hsw g e];trivial)⟩
 have HB:=hid (And.intro hblt (And.intro hbn (And.intro hbno (And.intro hmn0 hptr))));clear hT hI hrep htold hZ hm hm0 hn0 hp hpA hev b1 b2 q ih hR hk hs hP hA hsl1 hsw hmb hd hdlt hA1 qs htd hblt hbn hbno hmn0
 go_enter Tryd.func35,Tryd.ntmps35
 go_upto_region 2 with fail;generalize ((w.alloc (.cells (plC a n c) 48)).alloc (.cells plZ 48))=WA at *;clear c0 f0 hptr;have hA1:At (WA.setCell ⟨d,0,none⟩ (.int .i64 (wrap64 (asks+1)))) d 71 (toldC (wrap64 (asks+1)) sl all mb):=HD.out.2.2.2.2.2.2.1;have kq:=HD.out.2.2.2.2.2.2.2;have hsz:w.heap.size+2≤WA.heap.size:=HA.out.2.2.1.lt;have hdlt:=HD.out.2.2.2.2.2.1;have hptr:=(kq.cell (a:=⟨bl,o+3,none⟩) (show bl<WA.heap.size by have:=HB.out.1;omega) HB.out.2.1).trans HB.out.2.2.2.2
 have hF1:=HA.out.2.1.keep kq (by omega)
 have hR1:=HA.out.2.2.1.keep kq (by omega)
 have hp1:=HA.out.2.2.2.keep kq (fun g hg _=>(HB.out.2.2.2.1 g hg).1)
 have hs1:=HD.out.2.1.keep kq (fun g hg e=>by
  have h1:=HD.out.2.2.1 g hg;rw [show g=d from e,HD.out.2.2.2.2.1] at h1
  cases h1)
 generalize (WA.setCell ⟨d,0,none⟩ (.int .i64 (wrap64 (asks+1))))=W1 at *;have HAd:=hid (fun W' (q':Keep (fun _=>False) W1 W')=>add_any d 1 71 (toldC (wrap64 (asks+1)) sl all mb) sl x m _ a n c W' (hA1.keep q' (fun h=>h)) (by decide) rfl rfl (hs1.keep q' (fun _ _ h=>h)) (hp1.keepF q') (fun g hg _=>(HB.out.2.2.2.1 g hg).2))
 generalize wrap64 (asks+1)=asks1 at *;have H1:=hid (And.intro hA1 (And.intro kq (And.intro hF1 (And.intro hR1 (And.intro hp1 (And.intro hptr hsz))))));have g0:W1.cell? ⟨d,0,none⟩=some (.int .i64 asks1):=hA1.cell rfl;have g3:W1.cell? ⟨d,3,none⟩=some (.int .i64 all):=hA1.cell rfl;have gf:=hA1.frozen 3;obtain ⟨⟨d0',d1'⟩,-⟩:=cells2 hF1;clear hA1 kq hF1 hR1 hp1 hs1 hdlt hsz;have hdno:∀ b,τ b=.no→¬ (b=d∨sl.ownBlock=some b):=fun b hb e=>by
  rcases e with e | e
  ·rw [e,HD.out.2.2.2.2.1] at hb
   cases hb
  ·rw [HD.out.2.2.1 b e] at hb
   cases hb
 have HNO:=hid hdno
 have HLT:=hid (show bl<W1.drew.heap.size∧w.heap.size<W1.drew.heap.size from by
  have h1:=HB.out.1;have h2:=H1.out.2.2.2.2.2.2;have h3:WA.heap.size≤W1.drew.heap.size:=H1.out.2.1.size
  omega)
 have HDL:=hid (show w.heap.size≠d by have:=HD.out.2.2.2.2.2.1;omega)
 clear hdno
 go_cut [] (fun wx=>∃ τ1,EvN (SizeOf.sizeOf t+1) s w τ wx τ1∧At wx w.heap.size 48 (plC a n c)∧At wx (w.heap.size+1) 48 plZ∧PlW wx (fun g=>¬ (τ1 g).mut) m a n c∧τ1 w.heap.size=.no∧τ1 (w.heap.size+1)=.no)
 case first =>
  refine wp_region_noPanic ?_;refine wp_region_held_drew (S:=(fun W'=>W'.cell? ⟨bl,o+3,none⟩=some (.pointer (some ⟨d,0,none⟩))∧W'.cell? ⟨w.heap.size,0,none⟩=some (.int .i64 0)∧W'.cell? ⟨w.heap.size,1,none⟩=some (.slice a n c))) (by kernel_rfl) ?_ (fun hHeld=>?_)
  ·exact ⟨hptr,d0',d1'⟩
  refine wpAnyH_take (i:=0) (oi:=⟨_,_,_,_,_,_⟩) (v:=?_) rfl (by kernel_rfl) (by kernel_rfl) (by kernel_rfl) (fun _ _ _ h=>h) (Or.inl ⟨by rfl,?_⟩) (by assumption) ?_
  rotate_left 1
  ·(intro w hSw;(try dsimp only at hSw);go_simp;first | done | with_reducible rfl)
  try simp only [Act.put,List.setIfInBounds_toArray,List.set_cons_zero,List.set_cons_succ]
  refine wpAnyH_take (i:=1) (oi:=⟨_,_,_,_,_,_⟩) (v:=?_) rfl (by kernel_rfl) (by kernel_rfl) (by kernel_rfl) (fun _ _ _ h=>h) (Or.inl ⟨by rfl,?_⟩) (by assumption) ?_
  rotate_left 1
  ·(intro w hSw;(try dsimp only at hSw);go_simp;first | done | with_reducible rfl)
  try simp only [Act.put,List.setIfInBounds_toArray,List.set_cons_zero,List.set_cons_succ]
  refine wpAnyH_take (i:=2) (oi:=⟨_,_,_,_,_,_⟩) (v:=?_) rfl (by kernel_rfl) (by kernel_rfl) (by kernel_rfl) (fun _ _ _ h=>h) (Or.inl ⟨by rfl,?_⟩) (by assumption) ?_
  rotate_left 1
  ·(intro w hSw;(try dsimp only at hSw);go_simp;first | done | with_reducible rfl)
  try simp only [Act.put,List.setIfInBounds_toArray,List.set_cons_zero,List.set_cons_succ]
  refine wpAnyH_take (i:=3) (oi:=⟨_,_,_,_,_,_⟩) (v:=?_) rfl (by kernel_rfl) (by kernel_rfl) (by kernel_rfl) (fun _ _ _ h=>h) (Or.inl ⟨by rfl,?_⟩) (by assumption) ?_
  rotate_left 1
  ·(intro w hSw;(try dsimp only at hSw);go_simp;first | done | with_reducible rfl)
  try simp only [Act.put,List.setIfInBounds_toArray,List.set_cons_zero,List.set_cons_succ]
  refine wpAnyH_take (i:=4) (oi:=⟨_,_,_,_,_,_⟩) (v:=?_) rfl (by kernel_rfl) (by kernel_rfl) (by kernel_rfl) (fun _ _ _ h=>h) (Or.inl ⟨by rfl,?_⟩) (by assumption) ?_
  rotate_left 1
  ·(intro w hSw;(try dsimp only at hSw);go_simp;first | done | with_reducible rfl)
  try simp only [Act.put,List.setIfInBounds_toArray,List.set_cons_zero,List.set_cons_succ]
  refine wpAnyH_take (i:=5) (oi:=⟨_,_,_,_,_,_⟩) (v:=?_) rfl (by kernel_rfl) (by kernel_rfl) (by kernel_rfl) (fun _ _ _ h=>h) (Or.inl ⟨by rfl,?_⟩) (by assumption) ?_
  rotate_left 1
  ·(intro w hSw;(try dsimp only at hSw);go_simp;first | done | with_reducible rfl)
  try simp only [Act.put,List.setIfInBounds_toArray,List.set_cons_zero,List.set_cons_succ]
  refine wpAnyH_take (i:=7) (oi:=⟨_,_,_,_,_,_⟩) (v:=?_) rfl (by kernel_rfl) (by kernel_rfl) (by kernel_rfl) (fun _ _ _ h=>h) (Or.inl ⟨by rfl,?_⟩) (by assumption) ?_
  rotate_left 1
  ·(intro w hSw;(try dsimp only at hSw);go_simp;first | done | with_reducible rfl)
  try simp only [Act.put,List.setIfInBounds_toArray,List.set_cons_zero,List.set_cons_succ]
  refine wpAnyH_take (i:=8) (oi:=⟨_,_,_,_,_,_⟩) (v:=?_) rfl (by kernel_rfl) (by kernel_rfl) (by kernel_rfl) (fun _ _ _ h=>h) (Or.inl ⟨by rfl,?_⟩) (by assumption) ?_
  rotate_left 1
  ·(intro w hSw;(try dsimp only at hSw);go_simp;first | done | with_reducible rfl)
  try simp only [Act.put,List.setIfInBounds_toArray,List.set_cons_zero,List.set_cons_succ]
  refine wpAnyH_take (i:=9) (oi:=⟨_,_,_,_,_,_⟩) (v:=?_) rfl (by kernel_rfl) (by kernel_rfl) (by kernel_rfl) (fun _ _ _ h=>h) (Or.inl ⟨by rfl,?_⟩) (by assumption) ?_
  rotate_left 1
  ·(intro w hSw;(try dsimp only at hSw);go_simp;first | done | with_reducible rfl)
  try simp only [Act.put,List.setIfInBounds_toArray,List.set_cons_zero,List.set_cons_succ]
  refine wpAnyH_take (i:=10) (oi:=⟨_,_,_,_,_,_⟩) (v:=?_) rfl (by kernel_rfl) (by kernel_rfl) (by kernel_rfl) (fun _ _ _ h=>h) (Or.inl ⟨by rfl,?_⟩) (by assumption) ?_
  rotate_left 1
  ·(intro w hSw;(try dsimp only at hSw);go_simp;first | done | with_reducible rfl)
  try simp only [Act.put,List.setIfInBounds_toArray,List.set_cons_zero,List.set_cons_succ]
  refine wpAnyH_take (i:=11) (oi:=⟨_,_,_,_,_,_⟩) (v:=?_) rfl (by kernel_rfl) (by kernel_rfl) (by kernel_rfl) (fun _ _ _ h=>h) (Or.inl ⟨by rfl,?_⟩) (by assumption) ?_
  rotate_left 1
  ·(intro w hSw;(try dsimp only at hSw);go_simp;first | done | with_reducible rfl)
  try simp only [Act.put,List.setIfInBounds_toArray,List.set_cons_zero,List.set_cons_succ]
  refine wpAnyH_take (i:=12) (oi:=⟨_,_,_,_,_,_⟩) (v:=?_) rfl (by kernel_rfl) (by kernel_rfl) (by kernel_rfl) (fun _ _ _ h=>h) (Or.inl ⟨by rfl,?_⟩) (by assumption) ?_
  rotate_left 1
  ·(intro w hSw;(try dsimp only at hSw);go_simp;first | done | with_reducible rfl)
  try simp only [Act.put,List.setIfInBounds_toArray,List.set_cons_zero,List.set_cons_succ]
  refine wpAnyH_take (i:=13) (oi:=⟨_,_,_,_,_,_⟩) (v:=?_) rfl (by kernel_rfl) (by kernel_rfl) (by kernel_rfl) (fun _ _ _ h=>h) (Or.inl ⟨by rfl,?_⟩) (by assumption) ?_
  rotate_left 1
  ·(intro w hSw;(try dsimp only at hSw);go_simp;first | done | with_reducible rfl)
  try simp only [Act.put,List.setIfInBounds_toArray,List.set_cons_zero,List.set_cons_succ]
  refine wpAnyH_ready (rs:=[6,14]) (by kernel_rfl) (by simp) ?_
  refine (AllReadyH.cons (o:=⟨_,_,_,_,_,_⟩) rfl (fun K hK=>?_) (AllReadyH.cons (o:=⟨_,_,_,_,_,_⟩) rfl (fun K hK=>?_) AllReadyH.nil))
  go_simp;refine hK.out _ _ ?_ (fun hHeld'=>?_)
  ·exact hHeld
  clear hK K hHeld;have hHeld:=hHeld';clear hHeld'
  try simp only [Act.put,List.setIfInBounds_toArray,List.set_cons_zero,List.set_cons_succ]
  refine wpAnyH_ready (rs:=[14]) (by kernel_rfl) (by simp) ?_
  refine (AllReadyH.cons (o:=⟨_,_,_,_,_,_⟩) rfl (fun K hK=>?_) AllReadyH.nil)
  go_simp
  (go_at_call 34;refine (HAd.out _ ((Keep.refl _ _).drew)).mono ?_;rintro e w5 ⟨kk,sl',rfl,hAt,hs',hz',ho',q5⟩;have hAt:At w5 d 71 (toldC asks1 sl' all mb):=hAt;have x3:w5.cell? ⟨d,3,none⟩=some (.int .i64 all):=hAt.cell rfl;have xf:=hAt.frozen 3;have H5:=hid (And.intro hAt (And.intro hs' (And.intro ho' q5)));clear hAt hs' hz' ho' q5)
  refine hK.out _ _ ?_ (fun hHeld'=>?_)
  ·exact ⟨(H5.out.2.2.2.cell (a:=⟨bl,o+3,none⟩) HLT.out.1 (HNO.out _ HB.out.2.2.1)).trans hptr,(H5.out.2.2.2.cell (a:=⟨w.heap.size,0,none⟩) HLT.out.2 (HNO.out _ (H0.out.2.2.2.2.2.2.2 _ (Nat.le_refl _)))).trans d0',(H5.out.2.2.2.cell (a:=⟨w.heap.size,1,none⟩) HLT.out.2 (HNO.out _ (H0.out.2.2.2.2.2.2.2 _ (Nat.le_refl _)))).trans d1'⟩
  clear hK K hHeld;have hHeld:=hHeld';clear hHeld'
  try simp only [Act.put,List.setIfInBounds_toArray,List.set_cons_zero,List.set_cons_succ]
  refine wpAnyH_take (i:=15) (oi:=⟨_,_,_,_,_,_⟩) (v:=?_) rfl (by kernel_rfl) (by kernel_rfl) (by kernel_rfl) (fun _ _ _ h=>h) (Or.inl ⟨by rfl,?_⟩) (by assumption) ?_
  rotate_left 1
  ·(intro w hSw;(try dsimp only at hSw);go_simp;first | done | with_reducible rfl)
  try simp only [Act.put,List.setIfInBounds_toArray,List.set_cons_zero,List.set_cons_succ]
  refine wpAnyH_take (i:=16) (oi:=⟨_,_,_,_,_,_⟩) (v:=?_) rfl (by kernel_rfl) (by kernel_rfl) (by kernel_rfl) (fun _ _ _ h=>h) (Or.inl ⟨by rfl,?_⟩) (by assumption) ?_
  rotate_left 1
  ·(intro w hSw;(try dsimp only at hSw);go_simp;first | done | with_reducible rfl)
  try simp only [Act.put,List.setIfInBounds_toArray,List.set_cons_zero,List.set_cons_succ]
  refine wpAnyH_take (i:=17) (oi:=⟨_,_,_,_,_,_⟩) (v:=?_) rfl (by kernel_rfl) (by kernel_rfl) (by kernel_rfl) (fun _ _ _ h=>h) (Or.inl ⟨by rfl,?_⟩) (by assumption) ?_
  rotate_left 1
  ·(intro w hSw;(try dsimp only at hSw);go_simp;first | done | with_reducible rfl)
  try simp only [Act.put,List.setIfInBounds_toArray,List.set_cons_zero,List.set_cons_succ]
  refine wpAnyH_ready (rs:=[18]) (by kernel_rfl) (by simp) ?_
  refine (AllReadyH.cons (o:=⟨_,_,_,_,_,_⟩) rfl (fun K hK=>?_) AllReadyH.nil)
  go_simp;refine hK.out _ _ ?_ (fun hHeld'=>?_)
  ·exact ⟨(World.cell?_of_block (Below.heap_setCell w5 ⟨d,3,none⟩ _ bl HB.out.2.1)).trans hHeld.1,(World.cell?_of_block (Below.heap_setCell w5 ⟨d,3,none⟩ _ w.heap.size HDL.out)).trans hHeld.2.1,(World.cell?_of_block (Below.heap_setCell w5 ⟨d,3,none⟩ _ w.heap.size HDL.out)).trans hHeld.2.2⟩
  clear hK K hHeld;have hHeld:=hHeld';clear hHeld'
  try simp only [Act.put,List.setIfInBounds_toArray,List.set_cons_zero,List.set_cons_succ]
  refine wpAnyH_done (by kernel_rfl) ?_ _
  refine NoPanic.normal ?_;rotate_left 1;go_simp
  (go_at_call 34;refine (HAd.out _ ((Keep.refl _ _).drew)).mono ?_;rintro e w5 ⟨kk,sl',rfl,hAt,hs',hz',ho',q5⟩;have hAt:At w5 d 71 (toldC asks1 sl' all mb):=hAt;have x3:w5.cell? ⟨d,3,none⟩=some (.int .i64 all):=hAt.cell rfl;have xf:=hAt.frozen 3;have H5:=hid (And.intro hAt (And.intro hs' (And.intro ho' q5)));clear hAt hs' hz' ho' q5)
  refine hK.out _ _ ?_ (fun hHeld'=>?_)
  ·exact ⟨(H5.out.2.2.2.cell (a:=⟨bl,o+3,none⟩) HLT.out.1 (HNO.out _ HB.out.2.2.1)).trans hptr,(H5.out.2.2.2.cell (a:=⟨w.heap.size,0,none⟩) HLT.out.2 (HNO.out _ (H0.out.2.2.2.2.2.2.2 _ (Nat.le_refl _)))).trans d0',(H5.out.2.2.2.cell (a:=⟨w.heap.size,1,none⟩) HLT.out.2 (HNO.out _ (H0.out.2.2.2.2.2.2.2 _ (Nat.le_refl _)))).trans d1'⟩
  clear hK K hHeld;have hHeld:=hHeld';clear hHeld'
  try simp only [Act.put,List.setIfInBounds_toArray,List.set_cons_zero,List.set_cons_succ]
  refine wpAnyH_ready (rs:=[6]) (by kernel_rfl) (by simp) ?_
  refine (AllReadyH.cons (o:=⟨_,_,_,_,_,_⟩) rfl (fun K hK=>?_) AllReadyH.nil)
  go_simp;refine hK.out _ _ ?_ (fun hHeld'=>?_)
  ·exact hHeld
  clear hK K hHeld;have hHeld:=hHeld';clear hHeld'
  try simp only [Act.put,List.setIfInBounds_toArray,List.set_cons_zero,List.set_cons_succ]
  refine wpAnyH_take (i:=15) (oi:=⟨_,_,_,_,_,_⟩) (v:=?_) rfl (by kernel_rfl) (by kernel_rfl) (by kernel_rfl) (fun _ _ _ h=>h) (Or.inl ⟨by rfl,?_⟩) (by assumption) ?_
  rotate_left 1
  ·(intro w hSw;(try dsimp only at hSw);go_simp;first | done | with_reducible rfl)
  try simp only [Act.put,List.setIfInBounds_toArray,List.set_cons_zero,List.set_cons_succ]
  refine wpAnyH_take (i:=16) (oi:=⟨_,_,_,_,_,_⟩) (v:=?_) rfl (by kernel_rfl) (by kernel_rfl) (by kernel_rfl) (fun _ _ _ h=>h) (Or.inl ⟨by rfl,?_⟩) (by assumption) ?_
  rotate_left 1
  ·(intro w hSw;(try dsimp only at hSw);go_simp;first | done | with_reducible rfl)
  try simp only [Act.put,List.setIfInBounds_toArray,List.set_cons_zero,List.set_cons_succ]
  refine wpAnyH_take (i:=17) (oi:=⟨_,_,_,_,_,_⟩) (v:=?_) rfl (by kernel_rfl) (by kernel_rfl) (by kernel_rfl) (fun _ _ _ h=>h) (Or.inl ⟨by rfl,?_⟩) (by assumption) ?_
  rotate_left 1
  ·(intro w hSw;(try dsimp only at hSw);go_simp;first | done | with_reducible rfl)
  try simp only [Act.put,List.setIfInBounds_toArray,List.set_cons_zero,List.set_cons_succ]
  refine wpAnyH_ready (rs:=[18]) (by kernel_rfl) (by simp) ?_
  refine (AllReadyH.cons (o:=⟨_,_,_,_,_,_⟩) rfl (fun K hK=>?_) AllReadyH.nil)
  go_simp;refine hK.out _ _ ?_ (fun hHeld'=>?_)
  ·exact ⟨(World.cell?_of_block (Below.heap_setCell w5 ⟨d,3,none⟩ _ bl HB.out.2.1)).trans hHeld.1,(World.cell?_of_block (Below.heap_setCell w5 ⟨d,3,none⟩ _ w.heap.size HDL.out)).trans hHeld.2.1,(World.cell?_of_block (Below.heap_setCell w5 ⟨d,3,none⟩ _ w.heap.size HDL.out)).trans hHeld.2.2⟩
  clear hK K hHeld;have hHeld:=hHeld';clear hHeld'
  try simp only [Act.put,List.setIfInBounds_toArray,List.set_cons_zero,List.set_cons_succ]
  refine wpAnyH_done (by kernel_rfl) ?_ _
  refine NoPanic.normal ?_;rotate_left 1
  all_goals
   have hA3:At (w5.setCell ⟨d,3,none⟩ (.int .i64 (IntKind.i64.wrap (all+kk)))) d 71 (toldC asks1 sl' (IntKind.i64.wrap (all+kk)) mb):=H5.out.1.set 3 _;have q3:=(Keep.refl (fun k=>k=d) w5).setCell (p:=⟨d,3,none⟩) (fun _=>rfl) (.int .i64 (IntKind.i64.wrap (all+kk)))
   have q13:Keep (fun k=>k=d∨sl.ownBlock=some k) W1 (w5.setCell ⟨d,3,none⟩ (.int .i64 (IntKind.i64.wrap (all+kk)))):=(((Keep.refl _ W1).drew).trans H5.out.2.2.2).trans (q3.mono (fun _ h=>.inl h))
   have qA3:=(H1.out.2.1.mono (T:=fun k=>k=d∨sl.ownBlock=some k) (fun _ h=>.inl h)).trans q13
   have hs3:SlW (w5.setCell ⟨d,3,none⟩ (.int .i64 (IntKind.i64.wrap (all+kk)))) sl' (x ||| m):=slw_put H5.out.2.1 H5.out.1 (by decide) q3 (fun _ h=>h)
   have hszA:w.heap.size+2≤WA.heap.size:=H1.out.2.2.2.2.2.2
   obtain ⟨τ1,ev1⟩:=EvN.turn (N:=SizeOf.sizeOf t+1) HA.out.1.inv (Nat.lt_succ_self _) HD.out.2.2.2.2.1 HD.out.1 HD.out.2.2.1 HD.out.2.2.2.1 hA3 hs3 (fun g hg=>by
    rcases H5.out.2.2.1 g hg with h | h
    ·exact .inl h
    ·right
     have h1:=H1.out.2.1.size;have h:W1.heap.size≤g:=h
     omega) qA3
   have hn1:=(ev1.ext w.heap.size (by omega)).trans (H0.out.2.2.2.2.2.2.2 _ (Nat.le_refl _))
   have hn2:=(ev1.ext (w.heap.size+1) (by omega)).trans (H0.out.2.2.2.2.2.2.2 (w.heap.size+1) (by omega))
   have hF3:=H1.out.2.2.1.keep q13 (HNO.out _ (H0.out.2.2.2.2.2.2.2 _ (Nat.le_refl _)));have hR3:=H1.out.2.2.2.1.keep q13 (HNO.out _ (H0.out.2.2.2.2.2.2.2 (w.heap.size+1) (by omega)))
   have hp4:PlW (w5.setCell ⟨d,3,none⟩ (.int .i64 (IntKind.i64.wrap (all+kk)))) (fun g=>¬ (τ1 g).mut) m a n c:=((HA.out.2.2.2.mono (ok':=fun g=>¬ (τ g).mut∧¬ (τ1 g).mut) (fun g hg hl=>⟨hg,by rw [ev1.ext g hl];exact hg⟩)).keep qA3 (fun g hg _ e=>by
    have:=HB.out.2.2.2.1 g hg.1
    rcases e with e | e
    ·exact this.1 e
    ·exact this.2 e)).mono (fun g hg _=>hg.2)
   have HF:=hid (And.intro (HA.out.1.trans ev1) (And.intro hF3 (And.intro hR3 (And.intro hp4 (And.intro hn1 hn2)))));clear hA3 q3 q13 qA3 hs3 ev1 hn1 hn2 hF3 hR3 hp4 hHeld;go_wp2_with fail
   go_meet
   case rel=>exact ⟨τ1,HF.out⟩
 case rest =>
  obtain ⟨τ1,hev,hF,hRz,hpl,hn1,hn2⟩:=hcut;clear HAd H1 HB HD HNO HLT HDL HA hptr g0 g3 gf d0' d1' d asks sl all mb x WA W1 asks1;obtain ⟨d,asks,sl,all,mb,x,-,hd,hA,-,-,-,hptr⟩:=H0.out.2.2.2.1 wc τ1 hev;have g0:wc.cell? ⟨d,0,none⟩=some (.int .i64 asks):=hA.cell rfl;have g3:wc.cell? ⟨d,3,none⟩=some (.int .i64 all):=hA.cell rfl;have hnm:∀ b,τ1 b=.no→¬ (τ1 b).mut:=fun b hb hm=>by rw [hb] at hm;exact hm
  have hszc:w.heap.size+1<wc.heap.size:=hRz.lt;have HC:=hid (And.intro hev (And.intro hF (And.intro hRz (And.intro hpl (And.intro hn1 (And.intro hn2 (And.intro hnm hszc)))))));have HREP:=hid (fun W' (q':Keep (fun _=>False) wc W')=>H0.out.2.2.1 W' τ1 m a n c (hev.quiet q') H0.out.2.2.2.2.2.1 (hpl.keepF q'))
  obtain ⟨⟨e0,e1⟩,-⟩:=cells2 hF;clear hev hF hRz hpl hn1 hn2 hA hd hnm hszc
  by_cases hab:asks≤all
  ·go_wp2_with fail
   go_quiet (fail)
   go_wp2_with fail;refine (HREP.out _ ((Keep.refl _ wc).drewN _)).mono ?_;rintro e w5 ⟨a5,n5,c5,τ5,rfl,ev5,p5⟩;have ev15:EvN (SizeOf.sizeOf t+1) s wc τ1 w5 τ5:=((EvN.refl HC.out.1.inv).quiet ((Keep.refl (fun _=>False) wc).drewN _)).trans (ev5.mono (Nat.le_succ _))
   have hR5:=HC.out.2.2.1.keep ev15.q (HC.out.2.2.2.2.2.2.1 _ HC.out.2.2.2.2.2.1);have hp5:PlW w5 (fun g=>w.heap.size≤g∧τ5 g=.no) _ a5 n5 c5:=p5.mono (fun g hg _=>⟨Nat.le_trans (Nat.le_trans (Nat.le_of_lt (Nat.lt_of_succ_lt HC.out.2.2.2.2.2.2.2)) (show wc.heap.size≤g from hg.1)) (Nat.le_refl _),hg.2⟩)
   have hn5:τ5 (w.heap.size+1)=.no:=(ev15.ext _ HC.out.2.2.2.2.2.2.2).trans HC.out.2.2.2.2.2.1;rw [H0.out.2.2.2.2.1] at hp5;have H5:=hid (And.intro (HC.out.1.trans ev15) (And.intro hR5 (And.intro hp5 hn5)));obtain ⟨⟨r0,r1⟩,rf0,rf1⟩:=cells2 hR5;clear ev5 p5 ev15 hR5 hp5 hn5 g0 g3 hptr e0 e1;go_wp2_with fail
   change bodyPost _ _ _ _ _ (put2 w5 (w.heap.size+1) (.int .i64 0) (.slice a5 n5 c5))
   obtain ⟨hX,hY,hZ⟩:=res_end H0.out.1 H5.out.1 H5.out.2.1 H5.out.2.2.1 H5.out.2.2.2;generalize put2 w5 (w.heap.size+1) (.int .i64 0) (.slice a5 n5 c5)=W9 at *;obtain ⟨⟨e0,e1⟩,-⟩:=cells2 hX;exact bodyPost_ret (v:=plV a5 n5 c5) (by simp [results,Tryd.results35,go_sem,e0,e1]) rfl ⟨_,_,_,τ5,rfl,hY,hZ⟩
  ·have hab':all<asks:=by omega
   go_wp2_with fail
   go_quiet (fail)
   go_upto_region 6 with fail;have qT:=((Keep.refl (fun _=>False) wc).drewN nq).alloc (.cells plZ 48)
   have aT:=At.new (wc.drewN nq) plZ 48;have hn3:=HC.out.1.new (b:=wc.heap.size) (Nat.le_refl _);have HT:=hid (And.intro (HC.out.1.quiet qT) (And.intro (HC.out.2.1.keep qT (fun h=>h)) (And.intro (HC.out.2.2.1.keep qT (fun h=>h)) (And.intro (HC.out.2.2.2.1.keepF qT) (And.intro aT (And.intro hn3 (And.intro HC.out.2.2.2.2.2.1 HC.out.2.2.2.2.2.2.2)))))))
   clear qT aT hn3 g0 g3 hptr e0 e1 hab hab';generalize ((wc.drewN nq).alloc (.cells plZ 48))=W2 at *;have HL:=hid (plist_any m _ a n c W2 HT.out.2.2.2.1 HT.out.1.inv.tab);obtain ⟨⟨e0,e1⟩,-⟩:=cells2 HT.out.2.1;go_wp2_with fail;refine HL.out.mono ?_;rintro e w3 ⟨lv,rfl,hil,hlo,q3⟩;have hml:=HC.out.2.2.2.1.lt;have hpos:=plm_pos H0.out.2.2.2.2.2.2.1 hml;have hlen:(plm m).length≤61:=lst_length _ _;obtain ⟨la,lcap,rfl,hlf⟩:=hil.form;obtain ⟨lb,hlb,rfl,-⟩:=hlf 0 _ (List.getElem?_eq_getElem hpos);have hlbW:=hlo lb hlb;have hlc:∀ (j:Nat) (x:Int),(plm m)[j]?=some x→w3.cell? ⟨lb,j,none⟩=some (.int .i64 x):=fun j x hx=>by
    obtain ⟨g,g1,g2,g3⟩:=hlf j x hx
    cases g2
    exact g3
   have hlb3:lb<w3.heap.size:=World.block_lt_of_cell? w3 _ (hlc 0 _ (List.getElem?_eq_getElem hpos));have htW:wc.heap.size<W2.heap.size:=HT.out.2.2.2.2.1.lt;have hr3:Rel3 (SizeOf.sizeOf t+1) s t m w τ wc.heap.size lb 0 w3 τ1 (.slice none 0 0) 0 :=
    ⟨HT.out.1.quiet q3,HT.out.2.2.1.keep q3 (fun h=>h),HT.out.2.2.2.2.1.keep q3 (fun h=>h),.none,fun _=>rfl,fun g hg=>(by cases hg),hlc,hlb3,HT.out.1.new hlbW,HT.out.2.2.2.2.2.1,HT.out.2.2.2.2.2.2.1,by rw [lowM_zero,rch_zero]⟩
   have hlast:rch s (Mat t) (lowM m (plm m).length)=Z:=by rw [lowM_all hml];exact H0.out.2.2.2.2.1
   obtain ⟨tb,htb⟩:∃ tb,wc.heap.size=tb:=⟨_,rfl⟩;rw [htb] at hr3 htW ⊢;have HS:=hid (And.intro hr3 (And.intro hlast (And.intro (show w.heap.size+1<tb by have:=HC.out.2.2.2.2.2.2.2;omega) (show tb<lb by omega))))
   obtain ⟨ln,hln⟩:∃ ln,(plm m).length=ln:=⟨_,rfl⟩;rw [hln] at HS hlen ⊢;clear hil hlo q3 hlf hlb hlbW hlc hlb3 htW hr3 hlast htb e0 e1 HL HT HC HREP hpos W2 hml;go_wp2_with fail
   go_loopg [62] ln (fun gg v wr=>∃ i τk sl al,v=.int .i64 ((i:Nat):Int)∧i+gg=ln∧Rel3 (SizeOf.sizeOf t+1) s t m w τ tb lb i wr τk sl al)
   case atStart=>exact ⟨0,τ1,_,_,rfl,by omega,HS.out.1⟩
   case round =>
    obtain ⟨i,τk,sl,al,rfl,hig,hrl⟩:=hrel
    by_cases hlt:i<ln
    ·have hlt':(i:Int)<ln:=by omega
     have i0:(0:Int)≤i:=by omega
     obtain ⟨xx,hxx⟩:∃ xx,(plm m)[i]?=some xx:=⟨_,List.getElem?_eq_getElem (by rw [hln];exact hlt)⟩
     obtain ⟨p,rfl,hp61,hmp⟩:=plm_get hxx;have hps:=H0.out.2.2.2.2.2.1 p hmp;have hcell:=hrl.list_ i _ hxx;obtain ⟨d,asks,sl0,all,mb,x0,htd,hd,hA,hsl0,hsw0,hmb,hptr⟩:=H0.out.2.2.2.1 wr τk hrl.ev;obtain ⟨E,hMp,hE⟩:=hrl.ev.inv.mp mb t hmb;have hlk:=hMp.look (x:=(p:Int)) (by omega) (by omega)
     have g4:wr.cell? ⟨d,4,none⟩=some (.map (some mb)):=hA.cell rfl;have HE:=hid (And.intro hrl (And.intro htd (And.intro hd (And.intro hA (And.intro hmb (And.intro hMp (And.intro hE (And.intro hxx (And.intro hps hig)))))))));clear hrl htd hd hA hmb hMp hE hsl0 hsw0 hxx;obtain ⟨A,N,C,B,hlook,hknown,hfresh⟩:∃ A N C B,(Instr.lookup 69 (.map (some mb)) (.int .i64 (p:Int)) true).run Tryd.prog wr=.ok (.tuple #[plV A N C,.bool B]) wr∧(B=true→PlW wr (fun g=>τk g=.val (rch s (Mat t) (2 ^ p))) (rch s (Mat t) (2 ^ p)) A N C)∧(B=false→E (p:Int)=none∧A=none∧N=0∧C=0):=by
      rcases hEp:E (p:Int) with _ | e
      ·rw [hEp] at hlk
       exact ⟨none,0,0,false,hlk,fun h=>(by cases h),fun _=>⟨rfl,rfl,rfl,rfl⟩⟩
      ·rw [hEp] at hlk
       obtain ⟨p',hp',-,hve⟩:=HE.out.2.2.2.2.2.2.1 _ _ hEp;have hpp:p'=p:=by omega
       subst hpp;obtain ⟨a3,n3,c3,hmv,hpl3⟩:=ve_plw HE.out.1.ev.inv hve;refine ⟨a3,n3,c3,true,?_,fun _=>hpl3,fun h=>(by cases h)⟩
       rw [← hmv];exact hlk
     have HKF:=hid (And.intro hknown hfresh);clear hknown hfresh hlk;go_upto_region 10 with fail;clear hcell g4 hptr hlook;generalize hKW:(wr.alloc (.cells (plC A N C) 48))=K at *;have HKW:=hid hKW;clear hKW
     go_upto_if 79 with fail
     go_cut [] (fun wx=>∃ τx a3 n3 c3,Mid3 (SizeOf.sizeOf t+1) s w τ m tb lb wr.heap.size (rch s (Mat t) (2 ^ p)) sl al wx τx a3 n3 c3)
     case first =>
      cases B with
      | true =>
       have hkn:=HKF.out.1 rfl;have HKN:=hid hkn;clear hkn HKF;go_wp2_with fail
       go_meet
       case rel=>exact ⟨τk,A,N,C,by rw [← HKW.out];exact rel3_known HE.out.1 HKN.out⟩
      | false =>
       obtain ⟨hEp,rfl,rfl,rfl⟩:=HKF.out.2 rfl;have HEp:=hid hEp;have hqK:Keep (fun _=>False) wr K:=by rw [← HKW.out];exact (Keep.refl _ _).alloc _
       have HQK:=hid hqK;have HPA:=hid (placeAt_any p (by have:=HE.out.2.2.2.2.2.2.2.2.1;omega) K)
       clear hEp HKF hqK;go_wp2_with fail;refine HPA.out.mono ?_;rintro e W5 ⟨ap,np,cp,rfl,hpp,q5⟩
       have HRP:=hid (H0.out.2.2.1 W5 τk (2 ^ p) ap np cp (HE.out.1.ev.quiet (HQK.out.trans q5)) (inT_pow HE.out.2.2.2.2.2.2.2.2.1) (hpp.mono (fun g hg _=>by
        have h1:=HQK.out.size;have hg:K.heap.size≤g:=hg;rw [HE.out.1.ev.new (b:=g) (by omega)]
        exact fun h=>h)))
       have Q5:=hid q5;clear hpp q5 HPA;go_wp2_with fail;refine HRP.out.mono ?_;rintro e w6 ⟨a6,n6,c6,τ6,rfl,ev6,p6⟩;obtain ⟨W7,hW7⟩:∃ W7,W7=put2 w6 wr.heap.size (.int .i64 0) (.slice a6 n6 c6):=⟨_,rfl⟩;have q5':Keep (fun _=>False) (wr.alloc (.cells (plC none 0 0) 48)) W5:=by rw [HKW.out];exact Q5.out
       obtain ⟨ev7,hk6,hk7,hA7,hM7⟩:=rel3_w7 H0.out.1 HE.out.1 q5' ev6 p6 hW7 HE.out.2.2.2.2.1 HE.out.2.2.1 HE.out.2.2.2.1 HE.out.2.2.2.2.2.1;obtain ⟨d',_,_,_,_,_,htd',-,-,-,-,-,hptr'⟩:=H0.out.2.2.2.1 W7 τ6 ev7;obtain rfl:d=d':=Option.some.inj (HE.out.2.1.symm.trans htd');obtain ⟨e',he'⟩:=plw_mv p6;obtain ⟨W8,hput,hM8,q8⟩:=MpW.put (w:=W7.drew) hM7 (p:=p) (by have:=HE.out.2.2.2.2.2.2.2.2.1;omega) HEp.out e'
       rw [he'] at hput;have hrel8:=rel3_unknown H0.out.1 HS.out.2.2.1 HS.out.2.2.2 HE.out.1 q5' ev6 p6 hW7 HE.out.2.2.2.2.1 HE.out.2.2.2.2.2.2.1 HE.out.2.2.2.2.2.2.2.2.1 he' q8 hM8;have HX:=hid (And.intro hrel8 hW7);obtain ⟨⟨y0,y1⟩,yf0,yf1⟩:=cells2 hk6;have HK7:=hid hk7;have g4':W7.cell? ⟨d,4,none⟩=some (.map (some mb)):=hA7.cell rfl;clear ev7 hk6 hk7 hA7 hM7 he' hM8 q8 hrel8 hW7 ev6 p6 q5' htd' HRP;go_upto_region 12 with fail
       change Code.wp _ _ _ _ (put2 w6 wr.heap.size (.int .i64 0) (.slice a6 n6 c6))
       rw [← HX.out.2];clear y0 y1 yf0 yf1;obtain ⟨⟨y0,y1⟩,-⟩:=cells2 HK7.out
       go_region
       all_goals
        go_wp2_with fail
        go_meet
        case rel =>
         obtain ⟨τ8,h8⟩:=HX.out.1;exact ⟨τ8,a6,n6,c6,h8⟩
     case rest =>
      obtain ⟨τx,a3,n3,c3,hmid⟩:=hcut;have HM:=hid hmid;have HAd:=hid (add_any tb 0 48 #[.int .i64 0,sl] sl al _ _ a3 n3 c3 wc hmid.to_ (by decide) rfl rfl hmid.sl_ hmid.pl (fun g hg _=>hg.2))
      obtain ⟨⟨y0,y1⟩,-⟩:=cells2 hmid.kn;clear hmid HKW HKF;go_wp2_with fail;refine HAd.out.mono ?_;rintro e w8 ⟨kk,sl',rfl,hAt,hsl',hz',ho',q8⟩;have hn:=rel3_next H0.out.1 HS.out.2.2.1 HS.out.2.2.2 HM.out HE.out.1.al_ HE.out.2.2.2.2.2.2.2.1 HE.out.1.nil_ hAt hsl' hz' ho' q8;have HN:=hid hn;clear hn hAt hsl' hz' ho' q8 y0 y1 HAd;go_wp2_with fail
      go_roundg (ln - (i+1))
      case measure =>
       have:=HE.out.2.2.2.2.2.2.2.2.2;omega
      case rel=>exact ⟨i+1,τx,sl',_,by go_num,by omega,HN.out⟩
    ·have hil:i=ln:=by omega
     subst hil;have hal:al=Z:=hrl.al_.trans HS.out.2.1;subst hal;have hall:=(rch_in s (Mat t) (lowM m i)).lt (show s.length≤60 by omega)
     rw [← hrl.al_] at hall;obtain ⟨a3,n3,c3,rfl,hpt,-⟩:=slw_pl hrl.sl_ hrl.nil_ hall;obtain ⟨⟨t0,t1⟩,-⟩:=cells2 hrl.to_;obtain ⟨⟨r0,r1⟩,rf0,rf1⟩:=cells2 hrl.res
     have HF:=hid (And.intro hrl (hpt.mono (ok':=fun g=>w.heap.size≤g∧τk g=.no) (fun g hg _=>by
      have h1:=hrl.own g hg;have h2:=HS.out.2.2
      exact ⟨by omega,h1.2⟩)))
     clear hrl hpt hall hlt hig;go_wp2_with fail
     change bodyPost _ _ _ _ _ (put2 wr (w.heap.size+1) (.int .i64 0) (.slice a3 n3 c3))
     obtain ⟨hX,hY,hZ⟩:=res_end H0.out.1 HF.out.1.ev HF.out.1.res HF.out.2 HF.out.1.rn;generalize put2 wr (w.heap.size+1) (.int .i64 0) (.slice a3 n3 c3)=W9 at *;obtain ⟨⟨e0,e1⟩,-⟩:=cells2 hX;exact bodyPost_ret (v:=plV a3 n3 c3) (by simp [results,Tryd.results35,go_sem,e0,e1]) rfl ⟨_,_,_,τk,rfl,hY,hZ⟩
end P11
namespace P11
open Go.RowKit Base Bytes P07 P08 P09 P10
open Sets (ST pc cnt_le)
set_option linter.unusedVariables false
def OkE (w:World) (a:Option Addr) (τ':Nat→Kd) (g:Nat):Prop:=(w.heap.size≤g∧τ' g=.no)∨(g<w.heap.size∧a=some ⟨g,0,none⟩)
theorem res_endE {N:Nat} {s:List UInt8} {w W:World} {τ τk:Nat→Kd} {al:Nat} {a0 a:Option Addr} {n c:Nat} (hT:Tab w) (hev:EvN N s w τ W τk) (hR:At W (w.heap.size+1) 48 plZ) (hp:PlW W (OkE w a0 τk) al a n c) (h1:τk (w.heap.size+1)=.no) :
  At (put2 W (w.heap.size+1) (.int .i64 0) (.slice a n c)) (w.heap.size+1) 48 (plC a n c)∧EvN N s w τ (put2 W (w.heap.size+1) (.int .i64 0) (.slice a n c)) τk∧PlW (put2 W (w.heap.size+1) (.int .i64 0) (.slice a n c)) (OkE w a0 τk) al a n c:=by
 have q7:=keep2 (Keep.refl (fun b=>b=w.heap.size+1) W) (b:=w.heap.size+1) (fun _=>rfl) (.int .i64 0) (.slice a n c)
 refine ⟨set2 hR _ _,hev.own q7 (fun b hb _=>?_) hT,plw_put hp hR (by decide) q7 (fun g hg=>hg)⟩
 have hb:b=w.heap.size+1:=hb;subst hb;exact ⟨by omega,h1⟩
theorem okE_in {w w1:World} {ok:Nat→Prop} {τ':Nat→Kd} {m n c:Nat} {a:Option Addr} (h:PlW w ok m a n c) (k:PlW w1 ok m a n c):PlW w1 (OkE w a τ') m a n c:=by
 cases k with
 | none=>exact .none
 | word _ g _ h0 hm hc hg ho=>exact .word _ g _ h0 hm hc hg (.inr ⟨(plw_block h rfl).2,rfl⟩)
theorem okE_step {N:Nat} {s:List UInt8} {w wr w5:World} {τk τ5:Nat→Kd} {z z5 n c n5 c5:Nat} {a0 a a5:Option Addr} (hsz:w.heap.size≤wr.heap.size) (h:PlW wr (OkE w a0 τk) z a n c) (ev5:EvN N s wr τk w5 τ5) (p5:PlW w5 (fun g=>(wr.heap.size≤g∧τ5 g=.no)∨(g<wr.heap.size∧a=some ⟨g,0,none⟩)) z5 a5 n5 c5):PlW w5 (OkE w a0 τ5) z5 a5 n5 c5:=by
 refine p5.mono (fun g hg _=>?_)
 rcases hg with ⟨h1,h2⟩ | ⟨h1,h2⟩
 ·exact .inl ⟨by omega,h2⟩
 ·rcases (plw_block h h2).1 with ⟨h3,h4⟩ | h3
  ·exact .inl ⟨h3,(ev5.ext g h1).trans h4⟩
  ·exact .inr h3
theorem okE_nm {N:Nat} {s:List UInt8} {w wr:World} {τ τk:Nat→Kd} {z m n c n' c':Nat} {a a':Option Addr} (hp:PlW w (fun g=>¬ (τ g).mut) m a n c) (ev:EvN N s w τ wr τk) (h:PlW wr (OkE w a τk) z a' n' c'):PlW wr (fun g=>¬ (τk g).mut) z a' n' c':=by
 refine h.mono (fun g hg _=>?_)
 rcases hg with ⟨h1,h2⟩ | ⟨h1,h2⟩
 ·rw [h2]
  exact fun h=>h
 ·rw [ev.ext g h1]
  exact (plw_block hp h2).1
theorem ends_zero (s:List UInt8) (t:T) (bl o:Nat) (w:World) (τ:Nat→Kd) (hI:Inv s w τ) (x:Option Addr) :
  Calls Tryd.prog 25 #[.pointer (some ⟨bl,o,none⟩),.string ⟨s.toArray⟩,plV none 0 0] w (Ended s (SizeOf.sizeOf t+1) (rch s (Mat t) 0) x τ w):=by
 have b1:=(At.new w (plC none 0 0) 48).alloc (.cells plZ 48);have b2:=At.new (w.alloc (.cells (plC none 0 0) 48)) plZ 48;rw [show (w.alloc (.cells (plC none 0 0) 48)).heap.size=w.heap.size+1 from by simp] at b2
 have q:=((Keep.refl (fun _=>False) w).alloc (.cells (plC none 0 0) 48)).alloc (.cells plZ 48)
 have hev:=(EvN.refl (N:=SizeOf.sizeOf t+1) hI).quiet q;have hn2:τ (w.heap.size+1)=.no:=(Ev.refl hI).new (by omega)
 have HNN:=hid (fun W=>none_any none 0 0 (b:=true) rfl W)
 obtain ⟨⟨d0,d1⟩,-⟩:=cells2 b1;have H0:=hid (And.intro hI.tab (And.intro hev (And.intro b1 (And.intro b2 hn2))));rw [rch_zero];clear hI hev b1 b2 q hn2
 go_enter Tryd.func25,Tryd.ntmps25
 go_upto_region 1 with fail;generalize ((w.alloc (.cells (plC none 0 0) 48)).alloc (.cells plZ 48))=WA at *;go_wp2_with fail;refine (HNN.out _).mono ?_;rintro e w1 ⟨rfl,q1⟩;have hF:=H0.out.2.2.1.keep q1 (fun h=>h)
 have hRz:=H0.out.2.2.2.1.keep q1 (fun h=>h)
 have H1:=hid (And.intro (H0.out.2.1.quiet q1) hRz);clear d0 d1 q1 HNN;obtain ⟨⟨d0,d1⟩,-⟩:=cells2 hF;obtain ⟨⟨r0,r1⟩,rf0,rf1⟩:=cells2 hRz;clear hF hRz;go_wp2_with fail
 change bodyPost _ _ _ _ _ (put2 w1 (w.heap.size+1) (.int .i64 0) (.slice none 0 0))
 obtain ⟨hX,hY,hZ⟩:=res_endE H0.out.1 H1.out.1 H1.out.2 (PlW.none (ok:=OkE w x τ)) H0.out.2.2.2.2;generalize put2 w1 (w.heap.size+1) (.int .i64 0) (.slice none 0 0)=W9 at *;obtain ⟨⟨e0,e1⟩,-⟩:=cells2 hX;exact bodyPost_ret (v:=plV none 0 0) (by simp [results,Tryd.results25,go_sem,e0,e1]) rfl ⟨_,_,_,_,rfl,hY,hZ⟩
theorem ends_1 (s:List UInt8) (hsl:s.length≤59) (t:T) (dd:Nat) (hR:RT dd t) (hk:t.kind=1) (bl o:Nat) (r:PR) (ok:Nat→Prop) (w:World) (τ:Nat→Kd) (m:Nat) (a:Option Addr) (n c:Nat) (hI:Inv s w τ) (hP:PtA w τ ok t bl o r) (hm:InT s m) (hm0:m≠0) (hp:PlW w (fun g=>¬ (τ g).mut) m a n c) :
  Calls Tryd.prog 25 #[.pointer (some ⟨bl,o,none⟩),.string ⟨s.toArray⟩,plV a n c] w (Ended s (SizeOf.sizeOf t+1) (rch s (Mat t) m) a τ w):=by
 rw [rch_1 hk hm];have hT:=hI.tab;have b1:=(At.new w (plC a n c) 48).alloc (.cells plZ 48);have b2:=At.new (w.alloc (.cells (plC a n c) 48)) plZ 48;rw [show (w.alloc (.cells (plC a n c) 48)).heap.size=w.heap.size+1 from by simp] at b2
 have q:=((Keep.refl (fun _=>False) w).alloc (.cells (plC a n c) 48)).alloc (.cells plZ 48)
 have hev:=(EvN.refl (N:=SizeOf.sizeOf t+1) hI).quiet q;have hn0:∀ b,w.heap.size≤b→τ b=.no:=fun b hb=>(Ev.refl hI).new hb
 have hnone:decide (n=0)=false:=by
  have:=hp.len
  simp
  omega
 have HNN:=hid (fun W=>none_any a n c hnone W)
 obtain ⟨⟨d0,d1⟩,-⟩:=cells2 b1;have H0:=hid (And.intro hT (And.intro hI (And.intro hn0 (And.intro hP (And.intro hp (And.intro hm (And.intro hR (And.intro hk hm0))))))));have HA:=hid (And.intro hev (And.intro b1 b2));clear hT hI hn0 hP hp hm hm0 hev b1 b2 q hnone hR hk
 go_enter Tryd.func25,Tryd.ntmps25
 go_upto_region 1 with fail;generalize ((w.alloc (.cells (plC a n c) 48)).alloc (.cells plZ 48))=WA at *;go_wp2_with fail;refine (HNN.out _).mono ?_;rintro e w1 ⟨rfl,q1⟩;have hev:=HA.out.1.quiet q1;have hF:=HA.out.2.1.keep q1 (fun h=>h)
 have hRz:=HA.out.2.2.keep q1 (fun h=>h)
 have hP1:=H0.out.2.2.2.1.ev H0.out.2.1.lt hev.toEv;obtain ⟨an,cn,hN⟩:=hP1.node;obtain ⟨f0,f1,f2,f3⟩:=hP1.four;obtain ⟨k0,k1,k2,k3,k4,-,-,-⟩:=hN.eight;have hp1:=H0.out.2.2.2.2.1.keep hev.q (fun g hg _=>hg)
 have H1:=hid (And.intro hev (And.intro hF (And.intro hRz (And.intro hP1 hp1))));rw [H0.out.2.2.2.2.2.2.2.1] at k0;clear d0 d1 q1 HA HNN;obtain ⟨⟨d0,d1⟩,-⟩:=cells2 hF;obtain ⟨⟨r0,r1⟩,rf0,rf1⟩:=cells2 hRz;clear hF hRz hN f0 f1 f2 f3 k1 k2 k3 k4 hP1 hp1 hev;obtain ⟨f0,-,-,-⟩:=H1.out.2.2.2.1.four;go_wp2_with fail
 change bodyPost _ _ _ _ _ (put2 w1 (w.heap.size+1) (.int .i64 0) (.slice a n c))
 obtain ⟨hX,hY,hZ⟩:=res_endE H0.out.1 H1.out.1 H1.out.2.2.1 (okE_in (τ':=τ) H0.out.2.2.2.2.1 H1.out.2.2.2.2) (H0.out.2.2.1 _ (by omega))
 generalize put2 w1 (w.heap.size+1) (.int .i64 0) (.slice a n c)=W9 at *;obtain ⟨⟨e0,e1⟩,-⟩:=cells2 hX;exact bodyPost_ret (v:=plV a n c) (by simp [results,Tryd.results25,go_sem,e0,e1]) rfl ⟨_,_,_,_,rfl,hY,hZ⟩
theorem ends_2 (s:List UInt8) (hsl:s.length≤59) (t:T) (dd:Nat) (hR:RT dd t) (hk:t.kind=2) (bl o:Nat) (r:PR) (ok:Nat→Prop) (w:World) (τ:Nat→Kd) (m:Nat) (a:Option Addr) (n c:Nat) (hI:Inv s w τ) (hP:PtA w τ ok t bl o r) (hm:InT s m) (hm0:m≠0) (hp:PlW w (fun g=>¬ (τ g).mut) m a n c) :
  Calls Tryd.prog 25 #[.pointer (some ⟨bl,o,none⟩),.string ⟨s.toArray⟩,plV a n c] w (Ended s (SizeOf.sizeOf t+1) (rch s (Mat t) m) a τ w):=by
 obtain ⟨z,hz⟩:∃ z,rch s (Mat t) m=z:=⟨_,rfl⟩;have hO0:=rch_2 (s:=s) (m:=m) hk;have hzi0:=rch_in s (Mat t) m;rw [hz] at hO0 hzi0 ⊢;have HO:=hid (And.intro hO0 hzi0);clear hz hO0 hzi0;have hT:=hI.tab;have b1:=(At.new w (plC a n c) 48).alloc (.cells plZ 48);have b2:=At.new (w.alloc (.cells (plC a n c) 48)) plZ 48;rw [show (w.alloc (.cells (plC a n c) 48)).heap.size=w.heap.size+1 from by simp] at b2
 have q:=((Keep.refl (fun _=>False) w).alloc (.cells (plC a n c) 48)).alloc (.cells plZ 48)
 have hev:=(EvN.refl (N:=SizeOf.sizeOf t+1) hI).quiet q;have hn0:∀ b,w.heap.size≤b→τ b=.no:=fun b hb=>(Ev.refl hI).new hb
 have hnone:decide (n=0)=false:=by
  have:=hp.len
  simp
  omega
 have HNN:=hid (fun W=>none_any a n c hnone W)
 obtain ⟨⟨d0,d1⟩,-⟩:=cells2 b1;have H0:=hid (And.intro hT (And.intro hI (And.intro hn0 (And.intro hP (And.intro hp (And.intro hm (And.intro hR (And.intro hk hm0))))))));have HA:=hid (And.intro hev (And.intro b1 b2));clear hT hI hn0 hP hp hm hm0 hev b1 b2 q hnone hR hk
 go_enter Tryd.func25,Tryd.ntmps25
 go_upto_region 1 with fail;generalize ((w.alloc (.cells (plC a n c) 48)).alloc (.cells plZ 48))=WA at *;go_wp2_with fail;refine (HNN.out _).mono ?_;rintro e w1 ⟨rfl,q1⟩;have hev:=HA.out.1.quiet q1;have hF:=HA.out.2.1.keep q1 (fun h=>h)
 have hRz:=HA.out.2.2.keep q1 (fun h=>h)
 have hP1:=H0.out.2.2.2.1.ev H0.out.2.1.lt hev.toEv;obtain ⟨an,cn,hN⟩:=hP1.node;obtain ⟨f0,f1,f2,f3⟩:=hP1.four;obtain ⟨k0,k1,k2,k3,k4,-,-,-⟩:=hN.eight;have hp1:=H0.out.2.2.2.2.1.keep hev.q (fun g hg _=>hg)
 have H1:=hid (And.intro hev (And.intro hF (And.intro hRz (And.intro hP1 hp1))));rw [H0.out.2.2.2.2.2.2.2.1] at k0;clear d0 d1 q1 HA HNN;obtain ⟨⟨d0,d1⟩,-⟩:=cells2 hF;obtain ⟨⟨r0,r1⟩,rf0,rf1⟩:=cells2 hRz;have hSO:=(RT_sok t dd H0.out.2.2.2.2.2.2.1);have hS:t.set.Ok:=by
  cases t
  rw [SOk] at hSO;exact hSO.1
 clear f1 f2 f3 hN hP1 hSO;obtain ⟨hO,hzi⟩:=HO.out;have hpw:=H0.out.2.2.2.2.1;clear hF hRz hev HO
 cases hp1 with
 | none=>exact absurd rfl H0.out.2.2.2.2.2.2.2.2
 | word _ g _ h0 hml hc hg ho =>
  have HC:=hid (fun W' (q':Keep (fun _=>False) w1 W')=>over_word s hsl t.set hS m z g c W' H0.out.2.2.2.2.2.1 hzi (hg.keep q' (fun h=>h)) hO ((Tab.keepS H1.out.1.inv.tab q' (fun h=>h))))
  have k1':w1.cell? ⟨r.nb,r.no+1,none⟩=some (.int .u64 t.set.x0):=k1;clear hg hpw hO hzi hS;go_upto_region 5 with fail
  go_region_with (
   go_at_call 33;refine (HC.out _ ((Keep.refl _ _).drew)).mono ?_;rintro e w5 ⟨a5,n5,c5,rfl,p5,q5⟩;have Q5:=hid (((Keep.refl (fun _=>False) w1).drew).trans q5);obtain ⟨⟨r0',r1'⟩,rf0',rf1'⟩:=cells2 (H1.out.2.2.1.keep Q5.out (fun h=>h));have P5:=hid p5;clear p5 q5)
  all_goals
   have hev5:=H1.out.1.quiet Q5.out;have hR5:=H1.out.2.2.1.keep Q5.out (fun h=>h)
   have hp5:PlW w5 (OkE w (some ⟨g,0,none⟩) τ) z a5 n5 c5:=P5.out.mono (fun g' hg' _=>.inl (by
    have h1:=H1.out.1.q.size;have hg':w1.heap.size≤g':=hg'
    exact ⟨by omega,H1.out.1.new hg'⟩))
   have H5:=hid (And.intro hev5 (And.intro hR5 hp5));clear hev5 hR5 hp5 r0' r1' rf0' rf1' d0 d1 r0 r1 rf0 rf1 f0 k0 k1 k2 k3 k4 k1';go_wp2_with fail
   change bodyPost _ _ _ _ _ (put2 w5 (w.heap.size+1) (.int .i64 0) (.slice a5 n5 c5))
   obtain ⟨hX,hY,hZ⟩:=res_endE H0.out.1 H5.out.1 H5.out.2.1 H5.out.2.2 (H0.out.2.2.1 _ (by omega))
   generalize put2 w5 (w.heap.size+1) (.int .i64 0) (.slice a5 n5 c5)=W9 at *;obtain ⟨⟨e0,e1⟩,-⟩:=cells2 hX;exact bodyPost_ret (v:=plV a5 n5 c5) (by simp [results,Tryd.results25,go_sem,e0,e1]) rfl ⟨_,_,_,_,rfl,hY,hZ⟩
def RelC (s:List UInt8) (t:T) (m:Nat) (a0:Option Addr) (w:World) (τ:Nat→Kd) (k:Nat) (wr:World) (τk:Nat→Kd) (a:Option Addr) (n c:Nat):Prop :=
 EvN (SizeOf.sizeOf t+1) s w τ wr τk∧At wr w.heap.size 48 (plC a n c)∧At wr (w.heap.size+1) 48 plZ∧PlW wr (OkE w a0 τk) (rchC s (t.subs.take k) m) a n c∧τk w.heap.size=.no∧τk (w.heap.size+1)=.no
theorem relC_next {s:List UInt8} {t u:T} {m k:Nat} {w wr w5:World} {τ τk τ5:Nat→Kd} {a0 a a5:Option Addr} {n c n5 c5:Nat} (hT:Tab w) (hu:t.subs[k]?=some u) (h:RelC s t m a0 w τ k wr τk a n c) (ev5:EvN (SizeOf.sizeOf u+1) s wr.drew τk w5 τ5)
  (p5:PlW w5 (fun g=>(wr.drew.heap.size≤g∧τ5 g=.no)∨(g<wr.drew.heap.size∧a=some ⟨g,0,none⟩)) (rch s (Mat u) (rchC s (t.subs.take k) m)) a5 n5 c5) :
  At w5 w.heap.size 48 (plC a n c)∧RelC s t m a0 w τ (k+1) (put2 w5 w.heap.size (.int .i64 0) (.slice a5 n5 c5)) τ5 a5 n5 c5:=by
 obtain ⟨hev,hA,hR,hp,h0,h1⟩:=h;have nm:∀ b,τk b=.no→¬ (τk b).mut:=fun b hb hm=>by rw [hb] at hm;exact hm
 have ev35:EvN (SizeOf.sizeOf t+1) s wr τk w5 τ5:=((EvN.refl hev.inv).quiet ((Keep.refl (fun _=>False) wr).drew)).trans (ev5.mono (by have:=sub_less hu;omega))
 have hA5:=hA.keep ev35.q (nm _ h0);have q6:=keep2 (Keep.refl (fun b=>b=w.heap.size) w5) (b:=w.heap.size) (fun _=>rfl) (.int .i64 0) (.slice a5 n5 c5)
 have hs0:w.heap.size<wr.heap.size:=hA.lt;have hs1:w.heap.size+1<wr.heap.size:=hR.lt;refine ⟨hA5,(hev.trans ev35).own q6 (fun b hb _=>?_) hT,set2 hA5 _ _,(hR.keep ev35.q (nm _ h1)).keep q6 (by omega),?_,(ev35.ext _ hs0).trans h0,(ev35.ext _ hs1).trans h1⟩
 ·have hb:b=w.heap.size:=hb
  subst hb;exact ⟨Nat.le_refl _,(ev35.ext _ hs0).trans h0⟩
 ·rw [rchC_at s hu]
  exact plw_put (okE_step (by omega) hp ev35 p5) hA5 (by decide) q6 (fun g hg=>hg)
def RelA (s:List UInt8) (t:T) (m tb:Nat) (a0:Option Addr) (n0 c0:Nat) (w:World) (τ:Nat→Kd) (k:Nat) (wr:World) (τk:Nat→Kd) (sl:Value):Prop :=
 EvN (SizeOf.sizeOf t+1) s w τ wr τk∧At wr w.heap.size 48 (plC a0 n0 c0)∧At wr (w.heap.size+1) 48 plZ∧At wr tb 48 #[.int .i64 0,sl]∧SlW wr sl (rchA s m (t.subs.take k))∧(rchA s m (t.subs.take k)=0→sl=.slice none 0 0)∧(∀ g,sl.ownBlock=some g→tb<g∧τk g=.no)∧τk w.heap.size=.no∧τk (w.heap.size+1)=.no∧τk tb=.no
theorem relA_mid {s:List UInt8} {t u:T} {m tb k:Nat} {w wr w5:World} {τ τk τ5:Nat→Kd} {a0 a5:Option Addr} {n0 c0 n5 c5:Nat} {sl:Value} (hu:t.subs[k]?=some u) (h:RelA s t m tb a0 n0 c0 w τ k wr τk sl) (hp:PlW w (fun g=>¬ (τ g).mut) m a0 n0 c0) (htb:w.heap.size<tb) (ev5:EvN (SizeOf.sizeOf u+1) s wr.drew τk w5 τ5)
  (p5:PlW w5 (fun g=>(wr.drew.heap.size≤g∧τ5 g=.no)∨(g<wr.drew.heap.size∧a0=some ⟨g,0,none⟩)) (rch s (Mat u) m) a5 n5 c5) :
  RelA s t m tb a0 n0 c0 w τ k w5 τ5 sl∧PlW w5 (fun g=>sl.ownBlock≠some g) (rch s (Mat u) m) a5 n5 c5:=by
 obtain ⟨hev,hA,hR,hB,hs,hz,ho,h0,h1,h2⟩:=h;have nm:∀ b,τk b=.no→¬ (τk b).mut:=fun b hb hm=>by rw [hb] at hm;exact hm
 have ev35:EvN (SizeOf.sizeOf t+1) s wr τk w5 τ5:=((EvN.refl hev.inv).quiet ((Keep.refl (fun _=>False) wr).drew)).trans (ev5.mono (by have:=sub_less hu;omega))
 refine ⟨⟨hev.trans ev35,hA.keep ev35.q (nm _ h0),hR.keep ev35.q (nm _ h1),hB.keep ev35.q (nm _ h2),hs.keep ev35.q (fun g hg=>nm g (ho g hg).2),hz,fun g hg=>⟨(ho g hg).1,(ev35.ext g (hs.lt g hg)).trans (ho g hg).2⟩,(ev35.ext _ hA.lt).trans h0,(ev35.ext _ hR.lt).trans h1,(ev35.ext _ hB.lt).trans h2⟩,p5.mono (fun g hg _ e=>?_)⟩
 have h3:=hs.lt g e;have h4:=(ho g e).1
 rcases hg with ⟨h5,-⟩ | ⟨-,h5⟩
 ·have h5:wr.heap.size≤g:=h5
  omega
 ·have h6:=(plw_block hp h5).2
  omega
theorem relA_next {s:List UInt8} {t u:T} {m tb k:Nat} {w w5 w8:World} {τ τ5:Nat→Kd} {a0:Option Addr} {n0 c0:Nat} {sl sl':Value} (hT:Tab w) (htb:w.heap.size+1<tb) (hu:t.subs[k]?=some u) (h:RelA s t m tb a0 n0 c0 w τ k w5 τ5 sl)
  (hAt:At w8 tb 48 ((#[.int .i64 0,sl]:Array Value).setIfInBounds (0+1) sl')) (hsl':SlW w8 sl' (rchA s m (t.subs.take k) ||| rch s (Mat u) m)) (hz':rchA s m (t.subs.take k) ||| rch s (Mat u) m=0→sl'=sl) (ho':∀ g,sl'.ownBlock=some g→sl.ownBlock=some g∨w5.heap.size≤g) (q8:Keep (fun k=>k=tb∨sl.ownBlock=some k) w5 w8) :
  RelA s t m tb a0 n0 c0 w τ (k+1) w8 τ5 sl':=by
 obtain ⟨hev,hA,hR,hB,hs,hz,ho,h0,h1,h2⟩:=h;have hbl:tb<w5.heap.size:=hB.lt;have hS:∀ b,(b=tb∨sl.ownBlock=some b)→w.heap.size≤b∧τ5 b=.no:=fun b hb=>by
  rcases hb with hb | hb
  ·subst hb
   exact ⟨by omega,h2⟩
  ·have:=ho b hb
   exact ⟨by omega,this.2⟩
 refine ⟨hev.own q8 (fun b hb _=>hS b hb) hT,hA.keep q8 (fun e=>?_),hR.keep q8 (fun e=>?_),hAt,?_,?_,fun g hg=>?_,h0,h1,h2⟩
 ·rcases e with e | e
  ·omega
  ·have:=(ho _ e).1
   omega
 ·rcases e with e | e
  ·omega
  ·have:=(ho _ e).1
   omega
 ·rw [rchA_at s m hu]
  exact hsl'
 ·rw [rchA_at s m hu]
  intro e;rw [hz' e];refine hz (bit_ext fun j=>?_)
  have h3:=congrArg (fun y=>Nat.testBit y j) e
  simp only [Nat.testBit_or,Nat.zero_testBit] at h3
  rw [Nat.zero_testBit]
  cases e':(rchA s m (t.subs.take k)).testBit j with
  | false=>simp
  | true=>rw [e'] at h3;simp at h3
 ·rcases ho' g hg with h3 | h3
  ·exact ho g h3
  ·exact ⟨by omega,hev.new h3⟩
theorem ends_3 (s:List UInt8) (hsl:s.length≤59) (t:T) (dd:Nat) (hR:RT dd t) (hk:t.kind=3) (ih:∀ u ∈ t.subs,EndsC s u) (bl o:Nat) (r:PR) (ok:Nat→Prop) (w:World) (τ:Nat→Kd) (m:Nat) (a:Option Addr) (n c:Nat) (hI:Inv s w τ) (hP:PtA w τ ok t bl o r) (hm:InT s m) (hm0:m≠0) (hp:PlW w (fun g=>¬ (τ g).mut) m a n c) :
  Calls Tryd.prog 25 #[.pointer (some ⟨bl,o,none⟩),.string ⟨s.toArray⟩,plV a n c] w (Ended s (SizeOf.sizeOf t+1) (rch s (Mat t) m) a τ w):=by
 rw [rch_3 hk hm];have HI:=hid ih;obtain ⟨ln,hln⟩:∃ ln,t.subs.length=ln:=⟨_,rfl⟩;have hlnb:=hP.len;clear ih;have hT:=hI.tab;have b1:=(At.new w (plC a n c) 48).alloc (.cells plZ 48);have b2:=At.new (w.alloc (.cells (plC a n c) 48)) plZ 48;rw [show (w.alloc (.cells (plC a n c) 48)).heap.size=w.heap.size+1 from by simp] at b2
 have q:=((Keep.refl (fun _=>False) w).alloc (.cells (plC a n c) 48)).alloc (.cells plZ 48)
 have hev:=(EvN.refl (N:=SizeOf.sizeOf t+1) hI).quiet q;have hn0:∀ b,w.heap.size≤b→τ b=.no:=fun b hb=>(Ev.refl hI).new hb
 have hnone:decide (n=0)=false:=by
  have:=hp.len
  simp
  omega
 have HNN:=hid (fun W=>none_any a n c hnone W)
 obtain ⟨⟨d0,d1⟩,-⟩:=cells2 b1;have H0:=hid (And.intro hT (And.intro hI (And.intro hn0 (And.intro hP (And.intro hp (And.intro hm (And.intro hR (And.intro hk hm0))))))));have HA:=hid (And.intro hev (And.intro b1 b2));clear hT hI hn0 hP hp hm hm0 hev b1 b2 q hnone hR hk
 go_enter Tryd.func25,Tryd.ntmps25
 go_upto_region 1 with fail;generalize ((w.alloc (.cells (plC a n c) 48)).alloc (.cells plZ 48))=WA at *;go_wp2_with fail;refine (HNN.out _).mono ?_;rintro e w1 ⟨rfl,q1⟩;have hev:=HA.out.1.quiet q1;have hF:=HA.out.2.1.keep q1 (fun h=>h)
 have hRz:=HA.out.2.2.keep q1 (fun h=>h)
 have hP1:=H0.out.2.2.2.1.ev H0.out.2.1.lt hev.toEv;obtain ⟨an,cn,hN⟩:=hP1.node;obtain ⟨f0,f1,f2,f3⟩:=hP1.four;obtain ⟨k0,k1,k2,k3,k4,-,-,-⟩:=hN.eight;have hp1:=H0.out.2.2.2.2.1.keep hev.q (fun g hg _=>hg)
 have H1:=hid (And.intro hev (And.intro hF (And.intro hRz (And.intro hP1 hp1))));rw [H0.out.2.2.2.2.2.2.2.1] at k0;clear d0 d1 q1 HA HNN;obtain ⟨⟨d0,d1⟩,-⟩:=cells2 hF;obtain ⟨⟨r0,r1⟩,rf0,rf1⟩:=cells2 hRz;have hstart:RelC s t m a w τ 0 w1 τ a n c:=⟨hev,hF,hRz,okE_in H0.out.2.2.2.2.1 hp1,H0.out.2.2.1 _ (Nat.le_refl _),H0.out.2.2.1 _ (by omega)⟩
 have HS:=hid hstart;rw [hln] at f1 hlnb;clear f2 f3 hN hP1 hF hRz hev hp1 k1 k2 k3 k4 hstart d0 d1 r0 r1 rf0 rf1;go_wp2_with fail
 go_loopg [39] ln (fun gg v wr=>∃ k τk ak nk ck,v=.int .i64 ((k:Nat):Int)∧k+gg=ln∧RelC s t m a w τ k wr τk ak nk ck)
 case atStart=>exact ⟨0,τ,a,n,c,rfl,by omega,HS.out⟩
 case round =>
  obtain ⟨k,τk,ak,nk,ck,rfl,hkg,hrel⟩:=hrel;have HR:=hid hrel;obtain ⟨hev,hA,hRz,hpl,-,-⟩:=hrel;have hPr:=H0.out.2.2.2.1.ev H0.out.2.1.lt hev.toEv
  by_cases hlt:k<ln
  ·have hlt':(k:Int)<ln:=by omega
   have i0:(0:Int)≤k:=by omega
   obtain ⟨u,hu⟩:∃ u,t.subs[k]?=some u:=⟨_,List.getElem?_eq_getElem (by rw [hln];exact hlt)⟩
   obtain ⟨r',hsub⟩:=hPr.sub hu;have HC:=hid (fun W' (q':Keep (fun _=>False) wr W')=>HI.out u (List.mem_of_getElem? hu) dd (sub_RT H0.out.2.2.2.2.2.2.1 hu) r.rb (k * 4) r' ok W' τk _ ak nk ck (hev.inv.keepF q') (hsub.ev hev.inv.lt ((Ev.refl hev.inv).quiet q')) (rchC_in (t.subs.take k) H0.out.2.2.2.2.2.1) ((okE_nm H0.out.2.2.2.2.1 hev hpl).keepF q'))
   have g1:=hPr.four.2.1;rw [hln] at g1;obtain ⟨⟨e0,e1⟩,-⟩:=cells2 hA;have HU:=hid hu;clear hev hA hRz hpl hPr hsub hu f0 f1 k0;go_upto_region 10 with fail
   go_region_with (
    go_at_call 25;refine (HC.out _ ((Keep.refl _ _).drew)).mono ?_;rintro e w5 ⟨a5,n5,c5,τ5,rfl,ev5,p5⟩;have hn5:=relC_next H0.out.1 HU.out HR.out ev5 p5;obtain ⟨⟨y0,y1⟩,yf0,yf1⟩:=cells2 hn5.1;have H5:=hid hn5.2;clear ev5 p5 hn5)
   all_goals
    change Exit.inBlock _ _ _ _ (put2 w5 w.heap.size (.int .i64 0) (.slice a5 n5 c5))
    generalize put2 w5 w.heap.size (.int .i64 0) (.slice a5 n5 c5)=w6 at *;clear y0 y1 yf0 yf1 e0 e1 g1;go_wp2_with fail
    go_roundg (ln - (k+1))
    case measure=>omega
    case rel=>exact ⟨k+1,τ5,a5,n5,c5,by go_num,by omega,H5.out⟩
  ·have hkl:k=ln:=by omega
   subst hkl;obtain ⟨⟨e0,e1⟩,-⟩:=cells2 hA;obtain ⟨⟨r0,r1⟩,rf0,rf1⟩:=cells2 hRz;have hpl2:=hpl;rw [← hln,List.take_length] at hpl2;have HF:=hid (And.intro hev (And.intro hRz hpl2));clear hev hA hRz hpl hpl2 hPr f0 f1 k0;go_wp2_with fail
   change bodyPost _ _ _ _ _ (put2 wr (w.heap.size+1) (.int .i64 0) (.slice ak nk ck))
   obtain ⟨hX,hY,hZ⟩:=res_endE H0.out.1 HF.out.1 HF.out.2.1 HF.out.2.2 HR.out.2.2.2.2.2;generalize put2 wr (w.heap.size+1) (.int .i64 0) (.slice ak nk ck)=W9 at *;obtain ⟨⟨e0,e1⟩,-⟩:=cells2 hX;exact bodyPost_ret (v:=plV ak nk ck) (by simp [results,Tryd.results25,go_sem,e0,e1]) rfl ⟨_,_,_,_,rfl,hY,hZ⟩
theorem ends_4 (s:List UInt8) (hsl:s.length≤59) (t:T) (dd:Nat) (hR:RT dd t) (hk:t.kind=4) (ih:∀ u ∈ t.subs,EndsC s u) (bl o:Nat) (r:PR) (ok:Nat→Prop) (w:World) (τ:Nat→Kd) (m:Nat) (a:Option Addr) (n c:Nat) (hI:Inv s w τ) (hP:PtA w τ ok t bl o r) (hm:InT s m) (hm0:m≠0) (hp:PlW w (fun g=>¬ (τ g).mut) m a n c) :
  Calls Tryd.prog 25 #[.pointer (some ⟨bl,o,none⟩),.string ⟨s.toArray⟩,plV a n c] w (Ended s (SizeOf.sizeOf t+1) (rch s (Mat t) m) a τ w):=by
 rw [rch_4 hk];have HI:=hid ih;obtain ⟨ln,hln⟩:∃ ln,t.subs.length=ln:=⟨_,rfl⟩;have hlnb:=hP.len;clear ih;have hT:=hI.tab;have b1:=(At.new w (plC a n c) 48).alloc (.cells plZ 48);have b2:=At.new (w.alloc (.cells (plC a n c) 48)) plZ 48;rw [show (w.alloc (.cells (plC a n c) 48)).heap.size=w.heap.size+1 from by simp] at b2
 have q:=((Keep.refl (fun _=>False) w).alloc (.cells (plC a n c) 48)).alloc (.cells plZ 48)
 have hev:=(EvN.refl (N:=SizeOf.sizeOf t+1) hI).quiet q;have hn0:∀ b,w.heap.size≤b→τ b=.no:=fun b hb=>(Ev.refl hI).new hb
 have hnone:decide (n=0)=false:=by
  have:=hp.len
  simp
  omega
 have HNN:=hid (fun W=>none_any a n c hnone W)
 obtain ⟨⟨d0,d1⟩,-⟩:=cells2 b1;have H0:=hid (And.intro hT (And.intro hI (And.intro hn0 (And.intro hP (And.intro hp (And.intro hm (And.intro hR (And.intro hk hm0))))))));have HA:=hid (And.intro hev (And.intro b1 b2));clear hT hI hn0 hP hp hm hm0 hev b1 b2 q hnone hR hk
 go_enter Tryd.func25,Tryd.ntmps25
 go_upto_region 1 with fail;generalize ((w.alloc (.cells (plC a n c) 48)).alloc (.cells plZ 48))=WA at *;go_wp2_with fail;refine (HNN.out _).mono ?_;rintro e w1 ⟨rfl,q1⟩;have hev:=HA.out.1.quiet q1;have hF:=HA.out.2.1.keep q1 (fun h=>h)
 have hRz:=HA.out.2.2.keep q1 (fun h=>h)
 have hP1:=H0.out.2.2.2.1.ev H0.out.2.1.lt hev.toEv;obtain ⟨an,cn,hN⟩:=hP1.node;obtain ⟨f0,f1,f2,f3⟩:=hP1.four;obtain ⟨k0,k1,k2,k3,k4,-,-,-⟩:=hN.eight;have hp1:=H0.out.2.2.2.2.1.keep hev.q (fun g hg _=>hg)
 have H1:=hid (And.intro hev (And.intro hF (And.intro hRz (And.intro hP1 hp1))));rw [H0.out.2.2.2.2.2.2.2.1] at k0;clear d0 d1 q1 HA HNN;obtain ⟨⟨d0,d1⟩,-⟩:=cells2 hF;obtain ⟨⟨r0,r1⟩,rf0,rf1⟩:=cells2 hRz;rw [hln] at f1 hlnb;clear f2 f3 hN hF hRz hev k1 k2 k3 k4 d0 d1 r0 r1 rf0 rf1;go_upto_region 14 with fail;have qT:=(Keep.refl (fun _=>False) w1).alloc (.cells plZ 48)
 have aT:=At.new w1 plZ 48;have hPT:=hP1.ev H1.out.1.inv.lt ((Ev.refl H1.out.1.inv).quiet qT);have hszT:w.heap.size+1<w1.heap.size:=H1.out.2.2.1.lt;have hstart:RelA s t m w1.heap.size a n c w τ 0 (w1.alloc (.cells plZ 48)) τ (.slice none 0 0) :=
  ⟨H1.out.1.quiet qT,H1.out.2.1.keep qT (fun h=>h),H1.out.2.2.1.keep qT (fun h=>h),aT,.none,fun _=>rfl,fun g hg=>(by cases hg),H0.out.2.2.1 _ (Nat.le_refl _),H0.out.2.2.1 _ (by omega),H0.out.2.2.1 _ (by omega)⟩
 have g1:=hPT.four.2.1;rw [hln] at g1;obtain ⟨tb,htb⟩:∃ tb,w1.heap.size=tb:=⟨_,rfl⟩;rw [htb] at hstart hszT ⊢;have HS:=hid (And.intro hstart hszT);clear qT aT hPT hstart hszT f0 f1 k0 htb hP1 hp1 H1;generalize (w1.alloc (.cells plZ 48))=W2 at *;go_wp2_with fail;clear g1
 go_loopg [59] ln (fun gg v wr=>∃ k τk sl,v=.int .i64 ((k:Nat):Int)∧k+gg=ln∧RelA s t m tb a n c w τ k wr τk sl)
 case atStart=>exact ⟨0,τ,_,rfl,by omega,HS.out.1⟩
 case round =>
  obtain ⟨k,τk,sl,rfl,hkg,hrel⟩:=hrel;have HR:=hid hrel;obtain ⟨hev,hA,hRz,hB,hsw,hz0,hso,-,-,-⟩:=hrel;have hPr:=H0.out.2.2.2.1.ev H0.out.2.1.lt hev.toEv
  by_cases hlt:k<ln
  ·have hlt':(k:Int)<ln:=by omega
   have i0:(0:Int)≤k:=by omega
   obtain ⟨u,hu⟩:∃ u,t.subs[k]?=some u:=⟨_,List.getElem?_eq_getElem (by rw [hln];exact hlt)⟩
   obtain ⟨r',hsub⟩:=hPr.sub hu;have hpk:PlW wr (fun g=>¬ (τk g).mut) m a n c:=((H0.out.2.2.2.2.1.mono (ok':=fun g=>¬ (τ g).mut∧¬ (τk g).mut) (fun g hg hl=>⟨hg,by rw [hev.ext g hl];exact hg⟩)).keep hev.q (fun g hg _=>hg.1)).mono (fun g hg _=>hg.2)
   have HC:=hid (fun W' (q':Keep (fun _=>False) wr W')=>HI.out u (List.mem_of_getElem? hu) dd (sub_RT H0.out.2.2.2.2.2.2.1 hu) r.rb (k * 4) r' ok W' τk m a n c (hev.inv.keepF q') (hsub.ev hev.inv.lt ((Ev.refl hev.inv).quiet q')) H0.out.2.2.2.2.2.1 (hpk.keepF q'))
   have g1:=hPr.four.2.1;rw [hln] at g1;obtain ⟨⟨e0,e1⟩,-⟩:=cells2 hA;have HU:=hid hu;clear hev hA hRz hB hsw hz0 hso hPr hsub hu hpk;go_upto_region 17 with fail
   go_region_with (first
    | (go_at_call 25;refine (HC.out _ ((Keep.refl _ _).drew)).mono ?_;rintro e w5 ⟨a5,n5,c5,τ5,rfl,ev5,p5⟩;have hm5:=relA_mid HU.out HR.out H0.out.2.2.2.2.1 (Nat.lt_of_succ_lt HS.out.2) ev5 p5;have H5:=hid hm5;clear ev5 p5 hm5)
    | (go_at_call 34;refine (add_any tb 0 48 #[.int .i64 0,sl] sl _ _ _ a5 n5 c5 w5 H5.out.1.2.2.2.1 (by decide) rfl rfl H5.out.1.2.2.2.2.1 H5.out.2 (fun g hg _=>hg)).mono ?_;rintro e w8 ⟨kk,sl',rfl,hAt,hsl',hz',ho',q8⟩;have H8:=hid (relA_next H0.out.1 HS.out.2 HU.out H5.out.1 hAt hsl' hz' ho' q8);clear hAt hsl' hz' ho' q8))
   all_goals
    clear e0 e1 g1;go_wp2_with fail
    go_roundg (ln - (k+1))
    case measure=>omega
    case rel=>exact ⟨k+1,τ5,sl',by go_num,by omega,H8.out⟩
  ·have hkl:k=ln:=by omega
   subst hkl;have hall:=(rchA_in s m (t.subs.take k)).lt (show s.length≤60 by omega)
   obtain ⟨a3,n3,c3,rfl,hpt,-⟩:=slw_pl hsw hz0 hall;obtain ⟨⟨e0,e1⟩,-⟩:=cells2 hB;obtain ⟨⟨r0,r1⟩,rf0,rf1⟩:=cells2 hRz
   have hp9:PlW wr (OkE w a τk) (rchA s m (t.subs.take k)) a3 n3 c3:=hpt.mono (fun g hg _=>.inl (by
    have h1:=hso g hg;have h2:=HS.out.2
    exact ⟨by omega,h1.2⟩))
   rw [← hln,List.take_length] at hp9;have HF:=hid (And.intro hev (And.intro hRz hp9));clear hev hA hRz hB hsw hz0 hso hPr hpt hall hp9;go_wp2_with fail
   change bodyPost _ _ _ _ _ (put2 wr (w.heap.size+1) (.int .i64 0) (.slice a3 n3 c3))
   obtain ⟨hX,hY,hZ⟩:=res_endE H0.out.1 HF.out.1 HF.out.2.1 HF.out.2.2 HR.out.2.2.2.2.2.2.2.2.1;generalize put2 wr (w.heap.size+1) (.int .i64 0) (.slice a3 n3 c3)=W9 at *;obtain ⟨⟨e0,e1⟩,-⟩:=cells2 hX;exact bodyPost_ret (v:=plV a3 n3 c3) (by simp [results,Tryd.results25,go_sem,e0,e1]) rfl ⟨_,_,_,_,rfl,hY,hZ⟩
theorem ends_5 (s:List UInt8) (hsl:s.length≤59) (t:T) (dd:Nat) (hR:RT dd t) (hk:t.kind=5) (ih:∀ u ∈ t.subs,EndsC s u) (bl o:Nat) (r:PR) (ok:Nat→Prop) (w:World) (τ:Nat→Kd) (m:Nat) (a:Option Addr) (n c:Nat) (hI:Inv s w τ) (hP:PtA w τ ok t bl o r) (hm:InT s m) (hm0:m≠0) (hp:PlW w (fun g=>¬ (τ g).mut) m a n c) :
  Calls Tryd.prog 25 #[.pointer (some ⟨bl,o,none⟩),.string ⟨s.toArray⟩,plV a n c] w (Ended s (SizeOf.sizeOf t+1) (rch s (Mat t) m) a τ w):=by
 obtain ⟨u,hs,-,-,-,-⟩:=kind5_one hR hk;have HI:=hid (fun W' τ' hI' hP' hp'=>asked_any s hsl t u dd hR hk hs (ih u (by rw [hs];exact List.mem_cons_self ..)) bl o r ok W' τ' m a n c hI' hP' hm hm0 hp')
 clear ih hs;have hT:=hI.tab;have b1:=(At.new w (plC a n c) 48).alloc (.cells plZ 48);have b2:=At.new (w.alloc (.cells (plC a n c) 48)) plZ 48;rw [show (w.alloc (.cells (plC a n c) 48)).heap.size=w.heap.size+1 from by simp] at b2
 have q:=((Keep.refl (fun _=>False) w).alloc (.cells (plC a n c) 48)).alloc (.cells plZ 48)
 have hev:=(EvN.refl (N:=SizeOf.sizeOf t+1) hI).quiet q;have hn0:∀ b,w.heap.size≤b→τ b=.no:=fun b hb=>(Ev.refl hI).new hb
 have hnone:decide (n=0)=false:=by
  have:=hp.len
  simp
  omega
 have HNN:=hid (fun W=>none_any a n c hnone W)
 obtain ⟨⟨d0,d1⟩,-⟩:=cells2 b1;have H0:=hid (And.intro hT (And.intro hI (And.intro hn0 (And.intro hP (And.intro hp (And.intro hm (And.intro hR (And.intro hk hm0))))))));have HA:=hid (And.intro hev (And.intro b1 b2));clear hT hI hn0 hP hp hm hm0 hev b1 b2 q hnone hR hk
 go_enter Tryd.func25,Tryd.ntmps25
 go_upto_region 1 with fail;generalize ((w.alloc (.cells (plC a n c) 48)).alloc (.cells plZ 48))=WA at *;go_wp2_with fail;refine (HNN.out _).mono ?_;rintro e w1 ⟨rfl,q1⟩;have hev:=HA.out.1.quiet q1;have hF:=HA.out.2.1.keep q1 (fun h=>h)
 have hRz:=HA.out.2.2.keep q1 (fun h=>h)
 have hP1:=H0.out.2.2.2.1.ev H0.out.2.1.lt hev.toEv;obtain ⟨an,cn,hN⟩:=hP1.node;obtain ⟨f0,f1,f2,f3⟩:=hP1.four;obtain ⟨k0,k1,k2,k3,k4,-,-,-⟩:=hN.eight;have hp1:=H0.out.2.2.2.2.1.keep hev.q (fun g hg _=>hg)
 have H1:=hid (And.intro hev (And.intro hF (And.intro hRz (And.intro hP1 hp1))));rw [H0.out.2.2.2.2.2.2.2.1] at k0;clear d0 d1 q1 HA HNN;obtain ⟨⟨d0,d1⟩,-⟩:=cells2 hF;obtain ⟨⟨r0,r1⟩,rf0,rf1⟩:=cells2 hRz;have HC:=hid (HI.out w1 τ hev.inv hP1 hp1);clear f1 f2 f3 hN hP1 hF hRz hev hp1 k1 k2 k3 k4;go_wp2_with fail;refine HC.out.mono ?_;rintro e w5 ⟨a5,n5,c5,τ5,rfl,ev5,p5⟩;have hn1:=H0.out.2.2.1 (w.heap.size+1) (by omega)
 have hR5:=H1.out.2.2.1.keep ev5.q (fun hm=>by rw [hn1] at hm;exact hm)
 have hp5:PlW w5 (OkE w a τ5) _ a5 n5 c5:=p5.mono (fun g hg _=>.inl (by
  have h1:=H1.out.1.q.size
  exact ⟨by omega,hg.2⟩))
 have H5:=hid (And.intro (H1.out.1.trans ev5) (And.intro hR5 (And.intro hp5 ((ev5.ext _ H1.out.2.2.1.lt).trans hn1))));clear d0 d1 r0 r1 rf0 rf1 f0 k0 ev5 p5 hp5;obtain ⟨⟨r0,r1⟩,rf0,rf1⟩:=cells2 hR5;clear hR5 hn1;go_wp2_with fail
 change bodyPost _ _ _ _ _ (put2 w5 (w.heap.size+1) (.int .i64 0) (.slice a5 n5 c5))
 obtain ⟨hX,hY,hZ⟩:=res_endE H0.out.1 H5.out.1 H5.out.2.1 H5.out.2.2.1 H5.out.2.2.2;generalize put2 w5 (w.heap.size+1) (.int .i64 0) (.slice a5 n5 c5)=W9 at *;obtain ⟨⟨e0,e1⟩,-⟩:=cells2 hX;exact bodyPost_ret (v:=plV a5 n5 c5) (by simp [results,Tryd.results25,go_sem,e0,e1]) rfl ⟨_,_,_,_,rfl,hY,hZ⟩
theorem ends_step (s:List UInt8) (hsl:s.length≤59) (t:T) (ih:∀ u ∈ t.subs,EndsC s u):EndsC s t:=by
 intro d hR bl o r ok w τ m a n c hI hP hm hp
 by_cases h0:m=0
 ·subst h0
  cases hp with
  | none=>exact ends_zero s t bl o w τ hI none
  | word _ g _ h0=>exact absurd rfl h0
 ·rcases P08.kinds hR with k | k | k | k | k
  ·exact ends_1 s hsl t d hR k bl o r ok w τ m a n c hI hP hm h0 hp
  ·exact ends_2 s hsl t d hR k bl o r ok w τ m a n c hI hP hm h0 hp
  ·exact ends_3 s hsl t d hR k ih bl o r ok w τ m a n c hI hP hm h0 hp
  ·exact ends_4 s hsl t d hR k ih bl o r ok w τ m a n c hI hP hm h0 hp
  ·exact ends_5 s hsl t d hR k ih bl o r ok w τ m a n c hI hP hm h0 hp
theorem ends_all (s:List UInt8) (hsl:s.length≤59):∀ (n:Nat) (t:T),SizeOf.sizeOf t<n→EndsC s t
 | 0,_,h=>absurd h (Nat.not_lt_zero _)
 | n+1,t,h=>ends_step s hsl t fun u hu=>by
  obtain ⟨i,hi⟩:=List.mem_iff_getElem?.1 hu;exact ends_all s hsl n u (by have:=sub_less hi;omega)
end P11
end Go.Proofs.YthcjfgfbeollpaaDoor
