/- Lists of nodes of the program's own (layer 10): append of a whole slice, a store into one, a new one of noughts. -/
import Derived.Test.YtlmfbchgkjgljaaKF20
import Derived.Laws.OwnMore
namespace Go.Proofs.Ytlmfbchgkjgljaa
namespace P07
open Go.RowKit Base IL Bytes
open Sets (ST)
def Own (n0:Nat) (v:Value):Prop:=∀ g,v.ownBlock=some g→n0≤g
theorem Own.nil (n0:Nat):Own n0 (.slice none 0 0):=fun g hg=>by cases hg
theorem Own.next {n0 n1:Nat} {v v':Value} (h:Own n0 v) (hn:n0≤n1) (hg:∀ g,v'.ownBlock=some g→v.ownBlock=some g∨n1≤g):Own n0 v':=fun g e=>by
 rcases hg g e with h1 | h1
 ·exact h g h1
 ·omega
theorem flatN_get {X:List (T × Option Addr × Nat)} {j:Nat} {u:Value} (h:(flatN X)[j]?=some u):∃ x,X[j / 8]?=some x∧(ncells x.1 x.2.1 x.2.2)[j % 8]?=some u:=by
 have hj:=(List.getElem?_eq_some_iff.1 h).1;rw [flatN_length] at hj;have hi:j / 8<X.length:=by omega
 have hx:X[j / 8]?=some X[j / 8]:=List.getElem?_eq_getElem hi;refine ⟨_,hx,?_⟩;have hs:(ncells X[j / 8].1 X[j / 8].2.1 X[j / 8].2.2).size=8:=rfl;have hv:(ncells X[j / 8].1 X[j / 8].2.1 X[j / 8].2.2)[j % 8]?=some ((ncells X[j / 8].1 X[j / 8].2.1 X[j / 8].2.2)[j % 8]'(by rw [hs];omega)):=Array.getElem?_eq_getElem _
 have:=flatN_at X (j / 8) _ hx (j % 8) _ hv;rw [show j / 8 * 8+j % 8=j from by omega,h] at this
 rw [hv,← this]
theorem flatN_append (X Y:List (T × Option Addr × Nat)):flatN (X++Y)=flatN X++flatN Y:=List.flatMap_append ..
theorem ncells_one {t:T} {a:Option Addr} {c j:Nat} {u:Value} (h:(ncells t a c)[j]?=some u):u.oneCell'=true:=by
 match j with
 | 0=>injection h with h;subst h;rfl
 | 1=>injection h with h;subst h;rfl
 | 2=>injection h with h;subst h;rfl
 | 3=>injection h with h;subst h;rfl
 | 4=>injection h with h;subst h;rfl
 | 5=>injection h with h;subst h;rfl
 | 6=>injection h with h;subst h;rfl
 | 7=>injection h with h;subst h;rfl
 | j+8=>exact absurd (Array.getElem?_eq_some_iff.1 h).1 (by simp)
theorem nadd (bl off j:Nat):(⟨bl,off,none⟩:Addr).add j=⟨bl,off+j,none⟩:=by
 unfold Addr.add
 split
 ·rename_i hz
  rw [hz,Nat.add_zero]
 ·rfl
theorem append_nothing (w:World) (ty:TypeId) (v:Value) (n:Nat) (X:List Value) (h:w.ownsRow 0 27 8 v n X) (a:Option Addr) (c:Nat):(Builtin.append_ #[25,25] ty #[v,.slice a 0 c]).run Try.prog w=.ok v w:=by
 obtain ⟨i0,hi0,hz0,hz1,hz2⟩:=info_parts infoN
 rcases h.2 with ⟨rfl,h0⟩ | ⟨g,cap,cur,rfl,_,_,hnc,_⟩
 ·cases a <;> simp [Builtin.append_,run_underlying (P:=Try.prog) Try.underlying25,sizeOf,typeInfo,hi0,Builtin.lenOf,Builtin.firstCells,loadCells,loadCellsFrom]
 ·cases a <;> simp [Builtin.append_,run_underlying (P:=Try.prog) Try.underlying25,sizeOf,typeInfo,hi0,Builtin.lenOf,Builtin.firstCells,hnc,storeCells,loadCells,loadCellsFrom]
theorem OT.append {w:World} {ok:Nat→Prop} {v:Value} {L:List T} (h:OT w ok v L) (M:List T) (a:Option Addr) (c:Nat) (hl:Lie w (fun k=>ok k∧v.ownBlock≠some k) a M)
  (hlen:(L.length+M.length) * 80≤140737488355328) (hok:∀ g,w.heap.size≤g→ok g) (ty:TypeId) :
  ∃ v' w',(Builtin.append_ #[25,25] ty #[v,.slice a M.length c]).run Try.prog w=.ok v' w'∧OT w' ok v' (L++M)∧Keep (fun b=>v.ownBlock=some b) w w'∧(∀ g,v'.ownBlock=some g→v.ownBlock=some g∨w.heap.size≤g):=by
 obtain ⟨X,⟨h1,h2,h3⟩,rfl⟩:=h
 cases hl with
 | nil a =>
  refine ⟨v,w,append_nothing w ty v _ _ h1 a c,?_,Keep.refl _ w,fun g hg=>.inl hg⟩
  rw [List.append_nil];exact ⟨X,⟨h1,h2,h3⟩,rfl⟩
 | cons bl off M A C hL hb hokb hC hc hs =>
  obtain ⟨Y,hY⟩:∃ Y,Y=M.mapIdx fun i t=>(t,A i,C i):=⟨_,rfl⟩
  have hYl:Y.length=M.length:=by rw [hY,List.length_mapIdx]
  have hYm:Y.map (·.1)=M:=by
   rw [hY]
   apply List.ext_getElem?
   intro i;rw [List.getElem?_map,List.getElem?_mapIdx]
   cases M[i]? <;> rfl
  have hYg:∀ i x,Y[i]?=some x→M[i]?=some x.1∧x.2.1=A i∧x.2.2=C i:=fun i x hx=>by
   rw [hY,List.getElem?_mapIdx] at hx;obtain ⟨t,ht,rfl⟩:=Option.map_eq_some_iff.1 hx;exact ⟨ht,rfl,rfl⟩
  obtain ⟨i0,hi0,hz0,hz1,hz2⟩:=info_parts infoN;rw [List.length_map] at hlen;obtain ⟨v',w',hrun,g2,g3,_,g5⟩:=run_append_own_at (P:=Try.prog) w 0 25 ty 27 i0 (.agg #[.int .i64 0,.int .u64 0,.int .u64 0,.int .u64 0,.int .u64 0,.int .i64 0,.int .i64 0,.slice none 0 0]) 8 80 Try.underlying25 hi0 hz0 hz1 hz2 rfl (by omega) v X.length (flatN X) h1 ⟨bl,off,none⟩ M.length c (flatN Y) (by rw [flatN_length,hYl])
   (fun j u hu=>by
    obtain ⟨x,hx,hu⟩:=flatN_get hu;obtain ⟨e1,e2,e3⟩:=hYg _ x hx;rw [e2,e3] at hu;have:=hc _ _ e1 _ _ hu;rw [nadd];rw [show off+j / 8 * 8+j % 8=off+j from by omega] at this
    exact this)
   (by
    intro u hu;obtain ⟨j,hj⟩:=List.getElem?_of_mem hu;obtain ⟨x,hx,hu⟩:=flatN_get hj
    exact ncells_one hu) (by simp only [maxLen];omega) (by omega) (Nat.zero_le _)
  have q:Keep (fun b=>v.ownBlock=some b) w w':=nkeep_grown g3
  have hbl:∀ g,v'.ownBlock=some g→v.ownBlock=some g∨w.heap.size≤g:=fun g hg=>by
   rcases g5 with g5 | g5
   ·exact .inl (by rw [← g5];exact hg)
   ·rw [g5] at hg
    injection hg with hg;exact .inr (by omega)
  have hlie:∀ {a:Option Addr} {M:List T},Lie w (fun k=>ok k∧v.ownBlock≠some k) a M→Lie w' (fun k=>ok k∧v'.ownBlock≠some k) a M:=fun {a M} h=>by
   refine (h.under.keep q (fun b hb e=>hb.1.2 e)).mono (fun k hk=>⟨hk.1.1,fun e=>?_⟩)
   rcases hbl k e with h | h
   ·exact hk.1.2 h
   ·have:=hk.2
    omega
  refine ⟨v',w',hrun,⟨X++Y,⟨?_,fun g hg=>?_,fun x hx=>?_⟩,by rw [List.map_append,hYm]⟩,q,hbl⟩
  ·rw [List.length_append,hYl,flatN_append]
   exact g2
  ·rcases hbl g hg with h | h
   ·exact h2 g h
   ·exact hok g h
  ·rcases List.mem_append.1 hx with hx | hx
   ·exact ⟨(h3 x hx).1,hlie (h3 x hx).2⟩
   ·obtain ⟨i,hi⟩:=List.mem_iff_getElem?.1 hx
    obtain ⟨e1,e2,e3⟩:=hYg i x hi;rw [e2,e3];exact ⟨hC i _ e1,hlie (hs i _ e1)⟩
theorem OT.sub {w:World} {ok ok':Nat→Prop} {v:Value} {L:List T} (h:OT w ok v L) (hk:∀ k,ok k→ok' k):OT w ok' v L:=by
 obtain ⟨X,⟨h1,h2,h3⟩,h4⟩:=h;exact ⟨X,⟨h1,fun g hg=>hk g (h2 g hg),fun x hx=>⟨(h3 x hx).1,(h3 x hx).2.mono fun k hk1=>⟨hk k hk1.1,hk1.2⟩⟩⟩,h4⟩
def putNd (w:World) (g o:Nat) (t:T) (a:Option Addr) (c:Nat):World :=
 ((((((((w.setCell ⟨g,o,none⟩ (.int .i64 t.kind)).setCell ⟨g,o+1,none⟩ (.int .u64 t.set.x0)).setCell ⟨g,o+2,none⟩ (.int .u64 t.set.x1)).setCell ⟨g,o+3,none⟩ (.int .u64 t.set.x2)).setCell ⟨g,o+4,none⟩ (.int .u64 t.set.x3)).setCell ⟨g,o+5,none⟩ (.int .i64 t.mn)).setCell ⟨g,o+6,none⟩ (.int .i64 t.mx)).setCell ⟨g,o+7,none⟩ (.slice a t.subs.length c))
theorem putNd_keep (w:World) (g o:Nat) (t:T) (a:Option Addr) (c:Nat):Keep (fun b=>b=g) w (putNd w g o t a c) :=
 (((((((((Keep.refl (fun b=>b=g) w).setCell (p:=⟨g,o,none⟩) (fun _=>rfl) _).setCell (p:=⟨g,o+1,none⟩) (fun _=>rfl) _).setCell (p:=⟨g,o+2,none⟩) (fun _=>rfl) _).setCell (p:=⟨g,o+3,none⟩) (fun _=>rfl) _).setCell (p:=⟨g,o+4,none⟩) (fun _=>rfl) _).setCell (p:=⟨g,o+5,none⟩) (fun _=>rfl) _).setCell (p:=⟨g,o+6,none⟩) (fun _=>rfl) _).setCell (p:=⟨g,o+7,none⟩) (fun _=>rfl) _)
theorem putNd_at {w:World} {g o:Nat} {ty:TypeId} {cur:Array Value} (h:At w g ty cur) (ho:o+8≤cur.size) (t:T) (a:Option Addr) (c:Nat) :
  ∃ cur',At (putNd w g o t a c) g ty cur'∧cur'.size=cur.size∧(∀ j,j<o∨o+8≤j→cur'[j]?=cur[j]?)∧∀ j,j<8→cur'[o+j]?=(ncells t a c)[j]?:=by
 have k:=(((((((h.set o (.int .i64 t.kind)).set (o+1) (.int .u64 t.set.x0)).set (o+2) (.int .u64 t.set.x1)).set (o+3) (.int .u64 t.set.x2)).set (o+4) (.int .u64 t.set.x3)).set (o+5) (.int .i64 t.mn)).set (o+6) (.int .i64 t.mx)).set (o+7) (.slice a t.subs.length c);refine ⟨_,k,by simp,fun j hj=>?_,fun j hj=>?_⟩
 ·simp only [Array.getElem?_setIfInBounds,Array.size_setIfInBounds]
  rw [if_neg (by omega),if_neg (by omega),if_neg (by omega),if_neg (by omega),if_neg (by omega),if_neg (by omega),if_neg (by omega),if_neg (by omega)]
 ·simp only [Array.getElem?_setIfInBounds,Array.size_setIfInBounds]
  match j,hj with
  | 0,_=>rw [if_neg (by omega),if_neg (by omega),if_neg (by omega),if_neg (by omega),if_neg (by omega),if_neg (by omega),if_neg (by omega),if_pos (by omega),if_pos (by omega)];rfl
  | 1,_=>rw [if_neg (by omega),if_neg (by omega),if_neg (by omega),if_neg (by omega),if_neg (by omega),if_neg (by omega),if_pos (by omega),if_pos (by omega)];rfl
  | 2,_=>rw [if_neg (by omega),if_neg (by omega),if_neg (by omega),if_neg (by omega),if_neg (by omega),if_pos (by omega),if_pos (by omega)];rfl
  | 3,_=>rw [if_neg (by omega),if_neg (by omega),if_neg (by omega),if_neg (by omega),if_pos (by omega),if_pos (by omega)];rfl
  | 4,_=>rw [if_neg (by omega),if_neg (by omega),if_neg (by omega),if_pos (by omega),if_pos (by omega)];rfl
  | 5,_=>rw [if_neg (by omega),if_neg (by omega),if_pos (by omega),if_pos (by omega)];rfl
  | 6,_=>rw [if_neg (by omega),if_pos (by omega),if_pos (by omega)];rfl
  | 7,_=>rw [if_pos (by omega),if_pos (by omega)];rfl
theorem flatN_set {X:List (T × Option Addr × Nat)} {i:Nat} {x:T × Option Addr × Nat} (hi:i<X.length) {j:Nat}:(flatN (X.set i x))[j]?=if i * 8≤j∧j<i * 8+8 then (ncells x.1 x.2.1 x.2.2)[j - i * 8]? else (flatN X)[j]?:=by
 have hl:(flatN (X.set i x)).length=X.length * 8:=by rw [flatN_length,List.length_set]
 by_cases hj:j<X.length * 8
 ·obtain ⟨u,h1⟩:∃ u,(flatN (X.set i x))[j]?=some u:=⟨_,List.getElem?_eq_getElem (by omega)⟩
  obtain ⟨y,hy,hu⟩:=flatN_get h1;rw [h1]
  split
  ·rename_i h2
   rw [show j / 8=i from by omega,List.getElem?_set_self hi] at hy
   injection hy with hy;rw [show j - i * 8=j % 8 from by omega,hy,hu]
  ·rename_i h2
   rw [List.getElem?_set_ne (by omega)] at hy
   have:=flatN_at X _ y hy _ _ hu;rw [show j / 8 * 8+j % 8=j from by omega] at this
   rw [this]
 ·rw [List.getElem?_eq_none (by omega),if_neg (by omega),List.getElem?_eq_none (by rw [flatN_length];omega)]
theorem rowN_set {w:World} {g cap:Nat} {X:List (T × Option Addr × Nat)} (h:w.ownsRow 0 27 8 (.slice (some ⟨g,0,none⟩) X.length cap) X.length (flatN X)) {i:Nat} (hi:i<X.length) (t:T) (a:Option Addr) (c:Nat) :
  (putNd w g (i * 8) t a c).ownsRow 0 27 8 (.slice (some ⟨g,0,none⟩) X.length cap) X.length (flatN (X.set i (t,a,c))):=by
 rcases h.2 with ⟨e,h0⟩ | ⟨g',cap',cur,e,hb,hg,h5,h6,h7,h8⟩
 ·cases e
 ·have e1:g=g'∧cap=cap':=by
   injection e with e1 e2 e3;injection e1 with e1;injection e1 with e1;exact ⟨e1,e3⟩
  obtain ⟨rfl,rfl⟩:=e1;have ha:At w g 27 cur:=hg;obtain ⟨cur',a1,a2,a3,a4⟩:=putNd_at ha (o:=i * 8) (by omega) t a c
  refine ⟨by rw [flatN_length,List.length_set],.inr ⟨g,cap,cur',rfl,Nat.zero_le _,a1,h5,h6,a2.trans h7,?_⟩⟩
  apply List.ext_getElem?
  intro j;rw [flatN_set hi]
  by_cases hj:j<X.length * 8
  ·rw [List.getElem?_take_of_lt hj]
   have e1:cur'.toList[j]?=cur'[j]?:=by simp
   rw [e1]
   split
   ·rename_i h9
    have:=a4 (j - i * 8) (by omega)
    rw [show i * 8+(j - i * 8)=j from by omega] at this
    exact this
   ·rename_i h9
    rw [a3 j (by omega)]
    have e2:(cur.toList.take (X.length * 8))[j]?=(flatN X)[j]?:=by rw [h8]
    rw [List.getElem?_take_of_lt hj] at e2
    simpa using e2
  ·rw [List.getElem?_eq_none (by rw [List.length_take];omega),if_neg (by omega),List.getElem?_eq_none (by rw [flatN_length];omega)]
theorem OT.set {w:World} {ok:Nat→Prop} {g n cap:Nat} {L:List T} (h:OT w ok (.slice (some ⟨g,0,none⟩) n cap) L) {i:Nat} (hi:i<L.length) (t:T) (a:Option Addr) (c:Nat) (hc:t.subs.length≤c) (hl:Lie w (fun k=>ok k∧k≠g) a t.subs) :
  OT (putNd w g (i * 8) t a c) ok (.slice (some ⟨g,0,none⟩) n cap) (L.set i t):=by
 obtain ⟨X,⟨h1,h2,h3⟩,rfl⟩:=h;rw [List.length_map] at hi;have hn:n=X.length:=by
  rcases h1.2 with ⟨e,h0⟩ | ⟨g',cap',cur,e,-⟩
  ·cases e
  ·injection e
 subst hn;have hown:∀ k,(Value.slice (some ⟨g,0,none⟩) X.length cap).ownBlock=some k↔k=g:=fun k=>by
  show some g=some k↔k=g
  simp [eq_comm]
 have hlie:∀ {a':Option Addr} {M:List T},Lie w (fun k=>ok k∧k≠g) a' M→Lie (putNd w g (i * 8) t a c) (fun k=>ok k∧(Value.slice (some ⟨g,0,none⟩) X.length cap).ownBlock≠some k) a' M:=fun {a' M} h =>
  (h.keep (putNd_keep w g (i * 8) t a c) (fun k hk e=>hk.2 e)).mono fun k hk=>⟨hk.1,fun e=>hk.2 ((hown k).1 e)⟩
 refine ⟨X.set i (t,a,c),⟨?_,h2,fun x hx=>?_⟩,by rw [List.map_set]⟩
 ·rw [List.length_set]
  exact rowN_set h1 hi t a c
 ·rcases List.mem_or_eq_of_mem_set hx with hx | rfl
  ·exact ⟨(h3 x hx).1,hlie ((h3 x hx).2.mono fun k hk=>⟨hk.1,fun e=>hk.2 ((hown k).2 e)⟩)⟩
  ·exact ⟨hc,hlie hl⟩
def zT:T:=.nd 0 ST.none 0 0 []
theorem makeN_cells (n:Nat):(madeCells #[.int .i64 0,.int .u64 0,.int .u64 0,.int .u64 0,.int .u64 0,.int .i64 0,.int .i64 0,.slice none 0 0] (n * 8)).toList=flatN (List.replicate n (zT,none,0)):=by
 apply List.ext_getElem?
 intro j
 by_cases hj:j<n * 8
 ·obtain ⟨u,h1⟩:∃ u,(flatN (List.replicate n (zT,none,0)))[j]?=some u:=⟨_,List.getElem?_eq_getElem (by rw [flatN_length];simpa using hj)⟩
  obtain ⟨y,hy,hu⟩:=flatN_get h1;have:y=(zT,none,0):=List.eq_of_mem_replicate (List.mem_of_getElem? hy);subst this;rw [h1,← hu];unfold madeCells;have h8:j % 8<8:=by omega
  simp only [Array.toList_map,Array.toList_range,List.getElem?_map,List.getElem?_range hj,Option.map_some]
  generalize j % 8=r at h8 ⊢
  match r,h8 with
  | 0,_=>rfl
  | 1,_=>rfl
  | 2,_=>rfl
  | 3,_=>rfl
  | 4,_=>rfl
  | 5,_=>rfl
  | 6,_=>rfl
  | 7,_=>rfl
 ·rw [List.getElem?_eq_none (by rw [Array.length_toList,size_madeCells];omega),List.getElem?_eq_none (by rw [flatN_length];simp;omega)]
end P07
namespace P10
open Go.RowKit Base IL Bytes P07
open Sets (ST)
def SV:Option (Nat × Nat × Nat)→Value
 | none=>.slice none 0 0
 | some (g,n,c)=>.slice (some ⟨g,0,none⟩) n c
def OE (w:World) (E:Nat→Prop) (v:Value) (L:List T):Prop:=∃ X:List (T × Option Addr × Nat),w.ownsRow 0 27 8 v X.length (flatN X)∧(∀ x ∈ X,x.1.subs.length≤x.2.2∧Lie w E x.2.1 x.1.subs)∧X.map (·.1)=L
theorem OE.nil (w:World) (E:Nat→Prop):OE w E (.slice none 0 0) []:=⟨[],⟨rfl,.inl ⟨rfl,rfl⟩⟩,by simp,rfl⟩
theorem OE.shape {w:World} {E:Nat→Prop} {v:Value} {L:List T} (h:OE w E v L):∃ e,v=SV e:=by
 obtain ⟨X,h1,-,-⟩:=h
 rcases h1.2 with ⟨rfl,-⟩ | ⟨g,cap,cur,rfl,-⟩
 ·exact ⟨none,rfl⟩
 ·exact ⟨some (g,X.length,cap),rfl⟩
theorem OE.lt {w:World} {E:Nat→Prop} {v:Value} {L:List T} (h:OE w E v L) {g:Nat} (hg:v.ownBlock=some g):g<w.heap.size:=by
 obtain ⟨X,h1,-,-⟩:=h
 rcases h1.2 with ⟨rfl,-⟩ | ⟨g',cap,cur,rfl,hb,hc,r⟩
 ·cases hg
 ·have:At w g' 27 cur:=hc
  injection hg with hg;rw [← hg];exact this.lt
theorem OE.keep {S:Nat→Prop} {w w':World} {E:Nat→Prop} {v:Value} {L:List T} (h:OE w E v L) (q:Keep S w w') (h1:∀ g,v.ownBlock=some g→¬ S g) (h2:∀ j,E j→¬ S j):OE w' E v L:=by
 obtain ⟨X,k1,k2,k3⟩:=h;refine ⟨X,⟨k1.1,?_⟩,fun x hx=>⟨(k2 x hx).1,(k2 x hx).2.keep q h2⟩,k3⟩
 rcases k1.2 with h | ⟨g,cap,cur,rfl,hb,hg,r⟩
 ·exact .inl h
 ·refine .inr ⟨g,cap,cur,rfl,hb,?_,r⟩
  have:At w g 27 cur:=hg;exact this.keep q (h1 g rfl)
theorem OE.form {w:World} {E:Nat→Prop} {v:Value} {L:List T} (h:OE w E v L):∃ a cap,v=.slice a L.length cap∧L.length≤cap∧Lie w (fun _=>True) a L:=by
 obtain ⟨X,k1,k2,k3⟩:=h
 rcases k1.2 with ⟨rfl,h0⟩ | ⟨g,cap,cur,rfl,_,hg,h5,h6,h7,h8⟩
 ·have e:X=[]:=List.eq_nil_of_length_eq_zero h0
  subst e;subst k3;exact ⟨none,0,rfl,Nat.zero_le _,.nil _⟩
 ·have ha:At w g 27 cur:=hg
  subst k3;refine ⟨_,cap,by rw [List.length_map],by rw [List.length_map];exact h5,.cons g 0 _ (fun i=>(X[i]?.map (·.2.1)).getD none) (fun i=>(X[i]?.map (·.2.2)).getD 0) (by rw [List.length_map];unfold maxLen at h6;omega) ha.lt trivial (fun i t ht=>?_) (fun i t ht j v hv=>?_) (fun i t ht=>?_)⟩
  ·rw [List.getElem?_map] at ht
   obtain ⟨x,hx,rfl⟩:=Option.map_eq_some_iff.1 ht
   simp only [hx,Option.map_some,Option.getD_some]
   exact (k2 x (List.mem_of_getElem? hx)).1
  ·rw [List.getElem?_map] at ht
   obtain ⟨x,hx,rfl⟩:=Option.map_eq_some_iff.1 ht
   simp only [hx,Option.map_some,Option.getD_some] at hv
   have hj:j<8:=(Array.getElem?_eq_some_iff.1 hv).1;have hi:i<X.length:=(List.getElem?_eq_some_iff.1 hx).1;refine ha.cell ?_;have h9:=flatN_at X i x hx j v hv;have h10:(cur.toList.take (X.length * 8))[i * 8+j]?=(flatN X)[i * 8+j]?:=by rw [h8]
   rw [List.getElem?_take_of_lt (by omega),h9] at h10
   rw [Nat.zero_add]
   simpa using h10
  ·rw [List.getElem?_map] at ht
   obtain ⟨x,hx,rfl⟩:=Option.map_eq_some_iff.1 ht
   simp only [hx,Option.map_some,Option.getD_some]
   exact (k2 x (List.mem_of_getElem? hx)).2.mono (fun _ _=>trivial)
theorem OE.push {w:World} {E:Nat→Prop} {v:Value} {L:List T} (h:OE w E v L) (h0:∀ g,v.ownBlock=some g→¬ E g) (t:T) (a:Option Addr) (c:Nat) (hc:t.subs.length≤c) (hl:Lie w E a t.subs) (hlen:(L.length+1) * 80≤140737488355328) (ty:TypeId) :
  ∃ v' w',(Builtin.append_ #[25,25] ty #[v,.slice (some ⟨w.heap.size,0,none⟩) 1 1]).run Try.prog (w.alloc (.cells (ncells t a c) 27))=.ok v' w'∧OE w' E v' (L++[t])∧Keep (fun b=>v.ownBlock=some b) w w'∧(∀ g,v'.ownBlock=some g→v.ownBlock=some g∨w.heap.size≤g):=by
 obtain ⟨X,h1,h3,rfl⟩:=h;have qa:=(Keep.refl (fun _=>False) w).alloc (.cells (ncells t a c) 27)
 have ha:=At.new w (ncells t a c) 27;have hown:(w.alloc (.cells (ncells t a c) 27)).ownsRow 0 27 8 v X.length (flatN X):=by
  refine ⟨h1.1,?_⟩
  rcases h1.2 with h | ⟨g,cap,cur,rfl,hb,hg,r⟩
  ·exact .inl h
  ·refine .inr ⟨g,cap,cur,rfl,hb,?_,r⟩
   have:At w g 27 cur:=hg;exact this.keep qa (fun h=>h)
 obtain ⟨i0,hi0,hz0,hz1,hz2⟩:=info_parts infoN;rw [List.length_map] at hlen;obtain ⟨v',w',hrun,g2,g3,_,g5⟩:=run_append_own_at (P:=Try.prog) (w.alloc (.cells (ncells t a c) 27)) 0 25 ty 27 i0 (.agg #[.int .i64 0,.int .u64 0,.int .u64 0,.int .u64 0,.int .u64 0,.int .i64 0,.int .i64 0,.slice none 0 0]) 8 80 Try.underlying25 hi0 hz0 hz1 hz2 rfl (by omega) v X.length (flatN X) hown ⟨w.heap.size,0,none⟩ 1 1 (ncells t a c).toList rfl
  (fun j u hu=>by
   have:=ha.cell (o:=j) (v:=u) (by simpa using hu)
   rw [nadd,Nat.zero_add]
   exact this)
  (by intro u hu;simp at hu;rcases hu with rfl | rfl | rfl | rfl | rfl | rfl | rfl | rfl <;> rfl) (by simp only [maxLen];omega) (by omega) (Nat.zero_le _)
 have q:Keep (fun b=>v.ownBlock=some b) w w':=(qa.mono (fun _ h=>h.elim)).trans (nkeep_grown g3)
 have hbl:∀ g,v'.ownBlock=some g→v.ownBlock=some g∨w.heap.size≤g:=fun g hg=>by
  rcases g5 with g5 | g5
  ·exact .inl (by rw [← g5];exact hg)
  ·rw [g5] at hg
   injection hg with hg
   simp at hg
   exact .inr (by omega)
 have hlie:∀ {a:Option Addr} {M:List T},Lie w E a M→Lie w' E a M:=fun {a M} h=>h.keep q (fun b hb e=>h0 b e hb)
 refine ⟨v',w',hrun,⟨X++[(t,a,c)],?_,fun x hx=>?_,by simp⟩,q,hbl⟩
 ·rw [List.length_append]
  have e:flatN (X++[(t,a,c)])=flatN X++(ncells t a c).toList:=by
   unfold flatN;rw [List.flatMap_append]
   simp
  rw [e];exact g2
 ·rcases List.mem_append.1 hx with hx | hx
  ·exact ⟨(h3 x hx).1,hlie (h3 x hx).2⟩
  ·rw [List.mem_singleton.1 hx]
   exact ⟨hc,hlie hl⟩
theorem OE.sub {w:World} {E E':Nat→Prop} {v:Value} {L:List T} (h:OE w E v L) (hk:∀ j,E j→E' j):OE w E' v L:=by
 obtain ⟨X,k1,k2,k3⟩:=h;exact ⟨X,k1,fun x hx=>⟨(k2 x hx).1,(k2 x hx).2.mono hk⟩,k3⟩
theorem OE.lie {w:World} {E:Nat→Prop} {v:Value} {L:List T} (h:OE w E v L) {n0:Nat} (ho:Own n0 v):∃ a cap,v=.slice a L.length cap∧L.length≤cap∧Lie w (fun j=>E j∨n0≤j) a L:=by
 obtain ⟨X,k1,k2,k3⟩:=h
 rcases k1.2 with ⟨rfl,h0⟩ | ⟨g,cap,cur,rfl,_,hg,h5,h6,h7,h8⟩
 ·have e:X=[]:=List.eq_nil_of_length_eq_zero h0
  subst e;subst k3;exact ⟨none,0,rfl,Nat.zero_le _,.nil _⟩
 ·have ha:At w g 27 cur:=hg
  subst k3;refine ⟨_,cap,by rw [List.length_map],by rw [List.length_map];exact h5,.cons g 0 _ (fun i=>(X[i]?.map (·.2.1)).getD none) (fun i=>(X[i]?.map (·.2.2)).getD 0) (by rw [List.length_map];unfold maxLen at h6;omega) ha.lt (.inr (ho g rfl)) (fun i t ht=>?_) (fun i t ht j v hv=>?_) (fun i t ht=>?_)⟩
  ·rw [List.getElem?_map] at ht
   obtain ⟨x,hx,rfl⟩:=Option.map_eq_some_iff.1 ht
   simp only [hx,Option.map_some,Option.getD_some]
   exact (k2 x (List.mem_of_getElem? hx)).1
  ·rw [List.getElem?_map] at ht
   obtain ⟨x,hx,rfl⟩:=Option.map_eq_some_iff.1 ht
   simp only [hx,Option.map_some,Option.getD_some] at hv
   have hj:j<8:=(Array.getElem?_eq_some_iff.1 hv).1;have hi:i<X.length:=(List.getElem?_eq_some_iff.1 hx).1;refine ha.cell ?_;have h9:=flatN_at X i x hx j v hv;have h10:(cur.toList.take (X.length * 8))[i * 8+j]?=(flatN X)[i * 8+j]?:=by rw [h8]
   rw [List.getElem?_take_of_lt (by omega),h9] at h10
   rw [Nat.zero_add]
   simpa using h10
  ·rw [List.getElem?_map] at ht
   obtain ⟨x,hx,rfl⟩:=Option.map_eq_some_iff.1 ht
   simp only [hx,Option.map_some,Option.getD_some]
   exact (k2 x (List.mem_of_getElem? hx)).2.mono (fun _ h=>.inl h)
theorem OE.get {w:World} {E:Nat→Prop} {v:Value} {L:List T} (h:OE w E v L) {i:Nat} {t:T} (ht:L[i]?=some t) :
  ∃ g cap a c,v=.slice (some ⟨g,0,none⟩) L.length cap∧L.length≤9223372036854775807∧g<w.heap.size∧t.subs.length≤c∧Lie w E a t.subs∧(∀ j u,(ncells t a c)[j]?=some u→w.cell? ⟨g,i * 8+j,none⟩=some u)∧∀ j,w.frozen? ⟨g,j,none⟩=false:=by
 obtain ⟨X,k1,k2,rfl⟩:=h;rw [List.getElem?_map] at ht;obtain ⟨x,hx,rfl⟩:=Option.map_eq_some_iff.1 ht;have hi:i<X.length:=(List.getElem?_eq_some_iff.1 hx).1
 rcases k1.2 with ⟨rfl,h0⟩ | ⟨g,cap,cur,rfl,_,hg,h5,h6,h7,h8⟩
 ·omega
 ·have ha:At w g 27 cur:=hg
  refine ⟨g,cap,x.2.1,x.2.2,by rw [List.length_map],by rw [List.length_map];unfold maxLen at h6;omega,ha.lt,(k2 x (List.mem_of_getElem? hx)).1,(k2 x (List.mem_of_getElem? hx)).2,fun j u hu=>?_,fun j=>ha.frozen j⟩
  have hj:j<8:=(Array.getElem?_eq_some_iff.1 hu).1;have h9:=flatN_at X i x hx j u hu;have h10:(cur.toList.take (X.length * 8))[i * 8+j]?=(flatN X)[i * 8+j]?:=by rw [h8]
  rw [List.getElem?_take_of_lt (by omega),h9] at h10
  exact ha.cell (by simpa using h10)
theorem OE.append {w:World} {E:Nat→Prop} {v:Value} {L:List T} (h:OE w E v L) (h0:∀ g,v.ownBlock=some g→¬ E g) (M:List T) (a:Option Addr) (c:Nat) (hl:Lie w E a M) (hlen:(L.length+M.length) * 80≤140737488355328) (ty:TypeId) :
  ∃ v' w',(Builtin.append_ #[25,25] ty #[v,.slice a M.length c]).run Try.prog w=.ok v' w'∧OE w' E v' (L++M)∧Keep (fun b=>v.ownBlock=some b) w w'∧(∀ g,v'.ownBlock=some g→v.ownBlock=some g∨w.heap.size≤g):=by
 obtain ⟨X,h1,h3,rfl⟩:=h
 cases hl with
 | nil a =>
  refine ⟨v,w,append_nothing w ty v _ _ h1 a c,?_,Keep.refl _ w,fun g hg=>.inl hg⟩
  rw [List.append_nil];exact ⟨X,h1,h3,rfl⟩
 | cons bl off M A C hL hb hokb hC hc hs =>
  obtain ⟨Y,hY⟩:∃ Y,Y=M.mapIdx fun i t=>(t,A i,C i):=⟨_,rfl⟩
  have hYl:Y.length=M.length:=by rw [hY,List.length_mapIdx]
  have hYm:Y.map (·.1)=M:=by
   rw [hY]
   apply List.ext_getElem?
   intro i;rw [List.getElem?_map,List.getElem?_mapIdx]
   cases M[i]? <;> rfl
  have hYg:∀ i x,Y[i]?=some x→M[i]?=some x.1∧x.2.1=A i∧x.2.2=C i:=fun i x hx=>by
   rw [hY,List.getElem?_mapIdx] at hx;obtain ⟨t,ht,rfl⟩:=Option.map_eq_some_iff.1 hx;exact ⟨ht,rfl,rfl⟩
  obtain ⟨i0,hi0,hz0,hz1,hz2⟩:=info_parts infoN;rw [List.length_map] at hlen;obtain ⟨v',w',hrun,g2,g3,_,g5⟩:=run_append_own_at (P:=Try.prog) w 0 25 ty 27 i0 (.agg #[.int .i64 0,.int .u64 0,.int .u64 0,.int .u64 0,.int .u64 0,.int .i64 0,.int .i64 0,.slice none 0 0]) 8 80 Try.underlying25 hi0 hz0 hz1 hz2 rfl (by omega) v X.length (flatN X) h1 ⟨bl,off,none⟩ M.length c (flatN Y) (by rw [flatN_length,hYl])
   (fun j u hu=>by
    obtain ⟨x,hx,hu⟩:=flatN_get hu;obtain ⟨e1,e2,e3⟩:=hYg _ x hx;rw [e2,e3] at hu;have:=hc _ _ e1 _ _ hu;rw [nadd];rw [show off+j / 8 * 8+j % 8=off+j from by omega] at this
    exact this)
   (by
    intro u hu;obtain ⟨j,hj⟩:=List.getElem?_of_mem hu;obtain ⟨x,hx,hu⟩:=flatN_get hj
    exact ncells_one hu) (by simp only [maxLen];omega) (by omega) (Nat.zero_le _)
  have q:Keep (fun b=>v.ownBlock=some b) w w':=nkeep_grown g3
  have hbl:∀ g,v'.ownBlock=some g→v.ownBlock=some g∨w.heap.size≤g:=fun g hg=>by
   rcases g5 with g5 | g5
   ·exact .inl (by rw [← g5];exact hg)
   ·rw [g5] at hg
    injection hg with hg;exact .inr (by omega)
  have hlie:∀ {a:Option Addr} {M:List T},Lie w E a M→Lie w' E a M:=fun {a M} h=>h.keep q (fun b hb e=>h0 b e hb)
  refine ⟨v',w',hrun,⟨X++Y,?_,fun x hx=>?_,by rw [List.map_append,hYm]⟩,q,hbl⟩
  ·rw [List.length_append,hYl,flatN_append]
   exact g2
  ·rcases List.mem_append.1 hx with hx | hx
   ·exact ⟨(h3 x hx).1,hlie (h3 x hx).2⟩
   ·obtain ⟨i,hi⟩:=List.mem_iff_getElem?.1 hx
    obtain ⟨e1,e2,e3⟩:=hYg i x hi;rw [e2,e3];exact ⟨hC i _ e1,hlie (hs i _ e1)⟩
def putS (w:World) (g o:Nat) (s:ST):World :=
 (((w.setCell ⟨g,o+1,none⟩ (.int .u64 s.x0)).setCell ⟨g,o+2,none⟩ (.int .u64 s.x1)).setCell ⟨g,o+3,none⟩ (.int .u64 s.x2)).setCell ⟨g,o+4,none⟩ (.int .u64 s.x3)
theorem putS_keep (w:World) (g o:Nat) (s:ST):Keep (fun b=>b=g) w (putS w g o s) :=
 ((((Keep.refl (fun b=>b=g) w).setCell (p:=⟨g,o+1,none⟩) (fun _=>rfl) _).setCell (p:=⟨g,o+2,none⟩) (fun _=>rfl) _).setCell (p:=⟨g,o+3,none⟩) (fun _=>rfl) _).setCell (p:=⟨g,o+4,none⟩) (fun _=>rfl) _
theorem OE.setS {w:World} {E:Nat→Prop} {g n cap:Nat} {L:List T} (h:OE w E (.slice (some ⟨g,0,none⟩) n cap) L) (hE:¬ E g) {i:Nat} {k:Int} {s:ST} {mn mx:Int} {l:List T} (hi:L[i]?=some (.nd k s mn mx l)) (s':ST) :
  OE (putS w g (i * 8) s') E (.slice (some ⟨g,0,none⟩) n cap) (L.set i (.nd k s' mn mx l)):=by
 obtain ⟨X,h1,h3,rfl⟩:=h;rw [List.getElem?_map] at hi;obtain ⟨x,hx,hxe⟩:=Option.map_eq_some_iff.1 hi;have hil:i<X.length:=(List.getElem?_eq_some_iff.1 hx).1;have q:=putS_keep w g (i * 8) s';have hlie:∀ {a:Option Addr} {M:List T},Lie w E a M→Lie (putS w g (i * 8) s') E a M:=fun {a M} h=>h.keep q (fun b hb e=>hE (by rw [← e];exact hb))
 refine ⟨X.set i (.nd k s' mn mx l,x.2.1,x.2.2),?_,fun y hy=>?_,by rw [List.map_set]⟩
 ·rw [List.length_set]
  refine ⟨by rw [flatN_length,List.length_set],?_⟩
  rcases h1.2 with ⟨e,h0⟩ | ⟨g',cap',cur,e,hb,hg,h5,h6,h7,h8⟩
  ·cases e
  ·have e1:g=g'∧n=X.length∧cap=cap':=by
    injection e with e1 e2 e3;injection e1 with e1;injection e1 with e1;exact ⟨e1,e2,e3⟩
   obtain ⟨rfl,rfl,rfl⟩:=e1;have ha:At w g 27 cur:=hg;have k:=(((ha.set (i * 8+1) (.int .u64 s'.x0)).set (i * 8+2) (.int .u64 s'.x1)).set (i * 8+3) (.int .u64 s'.x2)).set (i * 8+4) (.int .u64 s'.x3);refine .inr ⟨g,cap,_,rfl,Nat.zero_le _,k,h5,h6,by simpa using h7,?_⟩
   apply List.ext_getElem?
   intro j;rw [flatN_set hil]
   by_cases hj:j<X.length * 8
   ·rw [List.getElem?_take_of_lt hj,Array.getElem?_toList]
    simp only [Array.getElem?_setIfInBounds,Array.size_setIfInBounds]
    have e2:(cur.toList.take (X.length * 8))[j]?=(flatN X)[j]?:=by rw [h8]
    rw [List.getElem?_take_of_lt hj,Array.getElem?_toList] at e2;have hw:∀ r v,(ncells x.1 x.2.1 x.2.2)[r]?=some v→(flatN X)[i * 8+r]?=some v:=fun r v hv=>flatN_at X i x hx r v hv
    rw [hxe] at hw
    split
    ·rename_i h9
     rw [if_pos (by omega),if_pos (by omega),show j - i * 8=4 from by omega]
     rfl
    ·split
     ·rename_i h9
      rw [if_pos (by omega),if_pos (by omega),show j - i * 8=3 from by omega]
      rfl
     ·split
      ·rename_i h9
       rw [if_pos (by omega),if_pos (by omega),show j - i * 8=2 from by omega]
       rfl
      ·split
       ·rename_i h9
        rw [if_pos (by omega),if_pos (by omega),show j - i * 8=1 from by omega]
        rfl
       ·rw [e2]
        split
        ·rename_i h9
         have hr:j - i * 8=0∨j - i * 8=5∨j - i * 8=6∨j - i * 8=7:=by omega
         rcases hr with hr | hr | hr | hr
         ·have:=hw 0 _ rfl
          rw [show j=i * 8+0 from by omega,this]
          simp
          rfl
         ·have:=hw 5 _ rfl
          rw [show j=i * 8+5 from by omega,this]
          simp
          rfl
         ·have:=hw 6 _ rfl
          rw [show j=i * 8+6 from by omega,this]
          simp
          rfl
         ·have:=hw 7 _ rfl
          rw [show j=i * 8+7 from by omega,this]
          simp
          rfl
        ·rfl
   ·rw [List.getElem?_eq_none (by rw [List.length_take];omega),if_neg (by omega),List.getElem?_eq_none (by rw [flatN_length];omega)]
 ·rcases List.mem_or_eq_of_mem_set hy with hy | rfl
  ·exact ⟨(h3 y hy).1,hlie (h3 y hy).2⟩
  ·have:=h3 x (List.mem_of_getElem? hx)
   rw [hxe] at this;exact ⟨this.1,hlie this.2⟩
end P10
end Go.Proofs.Ytlmfbchgkjgljaa
