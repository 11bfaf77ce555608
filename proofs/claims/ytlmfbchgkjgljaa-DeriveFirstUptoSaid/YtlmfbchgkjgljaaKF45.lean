/- What a course has met, in memory (layer 12): a slice of states of the program's own; the course's block. -/
import Derived.Test.YtlmfbchgkjgljaaKF39
import Derived.Test.YtlmfbchgkjgljaaKF36
import Derived.Test.YtlmfbchgkjgljaaKF21
import Derived.Test.YtlmfbchgkjgljaaKF23
import Derived.StringKeys
import Derived.MapViews
namespace Go.Proofs.Ytlmfbchgkjgljaa
namespace P12
open Go.RowKit Go.Maps Base Bytes P07 P08 P09 P10
open Sets (ST)
@[reducible] def scells (t:T) (a:Option Addr) (c:Nat):Array Value:=#[.int .i64 t.kind,.int .u64 t.set.x0,.int .u64 t.set.x1,.int .u64 t.set.x2,.int .u64 t.set.x3,.int .i64 t.mn,.int .i64 t.mx,.slice a t.subs.length c,.bool (nullB t)]
theorem infoS:(Try.prog.info? 59).map (fun i=>(i.zero,i.size,i.bytes))=some (some (.agg #[.int .i64 0,.int .u64 0,.int .u64 0,.int .u64 0,.int .u64 0,.int .i64 0,.int .i64 0,.slice none 0 0,.bool false]),9,88):=by kernel_rfl
@[reducible] def flatS (X:List (T × Option Addr × Nat)):List Value:=X.flatMap fun x=>(scells x.1 x.2.1 x.2.2).toList
theorem flatS_at:∀ (X:List (T × Option Addr × Nat)) (i:Nat) (x:T × Option Addr × Nat),X[i]?=some x→∀ j v,(scells x.1 x.2.1 x.2.2)[j]?=some v→(flatS X)[i * 9+j]?=some v
 | [],i,x,h,_,_,_=>by simp at h
 | y::X,0,x,h,j,v,hv=>by
  simp at h
  subst h;have e:flatS (y::X)=(scells y.1 y.2.1 y.2.2).toList++flatS X:=rfl;have hj:j<9:=(Array.getElem?_eq_some_iff.1 hv).1;rw [e,Nat.zero_mul,Nat.zero_add,List.getElem?_append_left (by simpa using hj)]
  simpa using hv
 | y::X,i+1,x,h,j,v,hv=>by
  have ih:=flatS_at X i x (by simpa using h) j v hv
  have e:flatS (y::X)=(scells y.1 y.2.1 y.2.2).toList++flatS X:=rfl;rw [e,List.getElem?_append_right (by simp;omega),← ih]
  congr 1
  simp
  omega
def OSX (w:World) (ok:Nat→Prop) (v:Value) (X:List (T × Option Addr × Nat)):Prop :=
 w.ownsRow 0 59 9 v X.length (flatS X)∧(∀ g,v.ownBlock=some g→ok g)∧∀ x ∈ X,x.1.subs.length≤x.2.2∧Lie w (fun k=>ok k∧v.ownBlock≠some k) x.2.1 x.1.subs
def OS (w:World) (ok:Nat→Prop) (v:Value) (L:List T):Prop:=∃ X,OSX w ok v X∧X.map (·.1)=L
theorem OS.nil (w:World) (ok:Nat→Prop):OS w ok (.slice none 0 0) []:=⟨[],⟨⟨rfl,.inl ⟨rfl,rfl⟩⟩,fun g hg=>(by cases hg),by simp⟩,rfl⟩
theorem OS.keep {S:Nat→Prop} {w w':World} {ok:Nat→Prop} {v:Value} {L:List T} (h:OS w ok v L) (q:Keep S w w') (hS:∀ b,ok b→¬ S b):OS w' ok v L:=by
 obtain ⟨X,⟨h1,h2,h3⟩,h4⟩:=h;refine ⟨X,⟨⟨h1.1,?_⟩,h2,fun x hx=>⟨(h3 x hx).1,(h3 x hx).2.keep q (fun b hb=>hS b hb.1)⟩⟩,h4⟩
 rcases h1.2 with h | ⟨g,cap,cur,rfl,hb,hg,r⟩
 ·exact .inl h
 ·refine .inr ⟨g,cap,cur,rfl,hb,?_,r⟩
  have:At w g 59 cur:=hg;exact this.keep q (hS g (h2 g rfl))
theorem OS.keepF {w w':World} {ok:Nat→Prop} {v:Value} {L:List T} (h:OS w ok v L) (q:Keep (fun _=>False) w w'):OS w' ok v L:=h.keep q (fun _ _ h=>h)
theorem OS.lt {w:World} {ok:Nat→Prop} {v:Value} {L:List T} (h:OS w ok v L) {g:Nat} (hg:v.ownBlock=some g):g<w.heap.size:=by
 obtain ⟨X,⟨h1,h2,h3⟩,rfl⟩:=h
 rcases h1.2 with ⟨rfl,_⟩ | ⟨g',cap,cur,rfl,_,h5,_⟩
 ·cases hg
 ·cases hg
  exact (Array.getElem?_eq_some_iff.1 h5).1
theorem OS.form {w:World} {ok:Nat→Prop} {v:Value} {L:List T} (h:OS w ok v L):∃ a cap,v=.slice a L.length cap∧L.length≤cap:=by
 obtain ⟨X,⟨h1,h2,h3⟩,rfl⟩:=h
 rcases h1.2 with ⟨rfl,h0⟩ | ⟨g,cap,cur,rfl,_,hg,h5,h6,h7,h8⟩
 ·have e:X=[]:=List.eq_nil_of_length_eq_zero h0
  subst e;exact ⟨none,0,rfl,Nat.zero_le _⟩
 ·exact ⟨_,cap,by rw [List.length_map],by rw [List.length_map];exact h5⟩
theorem OS.get {w:World} {ok:Nat→Prop} {v:Value} {L:List T} (h:OS w ok v L) {i:Nat} {t:T} (ht:L[i]?=some t) :
  ∃ g cap a c,v=.slice (some ⟨g,0,none⟩) L.length cap∧ok g∧NodeP w g (i * 9) t a c∧w.cell? ⟨g,i * 9+8,none⟩=some (.bool (nullB t))∧t.subs.length≤c∧Lie w (fun k=>ok k∧v.ownBlock≠some k) a t.subs:=by
 obtain ⟨X,⟨h1,h2,h3⟩,rfl⟩:=h;rw [List.getElem?_map] at ht;obtain ⟨x,hx,rfl⟩:=Option.map_eq_some_iff.1 ht
 rcases h1.2 with ⟨rfl,h0⟩ | ⟨g,cap,cur,rfl,_,hg,h5,h6,h7,h8⟩
 ·rw [List.eq_nil_of_length_eq_zero h0] at hx
  simp at hx
 ·have ha:At w g 59 cur:=hg
  have hi:i<X.length:=(List.getElem?_eq_some_iff.1 hx).1;have hc:∀ j v,(scells x.1 x.2.1 x.2.2)[j]?=some v→w.cell? ⟨g,i * 9+j,none⟩=some v:=fun j v hv=>by
   have hj:j<9:=(Array.getElem?_eq_some_iff.1 hv).1;refine ha.cell ?_;have h9:=flatS_at X i x hx j v hv;have h10:(cur.toList.take (X.length * 9))[i * 9+j]?=(flatS X)[i * 9+j]?:=by rw [h8]
   rw [List.getElem?_take_of_lt (by omega),h9] at h10
   simpa using h10
  refine ⟨g,cap,x.2.1,x.2.2,by rw [List.length_map],h2 g rfl,⟨ha.lt,fun j v hv=>hc j v ?_⟩,hc 8 _ rfl,(h3 x (List.mem_of_getElem? hx)).1,(h3 x (List.mem_of_getElem? hx)).2⟩
  have hj:j<8:=(Array.getElem?_eq_some_iff.1 hv).1
  match j,hj with
  | 0,_=>exact hv
  | 1,_=>exact hv
  | 2,_=>exact hv
  | 3,_=>exact hv
  | 4,_=>exact hv
  | 5,_=>exact hv
  | 6,_=>exact hv
  | 7,_=>exact hv
theorem OS.push {w:World} {ok:Nat→Prop} {v:Value} {L:List T} (h:OS w ok v L) (t:T) (a:Option Addr) (c:Nat) (hc:t.subs.length≤c) (hl:Lie w (fun k=>ok k∧v.ownBlock≠some k) a t.subs)
  (hlen:(L.length+1) * 88≤140737488355328) (hok:∀ g,w.heap.size≤g→ok g) (ty:TypeId) :
  ∃ v' w',(Builtin.append_ #[74,74] ty #[v,.slice (some ⟨w.heap.size,0,none⟩) 1 1]).run Try.prog (w.alloc (.cells (scells t a c) 59))=.ok v' w'∧OS w' ok v' (L++[t])∧Keep (fun b=>v.ownBlock=some b) w w'∧(∀ g,v'.ownBlock=some g→v.ownBlock=some g∨w.heap.size≤g):=by
 obtain ⟨X,⟨h1,h2,h3⟩,rfl⟩:=h;have qa:=(Keep.refl (fun _=>False) w).alloc (.cells (scells t a c) 59)
 have ha:=At.new w (scells t a c) 59;have hown:(w.alloc (.cells (scells t a c) 59)).ownsRow 0 59 9 v X.length (flatS X):=by
  refine ⟨h1.1,?_⟩
  rcases h1.2 with h | ⟨g,cap,cur,rfl,hb,hg,r⟩
  ·exact .inl h
  ·refine .inr ⟨g,cap,cur,rfl,hb,?_,r⟩
   have:At w g 59 cur:=hg;exact this.keep qa (fun h=>h)
 obtain ⟨i0,hi0,hz0,hz1,hz2⟩:=info_parts infoS;rw [List.length_map] at hlen;obtain ⟨v',w',hrun,g2,g3,_,g5⟩:=run_append_own_at (P:=Try.prog) (w.alloc (.cells (scells t a c) 59)) 0 74 ty 59 i0 (.agg #[.int .i64 0,.int .u64 0,.int .u64 0,.int .u64 0,.int .u64 0,.int .i64 0,.int .i64 0,.slice none 0 0,.bool false]) 9 88 Try.underlying74 hi0 hz0 hz1 hz2 rfl (by omega) v X.length (flatS X) hown ⟨w.heap.size,0,none⟩ 1 1 (scells t a c).toList rfl
  (fun j u hu=>by
   have:=ha.cell (o:=j) (v:=u) (by simpa using hu)
   have e:(⟨w.heap.size,0,none⟩:Addr).add j=⟨w.heap.size,j,none⟩:=by
    unfold Addr.add
    split
    ·rename_i hz
     rw [hz]
    ·simp
   rw [e]
   exact this)
  (by intro u hu;simp at hu;rcases hu with rfl | rfl | rfl | rfl | rfl | rfl | rfl | rfl | rfl <;> rfl) (by simp only [maxLen];omega) (by omega) (Nat.zero_le _)
 have q:Keep (fun b=>v.ownBlock=some b) w w':=(qa.mono (fun _ h=>h.elim)).trans (nkeep_grown g3)
 have hbl:∀ g,v'.ownBlock=some g→v.ownBlock=some g∨w.heap.size≤g:=fun g hg=>by
  rcases g5 with g5 | g5
  ·exact .inl (by rw [← g5];exact hg)
  ·rw [g5] at hg
   injection hg with hg
   simp at hg
   exact .inr (by omega)
 have hlie:∀ {a:Option Addr} {M:List T},Lie w (fun k=>ok k∧v.ownBlock≠some k) a M→Lie w' (fun k=>ok k∧v'.ownBlock≠some k) a M:=fun {a M} h=>by
  have h1:Lie w (fun k=>(ok k∧v.ownBlock≠some k)∧k<w.heap.size) a M:=by
   induction h with
   | nil a=>exact .nil a
   | cons bl off L A C hL hb hok hC hc _ ih=>exact .cons bl off L A C hL hb ⟨hok,hb⟩ hC hc ih
  refine (h1.keep q (fun b hb e=>hb.1.2 e)).mono (fun k hk=>⟨hk.1.1,fun e=>?_⟩)
  rcases hbl k e with h | h
  ·exact hk.1.2 h
  ·have:=hk.2
   omega
 refine ⟨v',w',hrun,⟨X++[(t,a,c)],⟨?_,fun g hg=>?_,fun x hx=>?_⟩,by simp⟩,q,hbl⟩
 ·rw [List.length_append]
  have e:flatS (X++[(t,a,c)])=flatS X++(scells t a c).toList:=by
   unfold flatS;rw [List.flatMap_append]
   simp
  rw [e];exact g2
 ·rcases hbl g hg with h | h
  ·exact h2 g h
  ·exact hok g h
 ·rcases List.mem_append.1 hx with hx | hx
  ·exact ⟨(h3 x hx).1,hlie (h3 x hx).2⟩
  ·rw [List.mem_singleton.1 hx]
   exact ⟨hc,hlie hl⟩
def RK (L:List T) (v:Value) (c:Int):Prop:=∀ s:List UInt8,v=str s→∃ (j:Nat) (t:T),c=(j:Int)∧L[j]?=some t∧s=keyT t
def RE (L:List T) (v:Value) (c:Int):Prop:=∀ f b:Nat,v=.agg #[.int .i64 f,.int .u8 b]→∃ (j:Nat) (t:T),L[f]?=some t∧c=(j:Int)∧L[j]?=some (byT b t)
theorem get_app {L M:List T} {i:Nat} {t:T} (h:L[i]?=some t):(L++M)[i]?=some t:=by
 rw [List.getElem?_append_left (List.getElem?_eq_some_iff.1 h).1];exact h
theorem RK.app {L:List T} (M:List T) {v:Value} {c:Int} (h:RK L v c):RK (L++M) v c:=fun s e=>by
 obtain ⟨j,t,h1,h2,h3⟩:=h s e;exact ⟨j,t,h1,get_app h2,h3⟩
theorem RE.app {L:List T} (M:List T) {v:Value} {c:Int} (h:RE L v c):RE (L++M) v c:=fun f b e=>by
 obtain ⟨j,t,h1,h2,h3⟩:=h f b e;exact ⟨j,t,get_app h1,h2,get_app h3⟩
@[reducible] def Ec (n0:Nat) (ok:Nat→Prop) (cb kb nb:Nat) (j:Nat):Prop:=(ok j∨n0≤j)∧j≠cb∧j≠kb∧j≠nb
structure Cs (n0:Nat) (ok:Nat→Prop) (w:World) (cb kb nb:Nat) (v:Value) (L:List T) (k q:Nat):Prop where
 blk:At w cb 76 #[v,.int .i64 k,.map (some kb),.map (some nb),.int .i64 q]
 row:OS w (Ec n0 ok cb kb nb) v L
 own:∀ g,v.ownBlock=some g→n0≤g
 kn:MP 9 (RK L) w kb q
 nx:MP 79 (RE L) w nb q
 low:n0≤cb∧n0≤kb∧n0≤nb∧kb≠nb
 okn:∀ j,ok j→j<n0
 num:k<L.length∨(L=[]∧k=0)
 len:L.length≤q
 rs:∀ t ∈ L,Rs t∧cnt t≤4000
theorem cells5 {w:World} {b:Nat} {ty:TypeId} {x y z u v:Value} (h:At w b ty #[x,y,z,u,v]):(w.cell? ⟨b,0,none⟩=some x∧w.cell? ⟨b,1,none⟩=some y∧w.cell? ⟨b,2,none⟩=some z∧w.cell? ⟨b,3,none⟩=some u∧w.cell? ⟨b,4,none⟩=some v)∧w.frozen? ⟨b,0,none⟩=false∧w.frozen? ⟨b,1,none⟩=false∧w.frozen? ⟨b,4,none⟩=false :=
 ⟨⟨h.cell (o:=0) rfl,h.cell (o:=1) rfl,h.cell (o:=2) rfl,h.cell (o:=3) rfl,h.cell (o:=4) rfl⟩,h.frozen 0,h.frozen 1,h.frozen 4⟩
theorem Cs.keepF {n0:Nat} {ok:Nat→Prop} {w w':World} {cb kb nb:Nat} {v:Value} {L:List T} {k q:Nat} (h:Cs n0 ok w cb kb nb v L k q) (Q:Keep (fun _=>False) w w'):Cs n0 ok w' cb kb nb v L k q :=
 ⟨h.blk.keep Q (fun h=>h),h.row.keepF Q,h.own,h.kn.keep Q (fun h=>h),h.nx.keep Q (fun h=>h),h.low,h.okn,h.num,h.len,h.rs⟩
theorem Cs.apart {n0:Nat} {ok:Nat→Prop} {w:World} {cb kb nb:Nat} {v:Value} {L:List T} {k q:Nat} (h:Cs n0 ok w cb kb nb v L k q) :
  cb<w.heap.size∧kb<w.heap.size∧nb<w.heap.size∧kb≠cb∧nb≠cb∧kb≠nb∧∀ g,v.ownBlock=some g→g<w.heap.size∧n0≤g∧g≠cb∧g≠kb∧g≠nb:=by
 refine ⟨h.blk.lt,h.kn.lt,h.nx.lt,h.kn.ne h.blk,h.nx.ne h.blk,h.low.2.2.2,fun g hg=>⟨h.row.lt hg,h.own g hg,?_⟩⟩
 obtain ⟨X,⟨h1,h2,h3⟩,-⟩:=h.row;exact (h2 g hg).2
theorem str_key {s r:List UInt8} (h:str s=str r):s=r:=by
 injection h with h;injection h with h;exact congrArg Array.toList h
theorem key_of (s:List UInt8) (hs:s.length≤1000000):keyOf Try.prog 9 (str s)=some (.string s) :=
 WideMaps.keyOf_string_mk Try.underlying9 (by show s.toArray.size≤maxLen;rw [List.size_toArray];unfold maxLen;omega)
theorem lawS:Keyed Try.prog 9:=string_keyed Try.underlying9
theorem laidOut12:laidOutB Try.prog=true:=by kernel_rfl
theorem lawE:Keyed Try.prog 79:=Keyed.of_law (deep_law_laid laidOut12 (m:=2) (by omega) (of_decide_eq_true (by kernel_rfl)) (by kernel_rfl) (by rw [Try.underlying79]))
theorem key_edge (f b:Nat) (hf:f≤1000000) (hb:b<256):∃ l,keyOf Try.prog 79 (.agg #[.int .i64 f,.int .u8 b])=some l:=by
 have w1:(Lit.int .i64 (f:Int)).wf=true:=WalkArith.wf_i64 (by omega)
 have w2:(Lit.int .u8 (b:Int)).wf=true:=WalkArith.wf_u8 (by omega)
 have e1:Try.prog.cellsOf 79=2:=by kernel_rfl
 have e2:Try.prog.cellsOf 3=1:=by kernel_rfl
 have e3:Try.prog.cellsOf 5=1:=by kernel_rfl
 have hd:DataW.Trod (H:=Unit) (fun _=>()) Try.prog (World.settled Try.prog default) 0 (fun _=>false) true 79 (.agg #[.int .i64 f,.int .u8 b]) (.agg [.lit (.int .i64 f),.lit (.int .u8 b)]) [] :=
  ⟨3,by simp [DataW.trod,Value.cells,Try.underlying79,Try.underlying3,Try.underlying5,w1,w2,e1,e2,e3]⟩
 exact ⟨_,(keyOf_asKey (by kernel_rfl) (by rw [Try.underlying79]) (by simp [Value.formed,Try.underlying79,e1]) hd).1⟩
end P12
end Go.Proofs.Ytlmfbchgkjgljaa
