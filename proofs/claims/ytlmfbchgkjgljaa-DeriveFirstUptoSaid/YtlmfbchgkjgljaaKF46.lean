/- A map from numbers to lists of nodes, as the code keeps what stood ahead (layer 10). -/
import Derived.Test.YtlmfbchgkjgljaaKF38
import Derived.Test.YtlmfbchgkjgljaaKF09
set_option maxRecDepth 100000
set_option maxHeartbeats 32000000
namespace Go.Proofs.Ytlmfbchgkjgljaa
namespace P10
open Go.RowKit Go.Maps Go.ChangeMaps Go.MapKept Base Bytes P07 P08
open Sets (ST)
theorem stp_range (s v:Int):0≤stp s v∧stp s v≤18446744073709551615:=by
 unfold stp;rw [IntKind.wrap_u64];omega
theorem mix_range (s:Int) (t:T):0≤mix s t∧mix s t≤18446744073709551615:=stp_range _ _
theorem fold_range:∀ (L:List T) (s:Int),0≤s∧s≤18446744073709551615→0≤L.foldl mix s∧L.foldl mix s≤18446744073709551615
 | [],s,h=>h
 | t::L,s,_=>by
  rw [List.foldl_cons];exact fold_range L _ (mix_range s t)
theorem dgS_range:∀ (n:Nat) (s:Int) (S:List (List T)),0≤s∧s≤18446744073709551615→0≤dgS n s S∧dgS n s S≤18446744073709551615
 | 0,s,S,h=>h
 | n+1,s,[],h=>h
 | n+1,s,L::S,h=>by
  rw [dgS];exact dgS_range n _ _ (fold_range L s h)
theorem dg_range (t:T):0≤dg t∧dg t≤18446744073709551615:=dgS_range _ _ _ (by omega)
theorem ulaw:Keyed Try.prog 22:=int_keyed Try.underlying22
theorem ukey {x:Int} (h:0≤x∧x≤18446744073709551615):keyOf Try.prog 22 (.int .u64 x)=some (.int .u64 x):=keyOf_int_mk Try.underlying22 (WalkArith.wf_u64 h)
theorem zeroL (w:World):(zeroValue 25).run Try.prog w=.ok (.slice none 0 0) w:=by kernel_rfl
def encE:Option (Nat × Nat × Nat)→DataW Unit
 | none=>.lit (.int .i64 (-1))
 | some (g,n,c)=>.agg [.lit (.int .i64 g),.lit (.int .i64 n),.lit (.int .i64 c)]
def sliceR:Value→Option (DataW Unit × List MemPlace)
 | .slice none 0 0=>some (.lit (.int .i64 (-1)),[])
 | .slice (some ⟨g,0,none⟩) n c=>some (.agg [.lit (.int .i64 g),.lit (.int .i64 n),.lit (.int .i64 c)],[])
 | _=>none
theorem sliceR_SV (e:Option (Nat × Nat × Nat)):sliceR (SV e)=some (encE e,[]):=by
 match e with
 | none=>rfl
 | some (g,n,c)=>rfl
theorem sliceR_inv {v:Value} {e:Option (Nat × Nat × Nat)} {ps:List MemPlace} (h:sliceR v=some (encE e,ps)):v=SV e:=by
 unfold sliceR at h
 match e with
 | none =>
  split at h
  ·rfl
  ·simp [encE] at h
  ·cases h
 | some (g,n,c) =>
  split at h
  ·simp [encE] at h
  ·simp [encE] at h
   obtain ⟨⟨h1,h2,h3⟩,-⟩:=h;have h1:=Int.ofNat_inj.1 h1;have h2:=Int.ofNat_inj.1 h2;have h3:=Int.ofNat_inj.1 h3;subst h1 h2 h3
   rfl
  ·cases h
def KM (w:World) (b k:Nat) (E:Int→Option (Nat × Nat × Nat)):Prop:=∃ D:DataW Unit,w.ownsMap Try.prog 22 sliceR b k D∧∀ x:Int,D.atKey (.int .u64 x) (.lit (.int .i64 (-1)))=encE (E x)
theorem KM.keep {S:Nat→Prop} {w w':World} {b k:Nat} {E:Int→Option (Nat × Nat × Nat)} (h:KM w b k E) (q:Keep S w w') (hn:¬ S b):KM w' b k E:=by
 obtain ⟨D,h2,r⟩:=h;refine ⟨D,?_,r⟩;have hlt:=World.ownsMap.lt h2;obtain ⟨es,clock,hb,r⟩:=h2;exact ⟨es,clock,(q.block b hlt hn).trans hb,r⟩
theorem KM.lt {w:World} {b k:Nat} {E:Int→Option (Nat × Nat × Nat)} (h:KM w b k E):b<w.heap.size:=by
 obtain ⟨D,h2,r⟩:=h;exact World.ownsMap.lt h2
theorem KM.new (w:World):KM (w.alloc (.map #[] 0)) w.heap.size 0 (fun _=>none):=⟨.map [],World.ownsMap_made w _ _ _,fun _=>rfl⟩
theorem KM.look {w:World} {b k:Nat} {E:Int→Option (Nat × Nat × Nat)} (h:KM w b k E) {x:Int} (hx:0≤x∧x≤18446744073709551615) :
  (Instr.lookup 98 (.map (some b)) (.int .u64 x) false).run Try.prog w=.ok (SV (E x)) w:=by
 obtain ⟨D,hm,ha⟩:=h;obtain ⟨v,ps,hrun,hv⟩:=World.ownsMap.lookup hm ulaw Try.underlying98 (zeroL w) (show sliceR (.slice none 0 0)=some (.lit (.int .i64 (-1)),[]) from rfl) (ukey hx)
 rw [ha] at hv;rw [hrun,sliceR_inv hv]
theorem KM.put {w:World} {b k:Nat} {E:Int→Option (Nat × Nat × Nat)} (h:KM w b k E) {x:Int} (e:Option (Nat × Nat × Nat)) (hx:0≤x∧x≤18446744073709551615) (hk:k<maxLen) :
  ∃ w',(Instr.mapUpdate 98 (.map (some b)) (.int .u64 x) (SV e)).run Try.prog w=.ok () w'∧KM w' b (k+1) (fun y=>if y=x then e else E y)∧Keep (·=b) w w':=by
 obtain ⟨D,hm,ha⟩:=h;obtain ⟨w',hrun,hown,hg⟩:=World.ownsMap.update hm ulaw Try.underlying98 hk (ukey hx) (sliceR_SV e);refine ⟨w',hrun,⟨_,hown,fun y=>?_⟩,Seen.keep_grown hg⟩
 by_cases h:y=x
 ·subst h
  rw [atKey_put_same (World.ownsMap.isMap hm) (show WideAt.IsKeyLit (.int .u64 y) from trivial)]
  simp
 ·rw [atKey_put_other (by simpa using h),ha]
  simp [h]
def inD (x:Int) (t:T):Bool:=decide (dg t=x)
structure Kn (n0:Nat) (ok:Nat→Prop) (m:Nat) (Z:Nat→Prop) (M:List T) (W:World):Prop where
 ex:∃ E:Int→Option (Nat × Nat × Nat),KM W m M.length E∧(∀ x,OE W (fun j=>ok j∧j<n0) (SV (E x)) (M.filter (inD x)))∧(∀ x g,(SV (E x)).ownBlock=some g→Z g∧g≠m)∧(∀ x y g,(SV (E x)).ownBlock=some g→(SV (E y)).ownBlock=some g→x=y)
 zm:Z m
 zlt:∀ b,Z b→n0≤b∧b<W.heap.size
 n0:n0≤W.heap.size
theorem Kn.keep {n0:Nat} {ok:Nat→Prop} {m:Nat} {Z:Nat→Prop} {M:List T} {W W':World} (h:Kn n0 ok m Z M W) {S:Nat→Prop} (q:Keep S W W') (h1:∀ b,Z b→¬ S b) (h2:∀ b,b<n0→¬ S b):Kn n0 ok m Z M W':=by
 obtain ⟨E,k1,k2,k3,k4⟩:=h.ex;exact ⟨⟨E,k1.keep q (h1 m h.zm),fun x=>(k2 x).keep q (fun b hb=>h1 b (k3 x b hb).1) (fun b hb=>h2 b hb.2),k3,k4⟩,h.zm,fun b hb=>⟨(h.zlt b hb).1,Nat.lt_of_lt_of_le (h.zlt b hb).2 q.size⟩,Nat.le_trans h.n0 q.size⟩
theorem Kn.keepF {n0:Nat} {ok:Nat→Prop} {m:Nat} {Z:Nat→Prop} {M:List T} {W W':World} (h:Kn n0 ok m Z M W) (q:Keep (fun _=>False) W W'):Kn n0 ok m Z M W':=h.keep q (fun _ _ h=>h) (fun _ _ h=>h)
theorem Kn.new (w:World) (ok:Nat→Prop) (n0:Nat) (hn:n0≤w.heap.size):Kn n0 ok w.heap.size (fun b=>b=w.heap.size) [] (w.alloc (.map #[] 0)) :=
 ⟨⟨fun _=>none,KM.new w,fun x=>OE.nil _ _,(fun _ _ hg=>by cases hg),(fun _ _ _ hg=>by cases hg)⟩,rfl,(fun b hb=>⟨by omega,by subst hb;simp⟩),by simp;omega⟩
theorem Kn.look {n0:Nat} {ok:Nat→Prop} {m:Nat} {Z:Nat→Prop} {M:List T} {W:World} (h:Kn n0 ok m Z M W) (t:T) :
  ∃ a cap,(∀ W',Keep (fun _=>False) W W'→(Instr.lookup 98 (.map (some m)) (.int .u64 (dg t)) false).run Try.prog W'=.ok (.slice a (M.filter (inD (dg t))).length cap) W')∧Lie W (fun _=>True) a (M.filter (inD (dg t))):=by
 obtain ⟨E,k1,k2,k3,k4⟩:=h.ex;obtain ⟨a,cap,e,-,hl⟩:=(k2 (dg t)).form;exact ⟨a,cap,fun W' q=>by rw [← e];exact (k1.keep q (fun h=>h)).look (dg_range t),hl⟩
theorem Kn.add {n0:Nat} {ok:Nat→Prop} {m:Nat} {Z:Nat→Prop} {M:List T} {W:World} (h:Kn n0 ok m Z M W) (t:T) (a:Option Addr) (c:Nat) (hc:t.subs.length≤c) (hl:Lie W (fun j=>ok j∧j<n0) a t.subs) (hlen:M.length≤1000000) (ty:TypeId) :
  ∃ v e w1 w2,(Instr.lookup 98 (.map (some m)) (.int .u64 (dg t)) false).run Try.prog W=.ok v W
   ∧ (Builtin.append_ #[25,25] ty #[v,.slice (some ⟨W.heap.size,0,none⟩) 1 1]).run Try.prog (W.alloc (.cells (ncells t a c) 27))=.ok (SV e) w1
   ∧ (Instr.mapUpdate 98 (.map (some m)) (.int .u64 (dg t)) (SV e)).run Try.prog w1=.ok () w2
   ∧ ∃ Z',Kn n0 ok m Z' (M++[t]) w2∧Keep Z W w2∧∀ b,Z' b→Z b∨W.heap.size≤b:=by
 obtain ⟨E,k1,k2,k3,k4⟩:=h.ex;have hx:=dg_range t;have hzl:=h.zlt;have hn0:=h.n0;have hlf:(M.filter (inD (dg t))).length≤M.length:=List.length_filter_le _ _;have hne:∀ x g,(SV (E x)).ownBlock=some g→¬ (ok g∧g<n0):=fun x g hg e=>by
  have:=hzl g (k3 x g hg).1;omega
 obtain ⟨v',w1,hrun,g1,g2,g3⟩:=(k2 (dg t)).push (hne _) t a c hc hl (by omega) ty
 obtain ⟨e,rfl⟩:=g1.shape;have km1:KM w1 m M.length E:=k1.keep g2 (fun e=>(k3 _ _ e).2 rfl)
 obtain ⟨w2,hput,km2,q2⟩:=km1.put e hx (by simp only [maxLen];omega)
 have qz:Keep Z W w2:=(g2.mono fun g hg=>(k3 _ g hg).1).trans (q2.mono fun b hb=>by rw [hb];exact h.zm)
 have hsz1:=g2.size;have hsz2:=q2.size;have hm:=hzl m h.zm;refine ⟨_,e,w1,w2,k1.look hx,hrun,hput,fun b=>(Z b∨W.heap.size≤b)∧b<w2.heap.size,⟨⟨fun y=>if y=dg t then e else E y,by rw [List.length_append];exact km2,fun x=>?_,fun x g hg=>?_,fun x y g hg1 hg2=>?_⟩,⟨.inl h.zm,by omega⟩,fun b hb=>⟨?_,hb.2⟩,by omega⟩,qz,fun b hb=>hb.1⟩
 ·dsimp only
  by_cases hxd:x=dg t
  ·subst hxd
   rw [if_pos rfl];have hf:(M++[t]).filter (inD (dg t))=M.filter (inD (dg t))++[t]:=by
    rw [List.filter_append]
    congr 1
    exact List.filter_cons_of_pos (by unfold inD;simp)
   rw [hf];refine g1.keep q2 (fun g hg e=>?_) (fun j hj e=>by omega)
   rcases g3 g hg with h1 | h1
   ·exact (k3 _ _ h1).2 e
   ·omega
  ·rw [if_neg hxd]
   have hf:(M++[t]).filter (inD x)=M.filter (inD x):=by
    rw [List.filter_append];have:[t].filter (inD x)=[]:=List.filter_cons_of_neg (by unfold inD;simp;exact fun h=>hxd h.symm)
    rw [this,List.append_nil]
   rw [hf];refine ((k2 x).keep g2 (fun g hg e=>hxd (k4 _ _ g hg e)) (fun j hj e=>hne _ j e hj)).keep q2 (fun g hg e=>(k3 x g hg).2 e) (fun j hj e=>by omega)
 ·dsimp only at hg
  split at hg
  ·have hlt:=g1.lt hg
   rcases g3 g hg with h1 | h1
   ·exact ⟨⟨.inl (k3 _ _ h1).1,by omega⟩,(k3 _ _ h1).2⟩
   ·exact ⟨⟨.inr h1,by omega⟩,by omega⟩
  ·have:=k3 x g hg
   have h2:=hzl g this.1;exact ⟨⟨.inl this.1,by omega⟩,this.2⟩
 ·dsimp only at hg1 hg2
  have key:∀ z,z≠dg t→(SV (E z)).ownBlock=some g→(SV e).ownBlock=some g→False:=fun z hz h1 h2=>by
   rcases g3 g h2 with h3 | h3
   ·exact hz (k4 _ _ g h1 h3)
   ·have:=hzl g (k3 z g h1).1
    omega
  split at hg1
  ·rename_i h1
   split at hg2
   ·rename_i h2
    rw [h1,h2]
   ·rename_i h2
    exact (key y h2 hg2 hg1).elim
  ·rename_i h1
   split at hg2
   ·rename_i h2
    exact (key x h1 hg1 hg2).elim
   ·exact k4 _ _ g hg1 hg2
 ·rcases hb.1 with h1 | h1
  ·exact (hzl b h1).1
  ·omega
end P10
end Go.Proofs.Ytlmfbchgkjgljaa
