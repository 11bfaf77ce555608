/- Maps to ints of the caller's own, whatever the keys are (layer 12): what holds of each entry. -/
import Derived.Test.YtlmfbchgkjgljaaKF29
import Derived.Test.YtlmfbchgkjgljaaChecked
import Derived.DeepKeys4
import Derived.Maps.OwnSet
set_option maxRecDepth 100000
set_option maxHeartbeats 32000000
namespace Go.Proofs.Ytlmfbchgkjgljaa
namespace P12
open Go.RowKit Go.Maps Go.ChangeMaps Go.MapKept Go.ChangeShapes Go.WideShapes Base
theorem zeroI (w:World):(zeroValue 3).run Try.prog w=.ok (.int .i64 0) w:=by kernel_rfl
def MP (k:TypeId) (R:Value→Int→Prop) (w:World) (b n:Nat):Prop :=
 ∃ D:DataW Unit,w.ownsMap Try.prog k (plainElem Try.prog 3) b n D∧∀ l v,keyOf Try.prog k v=some l→Maps.has D l=true→∃ c,D.atKey l (.lit (.int .i64 0))=.lit (.int .i64 c)∧R v c
theorem MP.keep {k:TypeId} {R:Value→Int→Prop} {S:Nat→Prop} {w w':World} {b n:Nat} (h:MP k R w b n) (q:Keep S w w') (hn:¬ S b):MP k R w' b n:=by
 obtain ⟨D,h2,r⟩:=h;refine ⟨D,?_,r⟩;have hlt:=World.ownsMap.lt h2;obtain ⟨es,clock,hb,r⟩:=h2;exact ⟨es,clock,(q.block b hlt hn).trans hb,r⟩
theorem MP.lt {k:TypeId} {R:Value→Int→Prop} {w:World} {b n:Nat} (h:MP k R w b n):b<w.heap.size:=by
 obtain ⟨D,h2,r⟩:=h;exact World.ownsMap.lt h2
theorem MP.ne {k:TypeId} {R:Value→Int→Prop} {w:World} {b n c:Nat} {t:TypeId} {vs:Array Value} (h:MP k R w b n) (hc:At w c t vs):b≠c:=by
 rintro rfl;obtain ⟨D,⟨es,clock,hb,_⟩,r⟩:=h;rw [show w.heap[b]?=_ from hc] at hb
 cases hb
theorem MP.mono {k:TypeId} {R R':Value→Int→Prop} {w:World} {b n n':Nat} (h:MP k R w b n) (hR:∀ v c,R v c→R' v c) (hn:n≤n'):MP k R' w b n':=by
 obtain ⟨D,h2,r⟩:=h;refine ⟨D,World.ownsMap.mono h2 hn,fun l v h3 h4=>?_⟩
 obtain ⟨c,h5,h6⟩:=r l v h3 h4;exact ⟨c,h5,hR v c h6⟩
theorem MP.new (k:TypeId) (R:Value→Int→Prop) (w:World):MP k R (w.alloc (.map #[] 0)) w.heap.size 0:=⟨.map [],World.ownsMap_made w _ _ _,fun _ _ _ h=>by cases h⟩
theorem MP.look {k t:TypeId} {R:Value→Int→Prop} {w:World} {b n:Nat} (h:MP k R w b n) (K:Keyed Try.prog k) (ht:Try.prog.underlying t=some (.map k 3)) {v:Value} {l:Lit} (hk:keyOf Try.prog k v=some l) :
  ∃ c B,(∀ W,Keep (fun _=>False) w W→(Instr.lookup t (.map (some b)) v true).run Try.prog W=.ok (.tuple #[.int .i64 c,.bool B]) W)∧(B=true→R v c):=by
 obtain ⟨D,h2,r⟩:=h;have key:∀ W,Keep (fun _=>False) w W→∃ c,(Instr.lookup t (.map (some b)) v true).run Try.prog W=.ok (.tuple #[.int .i64 c,.bool (Maps.has D l)]) W∧D.atKey l (.lit (.int .i64 0))=.lit (.int .i64 c):=fun W q=>by
  have h3:W.ownsMap Try.prog k (plainElem Try.prog 3) b n D:=by
   have hlt:=World.ownsMap.lt h2;obtain ⟨es,clock,hb,r⟩:=h2;exact ⟨es,clock,(q.block b hlt (fun h=>h)).trans hb,r⟩
  obtain ⟨v',ps,hrun,hv⟩:=World.ownsMap.look_ok h3 K ht (zeroI W) (plainElem_int Try.underlying3 (by decide)) hk
  obtain ⟨c,rfl,hc,-⟩:=plainElem_int_inv Try.underlying3 hv;injection hc with hc _;exact ⟨c,hrun,hc⟩
 obtain ⟨c,-,hc⟩:=key w (Keep.refl _ w);refine ⟨c,Maps.has D l,fun W q=>?_,fun hB=>?_⟩
 ·obtain ⟨c',hrun,hc'⟩:=key W q
  rw [hc] at hc';injection hc' with hc';injection hc' with _ hc';rw [hc'];exact hrun
 ·obtain ⟨c',h5,h6⟩:=r l v hk hB
  rw [h5] at hc;injection hc with hc;injection hc with _ hc;rw [← hc];exact h6
theorem MP.put {k t:TypeId} {R:Value→Int→Prop} {w:World} {b n:Nat} (h:MP k R w b n) (K:Keyed Try.prog k) (ht:Try.prog.underlying t=some (.map k 3)) {v:Value} {l:Lit} (hk:keyOf Try.prog k v=some l)
  {c:Int} (hc:(Lit.int .i64 c).wf=true) (hn:n<maxLen) (hR:R v c) :
  ∃ w',(Instr.mapUpdate t (.map (some b)) v (.int .i64 c)).run Try.prog w=.ok () w'∧MP k R w' b (n+1)∧Keep (·=b) w w':=by
 obtain ⟨D,h2,r⟩:=h;obtain ⟨w',hrun,hown,hg⟩:=World.ownsMap.update h2 K ht hn hk (plainElem_int Try.underlying3 hc);refine ⟨w',hrun,⟨_,hown,fun l' v' h3 h4=>?_⟩,(keep_grown hg).mono fun j hj=>by injection hj with hj;exact hj.symm⟩
 by_cases e:l'=l
 ·subst e
  obtain rfl:=K.inj hk h3;exact ⟨c,atKey_put_same (World.ownsMap.isMap h2) (K.key hk) _ _,hR⟩
 ·rw [has_put_other e] at h4
  obtain ⟨c',h5,h6⟩:=r l' v' h3 h4;exact ⟨c',by rw [atKey_put_other e];exact h5,h6⟩
end P12
end Go.Proofs.Ytlmfbchgkjgljaa
