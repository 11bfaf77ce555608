/- What a tied card's condition gives a walk (the library's table of trailing zeros stands in its variable), a world that meets it, and a set as an argument. -/
import Derived.Test.YthcjfgfbeollpaaDoorRows
import Derived.Test.YthcjfgfbeollpaaDoorKB20
import Derived.LaidMore
import Derived.ProofKit
import Derived.OpenShut
import Derived.Stop.Joined
import Derived.MakeChecks
import Derived.Laws.IdiomArrays
set_option maxRecDepth 100000
set_option maxHeartbeats 32000000
namespace Go.Proofs.YthcjfgfbeollpaaDoor
namespace Tied
open Go.ChangeShapes Go.WideShapes Go.ChangeAt Go.RowKit Base Sets Bytes
def laid:List (String × DataW Unit):=[("math/bits.deBruijn64tab",Rows.laid_math_bits_deBruijn64tab)]
theorem gTab:Tryd.prog.globalNamed "math/bits.deBruijn64tab" = some 0:=by kernel_rfl
theorem tTab:(Tryd.prog.globals[0]?).map (·.type)=some 75:=by kernel_rfl
theorem laid_met (os:Os) (args:Array Value):laidMet Tryd.prog laid ((World.doorLaid Tryd.prog 400 os).forCall (fun _ _=>0) ⟨#[],args,[]⟩).memory :=
 laidMet_of_run' 8 (by kernel_rfl) (by kernel_rfl)
theorem c5:Tryd.prog.cellsOf 5=1:=by kernel_rfl
theorem datum:(Rows.laid_math_bits_deBruijn64tab:DataW Unit)=.agg (Lib.deBruijn64tab.map fun n:Nat=>.lit (.int .u8 (n:Int))):=rfl
theorem of_laid {W:World} (h:laidMetH Tryd.prog laid W):Tab W:=by
 rw [MakeChecks.laidMetH_plain _ _ _ (by kernel_rfl)] at h
 obtain ⟨ps,⟨g0,t0,cs0,f0,p0,q0,hg0,ht0,hv0,hd0,_,_⟩,_,_⟩:=h;obtain rfl:=Option.some.inj (gTab.symm.trans hg0);obtain rfl:=Option.some.inj (tTab.symm.trans ht0);obtain ⟨xs,m1,rfl,hx1,hlen,hn3,hel⟩:=DataW.trod_array Tryd.underlying75 hd0;intro j hj;have hj64:j<64:=hj;have h0:=hel j hj64;rw [c5] at h0;rw [datum] at hx1;injection hx1 with hx1 _;injection hx1 with hx1;have hxj:(xs.map (·.1))[j]?=some (.lit (.int .u8 (Lib.deBruijn64tab.getD j 0:Int))):=by
  rw [← hx1,List.getElem?_map];have:Lib.deBruijn64tab[j]?=some (Lib.deBruijn64tab.getD j 0):=by
   rw [List.getD_eq_getElem?_getD,List.getElem?_eq_getElem hj]
   rfl
  rw [this]
  rfl
 rw [List.getElem?_map] at hxj
 cases hxe:xs[j]? with
 | none=>rw [hxe] at hxj;cases hxj
 | some x =>
  rw [hxe] at h0 hxj;obtain ⟨k,e1,e2,_⟩:=DataW.trod_int Tryd.underlying5 h0;rw [e2] at hxj
  simp only [Option.map_some] at hxj
  injection hxj with hxj;injection hxj with hxj;injection hxj with _ hxj;subst hxj;have hc:=World.var?_cell hg0 hv0 j;rw [hc];have e3:=congrArg List.head? e1;rw [List.head?_take,if_neg (by decide),List.head?_drop,Nat.mul_one,Array.getElem?_toList] at e3
  rw [e3]
  rfl
end Tied
end Go.Proofs.YthcjfgfbeollpaaDoor
