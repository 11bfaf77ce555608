/- Layer 11, plain: the answers that awake asks for. -/
import Derived.Test.YthcjfgfbeollpaaDoorKB43
import Derived.Test.YthcjfgfbeollpaaDoorKB44
namespace Go.Proofs.YthcjfgfbeollpaaDoor
namespace P11
open Go.RowKit Base Bytes P07 P08 P09 P10
open Sets (ST)
def one11 (F:Nat) (l:List UInt8) (p:T→Bool):Bool:=match parse F l with
 | .inr t=>p t && decide (cnt t≤1000) && rightB t
 | _=>false
theorem one11_is {F:Nat} {l:List UInt8} {p:T→Bool} (h:one11 F l p=true):∃ t,parse F l=.inr t∧p t=true∧cnt t≤1000∧rightB t=true:=by
 unfold one11 at h
 split at h
 ·rename_i t ht
  simp only [Bool.and_eq_true,decide_eq_true_eq] at h
  exact ⟨t,ht,h.1.1,h.1.2,h.2⟩
 ·cases h
theorem aw1:one11 7 [97,42,124,97,98] (fun t=>decide (allA [97,97,98] t 0=[0,1,2]) && decide (allE [97,97,98] t 0=0) && (decide (allA [97,97,98] t 1=[1,2,3]) && decide (allE [97,97,98] t 1=0)))=true:=by kernel_rfl
theorem aw2:one11 3 [97] (fun t=>decide (allA [] t 1=[]) && decide (allE [] t 1=2))=true:=by kernel_rfl
theorem aw3:decide (allA [] (.nd 0 ST.none 0 0 []) 0=[]) && decide (allE [] (.nd 0 ST.none 0 0 []) 0=1)=true:=by kernel_rfl
theorem aw4:one11 3 [97] (fun a=>one11 4 [97,43] (fun b=>one11 4 [97,97] (fun c=>decide (bestI [97,97,98] 0 [⟨[],a⟩,⟨[],b⟩,⟨[],c⟩]=(1,2)))))=true:=by kernel_rfl
theorem aw5:one11 4 [97,42] (fun t=>decide (bestI [98] 0 [⟨[],t⟩]=(-1,-1)))=true:=by kernel_rfl
theorem aw6:one11 5 [97,98,63] (fun t=>(rowT [97] t 0).getD 1 false && !(rowT [] t 0).getD 0 false)=true:=by kernel_rfl
theorem aw7:one11 3 [98] (fun t=>decide (longA [97] t 0=-1))=true:=by kernel_rfl
theorem aw6_is:∃ t,parse 5 [97,98,63]=.inr t∧matchA [97] t=true∧matchA [] t=false∧cnt t≤1000:=by
 obtain ⟨t,h1,h2,h3,h4⟩:=one11_is aw6;rw [Bool.and_eq_true,Bool.not_eq_true'] at h2;have hR:=read_right h1;refine ⟨t,h1,?_,?_,h3⟩
 ·unfold matchA
  rw [h4,match_row hR,Bool.true_and];exact h2.1
 ·unfold matchA
  rw [h4,match_row hR,Bool.true_and];exact h2.2
end P11
end Go.Proofs.YthcjfgfbeollpaaDoor
