/- The document's Set and Not (layer 4) alone: as in XCount, for seats that have no List and no Count. -/
import Derived.Test.YthcjfgfbeollpaaDoorKB08
import Derived.Test.YthcjfgfbeollpaaDoorKB06
import Derived.Deep.RegionHeld3
import Derived.Deep.DeepCutAuto
import Derived.Deep.CutBlock
namespace Go.Proofs.YthcjfgfbeollpaaDoor
namespace RSet
open Go.RowKit Base Sets IL Bytes
theorem index_run (c:ST) (k:Nat) (h:k<4) (w:World):(Instr.index 24 (val c) (.int .i64 k)).run Tryd.prog w=.ok (.int .u64 (c.w k)) w:=by
 match k,h with
 | 0,_=>simp [Instr.index,run_underlying (P:=Tryd.prog) Tryd.underlying24,asIntOf,go_sem];rfl
 | 1,_=>simp [Instr.index,run_underlying (P:=Tryd.prog) Tryd.underlying24,asIntOf,go_sem];rfl
 | 2,_=>simp [Instr.index,run_underlying (P:=Tryd.prog) Tryd.underlying24,asIntOf,go_sem];rfl
 | 3,_=>simp [Instr.index,run_underlying (P:=Tryd.prog) Tryd.underlying24,asIntOf,go_sem];rfl
def lst (p:Nat→Bool):Nat→List Int
 | 0=>[]
 | k+1=>if p k then lst p k++[(k:Int)] else lst p k
theorem lst_length (p:Nat→Bool):∀ k,(lst p k).length=cnt p k
 | 0=>rfl
 | k+1=>by
  have:=lst_length p k;unfold lst cnt
  cases p k <;> simp [this]
theorem lst_mem (p:Nat→Bool):∀ k (x:Int),x ∈ lst p k↔∃ b:Nat,b<k∧p b=true∧x=b
 | 0,x=>by simp [lst]
 | k+1,x=>by
  have i:=lst_mem p k x;unfold lst
  cases e:p k with
  | false =>
   simp only [Bool.false_eq_true,if_false]
   rw [i]
   constructor
   ·rintro ⟨b,h1,h2,h3⟩
    exact ⟨b,by omega,h2,h3⟩
   ·rintro ⟨b,h1,h2,h3⟩
    refine ⟨b,?_,h2,h3⟩
    rcases Nat.lt_succ_iff_lt_or_eq.1 h1 with h | rfl
    ·exact h
    ·rw [e] at h2;cases h2
  | true =>
   simp only [if_true,List.mem_append,List.mem_singleton]
   rw [i]
   constructor
   ·rintro (⟨b,h1,h2,h3⟩ | rfl)
    ·exact ⟨b,by omega,h2,h3⟩
    ·exact ⟨k,by omega,e,rfl⟩
   ·rintro ⟨b,h1,h2,h3⟩
    rcases Nat.lt_succ_iff_lt_or_eq.1 h1 with h | rfl
    ·exact .inl ⟨b,h,h2,h3⟩
    ·exact .inr h3
def add (s:ST) (x:Nat):ST:=if s.has x then s else .of4 fun i=>if i=x / 64 then s.w i+2 ^ (x % 64) else s.w i
end RSet
end Go.Proofs.YthcjfgfbeollpaaDoor
