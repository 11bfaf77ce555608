/- A list of pairs of bytes in a slice of its own: what append makes of it, what is read, what a store into its last pair's second byte does. -/
import Derived.Test.YthcjfgfbeollpaaDoorKB12
import Derived.Maps.AppendAt
import Derived.Lib.AppendZeros
import Derived.Test.YthcjfgfbeollpaaDoorKB06
namespace Go.Proofs.YthcjfgfbeollpaaDoor
namespace PL
open Go.RowKit Base Sets
def flat (L:List (Nat × Nat)):List Value:=L.flatMap fun r=>[.int .u8 r.1,.int .u8 r.2]
theorem flat_at:∀ (L:List (Nat × Nat)) (i:Nat) (r:Nat × Nat),L[i]?=some r→(flat L)[2 * i]?=some (.int .u8 r.1)∧(flat L)[2 * i+1]?=some (.int .u8 r.2)
 | [],i,r,h=>by simp at h
 | s::L,0,r,h=>by
  simp at h
  subst h;exact ⟨rfl,rfl⟩
 | s::L,i+1,r,h=>by
  have:=flat_at L i r (by simpa using h)
  have e:flat (s::L)=.int .u8 s.1::.int .u8 s.2::flat L:=rfl;rw [e,show 2 * (i+1)=2 * i+1+1 from by omega]
  simpa using this
theorem keep_grown {w w':World} {r:Option Nat} (h:w.grownBy w' r):Keep (fun b=>r=some b) w w' :=
 ⟨h.os,h.tape,h.output,h.size,fun k hk hn=>h.block k hk (fun e=>hn e.symm)⟩
end PL
namespace Bytes
open Go.RowKit Base Sets PL IL
def lst (p:Nat→Bool):Nat→List Int
 | 0=>[]
 | k+1=>if p k then lst p k++[(k:Int)] else lst p k
theorem lst_length (p:Nat→Bool):∀ k,(lst p k).length=cnt p k
 | 0=>rfl
 | k+1=>by
  have:=lst_length p k;unfold lst cnt
  cases p k <;> simp [this]
theorem lst_mem (p:Nat→Bool):∀ k (x:Int),x ∈ lst p k↔∃ b:Nat,b<k∧p b=true∧x=b
 | 0,x=>by simp [lst]
 | k+1,x=>by
  have i:=lst_mem p k x;unfold lst
  cases e:p k with
  | false =>
   simp only [Bool.false_eq_true,if_false]
   rw [i]
   constructor
   ·rintro ⟨b,h1,h2,h3⟩
    exact ⟨b,by omega,h2,h3⟩
   ·rintro ⟨b,h1,h2,h3⟩
    refine ⟨b,?_,h2,h3⟩
    rcases Nat.lt_succ_iff_lt_or_eq.1 h1 with h | rfl
    ·exact h
    ·rw [e] at h2;cases h2
  | true =>
   simp only [if_true,List.mem_append,List.mem_singleton]
   rw [i]
   constructor
   ·rintro (⟨b,h1,h2,h3⟩ | rfl)
    ·exact ⟨b,by omega,h2,h3⟩
    ·exact ⟨k,by omega,e,rfl⟩
   ·rintro ⟨b,h1,h2,h3⟩
    rcases Nat.lt_succ_iff_lt_or_eq.1 h1 with h | rfl
    ·exact .inl ⟨b,h,h2,h3⟩
    ·exact .inr h3
def IsList (L:List Int) (w:World) (e:Ending) (w':World):Prop:=∃ v,e=.returned v∧IL w' v L∧(∀ g,v.ownBlock=some g→w.heap.size≤g)∧Keep (fun _=>False) w w'
def add (s:ST) (x:Nat):ST:=if s.has x then s else .of4 fun i=>if i=x / 64 then s.w i+2 ^ (x % 64) else s.w i
end Bytes
end Go.Proofs.YthcjfgfbeollpaaDoor
