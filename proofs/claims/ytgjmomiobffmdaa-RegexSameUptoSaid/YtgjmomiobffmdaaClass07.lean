/- The document's parser (layer 7): class (its loop's relation). -/
import Derived.Test.YtgjmomiobffmdaaSize07
import Derived.Test.YtgjmomiobffmdaaNear07
namespace Go.Proofs.Ytgjmomiobffmdaa.P07
open Go.RowKit Go.Proofs.Ytgjmomiobffmdaa.Base Go.Proofs.Ytgjmomiobffmdaa.IL Go.Proofs.Ytgjmomiobffmdaa.Bytes
open Go.Proofs.Ytgjmomiobffmdaa.Sets (ST)

theorem one_range (l : List UInt8) (s : PS) : 0 ≤ (one l s).1 ∧ (one l s).1 ≤ 255 := by
  have hn : ∀ s : PS, -1 ≤ nxt l s ∧ nxt l s < 256 := fun s => nxt_range l s
  unfold one oneB
  split
  · rename_i h
    have := hn s
    have h0 : 0 ≤ nxt l s := by
      by_cases h1 : 0 ≤ nxt l s
      · exact h1
      · rw [plainI_no (by omega)] at h
        cases h
    dsimp only
    omega
  · split
    · unfold escP escB
      split
      · unfold two
        have h1 := digit_range l s.adv.adv
        have h2 := digit_range l (digit l s.adv.adv).2
        dsimp only
        omega
      · split
        · dsimp only
          omega
        · split
          · dsimp only
            omega
          · split
            · rename_i h
              have := hn s.adv
              have h0 : 0 ≤ nxt l s.adv := by
                by_cases h1 : 0 ≤ nxt l s.adv
                · exact h1
                · rw [nxt_neg h1] at h
                  exact absurd h (by decide)
              dsimp only
              omega
            · dsimp only
              omega
    · dsimp only
      omega
theorem upto_len (lo hi : Int) : (upto lo hi).length = (hi + 1 - lo).toNat := by unfold upto; rw [List.length_map, List.length_range]
theorem upto_take {lo hi : Int} {j : Nat} (hj : j < (hi + 1 - lo).toNat) : (upto lo hi).take (j + 1) = (upto lo hi).take j ++ [lo.toNat + j] := by
  have e : (upto lo hi)[j]? = some (lo.toNat + j) := by
    unfold upto
    rw [List.getElem?_map, List.getElem?_range hj]
    rfl
  rw [List.take_add_one, e]
  rfl
theorem upto_lt {lo hi : Int} (h0 : 0 ≤ lo) (h1 : hi ≤ 255) : ∀ x ∈ upto lo hi, x < 256 := fun x hx => by
  obtain ⟨i, hi', rfl⟩ := List.mem_map.1 hx
  have := List.mem_range.1 hi'
  omega
theorem ints_snoc (L : List Nat) (x : Nat) : ints (L ++ [x]) = ints L ++ [(x : Int)] := by
  unfold ints
  rw [List.map_append]
  rfl
@[reducible] def nzeros : Array Value := #[.int .i64 0, .int .u64 0, .int .u64 0, .int .u64 0, .int .u64 0, .int .i64 0, .int .i64 0, .slice none 0 0]

/-- What holds ahead of each round of a class's loop. -/
structure InCls (w : World) (b : Nat) (l : List UInt8) (R : List Nat × PS) (f : Nat) (u : Value) (acc : List Nat) (s : PS) (wr : World) : Prop where
  il : IL wr u (ints acc)
  own : ∀ g, u.ownBlock = some g → w.heap.size < g
  pr : Pr wr b l s
  at' : At wr w.heap.size 28 nzeros
  keep : Keep (fun i => i = b) w wr
  eq : setP f acc l s = R
  lt : ∀ x ∈ acc, x < 256
  pos : s.bad = none → s.pos ≤ l.length ∧ acc.length ≤ 256 * s.pos ∧ l.length + 2 ≤ s.pos + f
  pos2 : s.pos ≤ l.length + 40
  len : acc.length ≤ 256 * (l.length + 1)

end Go.Proofs.Ytgjmomiobffmdaa.P07
