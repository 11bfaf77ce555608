/- The document's parser (layer 7): class (its loop's relation). -/
import Derived.Test.YthcjfgfbeollpaaKG20
import Derived.Test.YthcjfgfbeollpaaKG02
import Derived.Test.YthcjfgfbeollpaaKG05
namespace Go.Proofs.Ythcjfgfbeollpaa.P07
open Go.RowKit Go.Proofs.Ythcjfgfbeollpaa.Base Go.Proofs.Ythcjfgfbeollpaa.IL Go.Proofs.Ythcjfgfbeollpaa.Bytes
open Go.Proofs.Ythcjfgfbeollpaa.Sets (ST)

theorem one_range (l : List UInt8) (s : PS) : 0 ≤ (one l s).1 ∧ (one l s).1 ≤ 255 := by
  have hn : ∀ s : PS, -1 ≤ nxt l s ∧ nxt l s < 256 := fun s => nxt_range l s
  unfold one oneB
  split
  · rename_i h
    have := hn s
    have h0 : 0 ≤ nxt l s := by
      by_cases h1 : 0 ≤ nxt l s
      · exact h1
      · rw [plainI_no (by omega)] at h
        cases h
    dsimp only
    omega
  · split
    · unfold escP escB
      split
      · unfold two
        have h1 := digit_range l s.adv.adv
        have h2 := digit_range l (digit l s.adv.adv).2
        dsimp only
        omega
      · split
        · dsimp only
          omega
        · split
          · dsimp only
            omega
          · split
            · rename_i h
              have := hn s.adv
              have h0 : 0 ≤ nxt l s.adv := by
                by_cases h1 : 0 ≤ nxt l s.adv
                · exact h1
                · rw [nxt_neg h1] at h
                  exact absurd h (by decide)
              dsimp only
              omega
            · dsimp only
              omega
    · dsimp only
      omega
theorem upto_lt {lo hi : Int} (h0 : 0 ≤ lo) (h1 : hi ≤ 255) : ∀ x ∈ upto lo hi, x < 256 := fun x hx => by
  obtain ⟨i, hi', rfl⟩ := List.mem_map.1 hx
  have := List.mem_range.1 hi'
  omega
@[reducible] def nzeros : Array Value := #[.int .i64 0, .int .u64 0, .int .u64 0, .int .u64 0, .int .u64 0, .int .i64 0, .int .i64 0, .slice none 0 0]

end Go.Proofs.Ythcjfgfbeollpaa.P07
/- The document's parser (layer 7): class. -/
namespace Go.Proofs.Ythcjfgfbeollpaa.P07
open Go.RowKit Go.Proofs.Ythcjfgfbeollpaa.Base Go.Proofs.Ythcjfgfbeollpaa.IL Go.Proofs.Ythcjfgfbeollpaa.Bytes Go.Proofs.Ythcjfgfbeollpaa.RSet
open Go.Proofs.Ythcjfgfbeollpaa.Sets (ST)

/-- What is known of a round's range. -/
structure InGood (l : List UInt8) (RA : List Nat) (RS : PS) (f : Nat) (acc : List Nat) (lo hi : Int) (s : PS) : Prop where
  eq : setP f (acc ++ upto lo hi) l s = (RA, RS)
  lt : ∀ x ∈ acc, x < 256
  pos : s.bad = none → s.pos ≤ l.length ∧ acc.length + 256 ≤ 256 * s.pos ∧ l.length + 2 ≤ s.pos + f
  near : s.pos ≤ l.length ∧ acc.length + 256 ≤ 256 * (l.length + 1)
  lo : 0 ≤ lo ∧ lo ≤ 255
  hi : 0 ≤ hi ∧ hi ≤ 255

end Go.Proofs.Ythcjfgfbeollpaa.P07
