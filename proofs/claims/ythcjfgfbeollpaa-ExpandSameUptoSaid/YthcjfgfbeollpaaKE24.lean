/- Contracts of bytes256's spans and Text, and of the document's inside and Text. -/
import Derived.Test.YthcjfgfbeollpaaKE04
import Derived.Test.YthcjfgfbeollpaaKE03
import Derived.Lib.Builder
import Derived.Test.YthcjfgfbeollpaaKE22
import Derived.Lib.UnsafeStr
namespace Go.Proofs.Ythcjfgfbeollpaa.Bytes
open Go.RowKit Go.Proofs.Ythcjfgfbeollpaa.Base Go.Proofs.Ythcjfgfbeollpaa.Sets Go.Proofs.Ythcjfgfbeollpaa.PL Go.Proofs.Ythcjfgfbeollpaa.IL

/-- The ranges, as they stand in a class. -/
def spansT (L : List (Nat × Nat)) : List UInt8 := L.flatMap fun r => spanT r.1 r.2

theorem spanT_len (a b : Nat) : (spanT a b).length ≤ 9 := by
  have h1 := esc_len a
  have h2 := esc_len b
  unfold spanT
  split
  · omega
  · split
    · rw [List.length_append]; omega
    · simp only [List.length_append, List.length_cons, List.length_nil]; omega

theorem spansT_len : ∀ L, (spansT L).length ≤ 9 * L.length
  | [] => Nat.le_refl _
  | r :: L => by
    have := spansT_len L
    have := spanT_len r.1 r.2
    unfold spansT at *
    rw [List.flatMap_cons, List.length_append, List.length_cons]
    omega

end Go.Proofs.Ythcjfgfbeollpaa.Bytes
/- Contracts of the document's inside and Text, and of bytes256's Text. -/
namespace Go.Proofs.Ythcjfgfbeollpaa.Bytes
open Go.RowKit Go.Proofs.Ythcjfgfbeollpaa.Base Go.Proofs.Ythcjfgfbeollpaa.Sets Go.Proofs.Ythcjfgfbeollpaa.PL Go.Proofs.Ythcjfgfbeollpaa.IL

/-- A set, as a class. -/
def textT (s : ST) : List UInt8 :=
  if s.count = 256 then [46] else if s.count = 1 then esc (nxt s.has 0) else if s.count ≤ 128 then 91 :: (spansT (rgs s.has 256) ++ [93]) else 91 :: 94 :: (spansT (rgs s.not.has 256) ++ [93])

end Go.Proofs.Ythcjfgfbeollpaa.Bytes
