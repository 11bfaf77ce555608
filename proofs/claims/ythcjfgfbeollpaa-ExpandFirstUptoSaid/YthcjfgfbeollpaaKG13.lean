/- A slice of sets in memory, as an argument or of the program's own, and the document's alike. -/
import Derived.Test.YthcjfgfbeollpaaKG11
import Derived.Test.YthcjfgfbeollpaaKG03
import Derived.Deep.MidRow
import Derived.Deep.RegionHeld3
namespace Go.Proofs.Ythcjfgfbeollpaa.SetL
open Go.RowKit Go.Proofs.Ythcjfgfbeollpaa.Base Go.Proofs.Ythcjfgfbeollpaa.Sets Go.Proofs.Ythcjfgfbeollpaa.Bytes

/-- The sets L lie at a. -/
def SL (w : World) (a : Option Addr) (L : List ST) : Prop :=
  L = [] ∨ ∃ bl off : Nat, a = some ⟨bl, off, none⟩ ∧ bl < w.heap.size ∧ ∀ i s, L[i]? = some s → ∀ j, j < 4 → w.cell? ⟨bl, off + (i * 4 + j), none⟩ = some (.int .u64 (s.w j))

theorem SL.keep {S : Nat → Prop} {w w' : World} {a : Option Addr} {L : List ST} (h : SL w a L) (q : Keep S w w') (hn : ∀ x, a = some x → ¬ S x.block) : SL w' a L := by
  rcases h with h | ⟨bl, off, rfl, hb, hc⟩
  · exact .inl h
  · exact .inr ⟨bl, off, rfl, Nat.lt_of_lt_of_le hb q.size, fun i s hs j hj => by rw [q.cell (a := ⟨bl, off + (i * 4 + j), none⟩) hb (show ¬ S bl from hn ⟨bl, off, none⟩ rfl)]; exact hc i s hs j hj⟩

theorem SL.range {w : World} {a : Option Addr} {L : List ST} (h : SL w a L) {i : Nat} {s : ST} (hs : L[i]? = some s) : ∃ bl off : Nat, a = some ⟨bl, off, none⟩ ∧ bl < w.heap.size ∧ w.rangeAt bl (off + i * 4) (cells s).toList := by
  rcases h with rfl | ⟨bl, off, rfl, hb, hc⟩
  · simp at hs
  · refine ⟨bl, off, rfl, hb, fun j v hv => ?_⟩
    have hj : j < 4 := (List.getElem?_eq_some_iff.1 hv).1
    have := hc i s hs j hj
    rw [Nat.add_assoc, this]
    have h2 := cells_at s j hj
    rw [← hv, ← h2]
    simp

theorem SL.cells {w : World} {bl off : Nat} {L : List ST} (h : SL w (some ⟨bl, off, none⟩) L) {i : Nat} {s : ST} (hs : L[i]? = some s) (j : Nat) (hj : j < 4) : w.cell? ⟨bl, off + (i * 4 + j), none⟩ = some (.int .u64 (s.w j)) := by
  rcases h with rfl | ⟨bl', off', h1, hb, hc⟩
  · simp at hs
  · cases h1
    exact hc i s hs j hj

end Go.Proofs.Ythcjfgfbeollpaa.SetL
