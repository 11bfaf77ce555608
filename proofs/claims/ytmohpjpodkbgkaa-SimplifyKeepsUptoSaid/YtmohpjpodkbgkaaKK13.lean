/- A slice of sets in memory, as an argument or of the program's own, and the document's alike. -/
import Derived.Test.YtmohpjpodkbgkaaKK11
import Derived.Test.YtmohpjpodkbgkaaKK01
import Derived.Deep.MidRow
import Derived.Deep.RegionHeld3
namespace Go.Proofs.Ytmohpjpodkbgkaa.SetL
open Go.RowKit Go.Proofs.Ytmohpjpodkbgkaa.Base Go.Proofs.Ytmohpjpodkbgkaa.Sets Go.Proofs.Ytmohpjpodkbgkaa.Bytes

/-- The sets L lie at a. -/
def SL (w : World) (a : Option Addr) (L : List ST) : Prop :=
  L = [] ∨ ∃ bl off : Nat, a = some ⟨bl, off, none⟩ ∧ bl < w.heap.size ∧ ∀ i s, L[i]? = some s → ∀ j, j < 4 → w.cell? ⟨bl, off + (i * 4 + j), none⟩ = some (.int .u64 (s.w j))

theorem SL.keep {S : Nat → Prop} {w w' : World} {a : Option Addr} {L : List ST} (h : SL w a L) (q : Keep S w w') (hn : ∀ x, a = some x → ¬ S x.block) : SL w' a L := by
  rcases h with h | ⟨bl, off, rfl, hb, hc⟩
  · exact .inl h
  · exact .inr ⟨bl, off, rfl, Nat.lt_of_lt_of_le hb q.size, fun i s hs j hj => by rw [q.cell (a := ⟨bl, off + (i * 4 + j), none⟩) hb (show ¬ S bl from hn ⟨bl, off, none⟩ rfl)]; exact hc i s hs j hj⟩

theorem SL.range {w : World} {a : Option Addr} {L : List ST} (h : SL w a L) {i : Nat} {s : ST} (hs : L[i]? = some s) : ∃ bl off : Nat, a = some ⟨bl, off, none⟩ ∧ bl < w.heap.size ∧ w.rangeAt bl (off + i * 4) (cells s).toList := by
  rcases h with rfl | ⟨bl, off, rfl, hb, hc⟩
  · simp at hs
  · refine ⟨bl, off, rfl, hb, fun j v hv => ?_⟩
    have hj : j < 4 := (List.getElem?_eq_some_iff.1 hv).1
    have := hc i s hs j hj
    rw [Nat.add_assoc, this]
    have h2 := cells_at s j hj
    rw [← hv, ← h2]
    simp

/-- In the same ones of the sets? -/
def alike (L : List ST) (x y : Nat) : Bool := L.all fun s => s.has x == s.has y
def alikeFrom (L : List ST) (x y : Nat) (i : Nat) : Bool := alike (L.drop i) x y

theorem alikeFrom_end (L : List ST) (x y : Nat) : alikeFrom L x y L.length = true := by simp [alikeFrom, alike]
theorem alikeFrom_step (L : List ST) (x y i : Nat) (s : ST) (h : L[i]? = some s) : alikeFrom L x y i = ((s.has x == s.has y) && alikeFrom L x y (i + 1)) := by
  obtain ⟨hi, e⟩ := List.getElem?_eq_some_iff.1 h
  unfold alikeFrom alike
  rw [List.drop_eq_getElem_cons hi, e]
  rfl


theorem SL.cells {w : World} {bl off : Nat} {L : List ST} (h : SL w (some ⟨bl, off, none⟩) L) {i : Nat} {s : ST} (hs : L[i]? = some s) (j : Nat) (hj : j < 4) : w.cell? ⟨bl, off + (i * 4 + j), none⟩ = some (.int .u64 (s.w j)) := by
  rcases h with rfl | ⟨bl', off', h1, hb, hc⟩
  · simp at hs
  · cases h1
    exact hc i s hs j hj

theorem rhas_is {s : ST} {b : Nat} {v : Bool} (hb : b < 256) (h : s.has b = v) (w : World) : Calls Try.prog 45 #[val s, .int .i64 b] w fun e w' => e = .returned (.bool v) ∧ Keep (fun _ => False) w w' := by
  rw [← h]
  exact rhas_any s b hb w

end Go.Proofs.Ytmohpjpodkbgkaa.SetL
