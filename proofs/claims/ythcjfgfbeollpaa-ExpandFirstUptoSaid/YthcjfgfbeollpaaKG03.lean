/- An item takes at least one byte (layer 7). -/
import Derived.Test.YthcjfgfbeollpaaKG02
import Derived.Test.YthcjfgfbeollpaaKG01
namespace Go.Proofs.Ythcjfgfbeollpaa.P07

theorem fail_never (s : PS) (k : Nat) : (s.fail k).bad ≠ none := by
  unfold PS.fail
  split
  · simp
  · assumption
theorem Tame.bad_none {α : Type} {f : List UInt8 → PS → α × PS} (hf : Tame f) {l : List UInt8} {s : PS} (h : (f l s).2.bad = none) : s.bad = none := by
  cases hb : s.bad with
  | none => rfl
  | some b =>
    rw [hf.bad l s b hb] at h
    cases h
theorem Tame.fore {α : Type} {f : List UInt8 → PS → α × PS} (hf : Tame f) {l : List UInt8} {s : PS} {n : Nat} (h : (f l s).2.bad = none) (hn : n < s.pos) : n < (f l s).2.pos := by
  rcases hf.past l s n (hf.bad_none h) hn with h1 | ⟨b, _, h1⟩
  · exact h1.2
  · rw [h1] at h
    cases h
theorem Tame.step {α : Type} {f : List UInt8 → PS → α × PS} (hf : Tame f) {l : List UInt8} {s : PS} (h : (f l s.adv).2.bad = none) : s.pos < (f l s.adv).2.pos :=
  hf.fore h (Nat.lt_succ_self s.pos)
theorem atom_moves (F : Nat) {A : List UInt8 → PS → T × PS} (hA : Tame A) (l : List UInt8) (s : PS) (h : (atomP F A l s).2.bad = none) : s.pos < (atomP F A l s).2.pos := by
  unfold atomP atomB at h ⊢
  by_cases h40 : nxt l s = 40
  · rw [if_pos h40] at h ⊢
    by_cases h12 : s.opn = 12
    · rw [if_pos h12] at h
      exact absurd h (fail_never _ _)
    · rw [if_neg h12] at h ⊢
      exact (par_tame hA).step h
  · rw [if_neg h40] at h ⊢
    by_cases h46 : nxt l s = 46
    · rw [if_pos h46]
      exact Nat.lt_succ_self _
    · rw [if_neg h46] at h ⊢
      by_cases h91 : nxt l s = 91
      · rw [if_pos h91] at h ⊢
        exact (cls_tame F).step h
      · rw [if_neg h91] at h ⊢
        exact one_sharp.moves l s h
theorem item_moves (F : Nat) {A : List UInt8 → PS → T × PS} (hA : Tame A) (l : List UInt8) (s : PS) (h : (itemP F A l s).2.bad = none) : s.pos < (itemP F A l s).2.pos := by
  unfold itemP at h ⊢
  have hs := sg_tame (atomP F A l s).1
  have h1 : (atomP F A l s).2.bad = none := hs.bad_none h
  exact hs.fore h (atom_moves F hA l s h1)
end Go.Proofs.Ythcjfgfbeollpaa.P07
/- Plain mathematics for layer 5: bytes that a key does not tell apart, and their classes, numbered by their least bytes. Nothing here names a program. -/
namespace Go.Proofs.Ythcjfgfbeollpaa.Cls
open Go.Proofs.Ythcjfgfbeollpaa.Sets

section
variable {α : Type} [DecidableEq α]

/-- The least one with b's key. -/
def rep (K : Nat → α) (b : Nat) : Nat := seek (fun a => decide (K a = K b)) b 0

/-- Is it the least one of its class? -/
def first (K : Nat → α) (b : Nat) : Bool := decide (rep K b = b)
/-- A byte's class; how many there are. -/
def cls (K : Nat → α) (b : Nat) : Nat := cnt (first K) (rep K b)
end

/-- Sets as a key. -/
def key (l : List ST) (b : Nat) : List Bool := l.map fun s => s.has b

end Go.Proofs.Ythcjfgfbeollpaa.Cls
