/- Plain (layer 7): how far the parser's place may lie behind the text's end. -/
import Derived.Test.YthcjfgfbeollpaaKE01
namespace Go.Proofs.Ythcjfgfbeollpaa.P07

/-- From a right state in the text: right, in the text; or wrong, k bytes behind it at most. From a wrong one: m bytes on at most. -/
structure Near {α : Type} (k m : Nat) (f : List UInt8 → PS → α × PS) : Prop where
  good : ∀ l s, s.bad = none → s.pos ≤ l.length → ((f l s).2.bad = none ∧ (f l s).2.pos ≤ l.length) ∨ ((f l s).2.bad ≠ none ∧ (f l s).2.pos ≤ l.length + k)
  lost : ∀ l s, s.bad ≠ none → (f l s).2.bad ≠ none ∧ (f l s).2.pos ≤ s.pos + m

theorem Near.mono {α : Type} {k m k' m' : Nat} {f : List UInt8 → PS → α × PS} (h : Near k m f) (hk : k ≤ k') (hm : m ≤ m') : Near k' m' f where
  good l s h1 h2 := by
    rcases h.good l s h1 h2 with h3 | h3
    · exact .inl h3
    · exact .inr ⟨h3.1, by omega⟩
  lost l s h1 := ⟨(h.lost l s h1).1, by have := (h.lost l s h1).2; omega⟩
theorem Near.bind {α β : Type} {k m k' m' : Nat} {f : List UInt8 → PS → α × PS} {g : α → List UInt8 → PS → β × PS} (hf : Near k m f) (hg : ∀ r, Near k' m' (g r)) : Near (max k' (k + m')) (m + m') (fun l s => g (f l s).1 l (f l s).2) where
  good l s h1 h2 := by
    rcases hf.good l s h1 h2 with ⟨h3, h4⟩ | ⟨h3, h4⟩
    · rcases (hg (f l s).1).good l _ h3 h4 with h5 | h5
      · exact .inl h5
      · exact .inr ⟨h5.1, by have := h5.2; omega⟩
    · have h5 := (hg (f l s).1).lost l _ h3
      exact .inr ⟨h5.1, by have := h5.2; omega⟩
  lost l s h1 := by
    have h3 := hf.lost l s h1
    have h5 := (hg (f l s).1).lost l _ h3.1
    exact ⟨h5.1, by have := h5.2; omega⟩
theorem Near.pure {α : Type} (r : α) : Near 0 0 (fun _ s => (r, s)) where
  good _ _ h1 h2 := .inl ⟨h1, h2⟩
  lost _ _ h1 := ⟨h1, Nat.le_refl _⟩
theorem fail_bad (s : PS) (k : Nat) : (s.fail k).bad ≠ none := by
  unfold PS.fail
  split
  · simp
  · assumption
theorem fail_at (s : PS) (k : Nat) : (s.fail k).pos = s.pos := by
  unfold PS.fail
  split <;> rfl
theorem Near.fail {α : Type} (r : α) : Near 0 0 (fun _ s => (r, s.fail s.pos)) where
  good _ s _ _ := .inr ⟨fail_bad _ _, by show (s.fail s.pos).pos ≤ _; rw [fail_at]; omega⟩
  lost _ s _ := ⟨fail_bad _ _, by show (s.fail s.pos).pos ≤ _; rw [fail_at]; omega⟩
theorem Near.opens {α : Type} (r : α) (q : Nat → Nat) : Near 0 0 (fun _ s => (r, { s with opn := q s.opn })) where
  good _ _ h1 h2 := .inl ⟨h1, h2⟩
  lost _ _ h1 := ⟨h1, Nat.le_refl _⟩
theorem Near.alive {α : Type} {k m : Nat} {f : List UInt8 → PS → α × PS} (hf : Near k m f) (r : α) : Near k 0 (fun l s => if s.bad = none then f l s else (r, s)) where
  good l s h1 h2 := by rw [if_pos h1]; exact hf.good l s h1 h2
  lost l s h1 := by rw [if_neg h1]; exact ⟨h1, Nat.le_refl _⟩
theorem Near.take {α : Type} {k m : Nat} {h : Int → Nat → List UInt8 → PS → α × PS} (h0 : ∀ o, Near k m (h (-1) o)) (hh : ∀ c o, 0 ≤ c → (∃ m', Near k m' (h c o)) ∨ ∃ m' g, Near k m' g ∧ ∀ l s, h c o l s = g l s.adv) : Near k m (fun l s => h (nxt l s) s.opn l s) where
  good l s h1 h2 := by
    by_cases hc : 0 ≤ nxt l s
    · rcases hh _ s.opn hc with ⟨m', h3⟩ | ⟨m', g, hg, he⟩
      · exact h3.good l s h1 h2
      · rw [he]
        exact hg.good l s.adv h1 (nxt_lt hc).2
    · simp only [nxt_neg hc]
      exact (h0 _).good l s h1 h2
  lost l s h1 := by
    obtain ⟨b, hb⟩ := Option.ne_none_iff_exists'.1 h1
    simp only [nxt_bad hb]
    exact (h0 _).lost l s h1
theorem Near.chk {α β : Type} {k m : Nat} {f : List UInt8 → PS → α × PS} (hf : Near k m f) (kk : α → β) (P : α → Prop) [DecidablePred P] : Near k m (fun l s => (kk (f l s).1, if (f l s).2.bad = none ∧ P (f l s).1 then (f l s).2.fail s.pos else (f l s).2)) where
  good l s h1 h2 := by
    dsimp only
    split
    · rename_i hc
      right
      refine ⟨fail_bad _ _, ?_⟩
      rw [fail_at]
      rcases hf.good l s h1 h2 with h3 | h3
      · omega
      · exact h3.2
    · exact hf.good l s h1 h2
  lost l s h1 := by
    have := hf.lost l s h1
    dsimp only
    rw [if_neg (fun e => this.1 e.1)]
    exact this
end Go.Proofs.Ythcjfgfbeollpaa.P07
/- The grammar keeps the count of open brackets; where the place may lie. -/
namespace Go.Proofs.Ythcjfgfbeollpaa.P07

/-- As many brackets stand open behind f as ahead of it. -/
def Still {α : Type} (f : List UInt8 → PS → α × PS) : Prop := ∀ l s, (f l s).2.opn = s.opn
theorem fail_opn (s : PS) (k : Nat) : (s.fail k).opn = s.opn := by unfold PS.fail; split <;> rfl
theorem must_still (c : Int) : Still (must c) := fun l s => by
  unfold must
  split
  · rfl
  · exact fail_opn _ _
theorem digit_still : Still digit := fun l s => by
  unfold digit
  split
  · rfl
  · exact fail_opn _ _
theorem two_still : Still two := fun l s => by
  unfold two
  exact (digit_still l _).trans (digit_still l s)
theorem esc_still : Still escP := fun l s => by
  unfold escP escB
  split
  · exact two_still l s.adv
  · split
    · rfl
    · split
      · rfl
      · split
        · rfl
        · exact fail_opn _ _
theorem one_still : Still one := fun l s => by
  unfold one oneB
  split
  · rfl
  · split
    · exact esc_still l s.adv
    · exact fail_opn _ _
theorem hi_still (lo : Int) : Still (hiP lo) := fun l s => by
  unfold hiP
  split
  · exact (fail_opn _ _).trans (one_still l s)
  · exact one_still l s
theorem range_still : Still range1 := fun l s => by
  unfold range1 dashB
  split
  · exact (hi_still _ l _).trans (one_still l s)
  · exact one_still l s
theorem set_still : ∀ f acc, Still (setP f acc)
  | 0, _ => fun _ _ => rfl
  | f + 1, acc => fun l s => by
    rw [setP]
    split
    · split
      · rfl
      · exact (set_still f _ l _).trans (range_still l s)
    · rfl
theorem num_still : Still num := fun l s => by
  unfold num numB num2 numB2
  split
  · split
    · rfl
    · rfl
  · exact fail_opn _ _
theorem number_still : Still number := fun l s => by
  unfold number
  split
  · exact (fail_opn _ _).trans (num_still l s)
  · exact num_still l s
theorem max_still (mn : Int) : Still (maxP mn) := fun l s => by
  unfold maxP maxB maxC
  split
  · rfl
  · split
    · exact (fail_opn _ _).trans (number_still l s)
    · exact number_still l s
theorem cma_still (mn : Int) : Still (cmaP mn) := fun l s => by
  unfold cmaP cmaB
  split
  · exact max_still mn l s.adv
  · rfl
theorem braces_still : Still braces := fun l s => by
  unfold braces
  exact (must_still 125 l _).trans ((cma_still _ l _).trans (number_still l s))
theorem clsQ_still (F : Nat) (nt : Bool) : Still (clsQ F nt) := fun l s => by
  unfold clsQ
  exact (must_still 93 l _).trans (set_still F [] l s)
theorem cls_still (F : Nat) : Still (clsP F) := fun l s => by
  unfold clsP clsB
  split
  · exact clsQ_still F true l s.adv
  · exact clsQ_still F false l s
theorem par_still {A : List UInt8 → PS → T × PS} (hA : Still A) : Still (parP A) := fun l s => by
  unfold parP
  refine (must_still 41 l _).trans ?_
  have := hA l { s with opn := s.opn + 1 }
  dsimp only at this ⊢
  omega
theorem atom_still (F : Nat) {A : List UInt8 → PS → T × PS} (hA : Still A) : Still (atomP F A) := fun l s => by
  unfold atomP atomB litP
  split
  · split
    · exact fail_opn _ _
    · exact par_still hA l s.adv
  · split
    · rfl
    · split
      · exact cls_still F l s.adv
      · exact one_still l s
theorem item_still (F : Nat) {A : List UInt8 → PS → T × PS} (hA : Still A) : Still (itemP F A) := fun l s => by
  unfold itemP sgB
  have h := atom_still F hA l s
  split
  · exact h
  · split
    · exact h
    · split
      · exact h
      · split
        · exact (braces_still l _).trans h
        · exact h
theorem catL_still (F : Nat) {A : List UInt8 → PS → T × PS} (hA : Still A) : ∀ f acc, Still (catL F A f acc)
  | 0, _ => fun _ _ => rfl
  | f + 1, acc => fun l s => by
    rw [catL]
    split
    · exact (catL_still F hA f _ l _).trans (item_still F hA l s)
    · rfl
theorem cat_still (F : Nat) {A : List UInt8 → PS → T × PS} (hA : Still A) : Still (catP F A) := fun l s => catL_still F hA F [] l s
theorem altL_still (F : Nat) {A : List UInt8 → PS → T × PS} (hA : Still A) : ∀ f acc, Still (altL F A f acc)
  | 0, _ => fun _ _ => rfl
  | f + 1, acc => fun l s => by
    rw [altL]
    split
    · exact (altL_still F hA f _ l _).trans (cat_still F hA l s.adv)
    · rfl
theorem alt_still (F : Nat) {A : List UInt8 → PS → T × PS} (hA : Still A) : Still (altP F A) := fun l s => (altL_still F hA F _ l _).trans (cat_still F hA l s)
theorem altD_still (F : Nat) : ∀ d, Still (altD F d)
  | 0 => fun _ _ => rfl
  | d + 1 => alt_still F (altD_still F d)

/-- The place, for those who read on. -/
def Here (l : List UInt8) (s : PS) : Prop := (s.bad = none → s.pos ≤ l.length) ∧ s.pos ≤ l.length + 14
theorem Here.next {l : List UInt8} {s : PS} (h : 0 ≤ nxt l s) : s.bad = none ∧ s.pos < l.length ∧ Here l s.adv := by
  have h0 := nxt_lt h
  exact ⟨h0.1, h0.2, fun _ => h0.2, by have := h0.2; show s.pos + 1 ≤ _; omega⟩
end Go.Proofs.Ythcjfgfbeollpaa.P07
/- An item takes at least one byte (layer 7). -/
namespace Go.Proofs.Ythcjfgfbeollpaa.P07

theorem fail_never (s : PS) (k : Nat) : (s.fail k).bad ≠ none := by
  unfold PS.fail
  split
  · simp
  · assumption
theorem Tame.bad_none {α : Type} {f : List UInt8 → PS → α × PS} (hf : Tame f) {l : List UInt8} {s : PS} (h : (f l s).2.bad = none) : s.bad = none := by
  cases hb : s.bad with
  | none => rfl
  | some b =>
    rw [hf.bad l s b hb] at h
    cases h
theorem Tame.fore {α : Type} {f : List UInt8 → PS → α × PS} (hf : Tame f) {l : List UInt8} {s : PS} {n : Nat} (h : (f l s).2.bad = none) (hn : n < s.pos) : n < (f l s).2.pos := by
  rcases hf.past l s n (hf.bad_none h) hn with h1 | ⟨b, _, h1⟩
  · exact h1.2
  · rw [h1] at h
    cases h
theorem Tame.step {α : Type} {f : List UInt8 → PS → α × PS} (hf : Tame f) {l : List UInt8} {s : PS} (h : (f l s.adv).2.bad = none) : s.pos < (f l s.adv).2.pos :=
  hf.fore h (Nat.lt_succ_self s.pos)
theorem atom_moves (F : Nat) {A : List UInt8 → PS → T × PS} (hA : Tame A) (l : List UInt8) (s : PS) (h : (atomP F A l s).2.bad = none) : s.pos < (atomP F A l s).2.pos := by
  unfold atomP atomB at h ⊢
  by_cases h40 : nxt l s = 40
  · rw [if_pos h40] at h ⊢
    by_cases h12 : s.opn = 12
    · rw [if_pos h12] at h
      exact absurd h (fail_never _ _)
    · rw [if_neg h12] at h ⊢
      exact (par_tame hA).step h
  · rw [if_neg h40] at h ⊢
    by_cases h46 : nxt l s = 46
    · rw [if_pos h46]
      exact Nat.lt_succ_self _
    · rw [if_neg h46] at h ⊢
      by_cases h91 : nxt l s = 91
      · rw [if_pos h91] at h ⊢
        exact (cls_tame F).step h
      · rw [if_neg h91] at h ⊢
        exact one_sharp.moves l s h
theorem item_moves (F : Nat) {A : List UInt8 → PS → T × PS} (hA : Tame A) (l : List UInt8) (s : PS) (h : (itemP F A l s).2.bad = none) : s.pos < (itemP F A l s).2.pos := by
  unfold itemP at h ⊢
  have hs := sg_tame (atomP F A l s).1
  have h1 : (atomP F A l s).2.bad = none := hs.bad_none h
  exact hs.fore h (atom_moves F hA l s h1)
end Go.Proofs.Ythcjfgfbeollpaa.P07
/- Plain mathematics for layer 5: bytes that a key does not tell apart, and their classes, numbered by their least bytes. Nothing here names a program. -/
namespace Go.Proofs.Ythcjfgfbeollpaa.Cls
open Go.Proofs.Ythcjfgfbeollpaa.Sets

section
variable {α : Type} [DecidableEq α]

/-- The least one with b's key. -/
def rep (K : Nat → α) (b : Nat) : Nat := seek (fun a => decide (K a = K b)) b 0

/-- Is it the least one of its class? -/
def first (K : Nat → α) (b : Nat) : Bool := decide (rep K b = b)
/-- A byte's class; how many there are. -/
def cls (K : Nat → α) (b : Nat) : Nat := cnt (first K) (rep K b)
end

/-- Sets as a key. -/
def key (l : List ST) (b : Nat) : List Bool := l.map fun s => s.has b

end Go.Proofs.Ythcjfgfbeollpaa.Cls
