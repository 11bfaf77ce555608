/- Plain mathematics: sets of bytes as four words; what or, and, not, ranges are, byte by byte. Nothing here names a program. -/
namespace Go.Proofs.Ythcjfgfbeollpaa.Sets

/-- Four words. -/
structure ST where
  x0 : Nat
  x1 : Nat
  x2 : Nat
  x3 : Nat

namespace ST

def w (s : ST) : Nat → Nat
  | 0 => s.x0
  | 1 => s.x1
  | 2 => s.x2
  | _ => s.x3

def of4 (f : Nat → Nat) : ST := ⟨f 0, f 1, f 2, f 3⟩

structure Ok (s : ST) : Prop where
  h0 : s.x0 < 18446744073709551616
  h1 : s.x1 < 18446744073709551616
  h2 : s.x2 < 18446744073709551616
  h3 : s.x3 < 18446744073709551616

theorem Ok.w {s : ST} (h : s.Ok) (i : Nat) : s.w i < 18446744073709551616 := by
  match i with
  | 0 => exact h.h0
  | 1 => exact h.h1
  | 2 => exact h.h2
  | i + 3 => exact h.h3

theorem w_of4 (f : Nat → Nat) (i : Nat) (h : i < 4) : (of4 f).w i = f i := by
  match i, h with
  | 0, _ => rfl
  | 1, _ => rfl
  | 2, _ => rfl
  | 3, _ => rfl

theorem of4_ok {f : Nat → Nat} (h : ∀ i, f i < 18446744073709551616) : (of4 f).Ok := ⟨h 0, h 1, h 2, h 3⟩

/-- Is byte b there? -/
def has (s : ST) (b : Nat) : Bool := (s.w (b / 64)).testBit (b % 64)

theorem has_of4 (f : Nat → Nat) (b : Nat) (h : b < 256) : (of4 f).has b = (f (b / 64)).testBit (b % 64) := by
  unfold has
  rw [w_of4 _ _ (by omega)]

theorem word_ext {x y : Nat} (hx : x < 18446744073709551616) (hy : y < 18446744073709551616) (h : ∀ j, j < 64 → x.testBit j = y.testBit j) : x = y := by
  apply Nat.eq_of_testBit_eq
  intro j
  rcases Nat.lt_or_ge j 64 with hj | hj
  · exact h j hj
  · have e : (2 : Nat) ^ 64 ≤ 2 ^ j := Nat.pow_le_pow_right (by decide) hj
    rw [Nat.testBit_lt_two_pow (by omega), Nat.testBit_lt_two_pow (by omega)]

theorem ext {s t : ST} (hs : s.Ok) (ht : t.Ok) (h : ∀ b, b < 256 → s.has b = t.has b) : s = t := by
  have e : ∀ i, i < 4 → s.w i = t.w i := fun i hi => word_ext (hs.w i) (ht.w i) (fun j hj => by
    have := h (64 * i + j) (by omega)
    unfold has at this
    have e1 : (64 * i + j) / 64 = i := by omega
    have e2 : (64 * i + j) % 64 = j := by omega
    rwa [e1, e2] at this)
  obtain ⟨a0, a1, a2, a3⟩ := s
  obtain ⟨b0, b1, b2, b3⟩ := t
  have e0 : a0 = b0 := e 0 (by decide)
  have e1 : a1 = b1 := e 1 (by decide)
  have e2 : a2 = b2 := e 2 (by decide)
  have e3 : a3 = b3 := e 3 (by decide)
  rw [e0, e1, e2, e3]

def none : ST := ⟨0, 0, 0, 0⟩
theorem none_ok : none.Ok := by constructor <;> decide
theorem has_none (b : Nat) : none.has b = false := by
  unfold has
  have : none.w (b / 64) = 0 := by
    generalize b / 64 = i
    match i with
    | 0 => rfl
    | 1 => rfl
    | 2 => rfl
    | i + 3 => rfl
  rw [this, Nat.zero_testBit]

def and (s t : ST) : ST := of4 fun i => s.w i &&& t.w i
def or (s t : ST) : ST := of4 fun i => s.w i ||| t.w i
def not (s : ST) : ST := of4 fun i => 18446744073709551615 - s.w i
def below (n : Nat) : ST := of4 fun i => 2 ^ min (n - 64 * i) 64 - 1
def range (lo hi : Nat) : ST := and (below (hi + 1)) (not (below lo))
def one (b : Nat) : ST := range b b

theorem and_ok {s t : ST} (hs : s.Ok) : (and s t).Ok := of4_ok fun i => Nat.lt_of_le_of_lt Nat.and_le_left (hs.w i)
theorem or_ok {s t : ST} (hs : s.Ok) (ht : t.Ok) : (or s t).Ok := of4_ok fun i => Nat.or_lt_two_pow (n := 64) (hs.w i) (ht.w i)
theorem not_ok (s : ST) : (not s).Ok := of4_ok fun i => by omega
theorem below_ok (n : Nat) : (below n).Ok := of4_ok fun i => by
  have : (2 : Nat) ^ min (n - 64 * i) 64 ≤ 2 ^ 64 := Nat.pow_le_pow_right (by decide) (by omega)
  have h0 : 0 < (2 : Nat) ^ min (n - 64 * i) 64 := Nat.two_pow_pos _
  omega
theorem range_ok (lo hi : Nat) : (range lo hi).Ok := and_ok (below_ok _)
theorem one_ok (b : Nat) : (one b).Ok := range_ok _ _

theorem has_and (s t : ST) (b : Nat) (h : b < 256) : (and s t).has b = (s.has b && t.has b) := by
  rw [and, has_of4 _ _ h, Nat.testBit_and]; rfl
theorem has_or (s t : ST) (b : Nat) (h : b < 256) : (or s t).has b = (s.has b || t.has b) := by
  rw [or, has_of4 _ _ h, Nat.testBit_or]; rfl
theorem has_not {s : ST} (hs : s.Ok) (b : Nat) (h : b < 256) : (not s).has b = !s.has b := by
  rw [not, has_of4 _ _ h]
  have e : 18446744073709551615 - s.w (b / 64) = 2 ^ 64 - (s.w (b / 64) + 1) := by omega
  rw [e, Nat.testBit_two_pow_sub_succ (hs.w _)]
  have : b % 64 < 64 := by omega
  simp [this, has]
theorem has_below (n b : Nat) (h : b < 256) : (below n).has b = decide (b < n) := by
  rw [below, has_of4 _ _ h, Nat.testBit_two_pow_sub_one]
  apply decide_eq_decide.2
  omega
theorem has_range (lo hi b : Nat) (h : b < 256) : (range lo hi).has b = decide (lo ≤ b ∧ b ≤ hi) := by
  rw [range, has_and _ _ _ h, has_not (below_ok _) _ h, has_below _ _ h, has_below _ _ h]
  rw [Bool.eq_iff_iff]
  simp
  omega
theorem has_one (x b : Nat) (h : b < 256) : (one x).has b = decide (b = x) := by
  rw [one, has_range _ _ _ h]
  apply decide_eq_decide.2
  omega

end ST

/-! ### Counting -/

/-- How many numbers below k are there? -/
def cnt (p : Nat → Bool) : Nat → Nat
  | 0 => 0
  | k + 1 => cnt p k + (p k).toNat

theorem cnt_le (p : Nat → Bool) : ∀ k, cnt p k ≤ k
  | 0 => Nat.le_refl _
  | k + 1 => by
    have := cnt_le p k
    have := Bool.toNat_le (p k)
    unfold cnt
    omega

theorem cnt_congr {p q : Nat → Bool} : ∀ {k}, (∀ b, b < k → p b = q b) → cnt p k = cnt q k
  | 0, _ => rfl
  | k + 1, h => by
    unfold cnt
    rw [cnt_congr (fun b hb => h b (by omega)), h k (by omega)]

theorem cnt_add (p : Nat → Bool) (m : Nat) : ∀ n, cnt p (m + n) = cnt p m + cnt (fun i => p (m + i)) n
  | 0 => rfl
  | n + 1 => by
    show cnt p (m + n) + (p (m + n)).toNat = cnt p m + (cnt (fun i => p (m + i)) n + (p (m + n)).toNat)
    rw [cnt_add p m n, Nat.add_assoc]

theorem cnt_zero {p : Nat → Bool} : ∀ {k}, cnt p k = 0 → ∀ b, b < k → p b = false
  | 0, _, b, hb => by omega
  | k + 1, h, b, hb => by
    unfold cnt at h
    rcases Nat.lt_succ_iff_lt_or_eq.1 hb with hb | rfl
    · exact cnt_zero (by omega) b hb
    · cases e : p b
      · rfl
      · rw [e] at h; simp at h

theorem cnt_pos {p : Nat → Bool} {b : Nat} (hb : p b = true) : ∀ {k}, b < k → 0 < cnt p k
  | 0, h => by omega
  | k + 1, h => by
    unfold cnt
    rcases Nat.lt_succ_iff_lt_or_eq.1 h with h | rfl
    · have := cnt_pos hb h
      omega
    · rw [hb]; simp

/-- The bits of a word. -/
def pc (x : Nat) : Nat := cnt x.testBit 64

namespace ST
def count (s : ST) : Nat := cnt s.has 256
end ST

/-! ### The next one -/

/-- The least number from n on, of k, that is there; n + k: none. -/
def seek (p : Nat → Bool) : Nat → Nat → Nat
  | 0, n => n
  | k + 1, n => if p n then n else seek p k (n + 1)

/-- The least byte from n on; 256: none. -/
def nxt (p : Nat → Bool) (n : Nat) : Nat := seek p (256 - n) n

structure Nx (p : Nat → Bool) (n r : Nat) : Prop where
  lo : n ≤ r
  hi : r ≤ 256
  gap : ∀ b, n ≤ b → b < r → p b = false
  at' : r < 256 → p r = true

theorem seek_nx (p : Nat → Bool) : ∀ k n, n + k = 256 → Nx p n (seek p k n)
  | 0, n, h => ⟨Nat.le_refl _, by simp [seek]; omega, fun b h1 h2 => by simp [seek] at h2; omega, fun h' => by simp [seek] at h'; omega⟩
  | k + 1, n, h => by
    unfold seek
    cases e : p n
    · simp only [Bool.false_eq_true, if_false]
      have i := seek_nx p k (n + 1) (by omega)
      refine ⟨by have := i.lo; omega, i.hi, fun b h1 h2 => ?_, i.at'⟩
      rcases Nat.eq_or_lt_of_le h1 with rfl | h1
      · exact e
      · exact i.gap b h1 h2
    · simp only [if_true]
      exact ⟨Nat.le_refl _, by omega, fun b h1 h2 => by omega, fun _ => e⟩

theorem nxt_nx (p : Nat → Bool) (n : Nat) (h : n ≤ 256) : Nx p n (nxt p n) := seek_nx p _ n (by omega)

theorem Nx.eq {p : Nat → Bool} {n r : Nat} (h : Nx p n r) : r = nxt p n := by
  have k := nxt_nx p n (by have := h.lo; have := h.hi; omega)
  rcases Nat.lt_trichotomy r (nxt p n) with hl | hl | hl
  · have := k.gap r h.lo hl
    rw [h.at' (by have := k.hi; omega)] at this
    cases this
  · exact hl
  · have := h.gap _ k.lo hl
    rw [k.at' (by have := h.hi; omega)] at this
    cases this

/-! ### Ranges -/

/-- The last range's end set to k. -/
def stretch (k : Nat) : List (Nat × Nat) → List (Nat × Nat)
  | [] => []
  | [(a, _)] => [(a, k)]
  | x :: y :: l => x :: stretch k (y :: l)

/-- The ranges of what is there below k. -/
def rgs (p : Nat → Bool) : Nat → List (Nat × Nat)
  | 0 => []
  | k + 1 => if p k then (if k ≠ 0 ∧ p (k - 1) = true then stretch k (rgs p k) else rgs p k ++ [(k, k)]) else rgs p k

/-- What is known of the ranges below k. -/
structure RgOk (p : Nat → Bool) (k : Nat) (l : List (Nat × Nat)) : Prop where
  mem : ∀ b, (∃ r, r ∈ l ∧ r.1 ≤ b ∧ b ≤ r.2) ↔ (b < k ∧ p b = true)
  ord : ∀ r, r ∈ l → r.1 ≤ r.2 ∧ r.2 < k
  pair : l.Pairwise fun r s => r.2 + 1 < s.1
  sum : (l.map fun r => r.2 - r.1 + 1).sum = cnt p k

end Go.Proofs.Ythcjfgfbeollpaa.Sets
/- Plain mathematics: the grammar of layer 7, read from the left with one byte ahead (P7.1), as a function on lists of bytes; what the first wrong place says (first_wrong), brackets round a text (deep_in, deep_wrong, round1, round2). Nothing here names a program. -/
namespace Go.Proofs.Ythcjfgfbeollpaa.P07
open Go.Proofs.Ythcjfgfbeollpaa.Sets (ST)

/-- The set of some bytes; of all others. -/
def mkS (L : List Nat) : ST := L.foldl (fun s b => ST.or s (ST.one b)) ST.none
def notS (s : ST) : ST := ST.not s
/-- Is a byte written as itself? -/
def plainN (b : Nat) : Bool := decide (97 ≤ b ∧ b ≤ 122 ∨ 65 ≤ b ∧ b ≤ 90 ∨ 48 ≤ b ∧ b ≤ 57) || ([32, 33, 34, 35, 37, 38, 39, 44, 47, 58, 59, 60, 61, 62, 64, 95, 96, 126] : List Nat).contains b
def plainI (c : Int) : Bool := decide (0 ≤ c) && plainN c.toNat
theorem plainI_no {c : Int} (h : c < 0) : plainI c = false := by
  unfold plainI
  rw [decide_eq_false (by omega)]
  rfl
def byteAt (l : List UInt8) (k : Nat) : Nat := (l[k]?.getD 0).toNat
/-- Is a byte one of the signs that a \ makes plain? -/
def inSg (c : Int) : Bool := c = 124 || c = 42 || c = 43 || c = 63 || c = 40 || c = 41 || c = 91 || c = 93 || c = 123 || c = 125 || c = 46 || c = 92 || c = 94 || c = 36 || c = 45
def hexv (c : Int) : Int := if 48 ≤ c ∧ c ≤ 57 then c - 48 else if 97 ≤ c ∧ c ≤ 102 then c - 87 else -1
def isDig (c : Int) : Bool := decide (48 ≤ c ∧ c ≤ 57)

/-- An expression. -/
inductive T where
  | nd (kind : Int) (set : ST) (mn mx : Int) (subs : List T)

/-- A parser's state. -/
structure PS where
  pos : Nat
  bad : Option Nat
  opn : Nat

def nxt (l : List UInt8) (s : PS) : Int := if s.bad = none ∧ s.pos < l.length then byteAt l s.pos else -1
def PS.fail (s : PS) (k : Nat) : PS := if s.bad = none then { s with bad := some k } else s
def PS.adv (s : PS) : PS := { s with pos := s.pos + 1 }

def Dead (n : Nat) (s1 s2 : PS) : Prop := s2.bad = some n ∨ (s2.bad = none ∧ s2.pos = n) ∨ (s1.bad = none ∧ n < s1.pos) ∨ (∃ b, b ≠ n ∧ s1.bad = some b)

/-- What is said of each piece of the parser: what was wrong stays so; at the text's end it stands still, or the end is wrong; past a place it is never wrong there; of a text that is cut at n it does the same, unless one of the two is past, or at, its end. -/
structure Tame {α : Type} (f : List UInt8 → PS → α × PS) : Prop where
  bad : ∀ l s b, s.bad = some b → (f l s).2.bad = some b
  fin : ∀ l s, s.bad = none → s.pos = l.length → ((f l s).2.bad = none ∧ (f l s).2.pos = l.length) ∨ (f l s).2.bad = some l.length
  past : ∀ l s n, s.bad = none → n < s.pos → ((f l s).2.bad = none ∧ n < (f l s).2.pos) ∨ ∃ b, b ≠ n ∧ (f l s).2.bad = some b
  inb : ∀ l s, s.bad = none → s.pos ≤ l.length → ((f l s).2.bad = none ∧ (f l s).2.pos ≤ l.length) ∨ ∃ b, b ≤ l.length ∧ (f l s).2.bad = some b
  cut : ∀ l n s, n ≤ l.length → s.bad = none → s.pos < n → (f l s = f (l.take n) s ∧ (f l s).2.bad = none ∧ (f l s).2.pos ≤ n) ∨ Dead n (f l s).2 (f (l.take n) s).2

theorem nxt_cut {l : List UInt8} {n : Nat} {s : PS} (hn : n ≤ l.length) (h : s.pos < n) : nxt (l.take n) s = nxt l s := by
  have h1 : s.pos < l.length := by omega
  have h2 : s.pos < (l.take n).length := by rw [List.length_take]; omega
  unfold nxt byteAt
  rw [List.getElem?_take_of_lt h]
  simp only [h1, h2]
theorem nxt_fin {l : List UInt8} {s : PS} (h : l.length ≤ s.pos) : nxt l s = -1 := by
  unfold nxt
  rw [if_neg (by omega)]
theorem nxt_bad {l : List UInt8} {s : PS} {b : Nat} (h : s.bad = some b) : nxt l s = -1 := by
  unfold nxt
  rw [if_neg (by rw [h]; simp)]
theorem nxt_lt {l : List UInt8} {s : PS} (h : 0 ≤ nxt l s) : s.bad = none ∧ s.pos < l.length := by
  unfold nxt at h
  split at h
  · assumption
  · omega
theorem nxt_neg {l : List UInt8} {s : PS} (h : ¬ 0 ≤ nxt l s) : nxt l s = -1 := by
  unfold nxt at h ⊢
  split
  · rename_i h1
    rw [if_pos h1] at h
    omega
  · rfl

theorem Tame.bind {α β : Type} {f : List UInt8 → PS → α × PS} {g : α → List UInt8 → PS → β × PS} (hf : Tame f) (hg : ∀ r, Tame (g r)) : Tame (fun l s => g (f l s).1 l (f l s).2) where
  bad l s b h := (hg _).bad l _ b (hf.bad l s b h)
  fin l s h1 h2 := by
    rcases hf.fin l s h1 h2 with ⟨h3, h4⟩ | h3
    · exact (hg _).fin l _ h3 h4
    · exact .inr ((hg _).bad l _ _ h3)
  past l s n h1 h2 := by
    rcases hf.past l s n h1 h2 with ⟨h3, h4⟩ | ⟨b, h3, h4⟩
    · exact (hg _).past l _ n h3 h4
    · exact .inr ⟨b, h3, (hg _).bad l _ _ h4⟩
  inb l s h1 h2 := by
    rcases hf.inb l s h1 h2 with ⟨h3, h4⟩ | ⟨b, h3, h4⟩
    · exact (hg _).inb l _ h3 h4
    · exact .inr ⟨b, h3, (hg _).bad l _ _ h4⟩
  cut l n s hn h1 h2 := by
    have hl : (l.take n).length = n := by rw [List.length_take]; omega
    rcases hf.cut l n s hn h1 h2 with ⟨h3, h4, h5⟩ | h3 | h3 | h3 | ⟨b, h3, h4⟩
    · rw [← h3]
      rcases Nat.lt_or_ge (f l s).2.pos n with h6 | h6
      · exact (hg _).cut l n _ hn h4 h6
      · have h7 : (f l s).2.pos = (l.take n).length := by omega
        rcases (hg (f l s).1).fin (l.take n) _ h4 h7 with ⟨h8, h9⟩ | h8
        · exact .inr (.inr (.inl ⟨h8, by omega⟩))
        · exact .inr (.inl (by rw [h8, hl]))
    · exact .inr (.inl ((hg _).bad _ _ _ h3))
    · rcases (hg (f (l.take n) s).1).fin (l.take n) _ h3.1 (by omega) with ⟨h8, h9⟩ | h8
      · exact .inr (.inr (.inl ⟨h8, by omega⟩))
      · exact .inr (.inl (by rw [h8, hl]))
    · rcases (hg (f l s).1).past l _ n h3.1 h3.2 with h8 | ⟨b, h8, h9⟩
      · exact .inr (.inr (.inr (.inl h8)))
      · exact .inr (.inr (.inr (.inr ⟨b, h8, h9⟩)))
    · exact .inr (.inr (.inr (.inr ⟨b, h3, (hg _).bad _ _ _ h4⟩)))

theorem Tame.pure {α : Type} (r : α) : Tame (fun _ s => (r, s)) where
  bad l s b h := h
  fin l s h1 h2 := .inl ⟨h1, h2⟩
  past l s n h1 h2 := .inl ⟨h1, h2⟩
  inb l s h1 h2 := .inl ⟨h1, h2⟩
  cut l n s hn h1 h2 := .inl ⟨rfl, h1, by show s.pos ≤ n; omega⟩

theorem Tame.fail {α : Type} (r : α) : Tame (fun _ s => (r, s.fail s.pos)) where
  bad l s b h := by simp [PS.fail, h]
  fin l s h1 h2 := .inr (by simp [PS.fail, h1, h2])
  past l s n h1 h2 := .inr ⟨s.pos, by omega, by simp [PS.fail, h1]⟩
  inb l s h1 h2 := .inr ⟨s.pos, h2, by simp [PS.fail, h1]⟩
  cut l n s hn h1 h2 := .inr (.inr (.inr (.inr ⟨s.pos, by omega, by simp [PS.fail, h1]⟩)))

/-- Brackets are counted beside. -/
theorem Tame.opens {α : Type} (r : α) (k : Nat → Nat) : Tame (fun _ s => (r, { s with opn := k s.opn })) where
  bad l s b h := h
  fin l s h1 h2 := .inl ⟨h1, h2⟩
  past l s n h1 h2 := .inl ⟨h1, h2⟩
  inb l s h1 h2 := .inl ⟨h1, h2⟩
  cut l n s hn h1 h2 := .inl ⟨rfl, h1, by show s.pos ≤ n; omega⟩

theorem Tame.alive {α : Type} {f : List UInt8 → PS → α × PS} (hf : Tame f) (r : α) : Tame (fun l s => if s.bad = none then f l s else (r, s)) where
  bad l s b h := by rw [if_neg (by rw [h]; simp)]; exact h
  fin l s h1 h2 := by rw [if_pos h1]; exact hf.fin l s h1 h2
  past l s n h1 h2 := by rw [if_pos h1]; exact hf.past l s n h1 h2
  inb l s h1 h2 := by rw [if_pos h1]; exact hf.inb l s h1 h2
  cut l n s hn h1 h2 := by rw [if_pos h1, if_pos h1]; exact hf.cut l n s hn h1 h2

/-- A branch by the byte that stands there, which isn't taken. -/
theorem Tame.on {α : Type} {h : Int → List UInt8 → PS → α × PS} (hh : ∀ c, Tame (h c)) : Tame (fun l s => h (nxt l s) l s) where
  bad l s b h := (hh _).bad l s b h
  fin l s h1 h2 := (hh _).fin l s h1 h2
  past l s n h1 h2 := (hh _).past l s n h1 h2
  inb l s h1 h2 := (hh _).inb l s h1 h2
  cut l n s hn h1 h2 := by
    simp only [nxt_cut hn h2]
    exact (hh _).cut l n s hn h1 h2
/-- .. which may be taken, where one stands. -/
theorem Tame.take {α : Type} {h : Int → Nat → List UInt8 → PS → α × PS} (h0 : ∀ o, Tame (h (-1) o)) (hh : ∀ c o, 0 ≤ c → Tame (h c o) ∨ ∃ g : List UInt8 → PS → α × PS, Tame g ∧ ∀ l s, h c o l s = g l s.adv) : Tame (fun l s => h (nxt l s) s.opn l s) where
  bad l s b hb := by
    simp only [nxt_bad hb]
    exact (h0 _).bad l s b hb
  fin l s h1 h2 := by
    simp only [nxt_fin (Nat.le_of_eq h2.symm)]
    exact (h0 _).fin l s h1 h2
  past l s n h1 h2 := by
    by_cases hc : 0 ≤ nxt l s
    · rcases hh _ s.opn hc with h3 | ⟨g, hg, he⟩
      · exact h3.past l s n h1 h2
      · rw [he]
        exact hg.past l s.adv n h1 (by show n < s.pos + 1; omega)
    · simp only [nxt_neg hc]
      exact (h0 _).past l s n h1 h2
  inb l s h1 h2 := by
    by_cases hc : 0 ≤ nxt l s
    · rcases hh _ s.opn hc with h3 | ⟨g, hg, he⟩
      · exact h3.inb l s h1 h2
      · rw [he]
        exact hg.inb l s.adv h1 (nxt_lt hc).2
    · simp only [nxt_neg hc]
      exact (h0 _).inb l s h1 h2
  cut l n s hn h1 h2 := by
    have hl : (l.take n).length = n := by rw [List.length_take]; omega
    simp only [nxt_cut hn h2]
    by_cases hc : 0 ≤ nxt l s
    · rcases hh _ s.opn hc with h3 | ⟨g, hg, he⟩
      · exact h3.cut l n s hn h1 h2
      · rw [he, he]
        rcases Nat.lt_or_ge (s.pos + 1) n with h6 | h6
        · exact hg.cut l n s.adv hn h1 h6
        · rcases hg.fin (l.take n) s.adv h1 (by show s.pos + 1 = _; omega) with ⟨h8, h9⟩ | h8
          · exact .inr (.inr (.inl ⟨h8, by omega⟩))
          · exact .inr (.inl (by rw [h8, hl]))
    · simp only [nxt_neg hc]
      exact (h0 _).cut l n s hn h1 h2

/-- What must read something: at the end it is wrong there; it moves; of a cut text it never ends at the end with another answer. -/
structure Sharp {α : Type} (f : List UInt8 → PS → α × PS) : Prop extends Tame f where
  eager : ∀ l s, s.bad = none → s.pos = l.length → (f l s).2.bad = some l.length
  moves : ∀ l s, (f l s).2.bad = none → s.pos < (f l s).2.pos
  sharp : ∀ l n s, n ≤ l.length → s.bad = none → s.pos < n → (f l s = f (l.take n) s ∧ (f l s).2.bad = none ∧ (f l s).2.pos ≤ n) ∨ (f (l.take n) s).2.bad = some n ∨ ((f l s).2.bad = none ∧ n < (f l s).2.pos) ∨ ∃ b, b ≠ n ∧ (f l s).2.bad = some b

theorem Sharp.map {α β : Type} {f : List UInt8 → PS → α × PS} (hf : Sharp f) (k : α → β) : Sharp (fun l s => (k (f l s).1, (f l s).2)) where
  toTame := hf.toTame.bind (fun r => Tame.pure (k r))
  eager l s h1 h2 := hf.eager l s h1 h2
  moves l s h1 := hf.moves l s h1
  sharp l n s hn h1 h2 := by
    rcases hf.sharp l n s hn h1 h2 with ⟨h3, h4, h5⟩ | h3 | h3 | h3
    · exact .inl ⟨by rw [h3], h4, h5⟩
    · exact .inr (.inl h3)
    · exact .inr (.inr (.inl h3))
    · exact .inr (.inr (.inr h3))

theorem Sharp.bind {α β : Type} {f : List UInt8 → PS → α × PS} {g : α → List UInt8 → PS → β × PS} (hf : Sharp f) (hg : ∀ r, Sharp (g r)) : Sharp (fun l s => g (f l s).1 l (f l s).2) where
  toTame := hf.toTame.bind (fun r => (hg r).toTame)
  eager l s h1 h2 := (hg _).bad l _ _ (hf.eager l s h1 h2)
  moves l s h1 := by
    have h2 := (hg _).moves l _ h1
    cases hb : (f l s).2.bad with
    | none =>
      have := hf.moves l s hb
      omega
    | some b =>
      have := (hg (f l s).1).bad l _ b hb
      rw [this] at h1
      cases h1
  sharp l n s hn h1 h2 := by
    have hl : (l.take n).length = n := by rw [List.length_take]; omega
    rcases hf.sharp l n s hn h1 h2 with ⟨h3, h4, h5⟩ | h3 | h3 | ⟨b, h3, h4⟩
    · rw [← h3]
      rcases Nat.lt_or_ge (f l s).2.pos n with h6 | h6
      · exact (hg _).sharp l n _ hn h4 h6
      · have h7 : (f l s).2.pos = (l.take n).length := by omega
        exact .inr (.inl (by rw [(hg (f l s).1).eager (l.take n) _ h4 h7, hl]))
    · exact .inr (.inl ((hg _).bad _ _ _ h3))
    · rcases (hg (f l s).1).past l _ n h3.1 h3.2 with h8 | ⟨b, h8, h9⟩
      · exact .inr (.inr (.inl h8))
      · exact .inr (.inr (.inr ⟨b, h8, h9⟩))
    · exact .inr (.inr (.inr ⟨b, h3, (hg _).bad _ _ _ h4⟩))

theorem Sharp.take {α : Type} {h : Int → List UInt8 → PS → α × PS} (r0 : α) (h0 : ∀ l s, h (-1) l s = (r0, s.fail s.pos))
    (hh : ∀ c, 0 ≤ c → (∃ r, ∀ l s, h c l s = (r, s.fail s.pos)) ∨ (∃ r, ∀ l s, h c l s = (r, s.adv)) ∨ ∃ g : List UInt8 → PS → α × PS, Sharp g ∧ ∀ l s, h c l s = g l s.adv) : Sharp (fun l s => h (nxt l s) l s) where
  toTame := by
    refine Tame.take (h := fun c _ => h c) (fun _ => ?_) (fun c _ hc => ?_)
    · rw [show h (-1) = fun l s => (r0, s.fail s.pos) from funext fun l => funext fun s => h0 l s]
      exact Tame.fail r0
    · rcases hh c hc with ⟨r, hr⟩ | ⟨r, hr⟩ | ⟨g, hg, he⟩
      · left
        rw [show h c = fun l s => (r, s.fail s.pos) from funext fun l => funext fun s => hr l s]
        exact Tame.fail r
      · exact .inr ⟨_, Tame.pure r, hr⟩
      · exact .inr ⟨g, hg.toTame, he⟩
  eager l s h1 h2 := by
    simp only [nxt_fin (Nat.le_of_eq h2.symm), h0]
    simp [PS.fail, h1, h2]
  moves l s h1 := by
    by_cases hc : 0 ≤ nxt l s
    · have hb := (nxt_lt hc).1
      rcases hh _ hc with ⟨r, hr⟩ | ⟨r, hr⟩ | ⟨g, hg, he⟩
      · simp only [hr] at h1
        simp [PS.fail, hb] at h1
      · simp only [hr]
        show s.pos < s.pos + 1
        omega
      · simp only [he] at h1 ⊢
        have := hg.moves l _ h1
        have e : s.adv.pos = s.pos + 1 := rfl
        omega
    · simp only [nxt_neg hc, h0] at h1
      cases hb : s.bad with
      | none => simp [PS.fail, hb] at h1
      | some b => simp [PS.fail, hb] at h1
  sharp l n s hn h1 h2 := by
    have hl : (l.take n).length = n := by rw [List.length_take]; omega
    have hf : ∀ r : α, ∃ b, b ≠ n ∧ ((r, s.fail s.pos) : α × PS).2.bad = some b := fun r => ⟨s.pos, by omega, by simp [PS.fail, h1]⟩
    simp only [nxt_cut hn h2]
    by_cases hc : 0 ≤ nxt l s
    · rcases hh _ hc with ⟨r, hr⟩ | ⟨r, hr⟩ | ⟨g, hg, he⟩
      · rw [hr]
        exact .inr (.inr (.inr (hf r)))
      · rw [hr, hr]
        exact .inl ⟨rfl, h1, h2⟩
      · rw [he, he]
        rcases Nat.lt_or_ge (s.pos + 1) n with h6 | h6
        · exact hg.sharp l n s.adv hn h1 h6
        · exact .inr (.inl (by rw [hg.eager (l.take n) s.adv h1 (by show s.pos + 1 = _; omega), hl]))
    · simp only [nxt_neg hc, h0]
      exact .inr (.inr (.inr (hf r0)))

/-- A check behind something that must read: what is wrong is its first byte. -/
theorem Sharp.chk {α β : Type} {f : List UInt8 → PS → α × PS} (hf : Sharp f) (k : α → β) (P : α → Prop) [DecidablePred P] : Sharp (fun l s => (k (f l s).1, if (f l s).2.bad = none ∧ P (f l s).1 then (f l s).2.fail s.pos else (f l s).2)) := by
  have hB : ∀ l s b, (f l s).2.bad = some b → (if (f l s).2.bad = none ∧ P (f l s).1 then (f l s).2.fail s.pos else (f l s).2).bad = some b := fun l s b h => by
    rw [if_neg (by rw [h]; simp)]
    exact h
  have hN : ∀ l s, (f l s).2.bad = none → (if (f l s).2.bad = none ∧ P (f l s).1 then (f l s).2.fail s.pos else (f l s).2).bad = some s.pos ∨ (if (f l s).2.bad = none ∧ P (f l s).1 then (f l s).2.fail s.pos else (f l s).2) = (f l s).2 := fun l s h => by
    split
    · left
      simp [PS.fail, h]
    · exact .inr rfl
  have hsharp : ∀ l n s, n ≤ l.length → s.bad = none → s.pos < n → ((k (f l s).1, if (f l s).2.bad = none ∧ P (f l s).1 then (f l s).2.fail s.pos else (f l s).2) = (k (f (l.take n) s).1, if (f (l.take n) s).2.bad = none ∧ P (f (l.take n) s).1 then (f (l.take n) s).2.fail s.pos else (f (l.take n) s).2) ∧ (if (f l s).2.bad = none ∧ P (f l s).1 then (f l s).2.fail s.pos else (f l s).2).bad = none ∧ (if (f l s).2.bad = none ∧ P (f l s).1 then (f l s).2.fail s.pos else (f l s).2).pos ≤ n) ∨ (if (f (l.take n) s).2.bad = none ∧ P (f (l.take n) s).1 then (f (l.take n) s).2.fail s.pos else (f (l.take n) s).2).bad = some n ∨ ((if (f l s).2.bad = none ∧ P (f l s).1 then (f l s).2.fail s.pos else (f l s).2).bad = none ∧ n < (if (f l s).2.bad = none ∧ P (f l s).1 then (f l s).2.fail s.pos else (f l s).2).pos) ∨ ∃ b, b ≠ n ∧ (if (f l s).2.bad = none ∧ P (f l s).1 then (f l s).2.fail s.pos else (f l s).2).bad = some b := fun l n s hn h1 h2 => by
    rcases hf.sharp l n s hn h1 h2 with ⟨h3, h4, h5⟩ | h3 | h3 | ⟨b, h3, h4⟩
    · rcases hN l s h4 with h6 | h6
      · exact .inr (.inr (.inr ⟨s.pos, by omega, h6⟩))
      · exact .inl ⟨by rw [h3], by rw [h6]; exact h4, by rw [h6]; exact h5⟩
    · exact .inr (.inl (hB _ _ _ h3))
    · rcases hN l s h3.1 with h6 | h6
      · exact .inr (.inr (.inr ⟨s.pos, by omega, h6⟩))
      · exact .inr (.inr (.inl (by rw [h6]; exact h3)))
    · exact .inr (.inr (.inr ⟨b, h3, hB _ _ _ h4⟩))
  refine ⟨⟨fun l s b h => hB l s b (hf.bad l s b h), fun l s h1 h2 => .inr (hB _ _ _ (hf.eager l s h1 h2)), fun l s n h1 h2 => ?_, fun l s h1 h2 => ?_, fun l n s hn h1 h2 => ?_⟩, fun l s h1 h2 => hB _ _ _ (hf.eager l s h1 h2), fun l s h1 => ?_, hsharp⟩
  · rcases hf.past l s n h1 h2 with h3 | ⟨b, h3, h4⟩
    · rcases hN l s h3.1 with h6 | h6
      · exact .inr ⟨s.pos, by omega, h6⟩
      · exact .inl (by rw [h6]; exact h3)
    · exact .inr ⟨b, h3, hB _ _ _ h4⟩
  · rcases hf.inb l s h1 h2 with h3 | ⟨b, h3, h4⟩
    · rcases hN l s h3.1 with h6 | h6
      · exact .inr ⟨s.pos, h2, h6⟩
      · exact .inl (by rw [h6]; exact h3)
    · exact .inr ⟨b, h3, hB _ _ _ h4⟩
  · rcases hsharp l n s hn h1 h2 with h | h | h | h
    · exact .inl h
    · exact .inr (.inl h)
    · exact .inr (.inr (.inr (.inl h)))
    · exact .inr (.inr (.inr (.inr h)))
  · by_cases hb : (f l s).2.bad = none
    · have h1' : (if (f l s).2.bad = none ∧ P (f l s).1 then (f l s).2.fail s.pos else (f l s).2).bad = none := h1
      show s.pos < (if (f l s).2.bad = none ∧ P (f l s).1 then (f l s).2.fail s.pos else (f l s).2).pos
      rcases hN l s hb with h6 | h6
      · rw [h6] at h1'
        cases h1'
      · rw [h6]
        exact hf.moves l s hb
    · obtain ⟨b, hb⟩ := Option.ne_none_iff_exists'.1 hb
      have h1' : (if (f l s).2.bad = none ∧ P (f l s).1 then (f l s).2.fail s.pos else (f l s).2).bad = none := h1
      rw [hB l s b hb] at h1'
      cases h1'


/-! ### The parser -/
def must (c : Int) (l : List UInt8) (s : PS) : Unit × PS := ((), (if nxt l s = c then s else s.fail s.pos).adv)
def digit (l : List UInt8) (s : PS) : Int × PS := if 0 ≤ hexv (nxt l s) then (hexv (nxt l s), s.adv) else (0, s.fail s.pos)
/-- Behind \x. -/
def two (l : List UInt8) (s : PS) : Int × PS := (16 * (digit l s).1 + (digit l (digit l s).2).1, (digit l (digit l s).2).2)
/-- Behind \. -/
def escB (c : Int) (l : List UInt8) (s : PS) : Int × PS := if c = 120 then two l s.adv else if c = 110 then (10, s.adv) else if c = 116 then (9, s.adv) else if inSg c = true then (c, s.adv) else (0, s.fail s.pos)
def escP (l : List UInt8) (s : PS) : Int × PS := escB (nxt l s) l s
def oneB (c : Int) (l : List UInt8) (s : PS) : Int × PS := if plainI c = true then (c, s.adv) else if c = 92 then escP l s.adv else (0, s.fail s.pos)
def one (l : List UInt8) (s : PS) : Int × PS := oneB (nxt l s) l s
/-- The bytes from lo to hi. -/
def upto (lo hi : Int) : List Nat := (List.range (hi + 1 - lo).toNat).map fun i => lo.toNat + i
/-- The second byte of a range. -/
def hiP (lo : Int) (l : List UInt8) (s : PS) : List Nat × PS := (upto lo (one l s).1, if (one l s).2.bad = none ∧ (one l s).1 < lo then (one l s).2.fail s.pos else (one l s).2)
def dashB (lo : Int) (c : Int) (l : List UInt8) (s : PS) : List Nat × PS := if c = 45 then hiP lo l s.adv else (upto lo lo, s)
def range1 (l : List UInt8) (s : PS) : List Nat × PS := dashB (one l s).1 (nxt l (one l s).2) l (one l s).2
/-- The bytes of a class, up to its bracket. -/
def setP : Nat → List Nat → List UInt8 → PS → List Nat × PS
  | 0, acc, _, s => (acc, s)
  | f + 1, acc, l, s => if s.bad = none then (if nxt l s = 93 then (acc, s) else setP f (acc ++ (range1 l s).1) l (range1 l s).2) else (acc, s)
def numB2 (d : Int) (c : Int) (_ : List UInt8) (s : PS) : Int × PS := if isDig c = true then (10 * d + (c - 48), s.adv) else (d, s)
def num2 (d : Int) (l : List UInt8) (s : PS) : Int × PS := numB2 d (nxt l s) l s
def numB (c : Int) (l : List UInt8) (s : PS) : Int × PS := if isDig c = true then num2 (c - 48) l s.adv else (0, s.fail s.pos)
def num (l : List UInt8) (s : PS) : Int × PS := numB (nxt l s) l s
/-- A number, 0 to 20. -/
def number (l : List UInt8) (s : PS) : Int × PS := ((num l s).1, if (num l s).2.bad = none ∧ 20 < (num l s).1 then (num l s).2.fail s.pos else (num l s).2)

theorem hexv_neg : ¬ 0 ≤ hexv (-1) := by decide
theorem digit_sharp : Sharp digit := by
  refine Sharp.take (h := fun c l s => if 0 ≤ hexv c then (hexv c, s.adv) else (0, s.fail s.pos)) 0 (fun l s => if_neg hexv_neg) (fun c hc => ?_)
  by_cases h : 0 ≤ hexv c
  · exact .inr (.inl ⟨hexv c, fun l s => if_pos h⟩)
  · exact .inl ⟨0, fun l s => if_neg h⟩
theorem two_sharp : Sharp two := (digit_sharp.bind (g := fun d l s => (16 * d + (digit l s).1, (digit l s).2)) (fun d => digit_sharp.map fun e => 16 * d + e))
theorem esc_sharp : Sharp escP := by
  refine Sharp.take (h := escB) 0 (fun l s => by unfold escB; simp [inSg]) (fun c hc => ?_)
  unfold escB
  by_cases h1 : c = 120
  · exact .inr (.inr ⟨two, two_sharp, fun l s => if_pos h1⟩)
  · by_cases h2 : c = 110
    · exact .inr (.inl ⟨10, fun l s => by rw [if_neg h1, if_pos h2]⟩)
    · by_cases h3 : c = 116
      · exact .inr (.inl ⟨9, fun l s => by rw [if_neg h1, if_neg h2, if_pos h3]⟩)
      · by_cases h4 : inSg c = true
        · exact .inr (.inl ⟨c, fun l s => by rw [if_neg h1, if_neg h2, if_neg h3, if_pos h4]⟩)
        · exact .inl ⟨0, fun l s => by rw [if_neg h1, if_neg h2, if_neg h3, if_neg h4]⟩
theorem one_sharp : Sharp one := by
  refine Sharp.take (h := oneB) 0 (fun l s => by unfold oneB; rw [plainI_no (by decide)]; simp) (fun c hc => ?_)
  unfold oneB
  by_cases h1 : plainI c = true
  · exact .inr (.inl ⟨c, fun l s => if_pos h1⟩)
  · by_cases h2 : c = 92
    · exact .inr (.inr ⟨escP, esc_sharp, fun l s => by rw [if_neg h1, if_pos h2]⟩)
    · exact .inl ⟨0, fun l s => by rw [if_neg h1, if_neg h2]⟩
theorem hi_sharp (lo : Int) : Sharp (hiP lo) := one_sharp.chk (upto lo) (fun hi => hi < lo)
theorem dash_tame (lo : Int) : Tame (fun l s => dashB lo (nxt l s) l s) := by
  refine Tame.take (h := fun c _ => dashB lo c) (fun _ => ?_) (fun c _ hc => ?_)
  · rw [show dashB lo (-1) = fun _ s => (upto lo lo, s) from funext fun l => funext fun s => if_neg (by decide)]
    exact Tame.pure _
  · by_cases h : c = 45
    · exact .inr ⟨hiP lo, (hi_sharp lo).toTame, fun l s => if_pos h⟩
    · left
      rw [show dashB lo c = fun _ s => (upto lo lo, s) from funext fun l => funext fun s => if_neg h]
      exact Tame.pure _
theorem range_tame : Tame range1 := one_sharp.toTame.bind (g := fun lo l s => dashB lo (nxt l s) l s) dash_tame
theorem set_tame : ∀ f acc, Tame (setP f acc)
  | 0, acc => Tame.pure acc
  | f + 1, acc => by
    have h1 : Tame (fun l s => if nxt l s = 93 then (acc, s) else setP f (acc ++ (range1 l s).1) l (range1 l s).2) := by
      refine Tame.on (h := fun c l s => if c = 93 then (acc, s) else setP f (acc ++ (range1 l s).1) l (range1 l s).2) (fun c => ?_)
      by_cases h : c = 93
      · simp only [if_pos h]
        exact Tame.pure acc
      · simp only [if_neg h]
        exact range_tame.bind (g := fun r => setP f (acc ++ r)) (fun r => set_tame f _)
    exact h1.alive acc
theorem must_tame (c : Int) (hc : 0 ≤ c) : Tame (must c) := by
  have hm : ∀ l s, (must c l s).2.bad = (if nxt l s = c then s else s.fail s.pos).bad := fun _ _ => rfl
  have hp : ∀ l s, (must c l s).2.pos = s.pos + 1 := fun l s => by
    show (if nxt l s = c then s else s.fail s.pos).pos + 1 = _
    split
    · rfl
    · unfold PS.fail
      split <;> rfl
  have hbad : ∀ l s b, s.bad = some b → (must c l s).2.bad = some b := fun l s b h => by
    rw [hm]
    split
    · exact h
    · simp [PS.fail, h]
  refine ⟨hbad, fun l s h1 h2 => .inr ?_, fun l s n h1 h2 => ?_, fun l s h1 h2 => ?_, fun l n s hn h1 h2 => ?_⟩
  · rw [hm, nxt_fin (Nat.le_of_eq h2.symm), if_neg (by omega)]
    simp [PS.fail, h1, h2]
  · by_cases h : nxt l s = c
    · exact .inl ⟨by rw [hm, if_pos h]; exact h1, by rw [hp]; omega⟩
    · exact .inr ⟨s.pos, by omega, by rw [hm, if_neg h]; simp [PS.fail, h1]⟩
  · by_cases h : nxt l s = c
    · exact .inl ⟨by rw [hm, if_pos h]; exact h1, by rw [hp]; exact (nxt_lt (by rw [h]; exact hc)).2⟩
    · exact .inr ⟨s.pos, h2, by rw [hm, if_neg h]; simp [PS.fail, h1]⟩
  · by_cases h : nxt l s = c
    · exact .inl ⟨by unfold must; rw [nxt_cut hn h2], by rw [hm, if_pos h]; exact h1, by rw [hp]; exact h2⟩
    · exact .inr (.inr (.inr (.inr ⟨s.pos, by omega, by rw [hm, if_neg h]; simp [PS.fail, h1]⟩)))

/-- The number's digits: of a cut text they end where it ends just if they are the same, or more stood there. -/
theorem num2_cases (d : Int) (l : List UInt8) (s : PS) : (num2 d l s).2 = s ∨ (num2 d l s).2 = s.adv := by
  unfold num2 numB2
  split
  · exact .inr rfl
  · exact .inl rfl
theorem num_sharp : Sharp num := by
  have h0 : ∀ l s, numB (-1) l s = (0, s.fail s.pos) := fun l s => if_neg (by decide)
  have hno : ∀ c l s, ¬ isDig c = true → numB c l s = (0, s.fail s.pos) := fun c l s h => if_neg h
  have hyes : ∀ c l s, isDig c = true → numB c l s = num2 (c - 48) l s.adv := fun c l s h => if_pos h
  have hneg : ¬ isDig (-1) = true := by decide
  have ht : ∀ d, Tame (num2 d) := fun d => by
    refine Tame.take (h := fun c _ => numB2 d c) (fun _ => ?_) (fun c _ hc => ?_)
    · rw [show numB2 d (-1) = fun _ s => (d, s) from funext fun l => funext fun s => if_neg hneg]
      exact Tame.pure _
    · by_cases h : isDig c = true
      · exact .inr ⟨fun _ s => (10 * d + (c - 48), s), Tame.pure _, fun l s => if_pos h⟩
      · left
        rw [show numB2 d c = fun _ s => (d, s) from funext fun l => funext fun s => if_neg h]
        exact Tame.pure _
  refine ⟨Tame.take (h := fun c _ => numB c) (fun _ => ?_) (fun c _ hc => ?_), fun l s h1 h2 => ?_, fun l s h1 => ?_, fun l n s hn h1 h2 => ?_⟩
  · rw [show numB (-1) = fun _ s => (0, s.fail s.pos) from funext fun l => funext fun s => h0 l s]
    exact Tame.fail 0
  · by_cases h : isDig c = true
    · exact .inr ⟨num2 (c - 48), ht _, fun l s => hyes c l s h⟩
    · left
      rw [show numB c = fun _ s => (0, s.fail s.pos) from funext fun l => funext fun s => hno c l s h]
      exact Tame.fail 0
  · unfold num
    rw [nxt_fin (Nat.le_of_eq h2.symm), h0]
    simp [PS.fail, h1, h2]
  · unfold num at h1 ⊢
    by_cases h : isDig (nxt l s) = true
    · rw [hyes _ _ _ h]
      have e : s.adv.pos = s.pos + 1 := rfl
      have e2 : s.adv.adv.pos = s.pos + 2 := rfl
      rcases num2_cases (nxt l s - 48) l s.adv with h3 | h3 <;> rw [h3] <;> omega
    · rw [hno _ _ _ h] at h1
      cases hb : s.bad with
      | none => simp [PS.fail, hb] at h1
      | some b => simp [PS.fail, hb] at h1
  · have hl : (l.take n).length = n := by rw [List.length_take]; omega
    unfold num
    rw [nxt_cut hn h2]
    by_cases h : isDig (nxt l s) = true
    · rw [hyes _ _ _ h, hyes _ _ _ h]
      rcases Nat.lt_or_ge (s.pos + 1) n with h6 | h6
      · left
        unfold num2
        rw [nxt_cut (s := s.adv) hn h6]
        refine ⟨?_, ?_, ?_⟩
        · unfold numB2
          rfl
        · rcases num2_cases (nxt l s - 48) l s.adv with h3 | h3 <;> unfold num2 at h3 <;> rw [h3] <;> exact h1
        · have e : s.adv.pos = s.pos + 1 := rfl
          have e2 : s.adv.adv.pos = s.pos + 2 := rfl
          rcases num2_cases (nxt l s - 48) l s.adv with h3 | h3 <;> unfold num2 at h3 <;> rw [h3] <;> omega
      · have e : s.adv.pos = s.pos + 1 := rfl
        have e2 : s.adv.adv.pos = s.pos + 2 := rfl
        have hy : num2 (nxt l s - 48) (l.take n) s.adv = (nxt l s - 48, s.adv) := by
          unfold num2 numB2
          rw [nxt_fin (by omega), if_neg hneg]
        rw [hy]
        unfold num2 numB2
        split
        · exact .inr (.inr (.inl ⟨h1, by show n < s.adv.adv.pos; omega⟩))
        · exact .inl ⟨rfl, h1, by show s.adv.pos ≤ n; omega⟩
    · rw [hno _ _ _ h, hno _ _ _ h]
      exact .inr (.inr (.inr ⟨s.pos, by omega, by simp [PS.fail, h1]⟩))
theorem number_sharp : Sharp number := num_sharp.chk id (fun n => 20 < n)


/-! ### Expressions -/
def zS : ST := mkS []
def zeroT : T := .nd 0 zS 0 0 []
def clsT (s : ST) : T := .nd 2 s 0 0 []
def repT (a : T) (mn mx : Int) : T := .nd 5 zS mn mx [a]
def wrapC : List T → T
  | [] => .nd 1 zS 0 0 []
  | [t] => t
  | l => .nd 3 zS 0 0 l
def wrapA : List T → T
  | [t] => t
  | l => .nd 4 zS 0 0 l

def maxC (mn : Int) (l : List UInt8) (s : PS) : Int × PS := ((number l s).1, if (number l s).2.bad = none ∧ (number l s).1 < mn then (number l s).2.fail s.pos else (number l s).2)
def maxB (mn : Int) (c : Int) (l : List UInt8) (s : PS) : Int × PS := if c = 125 then (-1, s) else maxC mn l s
def maxP (mn : Int) (l : List UInt8) (s : PS) : Int × PS := maxB mn (nxt l s) l s
def cmaB (mn : Int) (c : Int) (l : List UInt8) (s : PS) : Int × PS := if c = 44 then maxP mn l s.adv else (mn, s)
def cmaP (mn : Int) (l : List UInt8) (s : PS) : Int × PS := cmaB mn (nxt l s) l s
/-- Behind a {. -/
def braces (l : List UInt8) (s : PS) : (Int × Int) × PS := (((number l s).1, (cmaP (number l s).1 l (number l s).2).1), (must 125 l (cmaP (number l s).1 l (number l s).2).2).2)
def clsQ (F : Nat) (nt : Bool) (l : List UInt8) (s : PS) : T × PS := (clsT (if nt then notS (mkS (setP F [] l s).1) else mkS (setP F [] l s).1), (must 93 l (setP F [] l s).2).2)
def clsB (F : Nat) (c : Int) (l : List UInt8) (s : PS) : T × PS := if c = 94 then clsQ F true l s.adv else clsQ F false l s
/-- Behind a [. -/
def clsP (F : Nat) (l : List UInt8) (s : PS) : T × PS := clsB F (nxt l s) l s
/-- Behind a (. -/
def parP (A : List UInt8 → PS → T × PS) (l : List UInt8) (s : PS) : T × PS := ((A l { s with opn := s.opn + 1 }).1, (must 41 l { (A l { s with opn := s.opn + 1 }).2 with opn := (A l { s with opn := s.opn + 1 }).2.opn - 1 }).2)
def litP (l : List UInt8) (s : PS) : T × PS := (clsT (mkS [(one l s).1.toNat]), (one l s).2)
def atomB (F : Nat) (A : List UInt8 → PS → T × PS) (c : Int) (o : Nat) (l : List UInt8) (s : PS) : T × PS :=
  if c = 40 then (if o = 12 then (zeroT, s.fail s.pos) else parP A l s.adv) else if c = 46 then (clsT (notS zS), s.adv) else if c = 91 then clsP F l s.adv else litP l s
def atomP (F : Nat) (A : List UInt8 → PS → T × PS) (l : List UInt8) (s : PS) : T × PS := atomB F A (nxt l s) s.opn l s
def sgB (a : T) (c : Int) (l : List UInt8) (s : PS) : T × PS :=
  if c = 42 then (repT a 0 (-1), s.adv) else if c = 43 then (repT a 1 (-1), s.adv) else if c = 63 then (repT a 0 1, s.adv) else if c = 123 then (repT a (braces l s.adv).1.1 (braces l s.adv).1.2, (braces l s.adv).2) else (a, s)
def itemP (F : Nat) (A : List UInt8 → PS → T × PS) (l : List UInt8) (s : PS) : T × PS := sgB (atomP F A l s).1 (nxt l (atomP F A l s).2) l (atomP F A l s).2
/-- Does an item begin there? -/
def goes (c : Int) : Prop := 0 ≤ c ∧ c ≠ 124 ∧ c ≠ 41
instance (c : Int) : Decidable (goes c) := inferInstanceAs (Decidable (_ ∧ _ ∧ _))
def catL (F : Nat) (A : List UInt8 → PS → T × PS) : Nat → List T → List UInt8 → PS → List T × PS
  | 0, acc, _, s => (acc, s)
  | f + 1, acc, l, s => if goes (nxt l s) then catL F A f (acc ++ [(itemP F A l s).1]) l (itemP F A l s).2 else (acc, s)
def catP (F : Nat) (A : List UInt8 → PS → T × PS) (l : List UInt8) (s : PS) : T × PS := (wrapC (catL F A F [] l s).1, (catL F A F [] l s).2)
def altL (F : Nat) (A : List UInt8 → PS → T × PS) : Nat → List T → List UInt8 → PS → List T × PS
  | 0, acc, _, s => (acc, s)
  | f + 1, acc, l, s => if nxt l s = 124 then altL F A f (acc ++ [(catP F A l s.adv).1]) l (catP F A l s.adv).2 else (acc, s)
def altP (F : Nat) (A : List UInt8 → PS → T × PS) (l : List UInt8) (s : PS) : T × PS := (wrapA (altL F A F [(catP F A l s).1] l (catP F A l s).2).1, (altL F A F [(catP F A l s).1] l (catP F A l s).2).2)
/-- d brackets may still be opened. -/
def altD (F : Nat) : Nat → List UInt8 → PS → T × PS
  | 0 => fun _ s => (zeroT, s)
  | d + 1 => altP F (altD F d)
def s0 : PS := ⟨0, none, 0⟩
def ends (l : List UInt8) (r : T × PS) : Nat ⊕ T := match r.2.bad with
  | some b => .inl b
  | none => if r.2.pos < l.length then .inl r.2.pos else .inr r.1
def parse (F : Nat) (l : List UInt8) : Nat ⊕ T := ends l (altD F 13 l s0)

theorem max_tame (mn : Int) : Tame (maxP mn) := by
  refine Tame.on (h := maxB mn) (fun c => ?_)
  by_cases h : c = 125
  · rw [show maxB mn c = fun _ s => (-1, s) from funext fun l => funext fun s => if_pos h]
    exact Tame.pure _
  · rw [show maxB mn c = maxC mn from funext fun l => funext fun s => if_neg h]
    exact (number_sharp.chk id (fun n => n < mn)).toTame
theorem cma_tame (mn : Int) : Tame (cmaP mn) := by
  refine Tame.take (h := fun c _ => cmaB mn c) (fun _ => ?_) (fun c _ hc => ?_)
  · rw [show cmaB mn (-1) = fun _ s => (mn, s) from funext fun l => funext fun s => if_neg (by decide)]
    exact Tame.pure _
  · by_cases h : c = 44
    · exact .inr ⟨maxP mn, max_tame mn, fun l s => if_pos h⟩
    · left
      rw [show cmaB mn c = fun _ s => (mn, s) from funext fun l => funext fun s => if_neg h]
      exact Tame.pure _
theorem braces_tame : Tame braces :=
  number_sharp.toTame.bind (g := fun mn l s => ((mn, (cmaP mn l s).1), (must 125 l (cmaP mn l s).2).2)) fun mn =>
    (cma_tame mn).bind (g := fun mx l s => ((mn, mx), (must 125 l s).2)) fun mx => (must_tame 125 (by decide)).bind (g := fun _ _ s => ((mn, mx), s)) fun _ => Tame.pure _
theorem clsQ_tame (F : Nat) (nt : Bool) : Tame (clsQ F nt) :=
  (set_tame F []).bind (g := fun acc l s => (clsT (if nt then notS (mkS acc) else mkS acc), (must 93 l s).2)) fun acc =>
    (must_tame 93 (by decide)).bind (g := fun _ _ s => (clsT (if nt then notS (mkS acc) else mkS acc), s)) fun _ => Tame.pure _
theorem cls_tame (F : Nat) : Tame (clsP F) := by
  refine Tame.take (h := fun c _ => clsB F c) (fun _ => ?_) (fun c _ hc => ?_)
  · rw [show clsB F (-1) = clsQ F false from funext fun l => funext fun s => if_neg (by decide)]
    exact clsQ_tame F false
  · by_cases h : c = 94
    · exact .inr ⟨clsQ F true, clsQ_tame F true, fun l s => if_pos h⟩
    · left
      rw [show clsB F c = clsQ F false from funext fun l => funext fun s => if_neg h]
      exact clsQ_tame F false
theorem par_tame {A : List UInt8 → PS → T × PS} (hA : Tame A) : Tame (parP A) :=
  (Tame.opens () (fun o => o + 1)).bind (g := fun _ l s => ((A l s).1, (must 41 l { (A l s).2 with opn := (A l s).2.opn - 1 }).2)) fun _ =>
    hA.bind (g := fun t l s => (t, (must 41 l { s with opn := s.opn - 1 }).2)) fun t =>
      (Tame.opens () (fun o => o - 1)).bind (g := fun _ l s => (t, (must 41 l s).2)) fun _ =>
        (must_tame 41 (by decide)).bind (g := fun _ _ s => (t, s)) fun _ => Tame.pure _
theorem lit_tame : Tame litP := by
  have h : ∀ k : Int → T, Tame (fun l s => (k (one l s).1, (one l s).2)) := fun k => one_sharp.toTame.bind (g := fun c _ s => (k c, s)) fun c => Tame.pure (k c)
  exact h fun c => clsT (mkS [c.toNat])
theorem atom_tame (F : Nat) {A : List UInt8 → PS → T × PS} (hA : Tame A) : Tame (atomP F A) := by
  refine Tame.take (h := atomB F A) (fun o => ?_) (fun c o hc => ?_)
  · rw [show atomB F A (-1) o = litP from funext fun l => funext fun s => by unfold atomB; simp]
    exact lit_tame
  · by_cases h1 : c = 40
    · by_cases h2 : o = 12
      · left
        rw [show atomB F A c o = fun _ s => (zeroT, s.fail s.pos) from funext fun l => funext fun s => by unfold atomB; rw [if_pos h1, if_pos h2]]
        exact Tame.fail _
      · exact .inr ⟨parP A, par_tame hA, fun l s => by unfold atomB; rw [if_pos h1, if_neg h2]⟩
    · by_cases h2 : c = 46
      · exact .inr ⟨fun _ s => (clsT (notS zS), s), Tame.pure _, fun l s => by unfold atomB; rw [if_neg h1, if_pos h2]⟩
      · by_cases h3 : c = 91
        · exact .inr ⟨clsP F, cls_tame F, fun l s => by unfold atomB; rw [if_neg h1, if_neg h2, if_pos h3]⟩
        · left
          rw [show atomB F A c o = litP from funext fun l => funext fun s => by unfold atomB; rw [if_neg h1, if_neg h2, if_neg h3]]
          exact lit_tame
theorem sg_tame (a : T) : Tame (fun l s => sgB a (nxt l s) l s) := by
  refine Tame.take (h := fun c _ => sgB a c) (fun _ => ?_) (fun c _ hc => ?_)
  · rw [show sgB a (-1) = fun _ s => (a, s) from funext fun l => funext fun s => by unfold sgB; simp]
    exact Tame.pure _
  · by_cases h1 : c = 42
    · exact .inr ⟨fun _ s => (repT a 0 (-1), s), Tame.pure _, fun l s => by unfold sgB; rw [if_pos h1]⟩
    · by_cases h2 : c = 43
      · exact .inr ⟨fun _ s => (repT a 1 (-1), s), Tame.pure _, fun l s => by unfold sgB; rw [if_neg h1, if_pos h2]⟩
      · by_cases h3 : c = 63
        · exact .inr ⟨fun _ s => (repT a 0 1, s), Tame.pure _, fun l s => by unfold sgB; rw [if_neg h1, if_neg h2, if_pos h3]⟩
        · by_cases h4 : c = 123
          · exact .inr ⟨fun l s => (repT a (braces l s).1.1 (braces l s).1.2, (braces l s).2), braces_tame.bind (g := fun r _ s => (repT a r.1 r.2, s)) (fun _ => Tame.pure _), fun l s => by unfold sgB; rw [if_neg h1, if_neg h2, if_neg h3, if_pos h4]⟩
          · left
            rw [show sgB a c = fun _ s => (a, s) from funext fun l => funext fun s => by unfold sgB; rw [if_neg h1, if_neg h2, if_neg h3, if_neg h4]]
            exact Tame.pure _
theorem item_tame (F : Nat) {A : List UInt8 → PS → T × PS} (hA : Tame A) : Tame (itemP F A) :=
  (atom_tame F hA).bind (g := fun a l s => sgB a (nxt l s) l s) fun a => sg_tame a
theorem catL_tame (F : Nat) {A : List UInt8 → PS → T × PS} (hA : Tame A) : ∀ f acc, Tame (catL F A f acc)
  | 0, acc => Tame.pure acc
  | f + 1, acc => by
    refine Tame.on (h := fun c l s => if goes c then catL F A f (acc ++ [(itemP F A l s).1]) l (itemP F A l s).2 else (acc, s)) (fun c => ?_)
    by_cases h : goes c
    · simp only [if_pos h]
      exact (item_tame F hA).bind (g := fun t => catL F A f (acc ++ [t])) (fun t => catL_tame F hA f _)
    · simp only [if_neg h]
      exact Tame.pure acc
theorem cat_tame (F : Nat) {A : List UInt8 → PS → T × PS} (hA : Tame A) : Tame (catP F A) := (catL_tame F hA F []).bind (g := fun l _ s => (wrapC l, s)) fun _ => Tame.pure _
theorem altL_tame (F : Nat) {A : List UInt8 → PS → T × PS} (hA : Tame A) : ∀ f acc, Tame (altL F A f acc)
  | 0, acc => Tame.pure acc
  | f + 1, acc => by
    refine Tame.take (h := fun c _ l s => if c = 124 then altL F A f (acc ++ [(catP F A l s.adv).1]) l (catP F A l s.adv).2 else (acc, s)) (fun _ => ?_) (fun c _ hc => ?_)
    · simp only [if_neg (show ¬ ((-1 : Int) = 124) by decide)]
      exact Tame.pure acc
    · by_cases h : c = 124
      · exact .inr ⟨fun l s => altL F A f (acc ++ [(catP F A l s).1]) l (catP F A l s).2, (cat_tame F hA).bind (g := fun t => altL F A f (acc ++ [t])) (fun t => altL_tame F hA f _), fun l s => by rw [if_pos h]⟩
      · left
        simp only [if_neg h]
        exact Tame.pure acc
theorem alt_tame (F : Nat) {A : List UInt8 → PS → T × PS} (hA : Tame A) : Tame (altP F A) :=
  (cat_tame F hA).bind (g := fun t l s => (wrapA (altL F A F [t] l s).1, (altL F A F [t] l s).2)) fun t => (altL_tame F hA F [t]).bind (g := fun l _ s => (wrapA l, s)) fun _ => Tame.pure _
theorem altD_tame (F : Nat) : ∀ d, Tame (altD F d)
  | 0 => Tame.pure zeroT
  | d + 1 => alt_tame F (altD_tame F d)

section sim
variable (l L h : List UInt8) (k : Nat) (E : Prop)

/-- l lies in L behind h, a closing bracket behind it. -/
structure Within (l L h : List UInt8) : Prop where
  ins : ∀ j, j < l.length → byteAt L (j + h.length) = byteAt l j
  fin : byteAt L (l.length + h.length) = 41
  len : l.length + h.length < L.length

/-- Beside one another: the same place, k brackets more stand open; o in all. -/
structure Rel (o : Nat) (s t : PS) : Prop where
  b1 : s.bad = none
  b2 : t.bad = none
  le : s.pos ≤ l.length
  pos : t.pos = s.pos + h.length
  opn : t.opn = s.opn + k
  all : t.opn = o

/-- The one does as the other does, or is wrong; or (E) the other one is. -/
def Sim {α : Type} (o : Nat) (f g : List UInt8 → PS → α × PS) : Prop :=
  ∀ s t, Rel l h k o s t → ((f l s).1 = (g L t).1 ∧ Rel l h k o (f l s).2 (g L t).2) ∨ (f l s).2.bad ≠ none ∨ (E ∧ (g L t).2.bad ≠ none)

/-- What was wrong stays so. -/
def Stays {α : Type} (f : List UInt8 → PS → α × PS) : Prop := ∀ l s, s.bad ≠ none → (f l s).2.bad ≠ none
theorem Tame.stays {α : Type} {f : List UInt8 → PS → α × PS} (h : Tame f) : Stays f := fun l s hb => by
  obtain ⟨b, hb⟩ := Option.ne_none_iff_exists'.1 hb
  rw [h.bad l s b hb]
  simp

variable {l L h k E}
theorem Rel.nxt_in {o : Nat} {s t : PS} (r : Rel l h k o s t) (W : Within l L h) (hs : s.pos < l.length) : nxt L t = nxt l s ∧ 0 ≤ nxt l s := by
  have e1 : nxt l s = byteAt l s.pos := by unfold nxt; rw [if_pos ⟨r.b1, hs⟩]
  have e2 : nxt L t = byteAt L t.pos := by unfold nxt; rw [if_pos ⟨r.b2, by rw [r.pos]; have := W.len; omega⟩]
  rw [e1, e2, r.pos, W.ins _ hs]
  exact ⟨rfl, by omega⟩
theorem Rel.nxt_end {o : Nat} {s t : PS} (r : Rel l h k o s t) (W : Within l L h) (hs : ¬ s.pos < l.length) : nxt l s = -1 ∧ nxt L t = 41 := by
  have hp : s.pos = l.length := by have := r.le; omega
  refine ⟨nxt_fin (by omega), ?_⟩
  unfold nxt
  rw [if_pos ⟨r.b2, by rw [r.pos]; have := W.len; omega⟩, r.pos, hp, W.fin]
  rfl
theorem Rel.adv {o : Nat} {s t : PS} (r : Rel l h k o s t) (hs : s.pos < l.length) : Rel l h k o s.adv t.adv :=
  ⟨r.b1, r.b2, hs, by show t.pos + 1 = s.pos + 1 + _; rw [r.pos]; omega, r.opn, r.all⟩

theorem Sim.pure {α : Type} {o : Nat} (r : α) : Sim l L h k E o (fun _ s => (r, s)) (fun _ s => (r, s)) := fun _ _ hr => .inl ⟨rfl, hr⟩
theorem Sim.fail {α : Type} {o : Nat} (r : α) (g : List UInt8 → PS → α × PS) : Sim l L h k E o (fun _ s => (r, s.fail s.pos)) g := fun s _ hr => .inr (.inl (by simp [PS.fail, hr.b1]))
theorem Sim.bind {α β : Type} {o : Nat} {f f' : List UInt8 → PS → α × PS} {g g' : α → List UInt8 → PS → β × PS} (hf : Sim l L h k E o f f') (hg : ∀ r, Sim l L h k E o (g r) (g' r)) (s1 : ∀ r, Stays (g r)) (s2 : ∀ r, Stays (g' r)) :
    Sim l L h k E o (fun l s => g (f l s).1 l (f l s).2) (fun l s => g' (f' l s).1 l (f' l s).2) := fun s t hr => by
  rcases hf s t hr with ⟨e, r⟩ | hb | ⟨hE, hb⟩
  · have := hg (f l s).1 _ _ r
    dsimp only
    rw [e] at this ⊢
    exact this
  · exact .inr (.inl (s1 _ _ _ hb))
  · exact .inr (.inr ⟨hE, s2 _ _ _ hb⟩)
/-- By the byte that stands there: inside it is the same one, at the end none, and a closing bracket. -/
theorem Sim.on {α : Type} {o : Nat} (W : Within l L h) {f g : Int → Nat → List UInt8 → PS → α × PS}
    (hh : ∀ c q, 0 ≤ c → Sim l L h k E o (f c q) (g c (q + k)) ∨ (∃ f' g' : List UInt8 → PS → α × PS, Sim l L h k E o f' g' ∧ (∀ l s, f c q l s = f' l s.adv) ∧ ∀ l s, g c (q + k) l s = g' l s.adv) ∨ ∀ s t, Rel l h k o s t → s.opn = q → E ∧ (g c (q + k) L t).2.bad ≠ none)
    (he : ∀ q, (∀ s, s.bad = none → s.pos = l.length → (f (-1) q l s).2.bad ≠ none) ∨ ∃ r, (∀ l s, f (-1) q l s = (r, s)) ∧ ∀ l s, g 41 (q + k) l s = (r, s)) :
    Sim l L h k E o (fun l s => f (nxt l s) s.opn l s) (fun l s => g (nxt l s) s.opn l s) := fun s t hr => by
  by_cases hs : s.pos < l.length
  · obtain ⟨e, h0⟩ := hr.nxt_in W hs
    dsimp only
    rw [e, hr.opn]
    rcases hh _ s.opn h0 with h1 | ⟨f', g', h1, h2, h3⟩ | h1
    · exact h1 s t hr
    · rw [h2, h3]
      exact h1 _ _ (hr.adv hs)
    · exact .inr (.inr (h1 s t hr rfl))
  · obtain ⟨e1, e2⟩ := hr.nxt_end W hs
    have hp : s.pos = l.length := by have := hr.le; omega
    dsimp only
    rw [e1, e2, hr.opn]
    rcases he s.opn with h1 | ⟨r, h1, h2⟩
    · exact .inr (.inl (h1 s hr.b1 hp))
    · rw [h1, h2]
      exact .inl ⟨rfl, hr⟩

theorem Sim.chk {α β : Type} {o : Nat} {f g : List UInt8 → PS → α × PS} (hf : Sim l L h k E o f g) (kk : α → β) (P : α → Prop) [DecidablePred P] :
    Sim l L h k E o (fun l s => (kk (f l s).1, if (f l s).2.bad = none ∧ P (f l s).1 then (f l s).2.fail s.pos else (f l s).2)) (fun l s => (kk (g l s).1, if (g l s).2.bad = none ∧ P (g l s).1 then (g l s).2.fail s.pos else (g l s).2)) := fun s t hr => by
  rcases hf s t hr with ⟨e, r⟩ | hb | ⟨hE, hb⟩
  · dsimp only
    rw [← e]
    by_cases hP : P (f l s).1
    · right
      left
      rw [if_pos ⟨r.b1, hP⟩]
      simp [PS.fail, r.b1]
    · rw [if_neg (fun q => hP q.2), if_neg (fun q => hP q.2)]
      exact .inl ⟨rfl, r⟩
  · right
    left
    dsimp only
    rw [if_neg (fun q => hb q.1)]
    exact hb
  · right
    right
    dsimp only
    rw [if_neg (fun q => hb q.1)]
    exact ⟨hE, hb⟩

end sim

/-! ### Brackets round a text -/
theorem right_run {F : Nat} {l : List UInt8} {t : T} (h : parse F l = .inr t) : (altD F 13 l s0).1 = t ∧ (altD F 13 l s0).2.bad = none ∧ (altD F 13 l s0).2.pos = l.length := by
  unfold parse ends at h
  rcases (altD_tame F 13).inb l s0 rfl (Nat.zero_le _) with ⟨h1, h2⟩ | ⟨b, h1, h2⟩
  · rw [h1] at h
    dsimp only at h
    split at h
    · cases h
    · injection h with h
      exact ⟨h, h1, by omega⟩
  · rw [h2] at h
    cases h
end Go.Proofs.Ythcjfgfbeollpaa.P07
