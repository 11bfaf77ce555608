/- Plain mathematics: the count of a word's bits, summed in halves (as package math/bits does), is their number. Nothing here names a program. -/
import Derived.Test.YthcjfgfbeollpaaKG01
namespace Go.Proofs.Ythcjfgfbeollpaa.Pop
open Go.Proofs.Ythcjfgfbeollpaa.Sets

/-- k bytes c. -/
def M (c : Nat) : Nat → Nat
  | 0 => 0
  | k + 1 => c + 256 * M c k

theorem M_succ (c k : Nat) : M c (k + 1) = c + 256 * M c k := rfl

theorem and_split (a c y m : Nat) (ha : a < 256) (hc : c < 256) : (a + 256 * y) &&& (c + 256 * m) = (a &&& c) + 256 * (y &&& m) := by
  have e1 : ((a + 256 * y) &&& (c + 256 * m)) % 2 ^ 8 = a &&& c := by
    rw [Nat.and_mod_two_pow]
    have h1 : (a + 256 * y) % 2 ^ 8 = a := by omega
    have h2 : (c + 256 * m) % 2 ^ 8 = c := by omega
    rw [h1, h2]
  have e2 : ((a + 256 * y) &&& (c + 256 * m)) / 2 ^ 8 = y &&& m := by
    rw [Nat.and_div_two_pow]
    have h1 : (a + 256 * y) / 2 ^ 8 = y := by omega
    have h2 : (c + 256 * m) / 2 ^ 8 = m := by omega
    rw [h1, h2]
  omega

/-- Byte by byte: what the three first steps make of it. -/
def f1 (a : Nat) : Nat := (a / 2 &&& 85) + (a &&& 85)
def f2 (a : Nat) : Nat := (a / 4 &&& 51) + (a &&& 51)
def f3 (a : Nat) : Nat := (a / 16 + a) &&& 15

def s1 (k x : Nat) : Nat := (x / 2 &&& M 85 k) + (x &&& M 85 k)
def s2 (k x : Nat) : Nat := (x / 4 &&& M 51 k) + (x &&& M 51 k)
def s3 (k x : Nat) : Nat := (x / 16 + x) &&& M 15 k

theorem f1_lt (a : Nat) : f1 a < 256 := by
  unfold f1
  have := Nat.and_le_right (n := a / 2) (m := 85)
  have := Nat.and_le_right (n := a) (m := 85)
  omega
theorem f2_lt (a : Nat) : f2 a < 256 := by
  unfold f2
  have := Nat.and_le_right (n := a / 4) (m := 51)
  have := Nat.and_le_right (n := a) (m := 51)
  omega

theorem low1 : ∀ a, a < 256 → ∀ d, d < 2 → (a / 2 + 128 * d) &&& 85 = a / 2 &&& 85 := by decide +kernel
theorem low2 : ∀ a, a < 256 → ∀ d, d < 4 → (a / 4 + 64 * d) &&& 51 = a / 4 &&& 51 := by decide +kernel
theorem nib2 : ∀ a, a < 256 → f2 (f1 a) / 16 ≤ 4 ∧ f2 (f1 a) % 16 ≤ 4 := by decide +kernel
theorem low3 : ∀ a, a < 256 → ∀ d, d < 5 → (f2 (f1 a) / 16 + 16 * d + f2 (f1 a)) &&& 15 = f3 (f2 (f1 a)) := by decide +kernel
theorem all3 : ∀ a, a < 256 → f3 (f2 (f1 a)) = cnt a.testBit 8 := by decide +kernel

theorem s1_split (k a y : Nat) (ha : a < 256) : s1 (k + 1) (a + 256 * y) = f1 a + 256 * s1 k y := by
  unfold s1 f1
  rw [M_succ]
  have e : (a + 256 * y) / 2 = (a / 2 + 128 * (y % 2)) + 256 * (y / 2) := by omega
  rw [e, and_split _ _ _ _ (by omega) (by decide), and_split _ _ _ _ ha (by decide), low1 a ha _ (by omega)]
  omega
theorem s2_split (k a y : Nat) (ha : a < 256) : s2 (k + 1) (a + 256 * y) = f2 a + 256 * s2 k y := by
  unfold s2 f2
  rw [M_succ]
  have e : (a + 256 * y) / 4 = (a / 4 + 64 * (y % 4)) + 256 * (y / 4) := by omega
  rw [e, and_split _ _ _ _ (by omega) (by decide), and_split _ _ _ _ ha (by decide), low2 a ha _ (by omega)]
  omega

theorem low4 : ∀ k y, s2 k (s1 k y) % 16 ≤ 4
  | 0, y => by simp [s2, M]
  | k + 1, y => by
    have e : y = y % 256 + 256 * (y / 256) := by omega
    have ha : y % 256 < 256 := by omega
    rw [e, s1_split _ _ _ ha, s2_split _ _ _ (f1_lt _)]
    have := (nib2 _ ha).2
    omega

theorem s3_split (k a y : Nat) (ha : a < 256) : s3 (k + 1) (s2 (k + 1) (s1 (k + 1) (a + 256 * y))) = f3 (f2 (f1 a)) + 256 * s3 k (s2 k (s1 k y)) := by
  rw [s1_split _ _ _ ha, s2_split _ _ _ (f1_lt _)]
  have h4 := low4 k y
  have hn := nib2 a ha
  have hlt := f2_lt (f1 a)
  have hl := low3 a ha (s2 k (s1 k y) % 16) (by omega)
  generalize s2 k (s1 k y) = z at *
  generalize f2 (f1 a) = u at *
  unfold s3
  rw [M_succ]
  have e : (u + 256 * z) / 16 + (u + 256 * z) = (u / 16 + 16 * (z % 16) + u) + 256 * (z / 16 + z) := by omega
  rw [e, and_split _ _ _ _ (by omega) (by decide), hl]

/-- The bytes' counts, each in a byte of its own. -/
def lanes : Nat → Nat → Nat
  | 0, _ => 0
  | k + 1, x => cnt (x % 256).testBit 8 + 256 * lanes k (x / 256)

theorem lanes_succ (k x : Nat) : lanes (k + 1) x = cnt (x % 256).testBit 8 + 256 * lanes k (x / 256) := rfl

theorem s3_lanes : ∀ k x, s3 k (s2 k (s1 k x)) = lanes k x
  | 0, x => by simp [s3, M, lanes]
  | k + 1, x => by
    have e : x = x % 256 + 256 * (x / 256) := by omega
    have ha : x % 256 < 256 := by omega
    rw [e, s3_split _ _ _ ha, all3 _ ha, s3_lanes k (x / 256)]
    rw [lanes_succ]
    have e1 : (x % 256 + 256 * (x / 256)) % 256 = x % 256 := by omega
    have e2 : (x % 256 + 256 * (x / 256)) / 256 = x / 256 := by omega
    rw [e1, e2]

theorem cnt8 (x j : Nat) : cnt (x / 256 ^ j % 256).testBit 8 = cnt (fun i => x.testBit (8 * j + i)) 8 := cnt_congr fun b hb => by
  have e : (256 : Nat) ^ j = 2 ^ (8 * j) := by rw [Nat.pow_mul]
  have e2 : (256 : Nat) = 2 ^ 8 := rfl
  rw [e2, Nat.testBit_mod_two_pow, ← e2, e, Nat.testBit_div_two_pow]
  simp [hb, Nat.add_comm]

theorem pc_bytes (x : Nat) : pc x = cnt (x / 256 ^ 0 % 256).testBit 8 + cnt (x / 256 ^ 1 % 256).testBit 8 + cnt (x / 256 ^ 2 % 256).testBit 8 + cnt (x / 256 ^ 3 % 256).testBit 8 + cnt (x / 256 ^ 4 % 256).testBit 8 + cnt (x / 256 ^ 5 % 256).testBit 8 + cnt (x / 256 ^ 6 % 256).testBit 8 + cnt (x / 256 ^ 7 % 256).testBit 8 := by
  simp only [cnt8]
  have e : ∀ n, cnt x.testBit (8 * (n + 1)) = cnt x.testBit (8 * n) + cnt (fun i => x.testBit (8 * n + i)) 8 := fun n => cnt_add x.testBit (8 * n) 8
  unfold pc
  rw [show (64 : Nat) = 8 * (7 + 1) from rfl, e 7, e 6, e 5, e 4, e 3, e 2, e 1, e 0]
  simp [cnt]

theorem m85 : M 85 8 = 6148914691236517205 := by decide +kernel
theorem m51 : M 51 8 = 3689348814741910323 := by decide +kernel
theorem m15 : M 15 8 = 1085102592571150095 := by decide +kernel

theorem lane1 {c0 c1 t1 t2 z : Nat} (h0 : c0 ≤ 8) (e0 : z = c0 + 256 * t1) (e1 : t1 = c1 + 256 * t2) : z + z / 256 = (c0 + c1) + 256 * (t1 + t2) := by
  have : z / 256 = t1 := by omega
  omega
theorem lane2 {d0 d1 d2 u1 u2 u3 y : Nat} (h0 : d0 ≤ 16) (h1 : d1 ≤ 16) (e0 : y = d0 + 256 * u1) (e1 : u1 = d1 + 256 * u2) (e2 : u2 = d2 + 256 * u3) : y + y / 65536 = (d0 + d2) + 256 * (u1 + u3) := by
  have : y / 65536 = u2 := by omega
  omega
theorem lane3 {e0 e1 e2 e3 e4 v1 v2 v3 v4 v5 y : Nat} (h0 : e0 ≤ 32) (h1 : e1 ≤ 32) (h2 : e2 ≤ 32) (h3 : e3 ≤ 32) (k0 : y = e0 + 256 * v1) (k1 : v1 = e1 + 256 * v2) (k2 : v2 = e2 + 256 * v3) (k3 : v3 = e3 + 256 * v4) (k4 : v4 = e4 + 256 * v5) : y + y / 4294967296 = (e0 + e4) + 256 * (v1 + v5) := by
  have a1 : y / 256 = v1 := by omega
  have a2 : v1 / 256 = v2 := by omega
  have a3 : v2 / 256 = v3 := by omega
  have a4 : v3 / 256 = v4 := by omega
  have a5 : y / 4294967296 = y / 256 / 256 / 256 / 256 := by simp only [Nat.div_div_eq_div_mul]
  rw [a5, a1, a2, a3, a4]
  clear a1 a2 a3 a4 a5 k1 k2 k3
  omega
theorem lane_add {a b s t x y : Nat} (hx : x = a + 256 * s) (hy : y = b + 256 * t) : x + y = (a + b) + 256 * (s + t) := by omega
theorem lane_le {c t z n : Nat} (h : c ≤ 8) (e : z = c + 256 * t) (ht : t ≤ n) : z ≤ 8 + 256 * n := by omega

/-- The three last steps. -/
theorem sum8 (c0 c1 c2 c3 c4 c5 c6 c7 t1 t2 t3 t4 t5 t6 t7 t8 z : Nat) (h0 : c0 ≤ 8) (h1 : c1 ≤ 8) (h2 : c2 ≤ 8) (h3 : c3 ≤ 8) (h4 : c4 ≤ 8) (h5 : c5 ≤ 8) (h6 : c6 ≤ 8) (h7 : c7 ≤ 8)
    (e0 : z = c0 + 256 * t1) (e1 : t1 = c1 + 256 * t2) (e2 : t2 = c2 + 256 * t3) (e3 : t3 = c3 + 256 * t4) (e4 : t4 = c4 + 256 * t5) (e5 : t5 = c5 + 256 * t6) (e6 : t6 = c6 + 256 * t7) (e7 : t7 = c7 + 256 * t8) (e8 : t8 = 0) (y1 y2 y3 : Nat)
    (hy1 : y1 = z + z / 256) (hy2 : y2 = y1 + y1 / 65536) (hy3 : y3 = y2 + y2 / 4294967296) :
    y1 < 18446744073709551616 ∧ y2 < 18446744073709551616 ∧ y3 < 18446744073709551616 ∧ y3 % 128 = c0 + c1 + c2 + c3 + c4 + c5 + c6 + c7 := by
  have b7 : t7 ≤ 8 := by clear hy1 hy2 hy3 e0 e1 e2 e3 e4 e5 e6; omega
  have b0 := lane_le h0 e0 (lane_le h1 e1 (lane_le h2 e2 (lane_le h3 e3 (lane_le h4 e4 (lane_le h5 e5 (lane_le h6 e6 b7))))))
  have f8 : t8 = 0 + 256 * 0 := by clear hy1 hy2 hy3 e0 e1 e2 e3 e4 e5 e6 e7 b0; omega
  have q1 := lane1 h0 e0 e1
  have r1 := lane_add e1 e2
  have r2 := lane_add e2 e3
  have r3 := lane_add e3 e4
  have r4 := lane_add e4 e5
  have r5 := lane_add e5 e6
  have r6 := lane_add e6 e7
  have r7 := lane_add e7 f8
  have q2 := lane2 (Nat.add_le_add h0 h1) (Nat.add_le_add h1 h2) q1 r1 r2
  have s1 := lane_add r1 r3
  have s2 := lane_add r2 r4
  have s3 := lane_add r3 r5
  have s4 := lane_add r4 r6
  have s5 := lane_add r5 r7
  rw [← hy1, ← hy2] at q2
  have q3 := lane3 (Nat.add_le_add (Nat.add_le_add h0 h1) (Nat.add_le_add h2 h3)) (Nat.add_le_add (Nat.add_le_add h1 h2) (Nat.add_le_add h3 h4)) (Nat.add_le_add (Nat.add_le_add h2 h3) (Nat.add_le_add h4 h5)) (Nat.add_le_add (Nat.add_le_add h3 h4) (Nat.add_le_add h5 h6)) q2 s1 s2 s3 s4
  rw [← hy3] at q3
  clear q1 q2 r1 r2 r3 r4 r5 r6 r7 s1 s2 s3 s4 s5 e0 e1 e2 e3 e4 e5 e6 e7 e8 f8 b7
  have g1 : y1 < 1157442765409226770 := by clear q3 hy2 hy3; omega
  have g2 : y2 < 2314885530818453540 := by clear q3 hy1 hy3; omega
  have g3 : y3 < 4629771061636907080 := by clear q3 hy1 hy2; omega
  refine ⟨by clear q3 hy1 hy2 hy3; omega, by clear q3 hy1 hy2 hy3; omega, by clear q3 hy1 hy2 hy3; omega, ?_⟩
  clear hy1 hy2 hy3 g1 g2 g3 b0
  generalize (t1 + t2 + (t3 + t4) + (t5 + t6 + (t7 + t8))) = v at q3
  omega

theorem lanes_at (k x j : Nat) : lanes (k + 1) (x / 256 ^ j) = cnt (x / 256 ^ j % 256).testBit 8 + 256 * lanes k (x / 256 ^ (j + 1)) := by
  rw [lanes_succ, Nat.div_div_eq_div_mul, ← Nat.pow_succ]

def z1 (x : Nat) : Nat := (x / 2 &&& 6148914691236517205) + (x &&& 6148914691236517205)
def z2 (x : Nat) : Nat := (x / 4 &&& 3689348814741910323) + (x &&& 3689348814741910323)
def z3 (x : Nat) : Nat := (x / 16 + x) &&& 1085102592571150095

theorem z_lanes (x : Nat) : z3 (z2 (z1 x)) = lanes 8 x := by
  have := s3_lanes 8 x
  unfold s3 s2 s1 at this
  rw [m85, m51, m15] at this
  exact this

theorem pop (x y1 y2 y3 : Nat) (hy1 : y1 = z3 (z2 (z1 x)) + z3 (z2 (z1 x)) / 256) (hy2 : y2 = y1 + y1 / 65536) (hy3 : y3 = y2 + y2 / 4294967296) :
    y1 < 18446744073709551616 ∧ y2 < 18446744073709551616 ∧ y3 < 18446744073709551616 ∧ y3 % 128 = pc x := by
  have h := sum8 _ _ _ _ _ _ _ _ _ _ _ _ _ _ _ _ _ (cnt_le _ 8) (cnt_le _ 8) (cnt_le _ 8) (cnt_le _ 8) (cnt_le _ 8) (cnt_le _ 8) (cnt_le _ 8) (cnt_le _ 8) ((z_lanes x).trans (by have := lanes_at 7 x 0; rwa [Nat.pow_zero, Nat.div_one] at this)) (lanes_at 6 x 1) (lanes_at 5 x 2) (lanes_at 4 x 3) (lanes_at 3 x 4) (lanes_at 2 x 5) (lanes_at 1 x 6) (lanes_at 0 x 7) rfl y1 y2 y3 hy1 hy2 hy3
  have hp := pc_bytes x
  rw [Nat.pow_zero, Nat.div_one] at hp
  rw [← hp] at h
  exact h

end Go.Proofs.Ythcjfgfbeollpaa.Pop
/- Plain (layer 7): how far the parser's place may lie behind the text's end. -/
namespace Go.Proofs.Ythcjfgfbeollpaa.P07

/-- From a right state in the text: right, in the text; or wrong, k bytes behind it at most. From a wrong one: m bytes on at most. -/
structure Near {α : Type} (k m : Nat) (f : List UInt8 → PS → α × PS) : Prop where
  good : ∀ l s, s.bad = none → s.pos ≤ l.length → ((f l s).2.bad = none ∧ (f l s).2.pos ≤ l.length) ∨ ((f l s).2.bad ≠ none ∧ (f l s).2.pos ≤ l.length + k)
  lost : ∀ l s, s.bad ≠ none → (f l s).2.bad ≠ none ∧ (f l s).2.pos ≤ s.pos + m

theorem Near.mono {α : Type} {k m k' m' : Nat} {f : List UInt8 → PS → α × PS} (h : Near k m f) (hk : k ≤ k') (hm : m ≤ m') : Near k' m' f where
  good l s h1 h2 := by
    rcases h.good l s h1 h2 with h3 | h3
    · exact .inl h3
    · exact .inr ⟨h3.1, by omega⟩
  lost l s h1 := ⟨(h.lost l s h1).1, by have := (h.lost l s h1).2; omega⟩
theorem Near.bind {α β : Type} {k m k' m' : Nat} {f : List UInt8 → PS → α × PS} {g : α → List UInt8 → PS → β × PS} (hf : Near k m f) (hg : ∀ r, Near k' m' (g r)) : Near (max k' (k + m')) (m + m') (fun l s => g (f l s).1 l (f l s).2) where
  good l s h1 h2 := by
    rcases hf.good l s h1 h2 with ⟨h3, h4⟩ | ⟨h3, h4⟩
    · rcases (hg (f l s).1).good l _ h3 h4 with h5 | h5
      · exact .inl h5
      · exact .inr ⟨h5.1, by have := h5.2; omega⟩
    · have h5 := (hg (f l s).1).lost l _ h3
      exact .inr ⟨h5.1, by have := h5.2; omega⟩
  lost l s h1 := by
    have h3 := hf.lost l s h1
    have h5 := (hg (f l s).1).lost l _ h3.1
    exact ⟨h5.1, by have := h5.2; omega⟩
theorem Near.pure {α : Type} (r : α) : Near 0 0 (fun _ s => (r, s)) where
  good _ _ h1 h2 := .inl ⟨h1, h2⟩
  lost _ _ h1 := ⟨h1, Nat.le_refl _⟩
theorem fail_bad (s : PS) (k : Nat) : (s.fail k).bad ≠ none := by
  unfold PS.fail
  split
  · simp
  · assumption
theorem fail_at (s : PS) (k : Nat) : (s.fail k).pos = s.pos := by
  unfold PS.fail
  split <;> rfl
theorem Near.fail {α : Type} (r : α) : Near 0 0 (fun _ s => (r, s.fail s.pos)) where
  good _ s _ _ := .inr ⟨fail_bad _ _, by show (s.fail s.pos).pos ≤ _; rw [fail_at]; omega⟩
  lost _ s _ := ⟨fail_bad _ _, by show (s.fail s.pos).pos ≤ _; rw [fail_at]; omega⟩
theorem Near.opens {α : Type} (r : α) (q : Nat → Nat) : Near 0 0 (fun _ s => (r, { s with opn := q s.opn })) where
  good _ _ h1 h2 := .inl ⟨h1, h2⟩
  lost _ _ h1 := ⟨h1, Nat.le_refl _⟩
theorem Near.alive {α : Type} {k m : Nat} {f : List UInt8 → PS → α × PS} (hf : Near k m f) (r : α) : Near k 0 (fun l s => if s.bad = none then f l s else (r, s)) where
  good l s h1 h2 := by rw [if_pos h1]; exact hf.good l s h1 h2
  lost l s h1 := by rw [if_neg h1]; exact ⟨h1, Nat.le_refl _⟩
theorem Near.take {α : Type} {k m : Nat} {h : Int → Nat → List UInt8 → PS → α × PS} (h0 : ∀ o, Near k m (h (-1) o)) (hh : ∀ c o, 0 ≤ c → (∃ m', Near k m' (h c o)) ∨ ∃ m' g, Near k m' g ∧ ∀ l s, h c o l s = g l s.adv) : Near k m (fun l s => h (nxt l s) s.opn l s) where
  good l s h1 h2 := by
    by_cases hc : 0 ≤ nxt l s
    · rcases hh _ s.opn hc with ⟨m', h3⟩ | ⟨m', g, hg, he⟩
      · exact h3.good l s h1 h2
      · rw [he]
        exact hg.good l s.adv h1 (nxt_lt hc).2
    · simp only [nxt_neg hc]
      exact (h0 _).good l s h1 h2
  lost l s h1 := by
    obtain ⟨b, hb⟩ := Option.ne_none_iff_exists'.1 h1
    simp only [nxt_bad hb]
    exact (h0 _).lost l s h1
theorem Near.chk {α β : Type} {k m : Nat} {f : List UInt8 → PS → α × PS} (hf : Near k m f) (kk : α → β) (P : α → Prop) [DecidablePred P] : Near k m (fun l s => (kk (f l s).1, if (f l s).2.bad = none ∧ P (f l s).1 then (f l s).2.fail s.pos else (f l s).2)) where
  good l s h1 h2 := by
    dsimp only
    split
    · rename_i hc
      right
      refine ⟨fail_bad _ _, ?_⟩
      rw [fail_at]
      rcases hf.good l s h1 h2 with h3 | h3
      · omega
      · exact h3.2
    · exact hf.good l s h1 h2
  lost l s h1 := by
    have := hf.lost l s h1
    dsimp only
    rw [if_neg (fun e => this.1 e.1)]
    exact this
end Go.Proofs.Ythcjfgfbeollpaa.P07
/- The grammar keeps the count of open brackets; where the place may lie. -/
namespace Go.Proofs.Ythcjfgfbeollpaa.P07

/-- As many brackets stand open behind f as ahead of it. -/
def Still {α : Type} (f : List UInt8 → PS → α × PS) : Prop := ∀ l s, (f l s).2.opn = s.opn
theorem fail_opn (s : PS) (k : Nat) : (s.fail k).opn = s.opn := by unfold PS.fail; split <;> rfl
theorem must_still (c : Int) : Still (must c) := fun l s => by
  unfold must
  split
  · rfl
  · exact fail_opn _ _
theorem digit_still : Still digit := fun l s => by
  unfold digit
  split
  · rfl
  · exact fail_opn _ _
theorem two_still : Still two := fun l s => by
  unfold two
  exact (digit_still l _).trans (digit_still l s)
theorem esc_still : Still escP := fun l s => by
  unfold escP escB
  split
  · exact two_still l s.adv
  · split
    · rfl
    · split
      · rfl
      · split
        · rfl
        · exact fail_opn _ _
theorem one_still : Still one := fun l s => by
  unfold one oneB
  split
  · rfl
  · split
    · exact esc_still l s.adv
    · exact fail_opn _ _
theorem hi_still (lo : Int) : Still (hiP lo) := fun l s => by
  unfold hiP
  split
  · exact (fail_opn _ _).trans (one_still l s)
  · exact one_still l s
theorem range_still : Still range1 := fun l s => by
  unfold range1 dashB
  split
  · exact (hi_still _ l _).trans (one_still l s)
  · exact one_still l s
theorem set_still : ∀ f acc, Still (setP f acc)
  | 0, _ => fun _ _ => rfl
  | f + 1, acc => fun l s => by
    rw [setP]
    split
    · split
      · rfl
      · exact (set_still f _ l _).trans (range_still l s)
    · rfl
theorem num_still : Still num := fun l s => by
  unfold num numB num2 numB2
  split
  · split
    · rfl
    · rfl
  · exact fail_opn _ _
theorem number_still : Still number := fun l s => by
  unfold number
  split
  · exact (fail_opn _ _).trans (num_still l s)
  · exact num_still l s
theorem max_still (mn : Int) : Still (maxP mn) := fun l s => by
  unfold maxP maxB maxC
  split
  · rfl
  · split
    · exact (fail_opn _ _).trans (number_still l s)
    · exact number_still l s
theorem cma_still (mn : Int) : Still (cmaP mn) := fun l s => by
  unfold cmaP cmaB
  split
  · exact max_still mn l s.adv
  · rfl
theorem braces_still : Still braces := fun l s => by
  unfold braces
  exact (must_still 125 l _).trans ((cma_still _ l _).trans (number_still l s))
theorem clsQ_still (F : Nat) (nt : Bool) : Still (clsQ F nt) := fun l s => by
  unfold clsQ
  exact (must_still 93 l _).trans (set_still F [] l s)
theorem cls_still (F : Nat) : Still (clsP F) := fun l s => by
  unfold clsP clsB
  split
  · exact clsQ_still F true l s.adv
  · exact clsQ_still F false l s
theorem par_still {A : List UInt8 → PS → T × PS} (hA : Still A) : Still (parP A) := fun l s => by
  unfold parP
  refine (must_still 41 l _).trans ?_
  have := hA l { s with opn := s.opn + 1 }
  dsimp only at this ⊢
  omega
theorem atom_still (F : Nat) {A : List UInt8 → PS → T × PS} (hA : Still A) : Still (atomP F A) := fun l s => by
  unfold atomP atomB litP
  split
  · split
    · exact fail_opn _ _
    · exact par_still hA l s.adv
  · split
    · rfl
    · split
      · exact cls_still F l s.adv
      · exact one_still l s
theorem item_still (F : Nat) {A : List UInt8 → PS → T × PS} (hA : Still A) : Still (itemP F A) := fun l s => by
  unfold itemP sgB
  have h := atom_still F hA l s
  split
  · exact h
  · split
    · exact h
    · split
      · exact h
      · split
        · exact (braces_still l _).trans h
        · exact h
theorem catL_still (F : Nat) {A : List UInt8 → PS → T × PS} (hA : Still A) : ∀ f acc, Still (catL F A f acc)
  | 0, _ => fun _ _ => rfl
  | f + 1, acc => fun l s => by
    rw [catL]
    split
    · exact (catL_still F hA f _ l _).trans (item_still F hA l s)
    · rfl
theorem cat_still (F : Nat) {A : List UInt8 → PS → T × PS} (hA : Still A) : Still (catP F A) := fun l s => catL_still F hA F [] l s
theorem altL_still (F : Nat) {A : List UInt8 → PS → T × PS} (hA : Still A) : ∀ f acc, Still (altL F A f acc)
  | 0, _ => fun _ _ => rfl
  | f + 1, acc => fun l s => by
    rw [altL]
    split
    · exact (altL_still F hA f _ l _).trans (cat_still F hA l s.adv)
    · rfl
theorem alt_still (F : Nat) {A : List UInt8 → PS → T × PS} (hA : Still A) : Still (altP F A) := fun l s => (altL_still F hA F _ l _).trans (cat_still F hA l s)
theorem altD_still (F : Nat) : ∀ d, Still (altD F d)
  | 0 => fun _ _ => rfl
  | d + 1 => alt_still F (altD_still F d)

/-- The place, for those who read on. -/
def Here (l : List UInt8) (s : PS) : Prop := (s.bad = none → s.pos ≤ l.length) ∧ s.pos ≤ l.length + 14
theorem Here.next {l : List UInt8} {s : PS} (h : 0 ≤ nxt l s) : s.bad = none ∧ s.pos < l.length ∧ Here l s.adv := by
  have h0 := nxt_lt h
  exact ⟨h0.1, h0.2, fun _ => h0.2, by have := h0.2; show s.pos + 1 ≤ _; omega⟩
end Go.Proofs.Ythcjfgfbeollpaa.P07
