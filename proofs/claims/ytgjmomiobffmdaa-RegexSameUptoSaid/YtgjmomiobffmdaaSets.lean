/- Plain mathematics: sets of bytes as four words; what or, and, not, ranges are, byte by byte. Nothing here names a program. -/
namespace Go.Proofs.Ytgjmomiobffmdaa.Sets

/-- Four words. -/
structure ST where
  x0 : Nat
  x1 : Nat
  x2 : Nat
  x3 : Nat

namespace ST

def w (s : ST) : Nat → Nat
  | 0 => s.x0
  | 1 => s.x1
  | 2 => s.x2
  | _ => s.x3

def of4 (f : Nat → Nat) : ST := ⟨f 0, f 1, f 2, f 3⟩

structure Ok (s : ST) : Prop where
  h0 : s.x0 < 18446744073709551616
  h1 : s.x1 < 18446744073709551616
  h2 : s.x2 < 18446744073709551616
  h3 : s.x3 < 18446744073709551616

theorem Ok.w {s : ST} (h : s.Ok) (i : Nat) : s.w i < 18446744073709551616 := by
  match i with
  | 0 => exact h.h0
  | 1 => exact h.h1
  | 2 => exact h.h2
  | i + 3 => exact h.h3

theorem w_of4 (f : Nat → Nat) (i : Nat) (h : i < 4) : (of4 f).w i = f i := by
  match i, h with
  | 0, _ => rfl
  | 1, _ => rfl
  | 2, _ => rfl
  | 3, _ => rfl

theorem of4_ok {f : Nat → Nat} (h : ∀ i, f i < 18446744073709551616) : (of4 f).Ok := ⟨h 0, h 1, h 2, h 3⟩

/-- Is byte b there? -/
def has (s : ST) (b : Nat) : Bool := (s.w (b / 64)).testBit (b % 64)

theorem has_of4 (f : Nat → Nat) (b : Nat) (h : b < 256) : (of4 f).has b = (f (b / 64)).testBit (b % 64) := by
  unfold has
  rw [w_of4 _ _ (by omega)]

theorem word_ext {x y : Nat} (hx : x < 18446744073709551616) (hy : y < 18446744073709551616) (h : ∀ j, j < 64 → x.testBit j = y.testBit j) : x = y := by
  apply Nat.eq_of_testBit_eq
  intro j
  rcases Nat.lt_or_ge j 64 with hj | hj
  · exact h j hj
  · have e : (2 : Nat) ^ 64 ≤ 2 ^ j := Nat.pow_le_pow_right (by decide) hj
    rw [Nat.testBit_lt_two_pow (by omega), Nat.testBit_lt_two_pow (by omega)]

theorem ext {s t : ST} (hs : s.Ok) (ht : t.Ok) (h : ∀ b, b < 256 → s.has b = t.has b) : s = t := by
  have e : ∀ i, i < 4 → s.w i = t.w i := fun i hi => word_ext (hs.w i) (ht.w i) (fun j hj => by
    have := h (64 * i + j) (by omega)
    unfold has at this
    have e1 : (64 * i + j) / 64 = i := by omega
    have e2 : (64 * i + j) % 64 = j := by omega
    rwa [e1, e2] at this)
  obtain ⟨a0, a1, a2, a3⟩ := s
  obtain ⟨b0, b1, b2, b3⟩ := t
  have e0 : a0 = b0 := e 0 (by decide)
  have e1 : a1 = b1 := e 1 (by decide)
  have e2 : a2 = b2 := e 2 (by decide)
  have e3 : a3 = b3 := e 3 (by decide)
  rw [e0, e1, e2, e3]

def none : ST := ⟨0, 0, 0, 0⟩
theorem none_ok : none.Ok := by constructor <;> decide
theorem has_none (b : Nat) : none.has b = false := by
  unfold has
  have : none.w (b / 64) = 0 := by
    generalize b / 64 = i
    match i with
    | 0 => rfl
    | 1 => rfl
    | 2 => rfl
    | i + 3 => rfl
  rw [this, Nat.zero_testBit]

def and (s t : ST) : ST := of4 fun i => s.w i &&& t.w i
def or (s t : ST) : ST := of4 fun i => s.w i ||| t.w i
def not (s : ST) : ST := of4 fun i => 18446744073709551615 - s.w i
def below (n : Nat) : ST := of4 fun i => 2 ^ min (n - 64 * i) 64 - 1
def range (lo hi : Nat) : ST := and (below (hi + 1)) (not (below lo))
def one (b : Nat) : ST := range b b

theorem and_ok {s t : ST} (hs : s.Ok) : (and s t).Ok := of4_ok fun i => Nat.lt_of_le_of_lt Nat.and_le_left (hs.w i)
theorem or_ok {s t : ST} (hs : s.Ok) (ht : t.Ok) : (or s t).Ok := of4_ok fun i => Nat.or_lt_two_pow (n := 64) (hs.w i) (ht.w i)
theorem not_ok (s : ST) : (not s).Ok := of4_ok fun i => by omega
theorem below_ok (n : Nat) : (below n).Ok := of4_ok fun i => by
  have : (2 : Nat) ^ min (n - 64 * i) 64 ≤ 2 ^ 64 := Nat.pow_le_pow_right (by decide) (by omega)
  have h0 : 0 < (2 : Nat) ^ min (n - 64 * i) 64 := Nat.two_pow_pos _
  omega
theorem range_ok (lo hi : Nat) : (range lo hi).Ok := and_ok (below_ok _)
theorem one_ok (b : Nat) : (one b).Ok := range_ok _ _

theorem has_and (s t : ST) (b : Nat) (h : b < 256) : (and s t).has b = (s.has b && t.has b) := by
  rw [and, has_of4 _ _ h, Nat.testBit_and]; rfl
theorem has_or (s t : ST) (b : Nat) (h : b < 256) : (or s t).has b = (s.has b || t.has b) := by
  rw [or, has_of4 _ _ h, Nat.testBit_or]; rfl
theorem has_not {s : ST} (hs : s.Ok) (b : Nat) (h : b < 256) : (not s).has b = !s.has b := by
  rw [not, has_of4 _ _ h]
  have e : 18446744073709551615 - s.w (b / 64) = 2 ^ 64 - (s.w (b / 64) + 1) := by omega
  rw [e, Nat.testBit_two_pow_sub_succ (hs.w _)]
  have : b % 64 < 64 := by omega
  simp [this, has]
theorem has_below (n b : Nat) (h : b < 256) : (below n).has b = decide (b < n) := by
  rw [below, has_of4 _ _ h, Nat.testBit_two_pow_sub_one]
  apply decide_eq_decide.2
  omega
theorem has_range (lo hi b : Nat) (h : b < 256) : (range lo hi).has b = decide (lo ≤ b ∧ b ≤ hi) := by
  rw [range, has_and _ _ _ h, has_not (below_ok _) _ h, has_below _ _ h, has_below _ _ h]
  rw [Bool.eq_iff_iff]
  simp
  omega
theorem has_one (x b : Nat) (h : b < 256) : (one x).has b = decide (b = x) := by
  rw [one, has_range _ _ _ h]
  apply decide_eq_decide.2
  omega

theorem not_not {s : ST} (hs : s.Ok) : not (not s) = s := ext (not_ok _) hs fun b h => by rw [has_not (not_ok _) b h, has_not hs b h, Bool.not_not]
theorem not_or {s t : ST} (hs : s.Ok) (ht : t.Ok) : not (or s t) = and (not s) (not t) := ext (not_ok _) (and_ok (not_ok _)) fun b h => by
  rw [has_not (or_ok hs ht) b h, has_and _ _ b h, has_not hs b h, has_not ht b h, has_or _ _ b h, Bool.not_or]

end ST

/-! ### Counting -/

/-- How many numbers below k are there? -/
def cnt (p : Nat → Bool) : Nat → Nat
  | 0 => 0
  | k + 1 => cnt p k + (p k).toNat

theorem cnt_le (p : Nat → Bool) : ∀ k, cnt p k ≤ k
  | 0 => Nat.le_refl _
  | k + 1 => by
    have := cnt_le p k
    have := Bool.toNat_le (p k)
    unfold cnt
    omega

theorem cnt_congr {p q : Nat → Bool} : ∀ {k}, (∀ b, b < k → p b = q b) → cnt p k = cnt q k
  | 0, _ => rfl
  | k + 1, h => by
    unfold cnt
    rw [cnt_congr (fun b hb => h b (by omega)), h k (by omega)]

theorem cnt_add (p : Nat → Bool) (m : Nat) : ∀ n, cnt p (m + n) = cnt p m + cnt (fun i => p (m + i)) n
  | 0 => rfl
  | n + 1 => by
    show cnt p (m + n) + (p (m + n)).toNat = cnt p m + (cnt (fun i => p (m + i)) n + (p (m + n)).toNat)
    rw [cnt_add p m n, Nat.add_assoc]

theorem cnt_or_and (p q : Nat → Bool) : ∀ k, cnt p k + cnt q k = cnt (fun b => p b || q b) k + cnt (fun b => p b && q b) k
  | 0 => rfl
  | k + 1 => by
    have := cnt_or_and p q k
    unfold cnt
    cases p k <;> cases q k <;> simp <;> omega

theorem cnt_not (p : Nat → Bool) : ∀ k, cnt p k + cnt (fun b => !p b) k = k
  | 0 => rfl
  | k + 1 => by
    have := cnt_not p k
    unfold cnt
    cases p k <;> simp <;> omega

theorem cnt_zero {p : Nat → Bool} : ∀ {k}, cnt p k = 0 → ∀ b, b < k → p b = false
  | 0, _, b, hb => by omega
  | k + 1, h, b, hb => by
    unfold cnt at h
    rcases Nat.lt_succ_iff_lt_or_eq.1 hb with hb | rfl
    · exact cnt_zero (by omega) b hb
    · cases e : p b
      · rfl
      · rw [e] at h; simp at h

theorem cnt_pos {p : Nat → Bool} {b : Nat} (hb : p b = true) : ∀ {k}, b < k → 0 < cnt p k
  | 0, h => by omega
  | k + 1, h => by
    unfold cnt
    rcases Nat.lt_succ_iff_lt_or_eq.1 h with h | rfl
    · have := cnt_pos hb h
      omega
    · rw [hb]; simp

/-- The bits of a word. -/
def pc (x : Nat) : Nat := cnt x.testBit 64

namespace ST
def count (s : ST) : Nat := cnt s.has 256
theorem count_words (s : ST) : s.count = pc s.x0 + pc s.x1 + pc s.x2 + pc s.x3 := by
  have e : ∀ i, i < 4 → cnt (fun j => s.has (64 * i + j)) 64 = pc (s.w i) := fun i hi => cnt_congr fun j hj => by
    unfold has
    have e1 : (64 * i + j) / 64 = i := by omega
    have e2 : (64 * i + j) % 64 = j := by omega
    rw [e1, e2]
  have h1 : cnt s.has 256 = cnt s.has 192 + cnt (fun j => s.has (192 + j)) 64 := cnt_add s.has 192 64
  have h2 : cnt s.has 192 = cnt s.has 128 + cnt (fun j => s.has (128 + j)) 64 := cnt_add s.has 128 64
  have h3 : cnt s.has 128 = cnt s.has 64 + cnt (fun j => s.has (64 + j)) 64 := cnt_add s.has 64 64
  have e0 : cnt (fun j => s.has (64 * 0 + j)) 64 = pc s.x0 := e 0 (by decide)
  have h0 : cnt s.has 64 = pc s.x0 := by
    rw [← e0]
    exact cnt_congr fun b _ => by simp
  have e1 : cnt (fun j => s.has (64 + j)) 64 = pc s.x1 := e 1 (by decide)
  have e2 : cnt (fun j => s.has (128 + j)) 64 = pc s.x2 := e 2 (by decide)
  have e3 : cnt (fun j => s.has (192 + j)) 64 = pc s.x3 := e 3 (by decide)
  unfold count
  rw [h1, h2, h3, h0, e1, e2, e3]
theorem count_le (s : ST) : s.count ≤ 256 := cnt_le _ _
end ST

/-! ### The next one -/

/-- The least number from n on, of k, that is there; n + k: none. -/
def seek (p : Nat → Bool) : Nat → Nat → Nat
  | 0, n => n
  | k + 1, n => if p n then n else seek p k (n + 1)

/-- The least byte from n on; 256: none. -/
def nxt (p : Nat → Bool) (n : Nat) : Nat := seek p (256 - n) n

structure Nx (p : Nat → Bool) (n r : Nat) : Prop where
  lo : n ≤ r
  hi : r ≤ 256
  gap : ∀ b, n ≤ b → b < r → p b = false
  at' : r < 256 → p r = true

theorem seek_nx (p : Nat → Bool) : ∀ k n, n + k = 256 → Nx p n (seek p k n)
  | 0, n, h => ⟨Nat.le_refl _, by simp [seek]; omega, fun b h1 h2 => by simp [seek] at h2; omega, fun h' => by simp [seek] at h'; omega⟩
  | k + 1, n, h => by
    unfold seek
    cases e : p n
    · simp only [Bool.false_eq_true, if_false]
      have i := seek_nx p k (n + 1) (by omega)
      refine ⟨by have := i.lo; omega, i.hi, fun b h1 h2 => ?_, i.at'⟩
      rcases Nat.eq_or_lt_of_le h1 with rfl | h1
      · exact e
      · exact i.gap b h1 h2
    · simp only [if_true]
      exact ⟨Nat.le_refl _, by omega, fun b h1 h2 => by omega, fun _ => e⟩

theorem nxt_nx (p : Nat → Bool) (n : Nat) (h : n ≤ 256) : Nx p n (nxt p n) := seek_nx p _ n (by omega)

theorem Nx.eq {p : Nat → Bool} {n r : Nat} (h : Nx p n r) : r = nxt p n := by
  have k := nxt_nx p n (by have := h.lo; have := h.hi; omega)
  rcases Nat.lt_trichotomy r (nxt p n) with hl | hl | hl
  · have := k.gap r h.lo hl
    rw [h.at' (by have := k.hi; omega)] at this
    cases this
  · exact hl
  · have := h.gap _ k.lo hl
    rw [k.at' (by have := h.hi; omega)] at this
    cases this

/-! ### Ranges -/

/-- The last range's end set to k. -/
def stretch (k : Nat) : List (Nat × Nat) → List (Nat × Nat)
  | [] => []
  | [(a, _)] => [(a, k)]
  | x :: y :: l => x :: stretch k (y :: l)

theorem stretch_append (k a b : Nat) : ∀ l, stretch k (l ++ [(a, b)]) = l ++ [(a, k)]
  | [] => rfl
  | [x] => rfl
  | x :: y :: l => by
    have := stretch_append k a b (y :: l)
    show x :: stretch k (y :: (l ++ [(a, b)])) = _
    rw [← List.cons_append, this]
    rfl

/-- The ranges of what is there below k. -/
def rgs (p : Nat → Bool) : Nat → List (Nat × Nat)
  | 0 => []
  | k + 1 => if p k then (if k ≠ 0 ∧ p (k - 1) = true then stretch k (rgs p k) else rgs p k ++ [(k, k)]) else rgs p k

theorem rgs_no {p : Nat → Bool} {k : Nat} (h : p k = false) : rgs p (k + 1) = rgs p k := by
  rw [rgs, h]
  simp

theorem rgs_new {p : Nat → Bool} {k : Nat} (h : p k = true) (h' : k = 0 ∨ p (k - 1) = false) : rgs p (k + 1) = rgs p k ++ [(k, k)] := by
  rw [rgs, h]
  rcases h' with rfl | h'
  · simp
  · simp [h']

theorem rgs_more {p : Nat → Bool} {k : Nat} (h : p k = true) (h0 : k ≠ 0) (h' : p (k - 1) = true) : rgs p (k + 1) = stretch k (rgs p k) := by
  rw [rgs, h]
  simp [h', h0]

/-- From lo on all are there, up to hi. -/
theorem rgs_run {p : Nat → Bool} {lo : Nat} (h' : lo = 0 ∨ p (lo - 1) = false) : ∀ n, (∀ b, lo ≤ b → b ≤ lo + n → p b = true) → rgs p (lo + n + 1) = rgs p lo ++ [(lo, lo + n)]
  | 0, h => rgs_new (h lo (Nat.le_refl _) (by omega)) h'
  | n + 1, h => by
    have i := rgs_run h' n (fun b h1 h2 => h b h1 (by omega))
    rw [show lo + (n + 1) + 1 = (lo + n + 1) + 1 from by omega, rgs_more (h _ (by omega) (by omega)) (by omega) (h _ (by omega) (by omega)), i, stretch_append]
    rfl

/-- From a on none is there below b. -/
theorem rgs_gap {p : Nat → Bool} {a : Nat} : ∀ n, (∀ b, a ≤ b → b < a + n → p b = false) → rgs p (a + n) = rgs p a
  | 0, _ => rfl
  | n + 1, h => by
    rw [show a + (n + 1) = a + n + 1 from by omega, rgs_no (h _ (by omega) (by omega))]
    exact rgs_gap n (fun b h1 h2 => h b h1 (by omega))

/-- What is known of the ranges below k. -/
structure RgOk (p : Nat → Bool) (k : Nat) (l : List (Nat × Nat)) : Prop where
  mem : ∀ b, (∃ r, r ∈ l ∧ r.1 ≤ b ∧ b ≤ r.2) ↔ (b < k ∧ p b = true)
  ord : ∀ r, r ∈ l → r.1 ≤ r.2 ∧ r.2 < k
  pair : l.Pairwise fun r s => r.2 + 1 < s.1
  sum : (l.map fun r => r.2 - r.1 + 1).sum = cnt p k

theorem rgs_ok (p : Nat → Bool) : ∀ k, RgOk p k (rgs p k)
  | 0 => ⟨fun b => by simp [rgs], fun r h => by simp [rgs] at h, by simp [rgs], by simp [rgs, cnt]⟩
  | k + 1 => by
    have i := rgs_ok p k
    cases e : p k with
    | false =>
      rw [rgs_no e]
      refine ⟨fun b => ?_, fun r h => ⟨(i.ord r h).1, by have := (i.ord r h).2; omega⟩, i.pair, by rw [i.sum]; simp [cnt, e]⟩
      rw [i.mem b]
      constructor
      · rintro ⟨h1, h2⟩
        exact ⟨by omega, h2⟩
      · rintro ⟨h1, h2⟩
        refine ⟨?_, h2⟩
        rcases Nat.lt_succ_iff_lt_or_eq.1 h1 with h1 | rfl
        · exact h1
        · rw [e] at h2; cases h2
    | true =>
      by_cases h' : k = 0 ∨ p (k - 1) = false
      · rw [rgs_new e h']
        have far : ∀ r, r ∈ rgs p k → r.2 + 1 < k := fun r hr => by
          have o := i.ord r hr
          rcases h' with rfl | h'
          · omega
          · have := (i.mem r.2).1 ⟨r, hr, o.1, Nat.le_refl _⟩
            by_cases hk : r.2 = k - 1
            · rw [hk, h'] at this
              cases this.2
            · omega
        refine ⟨fun b => ?_, fun r h => ?_, ?_, ?_⟩
        · constructor
          · rintro ⟨r, hr, h1, h2⟩
            rcases List.mem_append.1 hr with hr | hr
            · have := (i.mem b).1 ⟨r, hr, h1, h2⟩
              exact ⟨by omega, this.2⟩
            · rw [List.mem_singleton.1 hr] at h1 h2
              have : b = k := Nat.le_antisymm h2 h1
              subst this
              exact ⟨by omega, e⟩
          · rintro ⟨h1, h2⟩
            rcases Nat.lt_succ_iff_lt_or_eq.1 h1 with h1 | rfl
            · obtain ⟨r, hr, h3⟩ := (i.mem b).2 ⟨h1, h2⟩
              exact ⟨r, List.mem_append_left _ hr, h3⟩
            · exact ⟨(b, b), by simp, Nat.le_refl _, Nat.le_refl _⟩
        · rcases List.mem_append.1 h with h | h
          · exact ⟨(i.ord r h).1, by have := (i.ord r h).2; omega⟩
          · rw [List.mem_singleton.1 h]
            exact ⟨Nat.le_refl _, by simp⟩
        · refine List.pairwise_append.2 ⟨i.pair, by simp, fun r hr s hs => ?_⟩
          rw [List.mem_singleton.1 hs]
          exact far r hr
        · rw [List.map_append, List.sum_append, i.sum]
          simp [cnt, e]
      · have h0 : k ≠ 0 := fun h => h' (.inl h)
        have h1 : p (k - 1) = true := by
          cases h : p (k - 1)
          · exact absurd (.inr h) h'
          · rfl
        rw [rgs_more e h0 h1]
        obtain ⟨r0, hr0, a0, b0⟩ := (i.mem (k - 1)).2 ⟨by omega, h1⟩
        obtain ⟨l', r, hl⟩ : ∃ l' r, rgs p k = l' ++ [r] := by
          rcases List.eq_nil_or_concat (rgs p k) with h | ⟨l', r, h⟩
          · rw [h] at hr0; simp at hr0
          · exact ⟨l', r, by rw [h, List.concat_eq_append]⟩
        rw [hl] at i hr0
        have pw := List.pairwise_append.1 i.pair
        have or := i.ord r (by simp)
        have hr2 : r.2 = k - 1 := by
          rcases List.mem_append.1 hr0 with h | h
          · have := pw.2.2 r0 h r (by simp)
            omega
          · rw [List.mem_singleton.1 h] at b0
            omega
        rw [hl, show r = (r.1, r.2) from rfl, stretch_append]
        refine ⟨fun b => ?_, fun s hs => ?_, ?_, ?_⟩
        · constructor
          · rintro ⟨s, hs, h3, h4⟩
            rcases List.mem_append.1 hs with hs | hs
            · have := (i.mem b).1 ⟨s, List.mem_append_left _ hs, h3, h4⟩
              exact ⟨by omega, this.2⟩
            · rw [List.mem_singleton.1 hs] at h3 h4
              rcases Nat.eq_or_lt_of_le h4 with h4 | h4
              · rw [h4]
                exact ⟨by simp, e⟩
              · have := (i.mem b).1 ⟨r, by simp, h3, by simp at h4; omega⟩
                exact ⟨by omega, this.2⟩
          · rintro ⟨h3, h4⟩
            rcases Nat.lt_succ_iff_lt_or_eq.1 h3 with h3 | rfl
            · obtain ⟨s, hs, h5, h6⟩ := (i.mem b).2 ⟨h3, h4⟩
              rcases List.mem_append.1 hs with hs | hs
              · exact ⟨s, List.mem_append_left _ hs, h5, h6⟩
              · rw [List.mem_singleton.1 hs] at h5
                exact ⟨(r.1, k), by simp, h5, by simp; omega⟩
            · exact ⟨(r.1, b), by simp, by simp; omega, Nat.le_refl _⟩
        · rcases List.mem_append.1 hs with hs | hs
          · have := i.ord s (List.mem_append_left _ hs)
            exact ⟨this.1, by omega⟩
          · rw [List.mem_singleton.1 hs]
            exact ⟨by simp; omega, by simp⟩
        · refine List.pairwise_append.2 ⟨pw.1, by simp, fun s hs t ht => ?_⟩
          rw [List.mem_singleton.1 ht]
          exact pw.2.2 s hs r (by simp)
        · have := i.sum
          rw [List.map_append, List.sum_append] at this ⊢
          simp only [List.map_cons, List.map_nil, List.sum_cons, List.sum_nil] at this ⊢
          simp only [cnt, e, Bool.toNat_true]
          omega

theorem rgs_le (p : Nat → Bool) : ∀ k, (rgs p k).length ≤ k
  | 0 => by simp [rgs]
  | k + 1 => by
    have i := rgs_le p k
    rw [rgs]
    split
    · split
      · have : ∀ l, (stretch k l).length = l.length := fun l => by
          rcases List.eq_nil_or_concat l with rfl | ⟨l', r, rfl⟩
          · rfl
          · rw [List.concat_eq_append, show r = (r.1, r.2) from rfl, stretch_append]
            simp
        rw [this]
        omega
      · simp
        omega
    · omega

/-- The first range begins with the least byte. -/
theorem rgs_head {p : Nat → Bool} {r : Nat × Nat} {l : List (Nat × Nat)} (h : rgs p 256 = r :: l) : r.1 = nxt p 0 := by
  have i := rgs_ok p 256
  rw [h] at i
  have o := i.ord r (by simp)
  refine Nx.eq ⟨Nat.zero_le _, by omega, fun b _ hb => ?_, fun _ => ((i.mem r.1).1 ⟨r, by simp, Nat.le_refl _, o.1⟩).2⟩
  cases e : p b
  · rfl
  · obtain ⟨s, hs, h1, h2⟩ := (i.mem b).2 ⟨by omega, e⟩
    rcases List.mem_cons.1 hs with rfl | hs
    · omega
    · have := (List.pairwise_cons.1 i.pair).1 s hs
      omega

theorem rgs_nil {p : Nat → Bool} (h : rgs p 256 = []) : cnt p 256 = 0 := by
  have := (rgs_ok p 256).sum
  rw [h] at this
  simpa using this.symm

theorem nxt_lt_iff (p : Nat → Bool) : nxt p 0 < 256 ↔ 0 < cnt p 256 := by
  have n := nxt_nx p 0 (by decide)
  constructor
  · intro h
    exact cnt_pos (n.at' h) h
  · intro h
    refine Nat.lt_of_not_le fun h' => ?_
    have : cnt p 256 = cnt (fun _ => false) 256 := cnt_congr fun b hb => n.gap b (Nat.zero_le _) (by omega)
    rw [this] at h
    have z : ∀ k, cnt (fun _ => false) k = 0 := fun k => by
      induction k with
      | zero => rfl
      | succ k ih => simp [cnt, ih]
    rw [z] at h
    omega

theorem cnt_all {p : Nat → Bool} : ∀ {k}, cnt p k = k → ∀ b, b < k → p b = true
  | 0, _, b, hb => by omega
  | k + 1, h, b, hb => by
    have := cnt_le p k
    have ht := Bool.toNat_le (p k)
    unfold cnt at h
    rcases Nat.lt_succ_iff_lt_or_eq.1 hb with hb | rfl
    · exact cnt_all (by omega) b hb
    · cases e : p b
      · rw [e] at h; simp at h; omega
      · rfl

/-- One alone. -/
theorem cnt_one {p : Nat → Bool} {k a b : Nat} (h : cnt p k = 1) (ha : a < k) (hb : b < k) (pa : p a = true) (pb : p b = true) : a = b := by
  induction k with
  | zero => omega
  | succ k ih =>
    unfold cnt at h
    rcases Nat.lt_succ_iff_lt_or_eq.1 ha with ha' | rfl <;> rcases Nat.lt_succ_iff_lt_or_eq.1 hb with hb' | rfl
    · have := cnt_pos pa ha'
      exact ih (by omega) ha' hb'
    · have := cnt_pos pa ha'
      rw [pb] at h
      simp at h
      omega
    · have := cnt_pos pb hb'
      rw [pa] at h
      simp at h
      omega
    · rfl

end Go.Proofs.Ytgjmomiobffmdaa.Sets
