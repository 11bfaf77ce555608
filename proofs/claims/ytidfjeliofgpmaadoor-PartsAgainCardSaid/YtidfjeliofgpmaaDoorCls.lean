/- Plain mathematics for layer 5: bytes that a key does not tell apart, and their classes, numbered by their least bytes. Nothing here names a program. -/
import Derived.Test.YtidfjeliofgpmaaDoorSets
namespace Go.Proofs.YtidfjeliofgpmaaDoor.Cls
open Go.Proofs.YtidfjeliofgpmaaDoor.Sets

theorem seek_spec (p : Nat → Bool) : ∀ k n, n ≤ seek p k n ∧ seek p k n ≤ n + k ∧ (∀ b, n ≤ b → b < seek p k n → p b = false) ∧ (seek p k n < n + k → p (seek p k n) = true)
  | 0, n => ⟨Nat.le_refl _, Nat.le_refl _, fun b h1 h2 => by simp [seek] at h2; omega, fun h => by simp [seek] at h⟩
  | k + 1, n => by
    unfold seek
    cases e : p n
    · simp only [Bool.false_eq_true, if_false]
      obtain ⟨a, b, c, d⟩ := seek_spec p k (n + 1)
      refine ⟨by omega, by omega, fun x h1 h2 => ?_, fun h => d (by omega)⟩
      rcases Nat.eq_or_lt_of_le h1 with rfl | h1
      · exact e
      · exact c x h1 h2
    · simp only [if_true]
      exact ⟨Nat.le_refl _, by omega, fun x h1 h2 => by omega, fun _ => e⟩

section
variable {α : Type} [DecidableEq α]

/-- The least one with b's key. -/
def rep (K : Nat → α) (b : Nat) : Nat := seek (fun a => decide (K a = K b)) b 0

theorem rep_le (K : Nat → α) (b : Nat) : rep K b ≤ b := by
  have := (seek_spec (fun a => decide (K a = K b)) b 0).2.1
  unfold rep
  omega
theorem rep_key (K : Nat → α) (b : Nat) : K (rep K b) = K b := by
  have h := seek_spec (fun a => decide (K a = K b)) b 0
  rcases Nat.lt_or_ge (rep K b) b with hl | hl
  · have := h.2.2.2 (by unfold rep at hl; omega)
    exact of_decide_eq_true this
  · rw [Nat.le_antisymm (rep_le K b) hl]
theorem rep_least (K : Nat → α) {a b : Nat} (h : K a = K b) : rep K b ≤ a := by
  refine Nat.le_of_not_lt fun hl => ?_
  have := (seek_spec (fun a => decide (K a = K b)) b 0).2.2.1 a (Nat.zero_le _) hl
  exact of_decide_eq_false this h
theorem rep_eq (K : Nat → α) {a b : Nat} (h : K a = K b) : rep K a = rep K b :=
  Nat.le_antisymm (rep_least K ((rep_key K b).trans h.symm)) (rep_least K ((rep_key K a).trans h))
theorem rep_iff (K : Nat → α) {a b : Nat} : rep K a = rep K b ↔ K a = K b :=
  ⟨fun h => by rw [← rep_key K a, h, rep_key K b], rep_eq K⟩
theorem rep_rep (K : Nat → α) (b : Nat) : rep K (rep K b) = rep K b := rep_eq K (rep_key K b)

/-- Is it the least one of its class? -/
def first (K : Nat → α) (b : Nat) : Bool := decide (rep K b = b)
theorem first_rep (K : Nat → α) (b : Nat) : first K (rep K b) = true := decide_eq_true (rep_rep K b)
theorem first_iff (K : Nat → α) (b : Nat) : first K b = true ↔ ∀ a, a < b → K a ≠ K b := by
  unfold first
  rw [decide_eq_true_eq]
  constructor
  · intro h a ha e
    have := rep_least K e
    omega
  · intro h
    refine Nat.le_antisymm (rep_le K b) (Nat.le_of_not_lt fun hl => h _ hl (rep_key K b))

/-- A byte's class; how many there are. -/
def cls (K : Nat → α) (b : Nat) : Nat := cnt (first K) (rep K b)
def ncl (K : Nat → α) : Nat := cnt (first K) 256

theorem cnt_mono (p : Nat → Bool) {m n : Nat} (h : m ≤ n) : cnt p m ≤ cnt p n := by
  have := cnt_add p m (n - m)
  rw [show m + (n - m) = n from by omega] at this
  omega
theorem cnt_lt (p : Nat → Bool) {m n : Nat} (h : m < n) (hp : p m = true) : cnt p m < cnt p n := by
  have h1 : cnt p (m + 1) = cnt p m + 1 := by
    show cnt p m + (p m).toNat = _
    rw [hp]
    rfl
  have := cnt_mono p (show m + 1 ≤ n from h)
  omega

theorem cls_eq (K : Nat → α) {a b : Nat} (h : K a = K b) : cls K a = cls K b := by
  unfold cls
  rw [rep_eq K h]
theorem cls_iff (K : Nat → α) {a b : Nat} : cls K a = cls K b ↔ K a = K b := by
  refine ⟨fun h => ?_, cls_eq K⟩
  unfold cls at h
  rcases Nat.lt_trichotomy (rep K a) (rep K b) with hl | hl | hl
  · have := cnt_lt (first K) hl (first_rep K a)
    omega
  · exact (rep_iff K).1 hl
  · have := cnt_lt (first K) hl (first_rep K b)
    omega
theorem cls_lt (K : Nat → α) {b : Nat} (h : b < 256) : cls K b < ncl K := cnt_lt (first K) (Nat.lt_of_le_of_lt (rep_le K b) h) (first_rep K b)
theorem cls_first (K : Nat → α) {b : Nat} (h : first K b = true) : cls K b = cnt (first K) b := by
  unfold cls
  rw [of_decide_eq_true h]
theorem cls_le (K : Nat → α) (b : Nat) : cls K b ≤ cnt (first K) b := cnt_mono _ (rep_le K b)

theorem cnt_onto (p : Nat → Bool) : ∀ k c, c < cnt p k → ∃ b, b < k ∧ p b = true ∧ cnt p b = c
  | 0, c, h => by simp [cnt] at h
  | k + 1, c, h => by
    by_cases hc : c < cnt p k
    · obtain ⟨b, h1, h2, h3⟩ := cnt_onto p k c hc
      exact ⟨b, by omega, h2, h3⟩
    · unfold cnt at h
      cases e : p k
      · rw [e] at h; simp at h; omega
      · rw [e] at h
        simp at h
        exact ⟨k, by omega, e, by omega⟩

/-- Each class has a least byte. -/
theorem cls_onto (K : Nat → α) {c : Nat} (h : c < ncl K) : ∃ b, b < 256 ∧ first K b = true ∧ cls K b = c ∧ ∀ a, cls K a = c → b ≤ a := by
  obtain ⟨b, h1, h2, h3⟩ := cnt_onto (first K) 256 c h
  refine ⟨b, h1, h2, by rw [cls_first K h2, h3], fun a ha => ?_⟩
  have hk : K a = K b := (cls_iff K).1 (by rw [ha, cls_first K h2, h3])
  have := rep_least K hk
  have hr : rep K b = b := of_decide_eq_true h2
  omega

theorem ncl_pos (K : Nat → α) : 0 < ncl K := cnt_pos (p := first K) (b := 0) (by rw [first_iff]; intro a h; omega) (by decide)
theorem ncl_le (K : Nat → α) : ncl K ≤ 256 := cnt_le _ _

end

/-- Keys that tell the same bytes apart have the same classes. -/
theorem first_congr {α β : Type} [DecidableEq α] [DecidableEq β] {K : Nat → α} {J : Nat → β} (h : ∀ a b, a < 256 → b < 256 → (K a = K b ↔ J a = J b)) {b : Nat} (hb : b < 256) : first K b = first J b := by
  rw [Bool.eq_iff_iff, first_iff, first_iff]
  exact ⟨fun k a ha e => k a ha ((h a b (by omega) hb).2 e), fun k a ha e => k a ha ((h a b (by omega) hb).1 e)⟩
theorem ncl_congr {α β : Type} [DecidableEq α] [DecidableEq β] {K : Nat → α} {J : Nat → β} (h : ∀ a b, a < 256 → b < 256 → (K a = K b ↔ J a = J b)) : ncl K = ncl J := cnt_congr fun _ hb => first_congr h hb
theorem rep_congr {α β : Type} [DecidableEq α] [DecidableEq β] {K : Nat → α} {J : Nat → β} (h : ∀ a b, a < 256 → b < 256 → (K a = K b ↔ J a = J b)) {b : Nat} (hb : b < 256) : rep K b = rep J b := by
  have h1 := rep_le K b
  have h2 := rep_le J b
  exact Nat.le_antisymm (rep_least K ((h _ _ (by omega) hb).2 (rep_key J b))) (rep_least J ((h _ _ (by omega) hb).1 (rep_key K b)))
theorem cls_congr {α β : Type} [DecidableEq α] [DecidableEq β] {K : Nat → α} {J : Nat → β} (h : ∀ a b, a < 256 → b < 256 → (K a = K b ↔ J a = J b)) {b : Nat} (hb : b < 256) : cls K b = cls J b := by
  unfold cls
  rw [rep_congr h hb]
  have := rep_le J b
  exact cnt_congr fun c hc => first_congr h (by omega)

theorem cnt_imp {p q : Nat → Bool} : ∀ {k}, (∀ b, b < k → p b = true → q b = true) → cnt p k ≤ cnt q k
  | 0, _ => Nat.le_refl _
  | k + 1, h => by
    have i := cnt_imp (fun b hb => h b (Nat.lt_succ_of_lt hb) : ∀ b, b < k → p b = true → q b = true)
    have := h k (Nat.lt_succ_self _)
    unfold cnt
    cases e : p k <;> cases e' : q k
    · simp; exact i
    · simp; omega
    · rw [e, e'] at this; simp at this
    · simp; exact i

/-- A key that tells more apart has no fewer classes. -/
theorem ncl_mono {α β : Type} [DecidableEq α] [DecidableEq β] {K : Nat → α} {J : Nat → β} (h : ∀ a b, a < 256 → b < 256 → J a = J b → K a = K b) : ncl K ≤ ncl J :=
  cnt_imp fun b hb k => (first_iff J b).2 fun a ha e => (first_iff K b).1 k a ha (h a b (by omega) hb e)

/-- Sets as a key. -/
def key (l : List ST) (b : Nat) : List Bool := l.map fun s => s.has b

theorem key_iff (l : List ST) (a b : Nat) : key l a = key l b ↔ ∀ s, s ∈ l → s.has a = s.has b := by
  unfold key
  induction l with
  | nil => simp
  | cons s l ih =>
    simp only [List.map_cons, List.cons.injEq, List.mem_cons, ih]
    exact ⟨fun ⟨h1, h2⟩ t ht => by rcases ht with rfl | ht; exact h1; exact h2 t ht, fun h => ⟨h s (.inl rfl), fun t ht => h t (.inr ht)⟩⟩

/-- The same sets in another order, or more than once. -/
theorem key_same {l m : List ST} (h : ∀ s, s ∈ l ↔ s ∈ m) (a b : Nat) : key l a = key l b ↔ key m a = key m b := by
  rw [key_iff, key_iff]
  exact ⟨fun k s hs => k s ((h s).2 hs), fun k s hs => k s ((h s).1 hs)⟩

/-- Those that aren't tell the same apart. -/
theorem key_not {l : List ST} (hl : ∀ s, s ∈ l → s.Ok) {a b : Nat} (ha : a < 256) (hb : b < 256) : key (l.map ST.not) a = key (l.map ST.not) b ↔ key l a = key l b := by
  rw [key_iff, key_iff]
  constructor
  · intro k s hs
    have := k s.not (List.mem_map_of_mem hs)
    rw [ST.has_not (hl s hs) _ ha, ST.has_not (hl s hs) _ hb] at this
    exact Bool.not_inj this
  · intro k t ht
    obtain ⟨s, hs, rfl⟩ := List.mem_map.1 ht
    rw [ST.has_not (hl s hs) _ ha, ST.has_not (hl s hs) _ hb, k s hs]

end Go.Proofs.YtidfjeliofgpmaaDoor.Cls
