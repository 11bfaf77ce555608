/- Layer 9, plain: which lengths a match may have, by the document's own count: none if nothing is matched, none shorter than the shortest, none longer than the longest, and one as short. -/
import Derived.Test.YthcjfgfbeollpaaKG30
namespace Go.Proofs.Ythcjfgfbeollpaa.P09
open Go.Proofs.Ythcjfgfbeollpaa.P07 Go.Proofs.Ythcjfgfbeollpaa.P08 Go.Proofs.Ythcjfgfbeollpaa.Bytes
open Go.Proofs.Ythcjfgfbeollpaa.Sets (ST)

/-- A length that is there. -/
def Hs (L : List Bool) (k : Nat) : Prop := L.getD k false = true
theorem Hs.lt {L : List Bool} {k : Nat} (h : Hs L k) : k < L.length := by
  unfold Hs at h
  rcases Nat.lt_or_ge k L.length with h1 | h1
  · exact h1
  · rw [List.getD_eq_getElem?_getD, List.getElem?_eq_none h1] at h
    cases h
theorem hs_of {L : List Bool} {k : Nat} {b : Bool} (h : L[k]? = some b) : Hs L k ↔ b = true := by
  unfold Hs
  rw [List.getD_eq_getElem?_getD, h]
  rfl
theorem hs_no {m k : Nat} : ¬ Hs (noB m) k := by
  intro h
  have h1 := h.lt
  rw [noB_length] at h1
  have := (hs_of (L := noB m) (k := k) (b := false) (by simp [noB, h1])).1 h
  cases this
theorem hs_one {m k : Nat} : Hs (oneB0 m) k ↔ k = 0 := by
  constructor
  · intro h
    have h1 := h.lt
    rw [oneB0_length] at h1
    rcases Nat.eq_zero_or_pos k with h0 | h0
    · exact h0
    · have := (hs_of (L := oneB0 m) (k := k) (b := false) (by unfold oneB0; rw [List.getElem?_set, if_neg (by omega)]; simp [noB, h1])).1 h
      cases this
  · intro h
    subst h
    exact (hs_of (L := oneB0 m) (k := 0) (b := true) (by unfold oneB0; rw [List.getElem?_set, if_pos rfl, if_pos (by rw [noB_length]; omega)])).2 rfl
theorem hs_or {a b : List Bool} {k : Nat} (hl : b.length = a.length) : Hs (orB a b) k ↔ Hs a k ∨ Hs b k := by
  rcases Nat.lt_or_ge k a.length with h1 | h1
  · unfold orB
    rw [hs_of (OP_get a b h1), Bool.or_eq_true, decide_eq_true h1, Bool.true_and]
    exact Iff.rfl
  · constructor
    · intro h
      have := h.lt
      unfold orB at this
      rw [OP_length] at this
      omega
    · rintro (h | h)
      · have := h.lt
        omega
      · have := h.lt
        omega
theorem hs_join {a b : List Bool} {k : Nat} : Hs (joinB a b) k ↔ k < a.length ∧ ∃ i j, i + j = k ∧ Hs a i ∧ Hs b j := by
  rcases Nat.lt_or_ge k a.length with h1 | h1
  · unfold joinB
    have e : decide (a.length ≤ k ∧ k < a.length + 0) = false := decide_eq_false (by omega)
    rw [hs_of (JB_get a b h1), e, Bool.false_and, Bool.or_false]
    unfold jrow
    rw [List.any_eq_true]
    constructor
    · rintro ⟨i, hi, h⟩
      rw [Bool.and_eq_true, Bool.and_eq_true, decide_eq_true_eq] at h
      exact ⟨h1, i, k - i, by omega, h.2.1, h.2.2⟩
    · rintro ⟨-, i, j, hk, hi, hj⟩
      refine ⟨i, List.mem_range.2 hi.lt, ?_⟩
      rw [Bool.and_eq_true, Bool.and_eq_true, decide_eq_true_eq]
      refine ⟨by omega, hi, ?_⟩
      rw [show k - i = j from by omega]
      exact hj
  · constructor
    · intro h
      have := h.lt
      rw [joinB_length] at this
      omega
    · rintro ⟨h, -⟩
      omega

/-- What the lengths say. -/
structure LF (m : Nat) (t : T) : Prop where
  no : noneB t = true → ∀ k, ¬ Hs (lens m t) k
  lo : ∀ k, Hs (lens m t) k → leastI t ≤ k ∧ (0 ≤ mostI t → (k : Int) ≤ mostI t)
  at_ : noneB t = false → leastI t ≤ m → Hs (lens m t) (leastI t).toNat

theorem sumLe_mono : ∀ (l : List T) (a b : Int), a ≤ b → sumLe a l ≤ sumLe b l
  | [], a, b, h => by rw [sumLe, sumLe]; exact h
  | t :: l, a, b, h => by rw [sumLe, sumLe]; exact sumLe_mono l _ _ (by omega)
theorem mostL_mono : ∀ (l : List T) (a b : Int), 0 ≤ a → a ≤ b → mostL 3 a l ≤ mostL 3 b l ∧ (0 ≤ mostL 3 b l → 0 ≤ mostL 3 a l)
  | [], a, b, h0, h => by rw [mostL, mostL]; omega
  | t :: l, a, b, h0, h => by
    rw [mostL, mostL]
    split
    · exact mostL_mono l a b h0 h
    · split
      · omega
      · rw [if_pos rfl, if_pos rfl]
        exact mostL_mono l _ _ (by omega) (by omega)
theorem mostL4_ge : ∀ (l : List T) (a : Int), 0 ≤ a → 0 ≤ mostL 4 a l → a ≤ mostL 4 a l
  | [], a, h0, h => by rw [mostL]; omega
  | t :: l, a, h0, h => by
    rw [mostL] at h ⊢
    split
    · rename_i hn
      rw [if_pos hn] at h
      exact mostL4_ge l a h0 h
    · rename_i hn
      rw [if_neg hn] at h
      split
      · rename_i hm
        rw [if_pos hm] at h
        omega
      · rename_i hm
        rw [if_neg hm, if_neg (by decide)] at h
        rw [if_neg (by decide)]
        have := mostL4_ge l _ (by omega) h
        omega

theorem min_le : ∀ (l : List T) (a : Int), 0 ≤ a → minLe a l ≤ a
  | [], a, h => by rw [minLe]; exact Int.le_refl _
  | t :: l, a, h => by
    rw [minLe]
    split
    · have := min_le l (leastI t) (by omega)
      omega
    · exact min_le l a h
/-- So often. -/
theorem rep_two {m : Nat} {mn : Int} {L : List Bool} (hl : L.length = m + 1) {lo hi : Int} (hlo : ∀ k, Hs L k → lo ≤ k ∧ (0 ≤ hi → (k : Int) ≤ hi)) : ∀ (n i : Nat), Hs (repS m mn L n).2 i → (n : Int) * lo ≤ i ∧ (0 ≤ hi → (i : Int) ≤ n * hi)
  | 0, i, h => by
    rw [repS] at h
    have := hs_one.1 h
    subst this
    simp
  | n + 1, i, h => by
    rw [repS] at h
    obtain ⟨-, a, b, rfl, ha, hb⟩ := hs_join.1 h
    have h1 := rep_two hl hlo n a ha
    have h2 := hlo b hb
    have e1 : ((n + 1 : Nat) : Int) * lo = n * lo + lo := by rw [Int.natCast_add, Int.add_mul]; omega
    have e2 : ((n + 1 : Nat) : Int) * hi = n * hi + hi := by rw [Int.natCast_add, Int.add_mul]; omega
    rw [e1, e2]
    refine ⟨by have := h1.1; have := h2.1; omega, fun h => ?_⟩
    have := h1.2 h
    have := h2.2 h
    omega
theorem rep_at {m : Nat} {mn : Int} {L : List Bool} {a : Nat} (ha : Hs L a) : ∀ (n : Nat), n * a ≤ m → Hs (repS m mn L n).2 (n * a)
  | 0, h => by
    rw [repS, Nat.zero_mul]
    exact hs_one.2 rfl
  | n + 1, h => by
    rw [Nat.add_mul, Nat.one_mul] at h ⊢
    rw [repS]
    exact hs_join.2 ⟨by rw [(repS_length m mn L n).2]; omega, n * a, a, rfl, rep_at ha n (by omega), ha⟩
theorem rep_one {m : Nat} {mn : Int} {L : List Bool} : ∀ (n i : Nat), Hs (repS m mn L n).1 i ↔ ∃ k : Nat, k < n ∧ mn ≤ k ∧ Hs (repS m mn L k).2 i
  | 0, i => by
    rw [repS]
    exact ⟨fun h => absurd h hs_no, fun ⟨k, h, _⟩ => by omega⟩
  | n + 1, i => by
    rw [repS]
    have ih := rep_one (m := m) (mn := mn) (L := L) n i
    have hl := repS_length m mn L n
    dsimp only
    split
    · rename_i hm
      rw [hs_or (by rw [hl.1, hl.2]), ih]
      constructor
      · rintro (⟨k, h1, h2, h3⟩ | h)
        · exact ⟨k, by omega, h2, h3⟩
        · exact ⟨n, by omega, hm, h⟩
      · rintro ⟨k, h1, h2, h3⟩
        rcases Nat.lt_or_ge k n with h4 | h4
        · exact .inl ⟨k, h4, h2, h3⟩
        · have : k = n := by omega
          subst this
          exact .inr h3
    · rename_i hm
      rw [ih]
      constructor
      · rintro ⟨k, h1, h2, h3⟩
        exact ⟨k, by omega, h2, h3⟩
      · rintro ⟨k, h1, h2, h3⟩
        rcases Nat.lt_or_ge k n with h4 | h4
        · exact ⟨k, h4, h2, h3⟩
        · have : k = n := by omega
          subst this
          exact absurd h2 hm
theorem rep_nothing {m : Nat} {mn : Int} {L : List Bool} (h : ∀ k, ¬ Hs L k) : ∀ (n i : Nat), 0 < n → ¬ Hs (repS m mn L n).2 i
  | 0, i, h0 => by omega
  | n + 1, i, _ => by
    rw [repS]
    intro hh
    obtain ⟨-, a, b, -, -, hb⟩ := hs_join.1 hh
    exact h b hb

mutual
theorem lens_facts (m : Nat) : ∀ (t : T) (d : Nat), RT d t → LF m t
  | .nd k s mn mx l, d, h => by
    obtain ⟨hb, hs, hl⟩ := h.bare
    have en := noneB_eq (.nd k s mn mx l)
    have el := leastI_eq (.nd k s mn mx l)
    have em := mostI_eq (.nd k s mn mx l)
    have eL := lens_eq m (.nd k s mn mx l)
    obtain ⟨N, hN⟩ : ∃ N, noneB (.nd k s mn mx l) = N := ⟨_, rfl⟩
    obtain ⟨Le, hLe⟩ : ∃ Le, leastI (.nd k s mn mx l) = Le := ⟨_, rfl⟩
    obtain ⟨M, hM⟩ : ∃ M, mostI (.nd k s mn mx l) = M := ⟨_, rfl⟩
    obtain ⟨B, hB⟩ : ∃ B, lens m (.nd k s mn mx l) = B := ⟨_, rfl⟩
    rw [hN] at en el em
    rw [hLe] at el
    rw [hM] at em
    rw [hB] at eL
    unfold T.kind T.set T.mn T.subs at en
    unfold T.kind T.mn T.subs at el
    unfold T.kind T.mx T.subs at em
    unfold T.kind T.set T.mn T.mx T.subs at eL
    dsimp only at en el em eL
    suffices hh : (N = true → ∀ k, ¬ Hs B k) ∧ (∀ k, Hs B k → Le ≤ k ∧ (0 ≤ M → (k : Int) ≤ M)) ∧ (N = false → Le ≤ m → Hs B Le.toNat) by
      exact ⟨by rw [hN, hB]; exact hh.1, by rw [hLe, hM, hB]; exact hh.2.1, by rw [hN, hLe, hB]; exact hh.2.2⟩
    clear hN hLe hM hB
    by_cases h2 : k = 2
    · rw [if_pos h2] at en el em
      rw [if_neg (by omega), if_pos h2] at eL
      have hB : ∀ i, Hs B i ↔ i = 1 ∧ 1 ≤ m ∧ N = false := fun i => by
        rw [eL]
        split
        · rename_i h1
          by_cases hi : i = 1
          · subst hi
            rw [hs_of (b := !eqB s ST.none) (by rw [List.getElem?_set, if_pos rfl, if_pos (by rw [noB_length]; omega)]), en]
            cases eqB s ST.none <;> simp [h1]
          · constructor
            · intro hh
              have hlt := hh.lt
              rw [List.length_set, noB_length] at hlt
              have := (hs_of (b := false) (by rw [List.getElem?_set, if_neg (by omega)]; simp [noB, hlt])).1 hh
              cases this
            · rintro ⟨h3, -⟩
              exact absurd h3 hi
        · rename_i h1
          exact ⟨fun h => absurd h hs_no, fun h => absurd h.2.1 h1⟩
      refine ⟨fun hn i hh => ?_, fun i hh => ?_, fun hn hle => ?_⟩
      · have := ((hB i).1 hh).2.2
        rw [hn] at this
        cases this
      · obtain ⟨h3, h4, h5⟩ := (hB i).1 hh
        rw [h5, if_neg (by decide)] at el em
        omega
      · rw [hn, if_neg (by decide)] at el
        rw [el]
        exact (hB _).2 ⟨rfl, by omega, hn⟩
    · rw [if_neg h2] at en el em
      by_cases h3 : k = 3
      · rw [if_pos h3] at en el
        rw [if_pos (show k = 3 ∨ k = 4 from .inl h3)] at em
        rw [if_neg (by omega), if_neg h2, if_pos h3] at eL
        have hc := cat_facts m l d k hl
        subst h3
        refine ⟨fun hn i hh => ?_, fun i hh => ?_, fun hn hle => ?_⟩
        · rw [eL] at hh
          obtain ⟨-, -, -, -, h5⟩ := hc.1 _ i (oneB0_length m) hh
          rw [← en, hn] at h5
          cases h5
        · rw [eL] at hh
          obtain ⟨j, hj, h4, h6, h5⟩ := hc.1 _ i (oneB0_length m) hh
          have := hs_one.1 hj
          subst this
          rw [en, h5, if_neg (by decide)] at el em
          rw [el, em]
          exact ⟨h4, h6⟩
        · rw [hn, if_neg (by decide)] at el
          rw [eL, el]
          rw [el] at hle
          exact hc.2 (by rw [← en, hn]) _ 0 (oneB0_length m) (hs_one.2 rfl) hle
      · rw [if_neg h3] at en el
        by_cases h4 : k = 4
        · rw [if_pos h4] at en el
          rw [if_pos (show k = 3 ∨ k = 4 from .inr h4)] at em
          rw [if_neg (by omega), if_neg h2, if_neg h3, if_pos h4] at eL
          have hc := alt_facts m l d k hl
          subst h4
          refine ⟨fun hn i hh => ?_, fun i hh => ?_, fun hn hle => ?_⟩
          · rw [eL] at hh
            rcases hc.1 _ i (noB_length m) hh with hh | ⟨h5, -⟩
            · exact hs_no hh
            · rw [← en, hn] at h5
              cases h5
          · rw [eL] at hh
            rcases hc.1 _ i (noB_length m) hh with hh | ⟨h5, h6⟩
            · exact absurd hh hs_no
            · rw [en, h5, if_neg (by decide)] at el em
              have h7 := h6 (-1) 0 (by omega) (by omega)
              rw [el, em]
              exact ⟨h7.1, h7.2⟩
          · rw [hn, if_neg (by decide)] at el
            rw [eL, el]
            rw [el] at hle
            exact hc.2 _ (-1) (noB_length m) (Int.le_refl _) (by rw [← en]; exact .inr hn) (fun h => by omega) hle
        · rw [if_neg h4] at en el
          rw [if_neg (show ¬ (k = 3 ∨ k = 4) by omega)] at em
          by_cases h5 : k = 5
          · rw [if_pos h5] at en em
            rw [if_neg (by omega), if_neg h2, if_neg h3, if_neg h4, if_pos h5] at eL
            obtain ⟨a, rfl, b0, b1, bx, ha⟩ := one_sub h h5
            have hra : RT d a := IS.rt (k := 5) ha
            have hF := lens_facts m a d hra
            have hlb := least_bnd a d hra
            have hmb := most_bnd a d hra
            rw [headN] at en em
            rw [headM] at em
            rw [headLe] at el
            rw [headB] at eL
            have hL := lens_length m a
            unfold repB at eL
            have hK : mn < ((lastN m mn mx + 1).toNat : Int) ∧ (0 ≤ mx → (((lastN m mn mx + 1).toNat : Nat) : Int) ≤ mx + 1) := by
              unfold lastN
              split <;> omega
            generalize (lastN m mn mx + 1).toNat = K at eL hK
            have hB : ∀ i, Hs B i ↔ ∃ k : Nat, k < K ∧ mn ≤ k ∧ Hs (repS m mn (lens m a) k).2 i := fun i => by
              rw [eL]
              exact rep_one K i
            obtain ⟨hno, hlo, hat⟩ := hF
            generalize lens m a = L at hno hlo hat hL hB
            refine ⟨fun hn i hh => ?_, fun i hh => ?_, fun hn hle => ?_⟩
            · rw [hn] at en
              have en2 := en.symm
              rw [Bool.and_eq_true, decide_eq_true_eq] at en2
              obtain ⟨q, h6, h7, h8⟩ := (hB i).1 hh
              exact rep_nothing (hno en2.2) q i (by omega) h8
            · obtain ⟨q, h6, h7, h8⟩ := (hB i).1 hh
              cases hna : noneB a with
              | true =>
                rw [hna, Bool.and_true] at en
                have hq0 : q = 0 := by
                  rcases Nat.eq_zero_or_pos q with h9 | h9
                  · exact h9
                  · exact absurd h8 (rep_nothing (hno hna) q i h9)
                subst hq0
                rw [repS] at h8
                have hi := hs_one.1 h8
                subst hi
                rw [decide_eq_false (by omega)] at en
                rw [en, if_neg (by decide)] at el em
                rw [if_neg (by omega)] at el
                rw [if_pos (.inl hna)] at em
                omega
              | false =>
                rw [hna, Bool.and_false] at en
                rw [en, if_neg (by decide)] at el em
                have h9 := rep_two (mn := mn) hL hlo q i h8
                have h0 := hlb.2.1 hna
                have hLe : Le = mn * leastI a := by
                  rw [el]
                  split
                  · rfl
                  · rw [show mn = 0 from by omega, Int.zero_mul]
                have hml := Int.mul_le_mul_of_nonneg_right h7 h0
                refine ⟨by omega, fun hM0 => ?_⟩
                by_cases hm0 : mx = 0
                · rw [if_pos (.inr hm0)] at em
                  have hq0 : q = 0 := by
                    have := hK.2 (by omega)
                    omega
                  subst hq0
                  rw [repS] at h8
                  have hi := hs_one.1 h8
                  omega
                · rw [if_neg (by rintro (h | h); rw [hna] at h; cases h; exact hm0 h)] at em
                  by_cases hv : mostI a = 0
                  · rw [if_pos hv] at em
                    have h10 := h9.2 (by omega)
                    rw [hv, Int.mul_zero] at h10
                    omega
                  · rw [if_neg hv] at em
                    by_cases hv2 : mostI a < 0 ∨ mx < 0
                    · rw [if_pos hv2] at em
                      omega
                    · rw [if_neg hv2] at em
                      have h10 := h9.2 (by omega)
                      have h11 : (q : Int) ≤ mx := by
                        have := hK.2 (by omega)
                        omega
                      have h12 := Int.mul_le_mul_of_nonneg_right h11 (show 0 ≤ mostI a by omega)
                      rw [em, Int.mul_comm]
                      omega
            · rw [hn, if_neg (by decide)] at el
              obtain ⟨q, rfl⟩ : ∃ q : Nat, mn = q := ⟨mn.toNat, by omega⟩
              refine (hB _).2 ⟨q, by omega, Int.le_refl _, ?_⟩
              rcases Nat.eq_zero_or_pos q with h9 | h9
              · subst h9
                rw [if_neg (by omega)] at el
                rw [el, repS]
                exact hs_one.2 rfl
              · rw [if_pos ⟨h5, by omega⟩] at el
                have hna : noneB a = false := by
                  rw [hn, decide_eq_true (by omega), Bool.true_and] at en
                  exact en.symm
                have h0 := hlb.2.1 hna
                obtain ⟨x, hx⟩ : ∃ x : Nat, leastI a = x := ⟨(leastI a).toNat, by omega⟩
                rw [hx] at el hat
                have hqx : Le.toNat = q * x := by
                  rw [el]
                  omega
                have hqm : q * x ≤ m := by omega
                rw [hqx]
                refine rep_at (mn := q) (hat hna ?_) q hqm
                have : 1 * x ≤ q * x := Nat.mul_le_mul_right x h9
                omega
          · rw [if_neg h5] at en em
            subst en
            rw [if_neg (by decide)] at el em
            rw [if_neg (show ¬ (k = 5 ∧ 0 < mn) by omega)] at el
            have h1 : k = 1 := by
              unfold Bare at hb
              omega
            rw [if_pos h1] at eL
            subst eL el em
            refine ⟨fun h => (by cases h), fun i hh => ?_, fun _ _ => hs_one.2 rfl⟩
            have := hs_one.1 hh
            omega
theorem cat_facts (m : Nat) : ∀ (l : List T) (d : Nat) (k : Int), RL d k l →
    (∀ (acc : List Bool) (i : Nat), acc.length = m + 1 → Hs (catB m acc l) i → ∃ j : Nat, Hs acc j ∧ sumLe j l ≤ i ∧ (0 ≤ mostL 3 j l → (i : Int) ≤ mostL 3 j l) ∧ anyN l = false)
    ∧ (anyN l = false → ∀ (acc : List Bool) (j : Nat), acc.length = m + 1 → Hs acc j → sumLe j l ≤ m → Hs (catB m acc l) (sumLe j l).toNat)
  | [], d, k, _ => by
    refine ⟨fun acc i _ h => ?_, fun _ acc j _ h _ => ?_⟩
    · rw [catB] at h
      exact ⟨i, h, by rw [sumLe]; exact Int.le_refl _, by rw [mostL]; exact fun _ => Int.le_refl _, by rw [anyN]⟩
    · rw [catB, sumLe, Int.toNat_natCast]
      exact h
  | t :: l, d, k, hR => by
    obtain ⟨h1, h2⟩ := RL_cons hR
    have hF := lens_facts m t d (IS.rt (k := k) h1)
    have hlb := least_bnd t d (IS.rt (k := k) h1)
    have ih := cat_facts m l d k h2
    refine ⟨fun acc i hal h => ?_, fun hn acc j hal h hle => ?_⟩
    · rw [catB] at h
      obtain ⟨j', hj', h3, h4, h5⟩ := ih.1 _ i (by rw [joinB_length]; exact hal) h
      obtain ⟨-, p, q, rfl, hp, hq⟩ := hs_join.1 hj'
      have h6 := hF.lo q hq
      have hn : noneB t = false := by
        cases e : noneB t with
        | false => rfl
        | true => exact absurd hq (hF.no e q)
      refine ⟨p, hp, ?_, ?_, by rw [anyN, hn, h5]; rfl⟩
      · rw [sumLe]
        have := sumLe_mono l ((p : Int) + leastI t) ((p + q : Nat) : Int) (by omega)
        omega
      · rw [mostL, if_neg (by rw [hn]; decide)]
        split
        · intro h; omega
        · rename_i hm
          rw [if_pos rfl]
          intro h7
          have h8 := h6.2 (by omega)
          have h9 := mostL_mono l ((p + q : Nat) : Int) ((p : Int) + mostI t) (by omega) (by omega)
          have := h4 (h9.2 h7)
          omega
    · rw [anyN, Bool.or_eq_false_iff] at hn
      have h0 := hlb.2.1 hn.1
      obtain ⟨x, hx⟩ : ∃ x : Nat, leastI t = x := ⟨(leastI t).toNat, by omega⟩
      rw [sumLe, hx] at hle ⊢
      rw [catB]
      have hs0 := (sum_bnd l d k h2 hn.2 ((j : Int) + x) (by omega)).1
      have hat := hF.at_ hn.1
      rw [hx] at hat
      have hk := ih.2 hn.2 (joinB acc (lens m t)) (j + x) (by rw [joinB_length]; exact hal) (hs_join.2 ⟨by rw [hal]; omega, j, x, rfl, h, hat (by omega)⟩) (by rw [Int.natCast_add]; exact hle)
      rw [Int.natCast_add] at hk
      exact hk
theorem alt_facts (m : Nat) : ∀ (l : List T) (d : Nat) (k : Int), RL d k l →
    (∀ (acc : List Bool) (i : Nat), acc.length = m + 1 → Hs (altB m acc l) i → Hs acc i ∨ (allN l = false ∧ ∀ a b : Int, -1 ≤ a → 0 ≤ b → minLe a l ≤ i ∧ (0 ≤ mostL 4 b l → (i : Int) ≤ mostL 4 b l)))
    ∧ (∀ (acc : List Bool) (a : Int), acc.length = m + 1 → -1 ≤ a → (0 ≤ a ∨ allN l = false) → (0 ≤ a → a ≤ m → Hs acc a.toNat) → minLe a l ≤ m → Hs (altB m acc l) (minLe a l).toNat)
  | [], d, k, _ => by
    refine ⟨fun acc i _ h => ?_, fun acc a _ h0 h1 h2 h3 => ?_⟩
    · rw [altB] at h
      exact .inl h
    · rw [minLe] at h3 ⊢
      rw [altB]
      rw [allN] at h1
      rcases h1 with h1 | h1
      · exact h2 h1 h3
      · cases h1
  | t :: l, d, k, hR => by
    obtain ⟨h1, h2⟩ := RL_cons hR
    have hF := lens_facts m t d (IS.rt (k := k) h1)
    have hlb := least_bnd t d (IS.rt (k := k) h1)
    have ih := alt_facts m l d k h2
    refine ⟨fun acc i hal h => ?_, fun acc a hal h0 ha hh hle => ?_⟩
    · rw [altB] at h
      have hll : (orB acc (lens m t)).length = m + 1 := by
        unfold orB
        rw [OP_length]
        exact hal
      have hmin : ∀ a : Int, -1 ≤ a → -1 ≤ (if 0 ≤ leastI t ∧ (a < 0 ∨ leastI t < a) then leastI t else a) := fun a h => by split <;> omega
      rcases ih.1 _ i hll h with h3 | ⟨h3, h4⟩
      · rcases (hs_or (by rw [lens_length, hal])).1 h3 with h5 | h5
        · exact .inl h5
        · right
          have hn : noneB t = false := by
            cases e : noneB t with
            | false => rfl
            | true => exact absurd h5 (hF.no e i)
          have h6 := hF.lo i h5
          refine ⟨by rw [allN, hn]; rfl, fun a b ha hb => ?_⟩
          rw [minLe, mostL, if_neg (show ¬ noneB t = true by rw [hn]; decide)]
          have h7 := hlb.2.1 hn
          have hA : (if 0 ≤ leastI t ∧ (a < 0 ∨ leastI t < a) then leastI t else a) ≤ i ∧ 0 ≤ (if 0 ≤ leastI t ∧ (a < 0 ∨ leastI t < a) then leastI t else a) := by
            split <;> omega
          refine ⟨?_, ?_⟩
          · have := min_le l _ hA.2
            omega
          · split
            · intro h; omega
            · rw [if_neg (by decide)]
              intro h8
              have h9 := mostL4_ge l _ (by omega) h8
              have := h6.2 (by omega)
              omega
      · right
        refine ⟨by rw [allN, h3, Bool.and_false], fun a b ha hb => ?_⟩
        rw [minLe, mostL]
        have h5 := h4 _ b (hmin a ha) hb
        refine ⟨h5.1, ?_⟩
        split
        · exact h5.2
        · split
          · intro h; omega
          · rw [if_neg (by decide)]
            exact (h4 (-1) _ (by omega) (by omega)).2
    · rw [minLe] at hle ⊢
      rw [altB]
      refine ih.2 _ _ (by unfold orB; rw [OP_length]; exact hal) (by split <;> omega) ?_ ?_ hle
      · rcases ha with ha | ha
        · left
          split <;> omega
        · rw [allN] at ha
          cases hn : noneB t with
          | true =>
            rw [hn, Bool.true_and] at ha
            exact .inr ha
          | false =>
            left
            have := hlb.2.1 hn
            split <;> omega
      · split
        · rename_i hc
          intro h3 h4
          refine (hs_or (by rw [lens_length, hal])).2 (.inr (hF.at_ ?_ h4))
          cases hn : noneB t with
          | false => rfl
          | true =>
            have := hlb.1 hn
            omega
        · intro h3 h4
          exact (hs_or (by rw [lens_length, hal])).2 (.inl (hh h3 h4))
end

/-- Does it match the empty text? As the document counts. -/
def nullB (t : T) : Bool := (lens 0 t).getD 0 false
theorem nullB_iff {t : T} {d : Nat} (h : RT d t) : nullB t = (!noneB t && decide (leastI t = 0)) := by
  have hF := lens_facts 0 t d h
  have hlb := least_bnd t d h
  rw [Bool.eq_iff_iff]
  show Hs (lens 0 t) 0 ↔ _
  rw [Bool.and_eq_true, decide_eq_true_eq]
  cases hn : noneB t with
  | true => exact ⟨fun hh => absurd hh (hF.no hn 0), fun hh => by cases hh.1⟩
  | false =>
    have h0 := hlb.2.1 hn
    constructor
    · intro hh
      have := (hF.lo 0 hh).1
      exact ⟨rfl, by omega⟩
    · rintro ⟨-, h1⟩
      have := hF.at_ hn (by omega)
      rw [h1] at this
      exact this
end Go.Proofs.Ythcjfgfbeollpaa.P09
/- Layer 9, plain: the bytes with which a match may begin, as the document puts them together; the code's are the same. -/
namespace Go.Proofs.Ythcjfgfbeollpaa.P09
open Go.Proofs.Ythcjfgfbeollpaa.P07 Go.Proofs.Ythcjfgfbeollpaa.P08 Go.Proofs.Ythcjfgfbeollpaa.Bytes
open Go.Proofs.Ythcjfgfbeollpaa.Sets (ST)

mutual
def firstS : T → ST
  | .nd k s mn mx l => if noneB (.nd k s mn mx l) = true then .none else if k = 2 then s else if k = 3 then catF .none l else if k = 4 then altF .none l else if k = 5 ∧ mx ≠ 0 then headF l else .none
def catF : ST → List T → ST
  | acc, [] => acc
  | acc, t :: l => if nullB t = true then catF (acc.or (firstS t)) l else acc.or (firstS t)
def altF : ST → List T → ST
  | acc, [] => acc
  | acc, t :: l => altF (acc.or (firstS t)) l
def headF : List T → ST
  | [] => .none
  | t :: _ => firstS t
end
theorem firstS_eq (t : T) : firstS t = if noneB t = true then .none else if t.kind = 2 then t.set else if t.kind = 3 then catF .none t.subs else if t.kind = 4 then altF .none t.subs else if t.kind = 5 ∧ t.mx ≠ 0 then headF t.subs else .none := by
  cases t
  rw [firstS]
  rfl
theorem drop_get {L : List T} {i : Nat} {s : T} (h : L[i]? = some s) : L.drop i = s :: L.drop (i + 1) := by
  obtain ⟨hi, rfl⟩ := List.getElem?_eq_some_iff.1 h
  exact List.drop_eq_getElem_cons hi
theorem catF_at {acc : ST} {L : List T} {i : Nat} {s : T} (h : L[i]? = some s) : catF acc (L.drop i) = if nullB s = true then catF (acc.or (firstS s)) (L.drop (i + 1)) else acc.or (firstS s) := by
  rw [drop_get h, catF]
theorem altF_at {acc : ST} {L : List T} {i : Nat} {s : T} (h : L[i]? = some s) : altF acc (L.drop i) = altF (acc.or (firstS s)) (L.drop (i + 1)) := by
  rw [drop_get h, altF]

mutual
theorem tx_first : ∀ (t : T) (d : Nat), RT d t → (txOf t).first = firstS t
  | .nd k s mn mx l, d, h => by
    obtain ⟨hb, hs, hl⟩ := h.bare
    have hS := tx_same _ d h
    have ef := firstS_eq (.nd k s mn mx l)
    have en := noneB_eq (.nd k s mn mx l)
    cases hn : noneB (.nd k s mn mx l) with
    | true =>
      rw [hS.zero hn, ef, if_pos hn]
      rfl
    | false =>
      rw [hn, if_neg (by decide)] at ef
      rw [hn] at en
      rw [ef, txOf]
      unfold T.kind T.set T.mn T.subs at en
      unfold T.kind T.set T.mx T.subs
      dsimp only at en ⊢
      clear ef hS hn
      by_cases h2 : k = 2
      · rw [if_pos h2] at en ⊢
        rw [if_pos h2]
        unfold TX.cls
        rw [if_neg]
        intro hc
        rw [(count_zero hs).1 hc, eqB_refl] at en
        cases en
      · rw [if_neg h2] at en ⊢
        rw [if_neg h2]
        by_cases h3 : k = 3
        · rw [if_pos h3] at en ⊢
          rw [if_pos h3]
          have := cat_first l d k hl en.symm .empty rfl (Int.le_refl 0)
          rw [if_pos (show TX.empty.least = 0 from rfl)] at this
          exact this
        · rw [if_neg h3] at en ⊢
          rw [if_neg h3]
          by_cases h4 : k = 4
          · rw [if_pos h4] at en ⊢
            rw [if_pos h4]
            exact (alt_first l d k hl).1
          · rw [if_neg h4] at en ⊢
            rw [if_neg h4]
            by_cases h5 : k = 5
            · rw [if_pos h5] at en ⊢
              obtain ⟨a, rfl, b0, b1, bx, ha⟩ := one_sub h h5
              have hra : RT d a := IS.rt (k := 5) ha
              have hS := tx_same a d hra
              have hf := tx_first a d hra
              rw [headX, headF]
              rw [headN] at en
              unfold TX.rep
              by_cases hm : mx = 0
              · rw [if_pos (.inl hm), if_neg (show ¬ (k = 5 ∧ mx ≠ 0) by omega)]
                rfl
              · rw [if_pos (show k = 5 ∧ mx ≠ 0 from ⟨h5, hm⟩), ← hf]
                split
                · rename_i h
                  rcases h with h | h
                  · exact absurd h hm
                  · rw [hS.zero (by rw [← hS.none]; exact h.1)]
                    rfl
                · split
                  · rfl
                  · split <;> rfl
            · rw [if_neg h5, if_neg (show ¬ (k = 5 ∧ mx ≠ 0) by omega)]
              rfl
theorem cat_first : ∀ (l : List T) (d : Nat) (k : Int), RL d k l → anyN l = false → ∀ acc : TX, acc.none = false → 0 ≤ acc.least → (catX acc l).first = if acc.least = 0 then catF acc.first l else acc.first
  | [], d, k, _, _, acc, _, _ => by
    rw [catX, catF]
    split <;> rfl
  | t :: l, d, k, hR, hn, acc, h0, hl0 => by
    obtain ⟨h1, h2⟩ := RL_cons hR
    have hrt := IS.rt (k := k) h1
    have hS := tx_same t d hrt
    have hI := tx_in t d hrt
    have hf := tx_first t d hrt
    rw [anyN, Bool.or_eq_false_iff] at hn
    have hle := hS.least hn.1
    have hi0 := hI.l0
    have hnl := nullB_iff hrt
    rw [hn.1, Bool.not_false, Bool.true_and] at hnl
    have hth : acc.then_ (txOf t) = ⟨false, acc.endless || (txOf t).endless, if acc.least = 0 then acc.first.or (txOf t).first else acc.first, acc.least + (txOf t).least, acc.most + (txOf t).most⟩ := by
      unfold TX.then_
      rw [if_neg (by rw [h0, hS.none, hn.1]; simp)]
    have ih := cat_first l d k h2 hn.2 (acc.then_ (txOf t)) (by rw [hth]) (by rw [hth]; show 0 ≤ acc.least + (txOf t).least; omega)
    rw [catX, ih, catF, hnl, ← hf, hth]
    dsimp only
    by_cases ha : acc.least = 0
    · rw [if_pos ha, if_pos ha]
      by_cases hx : (txOf t).least = 0
      · rw [if_pos (by omega), if_pos (decide_eq_true (by omega))]
      · rw [if_neg (by omega), if_neg (by rw [decide_eq_false (by omega)]; decide)]
    · rw [if_neg ha, if_neg ha, if_neg (by omega)]
theorem alt_first : ∀ (l : List T) (d : Nat) (k : Int), RL d k l → (altX .nothing l).first = altF .none l ∧ ∀ acc : TX, acc.none = false → acc.first.Ok → (altX acc l).first = altF acc.first l
  | [], d, k, _ => by
    rw [altX, altF]
    exact ⟨rfl, fun acc _ _ => by rw [altX, altF]⟩
  | t :: l, d, k, hR => by
    obtain ⟨h1, h2⟩ := RL_cons hR
    have hrt := IS.rt (k := k) h1
    have hS := tx_same t d hrt
    have hI := tx_in t d hrt
    have hf := tx_first t d hrt
    have ih := alt_first l d k h2
    refine ⟨?_, fun acc h0 hok => ?_⟩
    · have hno : TX.nothing.or_ (txOf t) = txOf t := by
        unfold TX.or_
        rw [if_pos (show TX.nothing.none = true from rfl)]
      rw [altX, altF, hno, ← hf, none_or hI.ok]
      cases hn : noneB t with
      | true =>
        rw [hS.zero hn]
        exact ih.1
      | false => exact ih.2 _ (hS.none.trans hn) hI.ok
    · rw [altX, altF, ← hf]
      cases hn : noneB t with
      | true =>
        have hth : acc.or_ (txOf t) = acc := by
          unfold TX.or_
          rw [if_neg (by rw [h0]; decide), if_pos (hS.none.trans hn)]
        rw [hth, hS.zero hn]
        show _ = altF (acc.first.or .none) l
        rw [or_none hok]
        exact ih.2 acc h0 hok
      | false =>
        have hth : acc.or_ (txOf t) = ⟨false, acc.endless || (txOf t).endless, acc.first.or (txOf t).first, min acc.least (txOf t).least, max acc.most (txOf t).most⟩ := by
          unfold TX.or_
          rw [if_neg (by rw [h0]; decide), if_neg (by rw [hS.none, hn]; decide)]
        rw [hth]
        exact ih.2 _ rfl (ST.or_ok hok hI.ok)
end
end Go.Proofs.Ythcjfgfbeollpaa.P09
