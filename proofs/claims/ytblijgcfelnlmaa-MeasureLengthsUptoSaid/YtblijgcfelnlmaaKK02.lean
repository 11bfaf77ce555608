/- Plain (layer 7): how far the parser's place may lie behind the text's end. -/
import Derived.Test.YtblijgcfelnlmaaKK01
namespace Go.Proofs.Ytblijgcfelnlmaa.P07

/-- From a right state in the text: right, in the text; or wrong, k bytes behind it at most. From a wrong one: m bytes on at most. -/
structure Near {α : Type} (k m : Nat) (f : List UInt8 → PS → α × PS) : Prop where
  good : ∀ l s, s.bad = none → s.pos ≤ l.length → ((f l s).2.bad = none ∧ (f l s).2.pos ≤ l.length) ∨ ((f l s).2.bad ≠ none ∧ (f l s).2.pos ≤ l.length + k)
  lost : ∀ l s, s.bad ≠ none → (f l s).2.bad ≠ none ∧ (f l s).2.pos ≤ s.pos + m

theorem Near.mono {α : Type} {k m k' m' : Nat} {f : List UInt8 → PS → α × PS} (h : Near k m f) (hk : k ≤ k') (hm : m ≤ m') : Near k' m' f where
  good l s h1 h2 := by
    rcases h.good l s h1 h2 with h3 | h3
    · exact .inl h3
    · exact .inr ⟨h3.1, by omega⟩
  lost l s h1 := ⟨(h.lost l s h1).1, by have := (h.lost l s h1).2; omega⟩
theorem Near.bind {α β : Type} {k m k' m' : Nat} {f : List UInt8 → PS → α × PS} {g : α → List UInt8 → PS → β × PS} (hf : Near k m f) (hg : ∀ r, Near k' m' (g r)) : Near (max k' (k + m')) (m + m') (fun l s => g (f l s).1 l (f l s).2) where
  good l s h1 h2 := by
    rcases hf.good l s h1 h2 with ⟨h3, h4⟩ | ⟨h3, h4⟩
    · rcases (hg (f l s).1).good l _ h3 h4 with h5 | h5
      · exact .inl h5
      · exact .inr ⟨h5.1, by have := h5.2; omega⟩
    · have h5 := (hg (f l s).1).lost l _ h3
      exact .inr ⟨h5.1, by have := h5.2; omega⟩
  lost l s h1 := by
    have h3 := hf.lost l s h1
    have h5 := (hg (f l s).1).lost l _ h3.1
    exact ⟨h5.1, by have := h5.2; omega⟩
theorem Near.pure {α : Type} (r : α) : Near 0 0 (fun _ s => (r, s)) where
  good _ _ h1 h2 := .inl ⟨h1, h2⟩
  lost _ _ h1 := ⟨h1, Nat.le_refl _⟩
theorem fail_bad (s : PS) (k : Nat) : (s.fail k).bad ≠ none := by
  unfold PS.fail
  split
  · simp
  · assumption
theorem fail_at (s : PS) (k : Nat) : (s.fail k).pos = s.pos := by
  unfold PS.fail
  split <;> rfl
theorem Near.fail {α : Type} (r : α) : Near 0 0 (fun _ s => (r, s.fail s.pos)) where
  good _ s _ _ := .inr ⟨fail_bad _ _, by show (s.fail s.pos).pos ≤ _; rw [fail_at]; omega⟩
  lost _ s _ := ⟨fail_bad _ _, by show (s.fail s.pos).pos ≤ _; rw [fail_at]; omega⟩
theorem Near.opens {α : Type} (r : α) (q : Nat → Nat) : Near 0 0 (fun _ s => (r, { s with opn := q s.opn })) where
  good _ _ h1 h2 := .inl ⟨h1, h2⟩
  lost _ _ h1 := ⟨h1, Nat.le_refl _⟩
theorem Near.alive {α : Type} {k m : Nat} {f : List UInt8 → PS → α × PS} (hf : Near k m f) (r : α) : Near k 0 (fun l s => if s.bad = none then f l s else (r, s)) where
  good l s h1 h2 := by rw [if_pos h1]; exact hf.good l s h1 h2
  lost l s h1 := by rw [if_neg h1]; exact ⟨h1, Nat.le_refl _⟩
theorem Near.take {α : Type} {k m : Nat} {h : Int → Nat → List UInt8 → PS → α × PS} (h0 : ∀ o, Near k m (h (-1) o)) (hh : ∀ c o, 0 ≤ c → (∃ m', Near k m' (h c o)) ∨ ∃ m' g, Near k m' g ∧ ∀ l s, h c o l s = g l s.adv) : Near k m (fun l s => h (nxt l s) s.opn l s) where
  good l s h1 h2 := by
    by_cases hc : 0 ≤ nxt l s
    · rcases hh _ s.opn hc with ⟨m', h3⟩ | ⟨m', g, hg, he⟩
      · exact h3.good l s h1 h2
      · rw [he]
        exact hg.good l s.adv h1 (nxt_lt hc).2
    · simp only [nxt_neg hc]
      exact (h0 _).good l s h1 h2
  lost l s h1 := by
    obtain ⟨b, hb⟩ := Option.ne_none_iff_exists'.1 h1
    simp only [nxt_bad hb]
    exact (h0 _).lost l s h1
theorem Near.chk {α β : Type} {k m : Nat} {f : List UInt8 → PS → α × PS} (hf : Near k m f) (kk : α → β) (P : α → Prop) [DecidablePred P] : Near k m (fun l s => (kk (f l s).1, if (f l s).2.bad = none ∧ P (f l s).1 then (f l s).2.fail s.pos else (f l s).2)) where
  good l s h1 h2 := by
    dsimp only
    split
    · rename_i hc
      right
      refine ⟨fail_bad _ _, ?_⟩
      rw [fail_at]
      rcases hf.good l s h1 h2 with h3 | h3
      · omega
      · exact h3.2
    · exact hf.good l s h1 h2
  lost l s h1 := by
    have := hf.lost l s h1
    dsimp only
    rw [if_neg (fun e => this.1 e.1)]
    exact this
theorem must_near (c : Int) (hc : 0 ≤ c) : Near 1 1 (must c) where
  good l s h1 h2 := by
    unfold must
    by_cases h : nxt l s = c
    · rw [if_pos h]
      exact .inl ⟨h1, (nxt_lt (by rw [h]; exact hc)).2⟩
    · rw [if_neg h]
      exact .inr ⟨fail_bad _ _, by show (s.fail s.pos).pos + 1 ≤ _; rw [fail_at]; omega⟩
  lost l s h1 := by
    obtain ⟨b, hb⟩ := Option.ne_none_iff_exists'.1 h1
    unfold must
    rw [if_neg (by rw [nxt_bad hb]; omega)]
    exact ⟨fail_bad _ _, by show (s.fail s.pos).pos + 1 ≤ _; rw [fail_at]; omega⟩

theorem digit_near : Near 0 0 digit := by
  refine Near.take (h := fun c _ l s => if 0 ≤ hexv c then (hexv c, s.adv) else (0, s.fail s.pos)) (fun _ => ?_) (fun c _ hc => ?_)
  · simp only [if_neg hexv_neg]
    exact Near.fail _
  · by_cases h : 0 ≤ hexv c
    · exact .inr ⟨0, _, Near.pure (hexv c), fun l s => if_pos h⟩
    · left
      refine ⟨0, ?_⟩
      simp only [if_neg h]
      exact Near.fail _
theorem two_near : Near 0 0 two := (digit_near.bind (g := fun d l s => (16 * d + (digit l s).1, (digit l s).2)) (fun d => digit_near.bind (g := fun e _ s => (16 * d + e, s)) (fun e => Near.pure (16 * d + e)))).mono (by decide) (by decide)
theorem esc_near : Near 0 0 escP := by
  refine Near.take (h := fun c _ => escB c) (fun _ => ?_) (fun c _ hc => ?_)
  · rw [show escB (-1) = fun _ s => (0, s.fail s.pos) from funext fun l => funext fun s => by unfold escB; simp [inSg]]
    exact Near.fail _
  · unfold escB
    by_cases h1 : c = 120
    · exact .inr ⟨0, two, two_near, fun l s => if_pos h1⟩
    · by_cases h2 : c = 110
      · exact .inr ⟨0, _, Near.pure 10, fun l s => by rw [if_neg h1, if_pos h2]⟩
      · by_cases h3 : c = 116
        · exact .inr ⟨0, _, Near.pure 9, fun l s => by rw [if_neg h1, if_neg h2, if_pos h3]⟩
        · by_cases h4 : inSg c = true
          · exact .inr ⟨0, _, Near.pure c, fun l s => by rw [if_neg h1, if_neg h2, if_neg h3, if_pos h4]⟩
          · left
            refine ⟨0, ?_⟩
            simp only [if_neg h1, if_neg h2, if_neg h3, if_neg h4]
            exact Near.fail _
theorem one_near : Near 0 0 one := by
  refine Near.take (h := fun c _ => oneB c) (fun _ => ?_) (fun c _ hc => ?_)
  · rw [show oneB (-1) = fun _ s => (0, s.fail s.pos) from funext fun l => funext fun s => by unfold oneB; rw [plainI_no (by decide)]; simp]
    exact Near.fail _
  · unfold oneB
    by_cases h1 : plainI c = true
    · exact .inr ⟨0, _, Near.pure c, fun l s => if_pos h1⟩
    · by_cases h2 : c = 92
      · exact .inr ⟨0, escP, esc_near, fun l s => by rw [if_neg h1, if_pos h2]⟩
      · left
        refine ⟨0, ?_⟩
        simp only [if_neg h1, if_neg h2]
        exact Near.fail _
theorem hi_near (lo : Int) : Near 0 0 (hiP lo) := one_near.chk (upto lo) (fun hi => hi < lo)
theorem dash_near (lo : Int) : Near 0 0 (fun l s => dashB lo (nxt l s) l s) := by
  refine Near.take (h := fun c _ => dashB lo c) (fun _ => ?_) (fun c _ hc => ?_)
  · rw [show dashB lo (-1) = fun _ s => (upto lo lo, s) from funext fun l => funext fun s => if_neg (by decide)]
    exact Near.pure _
  · by_cases h : c = 45
    · exact .inr ⟨0, hiP lo, hi_near lo, fun l s => if_pos h⟩
    · left
      refine ⟨0, ?_⟩
      rw [show dashB lo c = fun _ s => (upto lo lo, s) from funext fun l => funext fun s => if_neg h]
      exact Near.pure _
theorem range_near : Near 0 0 range1 := (one_near.bind (g := fun lo l s => dashB lo (nxt l s) l s) dash_near).mono (by decide) (by decide)
theorem set_near : ∀ f acc, Near 0 0 (setP f acc)
  | 0, acc => Near.pure acc
  | f + 1, acc => by
    have h1 : Near 0 0 (fun l s => if nxt l s = 93 then (acc, s) else setP f (acc ++ (range1 l s).1) l (range1 l s).2) := by
      have hg : Near 0 0 (fun l s => setP f (acc ++ (range1 l s).1) l (range1 l s).2) := (range_near.bind (g := fun r => setP f (acc ++ r)) (fun r => set_near f _)).mono (by decide) (by decide)
      refine Near.take (h := fun c _ l s => if c = 93 then (acc, s) else setP f (acc ++ (range1 l s).1) l (range1 l s).2) (fun _ => ?_) (fun c _ hc => .inl ⟨0, ?_⟩)
      · simp only [if_neg (show ¬ ((-1 : Int) = 93) by decide)]
        exact hg
      · by_cases h : c = 93
        · simp only [if_pos h]
          exact Near.pure acc
        · simp only [if_neg h]
          exact hg
    exact h1.alive acc
theorem num_near : Near 0 0 num := by
  have hneg : ¬ isDig (-1) = true := by decide
  have ht : ∀ d, Near 0 0 (num2 d) := fun d => by
    refine Near.take (h := fun c _ => numB2 d c) (fun _ => ?_) (fun c _ hc => ?_)
    · rw [show numB2 d (-1) = fun _ s => (d, s) from funext fun l => funext fun s => if_neg hneg]
      exact Near.pure _
    · by_cases h : isDig c = true
      · exact .inr ⟨0, fun _ s => (10 * d + (c - 48), s), Near.pure _, fun l s => if_pos h⟩
      · left
        refine ⟨0, ?_⟩
        rw [show numB2 d c = fun _ s => (d, s) from funext fun l => funext fun s => if_neg h]
        exact Near.pure _
  refine Near.take (h := fun c _ => numB c) (fun _ => ?_) (fun c _ hc => ?_)
  · rw [show numB (-1) = fun _ s => (0, s.fail s.pos) from funext fun l => funext fun s => if_neg hneg]
    exact Near.fail 0
  · by_cases h : isDig c = true
    · exact .inr ⟨0, num2 (c - 48), ht _, fun l s => if_pos h⟩
    · left
      refine ⟨0, ?_⟩
      rw [show numB c = fun _ s => (0, s.fail s.pos) from funext fun l => funext fun s => if_neg h]
      exact Near.fail 0
theorem number_near : Near 0 0 number := num_near.chk id (fun n => 20 < n)
theorem max_near (mn : Int) : Near 0 0 (maxP mn) := by
  have h2 : Near 0 0 (maxC mn) := number_near.chk id (fun n => n < mn)
  refine Near.take (h := fun c _ => maxB mn c) (fun _ => ?_) (fun c _ hc => .inl ⟨0, ?_⟩)
  · rw [show maxB mn (-1) = maxC mn from funext fun l => funext fun s => if_neg (by decide)]
    exact h2
  · by_cases h : c = 125
    · rw [show maxB mn c = fun _ s => (-1, s) from funext fun l => funext fun s => if_pos h]
      exact Near.pure _
    · rw [show maxB mn c = maxC mn from funext fun l => funext fun s => if_neg h]
      exact h2
theorem cma_near (mn : Int) : Near 0 0 (cmaP mn) := by
  refine Near.take (h := fun c _ => cmaB mn c) (fun _ => ?_) (fun c _ hc => ?_)
  · rw [show cmaB mn (-1) = fun _ s => (mn, s) from funext fun l => funext fun s => if_neg (by decide)]
    exact Near.pure _
  · by_cases h : c = 44
    · exact .inr ⟨0, maxP mn, max_near mn, fun l s => if_pos h⟩
    · left
      refine ⟨0, ?_⟩
      rw [show cmaB mn c = fun _ s => (mn, s) from funext fun l => funext fun s => if_neg h]
      exact Near.pure _
theorem braces_near : Near 1 1 braces :=
  (number_near.bind (g := fun mn l s => ((mn, (cmaP mn l s).1), (must 125 l (cmaP mn l s).2).2)) fun mn =>
    (cma_near mn).bind (g := fun mx l s => ((mn, mx), (must 125 l s).2)) fun mx => (must_near 125 (by decide)).bind (g := fun _ _ s => ((mn, mx), s)) fun _ => Near.pure _).mono (by decide) (by decide)
theorem clsQ_near (F : Nat) (nt : Bool) : Near 1 1 (clsQ F nt) :=
  ((set_near F []).bind (g := fun acc l s => (clsT (if nt then notS (mkS acc) else mkS acc), (must 93 l s).2)) fun acc =>
    (must_near 93 (by decide)).bind (g := fun _ _ s => (clsT (if nt then notS (mkS acc) else mkS acc), s)) fun _ => Near.pure _).mono (by decide) (by decide)
theorem cls_near (F : Nat) : Near 1 1 (clsP F) := by
  refine Near.take (h := fun c _ => clsB F c) (fun _ => ?_) (fun c _ hc => ?_)
  · rw [show clsB F (-1) = clsQ F false from funext fun l => funext fun s => if_neg (by decide)]
    exact clsQ_near F false
  · by_cases h : c = 94
    · exact .inr ⟨1, clsQ F true, clsQ_near F true, fun l s => if_pos h⟩
    · left
      refine ⟨1, ?_⟩
      rw [show clsB F c = clsQ F false from funext fun l => funext fun s => if_neg h]
      exact clsQ_near F false
theorem lit_near : Near 0 0 litP := by
  have h : ∀ k : Int → T, Near 0 0 (fun l s => (k (one l s).1, (one l s).2)) := fun k => (one_near.bind (g := fun c _ s => (k c, s)) fun c => Near.pure (k c)).mono (by decide) (by decide)
  exact h fun c => clsT (mkS [c.toNat])
theorem par_near {k : Nat} {A : List UInt8 → PS → T × PS} (hA : Near k 0 A) : Near (k + 1) 1 (parP A) :=
  ((Near.opens () (fun o => o + 1)).bind (g := fun _ l s => ((A l s).1, (must 41 l { (A l s).2 with opn := (A l s).2.opn - 1 }).2)) fun _ =>
    hA.bind (g := fun t l s => (t, (must 41 l { s with opn := s.opn - 1 }).2)) fun t =>
      (Near.opens () (fun o => o - 1)).bind (g := fun _ l s => (t, (must 41 l s).2)) fun _ =>
        (must_near 41 (by decide)).bind (g := fun _ _ s => (t, s)) fun _ => Near.pure _).mono (by omega) (by omega)
theorem atom_near (F : Nat) {k : Nat} {A : List UInt8 → PS → T × PS} (hA : Near k 0 A) : Near (k + 1) 0 (atomP F A) := by
  refine Near.take (h := atomB F A) (fun o => ?_) (fun c o hc => ?_)
  · rw [show atomB F A (-1) o = litP from funext fun l => funext fun s => by unfold atomB; simp]
    exact lit_near.mono (by omega) (by omega)
  · by_cases h1 : c = 40
    · by_cases h2 : o = 12
      · left
        refine ⟨0, ?_⟩
        rw [show atomB F A c o = fun _ s => (zeroT, s.fail s.pos) from funext fun l => funext fun s => by unfold atomB; rw [if_pos h1, if_pos h2]]
        exact (Near.fail _).mono (by omega) (by omega)
      · exact .inr ⟨1, parP A, par_near hA, fun l s => by unfold atomB; rw [if_pos h1, if_neg h2]⟩
    · by_cases h2 : c = 46
      · exact .inr ⟨0, fun _ s => (clsT (notS zS), s), (Near.pure _).mono (by omega) (by omega), fun l s => by unfold atomB; rw [if_neg h1, if_pos h2]⟩
      · by_cases h3 : c = 91
        · exact .inr ⟨1, clsP F, (cls_near F).mono (by omega) (by omega), fun l s => by unfold atomB; rw [if_neg h1, if_neg h2, if_pos h3]⟩
        · left
          refine ⟨0, ?_⟩
          rw [show atomB F A c o = litP from funext fun l => funext fun s => by unfold atomB; rw [if_neg h1, if_neg h2, if_neg h3]]
          exact lit_near.mono (by omega) (by omega)
theorem sg_near (a : T) : Near 1 0 (fun l s => sgB a (nxt l s) l s) := by
  refine Near.take (h := fun c _ => sgB a c) (fun _ => ?_) (fun c _ hc => ?_)
  · rw [show sgB a (-1) = fun _ s => (a, s) from funext fun l => funext fun s => by unfold sgB; simp]
    exact (Near.pure _).mono (by omega) (by omega)
  · by_cases h1 : c = 42
    · exact .inr ⟨0, fun _ s => (repT a 0 (-1), s), (Near.pure _).mono (by omega) (by omega), fun l s => by unfold sgB; rw [if_pos h1]⟩
    · by_cases h2 : c = 43
      · exact .inr ⟨0, fun _ s => (repT a 1 (-1), s), (Near.pure _).mono (by omega) (by omega), fun l s => by unfold sgB; rw [if_neg h1, if_pos h2]⟩
      · by_cases h3 : c = 63
        · exact .inr ⟨0, fun _ s => (repT a 0 1, s), (Near.pure _).mono (by omega) (by omega), fun l s => by unfold sgB; rw [if_neg h1, if_neg h2, if_pos h3]⟩
        · by_cases h4 : c = 123
          · exact .inr ⟨1, fun l s => (repT a (braces l s).1.1 (braces l s).1.2, (braces l s).2), (braces_near.bind (g := fun r _ s => (repT a r.1 r.2, s)) (fun _ => Near.pure _)).mono (by decide) (by decide), fun l s => by unfold sgB; rw [if_neg h1, if_neg h2, if_neg h3, if_pos h4]⟩
          · left
            refine ⟨0, ?_⟩
            rw [show sgB a c = fun _ s => (a, s) from funext fun l => funext fun s => by unfold sgB; rw [if_neg h1, if_neg h2, if_neg h3, if_neg h4]]
            exact (Near.pure _).mono (by omega) (by omega)
theorem item_near (F : Nat) {k : Nat} {A : List UInt8 → PS → T × PS} (hA : Near k 0 A) : Near (k + 1) 0 (itemP F A) :=
  ((atom_near F hA).bind (g := fun a l s => sgB a (nxt l s) l s) fun a => sg_near a).mono (by omega) (by omega)
theorem catL_near (F : Nat) {k : Nat} {A : List UInt8 → PS → T × PS} (hA : Near k 0 A) : ∀ f acc, Near (k + 1) 0 (catL F A f acc)
  | 0, acc => (Near.pure acc).mono (by omega) (by omega)
  | f + 1, acc => by
    have hg : Near (k + 1) 0 (fun l s => catL F A f (acc ++ [(itemP F A l s).1]) l (itemP F A l s).2) := ((item_near F hA).bind (g := fun t => catL F A f (acc ++ [t])) (fun t => catL_near F hA f _)).mono (by omega) (by omega)
    refine Near.take (h := fun c _ l s => if goes c then catL F A f (acc ++ [(itemP F A l s).1]) l (itemP F A l s).2 else (acc, s)) (fun _ => ?_) (fun c _ hc => .inl ⟨0, ?_⟩)
    · simp only [if_neg (show ¬ goes (-1) by decide)]
      exact (Near.pure acc).mono (by omega) (by omega)
    · by_cases h : goes c
      · simp only [if_pos h]
        exact hg
      · simp only [if_neg h]
        exact (Near.pure acc).mono (by omega) (by omega)
theorem cat_near (F : Nat) {k : Nat} {A : List UInt8 → PS → T × PS} (hA : Near k 0 A) : Near (k + 1) 0 (catP F A) := ((catL_near F hA F []).bind (g := fun l _ s => (wrapC l, s)) fun _ => Near.pure _).mono (by omega) (by omega)
theorem altL_near (F : Nat) {k : Nat} {A : List UInt8 → PS → T × PS} (hA : Near k 0 A) : ∀ f acc, Near (k + 1) 0 (altL F A f acc)
  | 0, acc => (Near.pure acc).mono (by omega) (by omega)
  | f + 1, acc => by
    refine Near.take (h := fun c _ l s => if c = 124 then altL F A f (acc ++ [(catP F A l s.adv).1]) l (catP F A l s.adv).2 else (acc, s)) (fun _ => ?_) (fun c _ hc => ?_)
    · simp only [if_neg (show ¬ ((-1 : Int) = 124) by decide)]
      exact (Near.pure acc).mono (by omega) (by omega)
    · by_cases h : c = 124
      · exact .inr ⟨0, fun l s => altL F A f (acc ++ [(catP F A l s).1]) l (catP F A l s).2, ((cat_near F hA).bind (g := fun t => altL F A f (acc ++ [t])) (fun t => altL_near F hA f _)).mono (by omega) (by omega), fun l s => by rw [if_pos h]⟩
      · left
        refine ⟨0, ?_⟩
        simp only [if_neg h]
        exact (Near.pure acc).mono (by omega) (by omega)
theorem alt_near (F : Nat) {k : Nat} {A : List UInt8 → PS → T × PS} (hA : Near k 0 A) : Near (k + 1) 0 (altP F A) :=
  ((cat_near F hA).bind (g := fun t l s => (wrapA (altL F A F [t] l s).1, (altL F A F [t] l s).2)) fun t => (altL_near F hA F [t]).bind (g := fun l _ s => (wrapA l, s)) fun _ => Near.pure _).mono (by omega) (by omega)
theorem altD_near (F : Nat) : ∀ d, Near d 0 (altD F d)
  | 0 => Near.pure zeroT
  | d + 1 => alt_near F (altD_near F d)
end Go.Proofs.Ytblijgcfelnlmaa.P07
/- Plain mathematics for layer 5: bytes that a key does not tell apart, and their classes, numbered by their least bytes. Nothing here names a program. -/
namespace Go.Proofs.Ytblijgcfelnlmaa.Cls
open Go.Proofs.Ytblijgcfelnlmaa.Sets

theorem seek_spec (p : Nat → Bool) : ∀ k n, n ≤ seek p k n ∧ seek p k n ≤ n + k ∧ (∀ b, n ≤ b → b < seek p k n → p b = false) ∧ (seek p k n < n + k → p (seek p k n) = true)
  | 0, n => ⟨Nat.le_refl _, Nat.le_refl _, fun b h1 h2 => by simp [seek] at h2; omega, fun h => by simp [seek] at h⟩
  | k + 1, n => by
    unfold seek
    cases e : p n
    · simp only [Bool.false_eq_true, if_false]
      obtain ⟨a, b, c, d⟩ := seek_spec p k (n + 1)
      refine ⟨by omega, by omega, fun x h1 h2 => ?_, fun h => d (by omega)⟩
      rcases Nat.eq_or_lt_of_le h1 with rfl | h1
      · exact e
      · exact c x h1 h2
    · simp only [if_true]
      exact ⟨Nat.le_refl _, by omega, fun x h1 h2 => by omega, fun _ => e⟩

section
variable {α : Type} [DecidableEq α]

/-- The least one with b's key. -/
def rep (K : Nat → α) (b : Nat) : Nat := seek (fun a => decide (K a = K b)) b 0

theorem rep_le (K : Nat → α) (b : Nat) : rep K b ≤ b := by
  have := (seek_spec (fun a => decide (K a = K b)) b 0).2.1
  unfold rep
  omega
theorem rep_key (K : Nat → α) (b : Nat) : K (rep K b) = K b := by
  have h := seek_spec (fun a => decide (K a = K b)) b 0
  rcases Nat.lt_or_ge (rep K b) b with hl | hl
  · have := h.2.2.2 (by unfold rep at hl; omega)
    exact of_decide_eq_true this
  · rw [Nat.le_antisymm (rep_le K b) hl]
theorem rep_least (K : Nat → α) {a b : Nat} (h : K a = K b) : rep K b ≤ a := by
  refine Nat.le_of_not_lt fun hl => ?_
  have := (seek_spec (fun a => decide (K a = K b)) b 0).2.2.1 a (Nat.zero_le _) hl
  exact of_decide_eq_false this h
theorem rep_eq (K : Nat → α) {a b : Nat} (h : K a = K b) : rep K a = rep K b :=
  Nat.le_antisymm (rep_least K ((rep_key K b).trans h.symm)) (rep_least K ((rep_key K a).trans h))
theorem rep_iff (K : Nat → α) {a b : Nat} : rep K a = rep K b ↔ K a = K b :=
  ⟨fun h => by rw [← rep_key K a, h, rep_key K b], rep_eq K⟩
theorem rep_rep (K : Nat → α) (b : Nat) : rep K (rep K b) = rep K b := rep_eq K (rep_key K b)

/-- Is it the least one of its class? -/
def first (K : Nat → α) (b : Nat) : Bool := decide (rep K b = b)
theorem first_rep (K : Nat → α) (b : Nat) : first K (rep K b) = true := decide_eq_true (rep_rep K b)
theorem first_iff (K : Nat → α) (b : Nat) : first K b = true ↔ ∀ a, a < b → K a ≠ K b := by
  unfold first
  rw [decide_eq_true_eq]
  constructor
  · intro h a ha e
    have := rep_least K e
    omega
  · intro h
    refine Nat.le_antisymm (rep_le K b) (Nat.le_of_not_lt fun hl => h _ hl (rep_key K b))

/-- A byte's class; how many there are. -/
def cls (K : Nat → α) (b : Nat) : Nat := cnt (first K) (rep K b)
def ncl (K : Nat → α) : Nat := cnt (first K) 256

theorem cnt_mono (p : Nat → Bool) {m n : Nat} (h : m ≤ n) : cnt p m ≤ cnt p n := by
  have := cnt_add p m (n - m)
  rw [show m + (n - m) = n from by omega] at this
  omega
theorem cnt_lt (p : Nat → Bool) {m n : Nat} (h : m < n) (hp : p m = true) : cnt p m < cnt p n := by
  have h1 : cnt p (m + 1) = cnt p m + 1 := by
    show cnt p m + (p m).toNat = _
    rw [hp]
    rfl
  have := cnt_mono p (show m + 1 ≤ n from h)
  omega

theorem cls_eq (K : Nat → α) {a b : Nat} (h : K a = K b) : cls K a = cls K b := by
  unfold cls
  rw [rep_eq K h]
theorem cls_iff (K : Nat → α) {a b : Nat} : cls K a = cls K b ↔ K a = K b := by
  refine ⟨fun h => ?_, cls_eq K⟩
  unfold cls at h
  rcases Nat.lt_trichotomy (rep K a) (rep K b) with hl | hl | hl
  · have := cnt_lt (first K) hl (first_rep K a)
    omega
  · exact (rep_iff K).1 hl
  · have := cnt_lt (first K) hl (first_rep K b)
    omega
theorem cls_lt (K : Nat → α) {b : Nat} (h : b < 256) : cls K b < ncl K := cnt_lt (first K) (Nat.lt_of_le_of_lt (rep_le K b) h) (first_rep K b)
theorem cls_first (K : Nat → α) {b : Nat} (h : first K b = true) : cls K b = cnt (first K) b := by
  unfold cls
  rw [of_decide_eq_true h]
theorem cls_le (K : Nat → α) (b : Nat) : cls K b ≤ cnt (first K) b := cnt_mono _ (rep_le K b)

theorem cnt_onto (p : Nat → Bool) : ∀ k c, c < cnt p k → ∃ b, b < k ∧ p b = true ∧ cnt p b = c
  | 0, c, h => by simp [cnt] at h
  | k + 1, c, h => by
    by_cases hc : c < cnt p k
    · obtain ⟨b, h1, h2, h3⟩ := cnt_onto p k c hc
      exact ⟨b, by omega, h2, h3⟩
    · unfold cnt at h
      cases e : p k
      · rw [e] at h; simp at h; omega
      · rw [e] at h
        simp at h
        exact ⟨k, by omega, e, by omega⟩

/-- Each class has a least byte. -/
theorem cls_onto (K : Nat → α) {c : Nat} (h : c < ncl K) : ∃ b, b < 256 ∧ first K b = true ∧ cls K b = c ∧ ∀ a, cls K a = c → b ≤ a := by
  obtain ⟨b, h1, h2, h3⟩ := cnt_onto (first K) 256 c h
  refine ⟨b, h1, h2, by rw [cls_first K h2, h3], fun a ha => ?_⟩
  have hk : K a = K b := (cls_iff K).1 (by rw [ha, cls_first K h2, h3])
  have := rep_least K hk
  have hr : rep K b = b := of_decide_eq_true h2
  omega

theorem ncl_pos (K : Nat → α) : 0 < ncl K := cnt_pos (p := first K) (b := 0) (by rw [first_iff]; intro a h; omega) (by decide)
theorem ncl_le (K : Nat → α) : ncl K ≤ 256 := cnt_le _ _

end

/-- Keys that tell the same bytes apart have the same classes. -/
theorem first_congr {α β : Type} [DecidableEq α] [DecidableEq β] {K : Nat → α} {J : Nat → β} (h : ∀ a b, a < 256 → b < 256 → (K a = K b ↔ J a = J b)) {b : Nat} (hb : b < 256) : first K b = first J b := by
  rw [Bool.eq_iff_iff, first_iff, first_iff]
  exact ⟨fun k a ha e => k a ha ((h a b (by omega) hb).2 e), fun k a ha e => k a ha ((h a b (by omega) hb).1 e)⟩
theorem ncl_congr {α β : Type} [DecidableEq α] [DecidableEq β] {K : Nat → α} {J : Nat → β} (h : ∀ a b, a < 256 → b < 256 → (K a = K b ↔ J a = J b)) : ncl K = ncl J := cnt_congr fun _ hb => first_congr h hb
theorem rep_congr {α β : Type} [DecidableEq α] [DecidableEq β] {K : Nat → α} {J : Nat → β} (h : ∀ a b, a < 256 → b < 256 → (K a = K b ↔ J a = J b)) {b : Nat} (hb : b < 256) : rep K b = rep J b := by
  have h1 := rep_le K b
  have h2 := rep_le J b
  exact Nat.le_antisymm (rep_least K ((h _ _ (by omega) hb).2 (rep_key J b))) (rep_least J ((h _ _ (by omega) hb).1 (rep_key K b)))
theorem cls_congr {α β : Type} [DecidableEq α] [DecidableEq β] {K : Nat → α} {J : Nat → β} (h : ∀ a b, a < 256 → b < 256 → (K a = K b ↔ J a = J b)) {b : Nat} (hb : b < 256) : cls K b = cls J b := by
  unfold cls
  rw [rep_congr h hb]
  have := rep_le J b
  exact cnt_congr fun c hc => first_congr h (by omega)

theorem cnt_imp {p q : Nat → Bool} : ∀ {k}, (∀ b, b < k → p b = true → q b = true) → cnt p k ≤ cnt q k
  | 0, _ => Nat.le_refl _
  | k + 1, h => by
    have i := cnt_imp (fun b hb => h b (Nat.lt_succ_of_lt hb) : ∀ b, b < k → p b = true → q b = true)
    have := h k (Nat.lt_succ_self _)
    unfold cnt
    cases e : p k <;> cases e' : q k
    · simp; exact i
    · simp; omega
    · rw [e, e'] at this; simp at this
    · simp; exact i

/-- A key that tells more apart has no fewer classes. -/
theorem ncl_mono {α β : Type} [DecidableEq α] [DecidableEq β] {K : Nat → α} {J : Nat → β} (h : ∀ a b, a < 256 → b < 256 → J a = J b → K a = K b) : ncl K ≤ ncl J :=
  cnt_imp fun b hb k => (first_iff J b).2 fun a ha e => (first_iff K b).1 k a ha (h a b (by omega) hb e)

/-- Sets as a key. -/
def key (l : List ST) (b : Nat) : List Bool := l.map fun s => s.has b

theorem key_iff (l : List ST) (a b : Nat) : key l a = key l b ↔ ∀ s, s ∈ l → s.has a = s.has b := by
  unfold key
  induction l with
  | nil => simp
  | cons s l ih =>
    simp only [List.map_cons, List.cons.injEq, List.mem_cons, ih]
    exact ⟨fun ⟨h1, h2⟩ t ht => by rcases ht with rfl | ht; exact h1; exact h2 t ht, fun h => ⟨h s (.inl rfl), fun t ht => h t (.inr ht)⟩⟩

/-- The same sets in another order, or more than once. -/
theorem key_same {l m : List ST} (h : ∀ s, s ∈ l ↔ s ∈ m) (a b : Nat) : key l a = key l b ↔ key m a = key m b := by
  rw [key_iff, key_iff]
  exact ⟨fun k s hs => k s ((h s).2 hs), fun k s hs => k s ((h s).1 hs)⟩

/-- Those that aren't tell the same apart. -/
theorem key_not {l : List ST} (hl : ∀ s, s ∈ l → s.Ok) {a b : Nat} (ha : a < 256) (hb : b < 256) : key (l.map ST.not) a = key (l.map ST.not) b ↔ key l a = key l b := by
  rw [key_iff, key_iff]
  constructor
  · intro k s hs
    have := k s.not (List.mem_map_of_mem hs)
    rw [ST.has_not (hl s hs) _ ha, ST.has_not (hl s hs) _ hb] at this
    exact Bool.not_inj this
  · intro k t ht
    obtain ⟨s, hs, rfl⟩ := List.mem_map.1 ht
    rw [ST.has_not (hl s hs) _ ha, ST.has_not (hl s hs) _ hb, k s hs]

end Go.Proofs.Ytblijgcfelnlmaa.Cls
