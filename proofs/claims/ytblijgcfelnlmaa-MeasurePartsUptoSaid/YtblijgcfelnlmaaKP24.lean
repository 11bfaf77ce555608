/- Layer 9, plain: what the code tells of an expression's texts; that lengths and nothing are the document's; what bounds them. -/
import Derived.Test.YtblijgcfelnlmaaKP23
import Derived.Test.YtblijgcfelnlmaaKP22
namespace Go.Proofs.Ytblijgcfelnlmaa.P09
open Go.Proofs.Ytblijgcfelnlmaa.P07 Go.Proofs.Ytblijgcfelnlmaa.P08 Go.Proofs.Ytblijgcfelnlmaa.Bytes
open Go.Proofs.Ytblijgcfelnlmaa.Sets (ST)

structure TX where
  none : Bool
  endless : Bool
  first : ST
  least : Int
  most : Int
def TX.empty : TX := ⟨false, false, .none, 0, 0⟩
def TX.nothing : TX := ⟨true, false, .none, 0, 0⟩
def TX.cls (s : ST) : TX := if s.count = 0 then .nothing else ⟨false, false, s, 1, 1⟩
def TX.then_ (t n : TX) : TX := if t.none = true ∨ n.none = true then .nothing else ⟨false, t.endless || n.endless, if t.least = 0 then t.first.or n.first else t.first, t.least + n.least, t.most + n.most⟩
def TX.or_ (t o : TX) : TX := if t.none = true then o else if o.none = true then t else ⟨false, t.endless || o.endless, t.first.or o.first, min t.least o.least, max t.most o.most⟩
def TX.rep (t : TX) (mn mx : Int) : TX := if mx = 0 ∨ (t.none = true ∧ mn = 0) then .empty else if t.none = true then t else if mx = -1 then ⟨false, t.endless || decide (0 < t.most), t.first, mn * t.least, t.most⟩ else ⟨false, t.endless, t.first, mn * t.least, mx * t.most⟩
mutual
def txOf : T → TX
  | .nd k s mn mx l => if k = 2 then .cls s else if k = 3 then catX .empty l else if k = 4 then altX .nothing l else if k = 5 then (headX l).rep mn mx else .empty
def catX : TX → List T → TX
  | acc, [] => acc
  | acc, t :: l => catX (acc.then_ (txOf t)) l
def altX : TX → List T → TX
  | acc, [] => acc
  | acc, t :: l => altX (acc.or_ (txOf t)) l
def headX : List T → TX
  | [] => .empty
  | t :: _ => txOf t
end
theorem txOf_eq (t : T) : txOf t = if t.kind = 2 then .cls t.set else if t.kind = 3 then catX .empty t.subs else if t.kind = 4 then altX .nothing t.subs else if t.kind = 5 then (headX t.subs).rep t.mn t.mx else .empty := by
  cases t
  rw [txOf]
  rfl
theorem catX_append : ∀ (L : List T) (acc : TX) (t : T), catX acc (L ++ [t]) = (catX acc L).then_ (txOf t)
  | [], acc, t => by rw [List.nil_append, catX, catX, catX]
  | s :: L, acc, t => by rw [List.cons_append, catX, catX, catX_append L]
theorem catX_take {acc : TX} {L : List T} {i : Nat} {s : T} (h : L[i]? = some s) : catX acc (L.take (i + 1)) = (catX acc (L.take i)).then_ (txOf s) := by
  rw [List.take_add_one, h]
  exact catX_append _ acc s
theorem altX_append : ∀ (L : List T) (acc : TX) (t : T), altX acc (L ++ [t]) = (altX acc L).or_ (txOf t)
  | [], acc, t => by rw [List.nil_append, altX, altX, altX]
  | s :: L, acc, t => by rw [List.cons_append, altX, altX, altX_append L]
theorem altX_take {acc : TX} {L : List T} {i : Nat} {s : T} (h : L[i]? = some s) : altX acc (L.take (i + 1)) = (altX acc (L.take i)).or_ (txOf s) := by
  rw [List.take_add_one, h]
  exact altX_append _ acc s

theorem count_none : ST.none.count = 0 := by decide +kernel
theorem count_zero {s : ST} (hs : s.Ok) : s.count = 0 ↔ s = .none := by
  constructor
  · intro h
    exact ST.ext hs ST.none_ok fun b hb => by rw [Sets.cnt_zero h b hb, ST.has_none]
  · intro h
    rw [h]
    exact count_none
theorem or_none {s : ST} (hs : s.Ok) : s.or .none = s := ST.ext (ST.or_ok hs ST.none_ok) hs fun b hb => by rw [ST.has_or _ _ b hb, ST.has_none, Bool.or_false]
theorem none_or {s : ST} (hs : s.Ok) : ST.or .none s = s := ST.ext (ST.or_ok ST.none_ok hs) hs fun b hb => by rw [ST.has_or _ _ b hb, ST.has_none, Bool.false_or]

/-- Its numbers are none below 0, and no greater; its set is a set. -/
structure TX.In (x : TX) (B : Int) : Prop where
  l0 : 0 ≤ x.least
  l1 : x.least ≤ B
  m0 : 0 ≤ x.most
  m1 : x.most ≤ B
  ok : x.first.Ok
theorem TX.In.mono {x : TX} {A B : Int} (h : x.In A) (hB : A ≤ B) : x.In B := ⟨h.l0, by have := h.l1; omega, h.m0, by have := h.m1; omega, h.ok⟩
theorem TX.In.empty {B : Int} (h : 0 ≤ B) : TX.empty.In B := ⟨Int.le_refl _, h, Int.le_refl _, h, ST.none_ok⟩
theorem TX.In.nothing {B : Int} (h : 0 ≤ B) : TX.nothing.In B := ⟨Int.le_refl _, h, Int.le_refl _, h, ST.none_ok⟩
theorem TX.In.cls {s : ST} (hs : s.Ok) {B : Int} (h : 1 ≤ B) : (TX.cls s).In B := by
  unfold TX.cls
  split
  · exact TX.In.nothing (by omega)
  · exact ⟨by show (0 : Int) ≤ 1; omega, h, by show (0 : Int) ≤ 1; omega, h, hs⟩
theorem TX.In.then_ {x y : TX} {A B : Int} (h : x.In A) (k : y.In B) : (x.then_ y).In (A + B) := by
  have h1 := h.l0; have h2 := h.l1; have h3 := h.m0; have h4 := h.m1
  have k1 := k.l0; have k2 := k.l1; have k3 := k.m0; have k4 := k.m1
  unfold TX.then_
  split
  · exact TX.In.nothing (by omega)
  · refine ⟨?_, ?_, ?_, ?_, ?_⟩
    · show 0 ≤ x.least + y.least; omega
    · show x.least + y.least ≤ _; omega
    · show 0 ≤ x.most + y.most; omega
    · show x.most + y.most ≤ _; omega
    · show (if x.least = 0 then _ else _ : ST).Ok
      split
      · exact ST.or_ok h.ok k.ok
      · exact h.ok
theorem TX.In.or_ {x y : TX} {A B : Int} (h : x.In A) (k : y.In B) : (x.or_ y).In (A + B) := by
  have h1 := h.l0; have h2 := h.l1; have h3 := h.m0; have h4 := h.m1
  have k1 := k.l0; have k2 := k.l1; have k3 := k.m0; have k4 := k.m1
  unfold TX.or_
  split
  · exact k.mono (by omega)
  · split
    · exact h.mono (by omega)
    · refine ⟨?_, ?_, ?_, ?_, ST.or_ok h.ok k.ok⟩
      · show 0 ≤ min x.least y.least; omega
      · show min x.least y.least ≤ _; omega
      · show 0 ≤ max x.most y.most; omega
      · show max x.most y.most ≤ _; omega

/-- The numbers of what stands in a repetition are as its brackets say. -/
theorem rep_in {d : Nat} {a : T} (h : if rnd 5 a.kind then 1 ≤ d ∧ RT (d - 1) a else RT d a) {x mn : Int} (hx : x = (txOf a).least ∨ x = (txOf a).most) (hi : ∀ e, RT e a → (txOf a).In (bnd e (cnt a))) (hm : mn ≤ 20) : mn * x ≤ bnd d (cnt a + 1) := by
  have h0 : 0 ≤ x := by
    rcases hx with h1 | h1 <;> rw [h1]
    · exact (hi d (IS.rt (k := 5) h)).l0
    · exact (hi d (IS.rt (k := 5) h)).m0
  rw [Int.mul_comm]
  refine rep_bnd h h0 (fun e he => ?_) (fun hk => ?_) hm
  · rcases hx with h1 | h1 <;> rw [h1]
    · exact (hi e he).l1
    · exact (hi e he).m1
  · have h2 : txOf a = .cls a.set := by rw [txOf_eq, if_pos hk]
    have h3 : (TX.cls a.set).least ≤ 1 ∧ (TX.cls a.set).most ≤ 1 := by
      unfold TX.cls
      split
      · exact ⟨by decide, by decide⟩
      · exact ⟨Int.le_refl _, Int.le_refl _⟩
    rcases hx with h1 | h1 <;> rw [h1, h2]
    · exact h3.1
    · exact h3.2

mutual
theorem tx_in : ∀ (t : T) (d : Nat), RT d t → (txOf t).In (bnd d (cnt t))
  | .nd k s mn mx l, d, h => by
    obtain ⟨hb, hs, hl⟩ := h.bare
    have hg := bnd_ge d (1 + cntL l)
    have hm := bnd_mono (Nat.le_refl d) (show cntL l ≤ 1 + cntL l by omega)
    rw [txOf, cnt]
    by_cases h2 : k = 2
    · rw [if_pos h2]
      exact TX.In.cls hs (by omega)
    · rw [if_neg h2]
      by_cases h3 : k = 3
      · rw [if_pos h3]
        exact (cat_in l d k hl .empty 0 (TX.In.empty (Int.le_refl 0))).mono (by omega)
      · rw [if_neg h3]
        by_cases h4 : k = 4
        · rw [if_pos h4]
          exact (alt_in l d k hl .nothing 0 (TX.In.nothing (Int.le_refl 0))).mono (by omega)
        · rw [if_neg h4]
          by_cases h5 : k = 5
          · rw [if_pos h5]
            obtain ⟨a, rfl, b0, b1, bx, ha⟩ := one_sub h h5
            have ec : 1 + cntL [a] = cnt a + 1 := by rw [cntL, cntL]; omega
            rw [headX, ec]
            rw [ec] at hg
            have hi := fun e he => tx_in a e he
            have hx := hi d (IS.rt (k := 5) ha)
            have hmo := bnd_mono (Nat.le_refl d) (show cnt a ≤ cnt a + 1 by omega)
            have hr1 := rep_in ha (.inl rfl) hi b1
            have hr2 := rep_in ha (mn := mx) (.inr rfl) hi (by omega)
            unfold TX.rep
            split
            · exact TX.In.empty (by omega)
            · split
              · exact hx.mono (by omega)
              · rename_i q1 q2
                split
                · exact ⟨Int.mul_nonneg b0 hx.l0, hr1, hx.m0, by have := hx.m1; show (txOf a).most ≤ _; omega, hx.ok⟩
                · exact ⟨Int.mul_nonneg b0 hx.l0, hr1, Int.mul_nonneg (by omega) hx.m0, hr2, hx.ok⟩
          · rw [if_neg h5]
            exact TX.In.empty (by omega)
theorem cat_in : ∀ (l : List T) (d : Nat) (k : Int), RL d k l → ∀ (acc : TX) (A : Int), acc.In A → (catX acc l).In (A + bnd d (cntL l))
  | [], d, k, _, acc, A, h => by rw [catX]; exact h.mono (by omega)
  | t :: l, d, k, hR, acc, A, h => by
    obtain ⟨h1, h2⟩ := RL_cons hR
    rw [catX, cntL]
    have h6 := bnd_add d (cnt t) (cntL l)
    exact (cat_in l d k h2 _ _ (h.then_ (tx_in t d (IS.rt (k := k) h1)))).mono (by omega)
theorem alt_in : ∀ (l : List T) (d : Nat) (k : Int), RL d k l → ∀ (acc : TX) (A : Int), acc.In A → (altX acc l).In (A + bnd d (cntL l))
  | [], d, k, _, acc, A, h => by rw [altX]; exact h.mono (by omega)
  | t :: l, d, k, hR, acc, A, h => by
    obtain ⟨h1, h2⟩ := RL_cons hR
    rw [altX, cntL]
    have h6 := bnd_add d (cnt t) (cntL l)
    exact (alt_in l d k h2 _ _ (h.or_ (tx_in t d (IS.rt (k := k) h1)))).mono (by omega)
end

/-- The code tells what the document tells. -/
structure Same (x : TX) (t : T) : Prop where
  none : x.none = noneB t
  zero : noneB t = true → x = .nothing
  least : noneB t = false → x.least = leastI t
  inf : noneB t = false → x.endless = true → mostI t = -1
  fin : noneB t = false → x.endless = false → mostI t = x.most
theorem catX_nothing : ∀ l, catX .nothing l = .nothing
  | [] => by rw [catX]
  | t :: l => by
    rw [catX]
    have : TX.nothing.then_ (txOf t) = .nothing := by
      unfold TX.then_
      rw [if_pos (.inl rfl)]
    rw [this]
    exact catX_nothing l
theorem mostL_neg {k : Int} {t : T} {l : List T} {acc : Int} (hn : noneB t = false) (hm : mostI t = -1) : mostL k acc (t :: l) = -1 := by
  rw [mostL, if_neg (by rw [hn]; decide), if_pos (by omega)]
mutual
theorem tx_same : ∀ (t : T) (d : Nat), RT d t → Same (txOf t) t
  | .nd k s mn mx l, d, h => by
    obtain ⟨hb, hs, hl⟩ := h.bare
    have en := noneB_eq (.nd k s mn mx l)
    have el := leastI_eq (.nd k s mn mx l)
    have em := mostI_eq (.nd k s mn mx l)
    obtain ⟨N, hN⟩ : ∃ N, noneB (.nd k s mn mx l) = N := ⟨_, rfl⟩
    obtain ⟨Le, hLe⟩ : ∃ Le, leastI (.nd k s mn mx l) = Le := ⟨_, rfl⟩
    obtain ⟨M, hM⟩ : ∃ M, mostI (.nd k s mn mx l) = M := ⟨_, rfl⟩
    rw [hN] at en el em
    rw [hLe] at el
    rw [hM] at em
    unfold T.kind T.set T.mn T.subs at en
    unfold T.kind T.mn T.subs at el
    unfold T.kind T.mx T.subs at em
    dsimp only at en el em
    suffices hh : (txOf (.nd k s mn mx l)).none = N ∧ (N = true → txOf (.nd k s mn mx l) = .nothing) ∧ (N = false → (txOf (.nd k s mn mx l)).least = Le ∧ ((txOf (.nd k s mn mx l)).endless = true → M = -1) ∧ ((txOf (.nd k s mn mx l)).endless = false → M = (txOf (.nd k s mn mx l)).most)) by
      exact ⟨by rw [hN]; exact hh.1, by rw [hN]; exact hh.2.1, fun h => by rw [hN] at h; rw [hLe]; exact (hh.2.2 h).1, fun h => by rw [hN] at h; rw [hM]; exact (hh.2.2 h).2.1, fun h => by rw [hN] at h; rw [hM]; exact (hh.2.2 h).2.2⟩
    clear hN hLe hM
    rw [txOf]
    by_cases h2 : k = 2
    · rw [if_pos h2] at en el em ⊢
      unfold TX.cls
      by_cases hc : s.count = 0
      · rw [if_pos hc]
        have : N = true := by rw [en]; exact eqB_iff.2 ((count_zero hs).1 hc)
        subst this
        exact ⟨rfl, fun _ => rfl, fun h => by cases h⟩
      · rw [if_neg hc]
        have : N = false := by
          rw [en]
          exact eqB_ne fun h => hc ((count_zero hs).2 h)
        subst this
        rw [if_neg (by decide)] at el em
        exact ⟨rfl, fun h => (by cases h), fun _ => ⟨el.symm, fun h => (by cases h), fun _ => em⟩⟩
    · rw [if_neg h2] at en el em ⊢
      by_cases h3 : k = 3
      · rw [if_pos h3] at en el ⊢
        rw [if_pos (show k = 3 ∨ k = 4 from .inl h3)] at em
        have hc := cat_same l d k hl
        cases N with
        | true =>
          have h1 := hc.1 en.symm .empty
          rw [h1]
          exact ⟨rfl, fun _ => rfl, fun h => by cases h⟩
        | false =>
          rw [if_neg (by decide)] at el em
          have h1 := hc.2 en.symm .empty rfl (Int.le_refl 0) (Int.le_refl 0)
          subst h3
          refine ⟨h1.1, fun h => (by cases h), fun _ => ⟨by rw [el]; exact h1.2.1, fun h => ?_, fun h => ?_⟩⟩
          · rw [em]; exact (h1.2.2.2 rfl).1 h
          · rw [em]; exact (h1.2.2.2 rfl).2 h
      · rw [if_neg h3] at en el ⊢
        by_cases h4 : k = 4
        · rw [if_pos h4] at en el ⊢
          rw [if_pos (show k = 3 ∨ k = 4 from .inr h4)] at em
          have hc := (alt_same l d k hl).1
          cases N with
          | true =>
            rw [hc.1 en.symm]
            exact ⟨rfl, fun _ => rfl, fun h => by cases h⟩
          | false =>
            rw [if_neg (by decide)] at el em
            have h1 := hc.2 en.symm
            subst h4
            exact ⟨h1.1, fun h => (by cases h), fun _ => ⟨by rw [el]; exact h1.2.1, fun h => by rw [em]; exact h1.2.2.1 h, fun h => by rw [em]; exact h1.2.2.2 h⟩⟩
        · rw [if_neg h4] at en el ⊢
          rw [if_neg (show ¬ (k = 3 ∨ k = 4) by omega)] at em
          by_cases h5 : k = 5
          · rw [if_pos h5] at en em ⊢
            obtain ⟨a, rfl, b0, b1, bx, ha⟩ := one_sub h h5
            have hra : RT d a := IS.rt (k := 5) ha
            have hS := tx_same a d hra
            have hI := tx_in a d hra
            rw [headN] at en em
            rw [headM] at em
            rw [headLe] at el
            rw [headX]
            have hmo := most_bnd a d hra
            generalize txOf a = x at hS hI ⊢
            cases hna : noneB a with
            | true =>
              rw [hna, Bool.and_true] at en
              have hx := hS.zero hna
              subst hx
              unfold TX.rep
              by_cases hm : 0 < mn
              · rw [decide_eq_true hm] at en
                subst en
                rw [if_neg (by rintro (h | h); omega; omega), if_pos (show TX.nothing.none = true from rfl)]
                exact ⟨rfl, fun _ => rfl, fun h => by cases h⟩
              · rw [decide_eq_false hm] at en
                subst en
                rw [if_pos (.inr ⟨rfl, by omega⟩)]
                rw [if_neg (by decide), if_neg (by omega)] at el
                rw [if_neg (by decide), if_pos (.inl hna)] at em
                exact ⟨rfl, fun h => (by cases h), fun _ => ⟨el.symm, fun h => (by cases h), fun _ => em⟩⟩
            | false =>
              rw [hna, Bool.and_false] at en
              subst en
              rw [if_neg (by decide)] at el em
              have hxn : x.none = false := hS.none.trans hna
              have hle := hS.least hna
              have hin := hS.inf hna
              have hfi := hS.fin hna
              have h0 := hI.l0
              have h1 := hI.m0
              unfold TX.rep
              by_cases hm : mx = 0
              · rw [if_pos (.inl hm)]
                rw [if_pos (.inr hm)] at em
                have : mn = 0 := by omega
                rw [if_neg (by omega)] at el
                exact ⟨rfl, fun h => (by cases h), fun _ => ⟨el.symm, fun h => (by cases h), fun _ => em⟩⟩
              · rw [if_neg (by rintro (h | h); exact hm h; rw [hxn] at h; cases h.1), if_neg (by rw [hxn]; decide)]
                rw [if_neg (by rintro (h | h); rw [hna] at h; cases h; exact hm h)] at em
                have hLe : Le = mn * x.least := by
                  rw [el, hle]
                  split
                  · rfl
                  · have : mn = 0 := by omega
                    rw [this, Int.zero_mul]
                by_cases hu : mx = -1
                · rw [if_pos hu]
                  refine ⟨rfl, fun h => (by cases h), fun _ => ⟨hLe.symm, ?_, ?_⟩⟩
                  · intro he
                    dsimp only at he
                    rw [Bool.or_eq_true] at he
                    cases hxe : x.endless with
                    | true =>
                      have := hin hxe
                      rw [if_neg (by omega), if_pos (by omega)] at em
                      exact em
                    | false =>
                      have h2 := hfi hxe
                      rw [hxe] at he
                      have h3 : 0 < x.most := by
                        rcases he with he | he
                        · cases he
                        · exact of_decide_eq_true he
                      rw [if_neg (by omega), if_pos (by omega)] at em
                      exact em
                  · intro he
                    dsimp only at he ⊢
                    rw [Bool.or_eq_false_iff] at he
                    have h2 := hfi he.1
                    have h3 := of_decide_eq_false he.2
                    rw [if_pos (by omega)] at em
                    omega
                · rw [if_neg hu]
                  refine ⟨rfl, fun h => (by cases h), fun _ => ⟨hLe.symm, ?_, ?_⟩⟩
                  · intro he
                    have := hin he
                    rw [if_neg (by omega), if_pos (by omega)] at em
                    exact em
                  · intro he
                    have h2 := hfi he
                    dsimp only
                    by_cases h3 : mostI a = 0
                    · rw [if_pos h3] at em
                      rw [em, show x.most = 0 from by omega, Int.mul_zero]
                    · rw [if_neg h3, if_neg (by omega)] at em
                      rw [em, h2, Int.mul_comm]
          · rw [if_neg h5] at en em ⊢
            subst en
            rw [if_neg (by decide)] at el em
            rw [if_neg (show ¬ (k = 5 ∧ 0 < mn) by omega)] at el
            exact ⟨rfl, fun h => (by cases h), fun _ => ⟨el.symm, fun h => (by cases h), fun _ => em⟩⟩
theorem cat_same : ∀ (l : List T) (d : Nat) (k : Int), RL d k l → (anyN l = true → ∀ acc : TX, catX acc l = .nothing) ∧ (anyN l = false → ∀ acc : TX, acc.none = false → 0 ≤ acc.least → 0 ≤ acc.most → (catX acc l).none = false ∧ (catX acc l).least = sumLe acc.least l ∧ (acc.endless = true → (catX acc l).endless = true) ∧ (acc.endless = false → ((catX acc l).endless = true → mostL 3 acc.most l = -1) ∧ ((catX acc l).endless = false → mostL 3 acc.most l = (catX acc l).most)))
  | [], d, k, _ => by
    refine ⟨fun h => ?_, fun _ acc h0 h1 h2 => ?_⟩
    · rw [anyN] at h
      cases h
    · rw [catX, sumLe, mostL]
      exact ⟨h0, rfl, fun h => h, fun h => ⟨fun h' => (by rw [h] at h'; cases h'), fun _ => rfl⟩⟩
  | t :: l, d, k, hR => by
    obtain ⟨h1, h2⟩ := RL_cons hR
    have hS := tx_same t d (IS.rt (k := k) h1)
    have hI := tx_in t d (IS.rt (k := k) h1)
    have ih := cat_same l d k h2
    refine ⟨fun h acc => ?_, fun h acc h0 hl0 hm0 => ?_⟩
    · rw [anyN] at h
      rw [catX]
      cases hn : noneB t with
      | true =>
        have : acc.then_ (txOf t) = .nothing := by
          unfold TX.then_
          rw [if_pos (.inr (hS.none.trans hn))]
        rw [this]
        exact catX_nothing l
      | false =>
        rw [hn, Bool.false_or] at h
        exact ih.1 h _
    · rw [anyN, Bool.or_eq_false_iff] at h
      have hth : acc.then_ (txOf t) = ⟨false, acc.endless || (txOf t).endless, if acc.least = 0 then acc.first.or (txOf t).first else acc.first, acc.least + (txOf t).least, acc.most + (txOf t).most⟩ := by
        unfold TX.then_
        rw [if_neg (by rw [h0, hS.none, h.1]; simp)]
      rw [catX, sumLe]
      have hle := hS.least h.1
      have hi0 := hI.l0
      have hi1 := hI.m0
      have h3 := ih.2 h.2 (acc.then_ (txOf t)) (by rw [hth]) (by rw [hth]; show 0 ≤ acc.least + (txOf t).least; omega) (by rw [hth]; show 0 ≤ acc.most + (txOf t).most; omega)
      have e1 : (acc.then_ (txOf t)).least = acc.least + leastI t := by rw [hth, ← hle]
      have e2 : (acc.then_ (txOf t)).most = acc.most + (txOf t).most := by rw [hth]
      have e3 : (acc.then_ (txOf t)).endless = (acc.endless || (txOf t).endless) := by rw [hth]
      rw [e1, e2, e3] at h3
      refine ⟨h3.1, h3.2.1, fun he => h3.2.2.1 (by rw [he]; rfl), fun he => ?_⟩
      rw [he, Bool.false_or] at h3
      cases hxe : (txOf t).endless with
      | true =>
        have h4 := h3.2.2.1 hxe
        rw [mostL_neg h.1 (hS.inf h.1 hxe), h4]
        exact ⟨fun _ => rfl, fun h => by cases h⟩
      | false =>
        have h4 := hS.fin h.1 hxe
        rw [mostL, if_neg (by rw [h.1]; decide), if_neg (by omega), if_pos rfl, h4]
        exact h3.2.2.2 hxe
theorem alt_same : ∀ (l : List T) (d : Nat) (k : Int), RL d k l → ((allN l = true → altX .nothing l = .nothing) ∧ (allN l = false → (altX .nothing l).none = false ∧ (altX .nothing l).least = minLe (-1) l ∧ ((altX .nothing l).endless = true → mostL 4 0 l = -1) ∧ ((altX .nothing l).endless = false → mostL 4 0 l = (altX .nothing l).most)))
    ∧ ∀ acc : TX, acc.none = false → 0 ≤ acc.least → 0 ≤ acc.most → (altX acc l).none = false ∧ (altX acc l).least = minLe acc.least l ∧ (acc.endless = true → (altX acc l).endless = true) ∧ (acc.endless = false → ((altX acc l).endless = true → mostL 4 acc.most l = -1) ∧ ((altX acc l).endless = false → mostL 4 acc.most l = (altX acc l).most))
  | [], d, k, _ => by
    refine ⟨⟨fun _ => by rw [altX], fun h => ?_⟩, fun acc h0 h1 h2 => ?_⟩
    · rw [allN] at h
      cases h
    · rw [altX, minLe, mostL]
      exact ⟨h0, rfl, fun h => h, fun h => ⟨fun h' => (by rw [h] at h'; cases h'), fun _ => rfl⟩⟩
  | t :: l, d, k, hR => by
    obtain ⟨h1, h2⟩ := RL_cons hR
    have hS := tx_same t d (IS.rt (k := k) h1)
    have hI := tx_in t d (IS.rt (k := k) h1)
    have hB := (least_bnd t d (IS.rt (k := k) h1))
    have ih := alt_same l d k h2
    have hno : TX.nothing.or_ (txOf t) = txOf t := by
      unfold TX.or_
      rw [if_pos (show TX.nothing.none = true from rfl)]
    have hi0 := hI.l0
    have hi1 := hI.m0
    refine ⟨?_, fun acc h0 hl0 hm0 => ?_⟩
    · rw [altX, hno, allN, minLe]
      cases hn : noneB t with
      | true =>
        rw [hS.zero hn, Bool.true_and, mostL, if_pos hn, if_neg (by have := hB.1 hn; omega)]
        exact ih.1
      | false =>
        rw [Bool.false_and]
        refine ⟨fun h => (by cases h), fun _ => ?_⟩
        have h3 := ih.2 (txOf t) (hS.none.trans hn) hi0 hi1
        have hle := hS.least hn
        rw [if_pos (by omega), ← hle]
        refine ⟨h3.1, h3.2.1, ?_⟩
        cases hxe : (txOf t).endless with
        | true =>
          have h4 := h3.2.2.1 hxe
          rw [mostL_neg hn (hS.inf hn hxe), h4]
          exact ⟨fun _ => rfl, fun h => by cases h⟩
        | false =>
          have h4 := hS.fin hn hxe
          rw [mostL, if_neg (by rw [hn]; decide), if_neg (by omega), if_neg (by decide), h4, show max 0 (txOf t).most = (txOf t).most from by omega]
          exact h3.2.2.2 hxe
    · rw [altX, minLe]
      cases hn : noneB t with
      | true =>
        have : acc.or_ (txOf t) = acc := by
          unfold TX.or_
          rw [if_neg (by rw [h0]; decide), if_pos (hS.none.trans hn)]
        rw [this, mostL, if_pos hn, if_neg (by have := hB.1 hn; omega)]
        exact ih.2 acc h0 hl0 hm0
      | false =>
        have hth : acc.or_ (txOf t) = ⟨false, acc.endless || (txOf t).endless, acc.first.or (txOf t).first, min acc.least (txOf t).least, max acc.most (txOf t).most⟩ := by
          unfold TX.or_
          rw [if_neg (by rw [h0]; decide), if_neg (by rw [hS.none, hn]; decide)]
        have hle := hS.least hn
        have h3 := ih.2 (acc.or_ (txOf t)) (by rw [hth]) (by rw [hth]; show 0 ≤ min acc.least (txOf t).least; omega) (by rw [hth]; show 0 ≤ max acc.most (txOf t).most; omega)
        have e1 : (acc.or_ (txOf t)).least = if 0 ≤ leastI t ∧ (acc.least < 0 ∨ leastI t < acc.least) then leastI t else acc.least := by
          rw [hth, ← hle]
          show min acc.least (txOf t).least = _
          split <;> omega
        have e2 : (acc.or_ (txOf t)).most = max acc.most (txOf t).most := by rw [hth]
        have e3 : (acc.or_ (txOf t)).endless = (acc.endless || (txOf t).endless) := by rw [hth]
        rw [e1, e2, e3] at h3
        refine ⟨h3.1, h3.2.1, fun he => h3.2.2.1 (by rw [he]; rfl), fun he => ?_⟩
        rw [he, Bool.false_or] at h3
        cases hxe : (txOf t).endless with
        | true =>
          have h4 := h3.2.2.1 hxe
          rw [mostL_neg hn (hS.inf hn hxe), h4]
          exact ⟨fun _ => rfl, fun h => by cases h⟩
        | false =>
          have h4 := hS.fin hn hxe
          rw [mostL, if_neg (by rw [hn]; decide), if_neg (by omega), if_neg (by decide), h4]
          exact h3.2.2.2 hxe
end
end Go.Proofs.Ytblijgcfelnlmaa.P09
/- The code's plus, times, wideTimes (layer 9). -/
namespace Go.Proofs.Ytblijgcfelnlmaa.P09
open Go.RowKit Go.Proofs.Ytblijgcfelnlmaa.Base Go.Proofs.Ytblijgcfelnlmaa.Bytes Go.Proofs.Ytblijgcfelnlmaa.P07 Go.Proofs.Ytblijgcfelnlmaa.P08
open Go.Proofs.Ytblijgcfelnlmaa.Sets (ST)

set_option maxRecDepth 100000 in
theorem plus_is {a b : Int} (ha : 0 ≤ a) (hb : 0 ≤ b) (h : a + b ≤ 9000000000000000000) (w : World) : Calls Try.prog 59 #[.int .i64 a, .int .i64 b] w fun e w' => e = .returned (.int .i64 (a + b)) ∧ w = w' := by
  have h1 : ¬ a > 9223372036854775807 - b := by omega
  go_enter Try.func59, Try.ntmps59
  go_wp2_with fail
  go_ret
  exact ⟨rfl, rfl⟩

theorem no_over {a n : Int} (h0 : 0 < a) (h : a * n ≤ 9000000000000000000) : ¬ n > Int.tdiv 9223372036854775807 a := by
  intro h1
  rw [Int.tdiv_eq_ediv_of_nonneg (by decide)] at h1
  have h2 := Int.lt_mul_of_ediv_lt h0 h1
  rw [Int.mul_comm] at h2
  omega
set_option maxRecDepth 100000 in
theorem times_is {a n : Int} (ha : 0 ≤ a) (h20 : a ≤ 1000) (hn : 0 ≤ n) (h : a * n ≤ 9000000000000000000) (w : World) : Calls Try.prog 60 #[.int .i64 a, .int .i64 n] w fun e w' => e = .returned (.int .i64 (a * n)) ∧ w = w' := by
  have hw : IntKind.i64.wrap (a * n) = a * n := by
    have := Int.mul_nonneg ha hn
    rw [IntKind.wrap_i64]
    omega
  by_cases h0 : 0 < a
  · have h1 := no_over h0 h
    have h3 : ¬ a = 0 := by omega
    obtain ⟨q, hq⟩ : ∃ q, Int.tdiv 9223372036854775807 a = q := ⟨_, rfl⟩
    rw [hq] at h1
    have hqb : 0 ≤ q ∧ q ≤ 9223372036854775807 := by
      rw [← hq, Int.tdiv_eq_ediv_of_nonneg (by decide)]
      have h5 : (9223372036854775807 : Int) / a ≤ 9223372036854775807 := Int.ediv_le_self _ (by decide)
      have h6 : 0 ≤ (9223372036854775807 : Int) / a := Int.ediv_nonneg (by decide) (by omega)
      exact ⟨h6, h5⟩
    obtain ⟨q0, q1⟩ := hqb
    go_enter Try.func60, Try.ntmps60
    go_wp2_with fail
    go_ret
    exact ⟨rfl, rfl⟩
  · go_enter Try.func60, Try.ntmps60
    go_wp2_with fail
    go_ret
    exact ⟨rfl, rfl⟩

set_option maxRecDepth 100000 in
theorem wtimes_is {w0 mn mx r : Int} (h0 : 0 ≤ w0) (h1 : w0 ≤ 1073741824) (hm : 0 ≤ mn) (h20 : mn ≤ 20) (hx : mx = -1 ∨ 0 ≤ mx) (hx2 : mx ≤ 20) (hr : 1 + wstep 5 mn mx w0 = r) (w : World) : Calls Try.prog 53 #[.int .i64 w0, .int .i64 mn, .int .i64 mx] w fun e w' => e = .returned (.int .i64 r) ∧ w = w' := by
  unfold wstep at hr
  rcases hx with hx | hx
  · rw [if_pos ⟨rfl, hx⟩] at hr
    have b1 : (mx == -1) = true := by simp [hx]
    have p0 := Int.mul_nonneg h0 (show 0 ≤ mn + 1 by omega)
    have p1 := Int.mul_le_mul_of_nonneg_left (show mn + 1 ≤ 21 by omega) h0
    have e1 : IntKind.i64.wrap ((mn + 1) * w0) = (mn + 1) * w0 := by rw [IntKind.wrap_i64, Int.mul_comm]; omega
    have e2 : IntKind.i64.wrap (2 + (mn + 1) * w0) = r := by rw [IntKind.wrap_i64, Int.mul_comm]; omega
    clear hx hr
    go_enter Try.func53, Try.ntmps53
    go_wp2_with fail
    go_ret
    exact ⟨rfl, rfl⟩
  · rw [if_neg (by omega), if_pos rfl] at hr
    have b1 : (mx == -1) = false := by simp; omega
    have p0 := Int.mul_nonneg (show 0 ≤ w0 + 2 by omega) hx
    have p1 := Int.mul_le_mul_of_nonneg_left hx2 (show 0 ≤ w0 + 2 by omega)
    have e1 : IntKind.i64.wrap (mx * (w0 + 2)) = mx * (w0 + 2) := by rw [IntKind.wrap_i64, Int.mul_comm]; omega
    have e2 : IntKind.i64.wrap (1 + mx * (w0 + 2)) = r := by rw [IntKind.wrap_i64, Int.mul_comm]; omega
    clear hr
    go_enter Try.func53, Try.ntmps53
    go_wp2_with fail
    go_ret
    exact ⟨rfl, rfl⟩
end Go.Proofs.Ytblijgcfelnlmaa.P09
/- The document's Size and Wide (layer 9). -/
namespace Go.Proofs.Ytblijgcfelnlmaa.P09
open Go.RowKit Go.Proofs.Ytblijgcfelnlmaa.Base Go.Proofs.Ytblijgcfelnlmaa.Bytes Go.Proofs.Ytblijgcfelnlmaa.P07 Go.Proofs.Ytblijgcfelnlmaa.P08
open Go.Proofs.Ytblijgcfelnlmaa.Sets (ST)

set_option maxRecDepth 100000 in
set_option maxHeartbeats 2000000 in
theorem fsize_all : ∀ (n : Nat) (t : T), SizeOf.sizeOf t < n → cnt t ≤ 1000000000 → ∀ (a : Option Addr) (c : Nat) (w : World), Lie w (fun _ => True) a t.subs →
    Calls Try.prog 19 #[nodeV t a c] w fun e w' => e = .returned (.int .i64 (cnt t)) ∧ Keep (fun _ => False) w w'
  | 0, _, h, _, _, _, _, _ => absurd h (Nat.not_lt_zero _)
  | n + 1, t, h, hc, a, c, w, hL => by
    have hlen := hL.len
    have H0 := Lib.hid (And.intro ((Keep.refl (fun _ => False) w).alloc (.cells (ncells t a c) 27)) (And.intro (Bx.new (c := c) hL) (fsize_all n)))
    have e : cnt t = 1 + cntL t.subs := cnt_eq t
    obtain ⟨C, hC⟩ : ∃ C, cnt t = C := ⟨_, rfl⟩
    rw [hC] at e hc ⊢
    have HE := Lib.hid (And.intro e (cntL_pre t.subs))
    have HN := Lib.hid h
    clear hL e hC h
    go_enter Try.func19, Try.ntmps19
    go_upto_region 1 with fail
    generalize (w.alloc (.cells (ncells t a c) 27)) = W at *
    generalize w.heap.size = n0 at *
    go_wp2_with fail
    go_loopg [3, 4] t.subs.length (fun gg m i wr => ∃ (k : Nat) (M : Nat), i = .int .i64 k ∧ k + gg = t.subs.length ∧ m = .int .i64 M ∧ M = 1 + cntL (t.subs.take k) ∧ Keep (fun _ => False) W wr)
    case atStart => exact ⟨0, 1, rfl, by omega, rfl, by rw [List.take_zero, cntL], Keep.refl _ _⟩
    case round =>
      obtain ⟨k, M, rfl, hk, rfl, hM, hq⟩ := hrel
      have B1 := H0.out.2.1.keep hq
      obtain ⟨-, -, -, -, -, -, -, c7⟩ := B1.eight
      by_cases hlt : k < t.subs.length
      · have hlt' : (k : Int) < t.subs.length := by omega
        have i0 : (0 : Int) ≤ k := by omega
        obtain ⟨s, hs⟩ : ∃ s, t.subs[k]? = some s := ⟨t.subs[k], List.getElem?_eq_getElem hlt⟩
        obtain ⟨bl, off, a1, e1, rfl, L1, d0, d1, d2, d3, d4, d5, d6, d7⟩ := B1.sub hs
        have hsl := sub_less hs
        have hcs := cntL_le hs
        have ht := cntL_take hs
        have hpre := HE.out.2 (k + 1)
        have he := HE.out.1
        have hcall := H0.out.2.2 s (by have := HN.out; omega) (by omega) a1 e1 wr L1
        obtain ⟨Y, hY⟩ : ∃ Y, cnt s = Y := ⟨_, rfl⟩
        rw [hY] at hcall ht
        have hMb : M + Y ≤ 1000000000 := by omega
        have HQ := Lib.hid (And.intro hq (And.intro hcall (And.intro ht hM)))
        clear hq hcall ht hM B1 hs hcs hpre he hY
        go_wp2_with fail
        refine HQ.out.2.1.mono ?_
        rintro e w2 ⟨rfl, q2⟩
        have Q2 := Lib.hid (HQ.out.1.trans q2)
        clear q2 c7 d0 d1 d2 d3 d4 d5 d6 d7
        go_wp2_with fail
        go_roundg (t.subs.length - (k + 1))
        case measure => omega
        case rel => exact ⟨k + 1, M + Y, by go_num, by omega, by go_num, by have := HQ.out.2.2; omega, Q2.out⟩
      · have hke : k = t.subs.length := by omega
        subst hke
        rw [List.take_length] at hM
        have HQ := Lib.hid (And.intro hq hM)
        clear hq hM B1
        go_wp2_with fail
        go_ret
        exact ⟨by rw [HE.out.1, HQ.out.2]; rfl, H0.out.1.trans HQ.out.1⟩
theorem fsize_any (t : T) (hc : cnt t ≤ 1000000000) (a : Option Addr) (c : Nat) (w : World) (hL : Lie w (fun _ => True) a t.subs) : Calls Try.prog 19 #[nodeV t a c] w fun e w' => e = .returned (.int .i64 (cnt t)) ∧ Keep (fun _ => False) w w' :=
  fsize_all _ t (Nat.lt_succ_self _) hc a c w hL
end Go.Proofs.Ytblijgcfelnlmaa.P09
