/- Plain: which texts an expression matches, by definition; that the document's lengths, first bytes and 'nothing' are those of these texts. -/
import Derived.Test.YthcjfgfbeollpaaKG31
namespace Go.Proofs.Ythcjfgfbeollpaa.P10
open Go.Proofs.Ythcjfgfbeollpaa.P07 Go.Proofs.Ythcjfgfbeollpaa.P08 Go.Proofs.Ythcjfgfbeollpaa.P09 Go.Proofs.Ythcjfgfbeollpaa.Bytes
open Go.Proofs.Ythcjfgfbeollpaa.Sets (ST)

/-- So many, one behind the other. -/
def Pow (P : List UInt8 → Prop) : Nat → List UInt8 → Prop
  | 0, w => w = []
  | n + 1, w => ∃ u v, w = u ++ v ∧ P u ∧ Pow P n v
mutual
/-- It matches the text. -/
def Mat : T → List UInt8 → Prop
  | .nd k s mn mx l => fun w => (k = 1 ∧ w = []) ∨ (k = 2 ∧ ∃ b : UInt8, w = [b] ∧ s.has b.toNat = true) ∨ (k = 3 ∧ MCat l w) ∨ (k = 4 ∧ MAlt l w) ∨ (k = 5 ∧ ∃ n : Nat, mn ≤ n ∧ (mx < 0 ∨ (n : Int) ≤ mx) ∧ Pow (MHd l) n w)
def MCat : List T → List UInt8 → Prop
  | [] => fun w => w = []
  | t :: l => fun w => ∃ u v, w = u ++ v ∧ Mat t u ∧ MCat l v
def MAlt : List T → List UInt8 → Prop
  | [] => fun _ => False
  | t :: l => fun w => Mat t w ∨ MAlt l w
def MHd : List T → List UInt8 → Prop
  | [] => fun _ => False
  | t :: _ => fun w => Mat t w
end
theorem mcat_nil (w : List UInt8) : MCat [] w ↔ w = [] := by rw [MCat]
theorem mcat_cons (t : T) (l : List T) (w : List UInt8) : MCat (t :: l) w ↔ ∃ u v, w = u ++ v ∧ Mat t u ∧ MCat l v := by rw [MCat]
theorem malt_nil (w : List UInt8) : ¬ MAlt [] w := by rw [MAlt]; exact fun h => h
theorem malt_cons (t : T) (l : List T) (w : List UInt8) : MAlt (t :: l) w ↔ Mat t w ∨ MAlt l w := by rw [MAlt]
theorem mhd_cons (t : T) (l : List T) (w : List UInt8) : MHd (t :: l) w ↔ Mat t w := by rw [MHd]
theorem mat_nd (k : Int) (s : ST) (mn mx : Int) (l : List T) (w : List UInt8) : Mat (.nd k s mn mx l) w ↔ (k = 1 ∧ w = []) ∨ (k = 2 ∧ ∃ b : UInt8, w = [b] ∧ s.has b.toNat = true) ∨ (k = 3 ∧ MCat l w) ∨ (k = 4 ∧ MAlt l w) ∨ (k = 5 ∧ ∃ n : Nat, mn ≤ n ∧ (mx < 0 ∨ (n : Int) ≤ mx) ∧ Pow (MHd l) n w) := by rw [Mat]
theorem mat_1 (s : ST) (mn mx : Int) (l : List T) (w : List UInt8) : Mat (.nd 1 s mn mx l) w ↔ w = [] := by
  rw [mat_nd]
  constructor
  · rintro (h | h | h | h | h)
    · exact h.2
    · omega
    · omega
    · omega
    · omega
  · exact fun h => .inl ⟨rfl, h⟩
theorem mat_2 (s : ST) (mn mx : Int) (l : List T) (w : List UInt8) : Mat (.nd 2 s mn mx l) w ↔ ∃ b : UInt8, w = [b] ∧ s.has b.toNat = true := by
  rw [mat_nd]
  constructor
  · rintro (h | h | h | h | h)
    · omega
    · exact h.2
    · omega
    · omega
    · omega
  · exact fun h => .inr (.inl ⟨rfl, h⟩)
theorem mat_3 (s : ST) (mn mx : Int) (l : List T) (w : List UInt8) : Mat (.nd 3 s mn mx l) w ↔ MCat l w := by
  rw [mat_nd]
  constructor
  · rintro (h | h | h | h | h)
    · omega
    · omega
    · exact h.2
    · omega
    · omega
  · exact fun h => .inr (.inr (.inl ⟨rfl, h⟩))
theorem mat_4 (s : ST) (mn mx : Int) (l : List T) (w : List UInt8) : Mat (.nd 4 s mn mx l) w ↔ MAlt l w := by
  rw [mat_nd]
  constructor
  · rintro (h | h | h | h | h)
    · omega
    · omega
    · omega
    · exact h.2
    · omega
  · exact fun h => .inr (.inr (.inr (.inl ⟨rfl, h⟩)))
theorem mat_5 (s : ST) (mn mx : Int) (l : List T) (w : List UInt8) : Mat (.nd 5 s mn mx l) w ↔ ∃ n : Nat, mn ≤ n ∧ (mx < 0 ∨ (n : Int) ≤ mx) ∧ Pow (MHd l) n w := by
  rw [mat_nd]
  constructor
  · rintro (h | h | h | h | h)
    · omega
    · omega
    · omega
    · omega
    · exact h.2
  · exact fun h => .inr (.inr (.inr (.inr ⟨rfl, h⟩)))

theorem Pow.congr {P Q : List UInt8 → Prop} (h : ∀ w, P w ↔ Q w) : ∀ (n : Nat) (w : List UInt8), Pow P n w ↔ Pow Q n w
  | 0, w => Iff.rfl
  | n + 1, w => by
    constructor
    · rintro ⟨u, v, rfl, h1, h2⟩
      exact ⟨u, v, rfl, (h u).1 h1, (Pow.congr h n v).1 h2⟩
    · rintro ⟨u, v, rfl, h1, h2⟩
      exact ⟨u, v, rfl, (h u).2 h1, (Pow.congr h n v).2 h2⟩
theorem Pow.mono {P Q : List UInt8 → Prop} (h : ∀ w, P w → Q w) : ∀ (n : Nat) (w : List UInt8), Pow P n w → Pow Q n w
  | 0, _, h0 => h0
  | n + 1, _, ⟨u, v, e, h1, h2⟩ => ⟨u, v, e, h u h1, Pow.mono h n v h2⟩
theorem Pow.one {P : List UInt8 → Prop} (w : List UInt8) : Pow P 1 w ↔ P w := by
  constructor
  · rintro ⟨u, v, rfl, h, rfl⟩
    rw [List.append_nil]
    exact h
  · exact fun h => ⟨w, [], by simp, h, rfl⟩
theorem Pow.add {P : List UInt8 → Prop} : ∀ (n m : Nat) (u v : List UInt8), Pow P n u → Pow P m v → Pow P (n + m) (u ++ v)
  | 0, m, u, v, hu, hv => by
    rw [show u = [] from hu, Nat.zero_add]
    exact hv
  | n + 1, m, u, v, ⟨a, b, e, h1, h2⟩, hv => by
    rw [show n + 1 + m = (n + m) + 1 by omega, e, List.append_assoc]
    exact ⟨a, b ++ v, rfl, h1, Pow.add n m b v h2 hv⟩
theorem Pow.nil {P : List UInt8 → Prop} (h : P []) : ∀ n, Pow P n []
  | 0 => rfl
  | n + 1 => ⟨[], [], rfl, h, Pow.nil h n⟩
/-- Empty pieces may be left out. -/
theorem Pow.short {P : List UInt8 → Prop} : ∀ (n : Nat) (w : List UInt8), Pow P n w → ∃ m, m ≤ n ∧ m ≤ w.length ∧ (m < n → P []) ∧ Pow P m w
  | 0, w, h => ⟨0, Nat.le_refl 0, Nat.zero_le _, fun h => absurd h (Nat.lt_irrefl 0), h⟩
  | n + 1, w, ⟨u, v, e, h1, h2⟩ => by
    obtain ⟨m, hm, hl, hP, hv⟩ := Pow.short n v h2
    cases u with
    | nil =>
      refine ⟨m, by omega, by rw [e]; exact hl, fun _ => h1, ?_⟩
      rw [e]
      exact hv
    | cons a u =>
      refine ⟨m + 1, by omega, by rw [e]; simp; omega, fun h => hP (by omega), a :: u, v, e, h1, hv⟩
/-- .. or put in. -/
theorem Pow.more {P : List UInt8 → Prop} (h : P []) {n m : Nat} (hm : n ≤ m) {w : List UInt8} (hw : Pow P n w) : Pow P m w := by
  have := Pow.add (m - n) n [] w (Pow.nil h _) hw
  rw [Nat.sub_add_cancel hm] at this
  exact this
/-- Of texts of pieces, one behind the other. -/
theorem Pow.flat {P Q : List UInt8 → Prop} (hP : ∀ w, P w → ∃ n, Pow Q n w) : ∀ (n : Nat) (w : List UInt8), Pow P n w → ∃ m, Pow Q m w
  | 0, w, h => ⟨0, h⟩
  | n + 1, w, ⟨u, v, e, h1, h2⟩ => by
    obtain ⟨a, ha⟩ := hP u h1
    obtain ⟨b, hb⟩ := Pow.flat hP n v h2
    exact ⟨a + b, by rw [e]; exact Pow.add a b u v ha hb⟩

theorem set_any {s : ST} (hs : s.Ok) : eqB s ST.none = false ↔ ∃ b : UInt8, s.has b.toNat = true := by
  constructor
  · intro h
    refine Classical.byContradiction fun hn => ?_
    have e : s = ST.none := ST.ext hs ST.none_ok fun b hb => by
      rw [ST.has_none]
      cases e : s.has b with
      | false => rfl
      | true => exact absurd ⟨UInt8.ofNat b, by rw [UInt8.toNat_ofNat_of_lt' (by simpa using hb)]; exact e⟩ hn
    rw [e, eqB_refl] at h
    cases h
  · rintro ⟨b, hb⟩
    cases e : eqB s ST.none with
    | false => rfl
    | true =>
      rw [eqB_iff.1 e, ST.has_none] at hb
      cases hb

/-- What an expression's texts say of its lengths, up to m. -/
def LenOk (m : Nat) (P : List UInt8 → Prop) (L : List Bool) : Prop := ∀ k, Hs L k ↔ k ≤ m ∧ ∃ w, w.length = k ∧ P w
theorem LenOk.join {m : Nat} {P Q : List UInt8 → Prop} {a b : List Bool} (ha : a.length = m + 1) (hP : LenOk m P a) (hQ : LenOk m Q b) : LenOk m (fun w => ∃ u v, w = u ++ v ∧ P u ∧ Q v) (joinB a b) := fun k => by
  rw [hs_join, ha]
  constructor
  · rintro ⟨hk, i, j, rfl, hi, hj⟩
    obtain ⟨-, u, rfl, hu⟩ := (hP i).1 hi
    obtain ⟨-, v, rfl, hv⟩ := (hQ j).1 hj
    exact ⟨by omega, u ++ v, by simp, u, v, rfl, hu, hv⟩
  · rintro ⟨hk, w, rfl, u, v, rfl, hu, hv⟩
    rw [List.length_append] at hk ⊢
    exact ⟨by omega, u.length, v.length, rfl, (hP _).2 ⟨by omega, u, rfl, hu⟩, (hQ _).2 ⟨by omega, v, rfl, hv⟩⟩
theorem LenOk.or {m : Nat} {P Q : List UInt8 → Prop} {a b : List Bool} (hl : b.length = a.length) (hP : LenOk m P a) (hQ : LenOk m Q b) : LenOk m (fun w => P w ∨ Q w) (orB a b) := fun k => by
  rw [hs_or hl, hP k, hQ k]
  constructor
  · rintro (⟨h, w, e, h1⟩ | ⟨h, w, e, h1⟩)
    · exact ⟨h, w, e, .inl h1⟩
    · exact ⟨h, w, e, .inr h1⟩
  · rintro ⟨h, w, e, h1 | h1⟩
    · exact .inl ⟨h, w, e, h1⟩
    · exact .inr ⟨h, w, e, h1⟩
theorem LenOk.congr {m : Nat} {P Q : List UInt8 → Prop} {a : List Bool} (hP : LenOk m P a) (h : ∀ w, P w ↔ Q w) : LenOk m Q a := fun k => by
  rw [hP k]
  constructor
  · rintro ⟨h1, w, e, h2⟩
    exact ⟨h1, w, e, (h w).1 h2⟩
  · rintro ⟨h1, w, e, h2⟩
    exact ⟨h1, w, e, (h w).2 h2⟩
theorem LenOk.eps (m : Nat) : LenOk m (fun w => w = []) (oneB0 m) := fun k => by
  rw [hs_one]
  constructor
  · rintro rfl
    exact ⟨Nat.zero_le _, [], rfl, rfl⟩
  · rintro ⟨-, w, rfl, rfl⟩
    rfl
theorem LenOk.no (m : Nat) : LenOk m (fun _ => False) (noB m) := fun k => by
  constructor
  · exact fun h => absurd h hs_no
  · rintro ⟨-, w, -, h⟩
    exact h.elim
theorem LenOk.pow {m : Nat} {mn : Int} {P : List UInt8 → Prop} {L : List Bool} (hP : LenOk m P L) : ∀ n, LenOk m (Pow P n) (repS m mn L n).2
  | 0 => LenOk.eps m
  | n + 1 => by
    rw [repS]
    refine (LenOk.join (repS_length m mn L n).2 (LenOk.pow hP n) hP).congr fun w => ?_
    constructor
    · rintro ⟨u, v, rfl, hu, hv⟩
      exact Pow.add n 1 u v hu ((Pow.one v).2 hv)
    · intro h
      have key : ∀ (n : Nat) (w : List UInt8), Pow P (n + 1) w → ∃ u v, w = u ++ v ∧ Pow P n u ∧ P v := fun n => by
        induction n with
        | zero =>
          intro w h
          exact ⟨[], w, rfl, rfl, (Pow.one w).1 h⟩
        | succ n ih =>
          rintro w ⟨u, v, rfl, hu, hv⟩
          obtain ⟨a, b, rfl, ha, hb⟩ := ih v hv
          exact ⟨u ++ a, b, by simp, ⟨u, a, rfl, hu, ha⟩, hb⟩
      exact key n w h

mutual
theorem lens_mat (m : Nat) : ∀ (t : T) (d : Nat), RT d t → LenOk m (Mat t) (lens m t)
  | .nd k s mn mx l, d, h => by
    obtain ⟨hb, hs, hl⟩ := h.bare
    have eL := lens_eq m (.nd k s mn mx l)
    unfold T.kind T.set T.mn T.mx T.subs at eL
    dsimp only at eL
    rw [eL]
    by_cases h1 : k = 1
    · rw [if_pos h1]
      subst h1
      exact (LenOk.eps m).congr fun w => (mat_1 s mn mx l w).symm
    rw [if_neg h1]
    by_cases h2 : k = 2
    · rw [if_pos h2]
      subst h2
      refine LenOk.congr (P := fun w => ∃ b : UInt8, w = [b] ∧ s.has b.toNat = true) ?_ fun w => (mat_2 s mn mx l w).symm
      intro i
      have hex : (∃ w : List UInt8, w.length = i ∧ ∃ b : UInt8, w = [b] ∧ s.has b.toNat = true) ↔ i = 1 ∧ eqB s ST.none = false := by
        rw [set_any hs]
        constructor
        · rintro ⟨w, rfl, b, rfl, hb⟩
          exact ⟨rfl, b, hb⟩
        · rintro ⟨rfl, b, hb⟩
          exact ⟨[b], rfl, b, rfl, hb⟩
      rw [hex]
      by_cases hm : 1 ≤ m
      · rw [if_pos hm]
        by_cases hi : i = 1
        · subst hi
          rw [hs_of (b := !eqB s ST.none) (by rw [List.getElem?_set, if_pos rfl, if_pos (by rw [noB_length]; omega)])]
          cases eqB s ST.none <;> simp [hm]
        · constructor
          · intro hh
            have hlt := hh.lt
            rw [List.length_set, noB_length] at hlt
            have := (hs_of (b := false) (by rw [List.getElem?_set, if_neg (by omega)]; simp [noB, hlt])).1 hh
            cases this
          · rintro ⟨-, h3, -⟩
            exact absurd h3 hi
      · rw [if_neg hm]
        constructor
        · exact fun h => absurd h hs_no
        · rintro ⟨h3, h4, -⟩
          omega
    rw [if_neg h2]
    by_cases h3 : k = 3
    · rw [if_pos h3]
      subst h3
      refine (cat_mat m l d 3 hl _ _ (oneB0_length m) (LenOk.eps m)).congr fun w => ?_
      rw [mat_3]
      constructor
      · rintro ⟨u, v, rfl, rfl, h⟩
        exact h
      · exact fun h => ⟨[], w, rfl, rfl, h⟩
    rw [if_neg h3]
    by_cases h4 : k = 4
    · rw [if_pos h4]
      subst h4
      refine (alt_mat m l d 4 hl _ _ (noB_length m) (LenOk.no m)).congr fun w => ?_
      rw [mat_4]
      constructor
      · rintro (h | h)
        · exact h.elim
        · exact h
      · exact fun h => .inr h
    rw [if_neg h4]
    by_cases h5 : k = 5
    · rw [if_pos h5]
      obtain ⟨a, rfl, b0, b1, bx, ha⟩ := one_sub h h5
      subst h5
      have ih := lens_mat m a d (IS.rt (k := 5) ha)
      rw [headB]
      intro i
      show Hs (repS m mn (lens m a) (lastN m mn mx + 1).toNat).1 i ↔ _
      rw [rep_one]
      constructor
      · rintro ⟨q, h6, h7, h8⟩
        obtain ⟨h9, w, rfl, hw⟩ := (LenOk.pow ih q i).1 h8
        refine ⟨h9, w, rfl, (mat_5 s mn mx [a] w).2 ⟨q, h7, ?_, ?_⟩⟩
        · unfold lastN at h6
          split at h6 <;> omega
        · exact Pow.mono (fun w h => (mhd_cons a [] w).2 h) q w hw
      · rintro ⟨h9, w, rfl, hw⟩
        obtain ⟨q, h7, h8, hq⟩ := (mat_5 s mn mx [a] w).1 hw
        have hq := Pow.mono (fun w h => (mhd_cons a [] w).1 h) q w hq
        by_cases hx : mx < 0
        · obtain ⟨p, hp1, hp2, hp3, hp4⟩ := Pow.short q w hq
          by_cases hpm : mn ≤ p
          · refine ⟨p, ?_, hpm, (LenOk.pow ih p _).2 ⟨h9, w, rfl, hp4⟩⟩
            unfold lastN
            rw [if_pos hx]
            omega
          · obtain ⟨n, rfl⟩ : ∃ n : Nat, mn = n := ⟨mn.toNat, by omega⟩
            refine ⟨n, ?_, Int.le_refl _, (LenOk.pow ih n _).2 ⟨h9, w, rfl, Pow.more (hp3 (by omega)) (by omega) hp4⟩⟩
            unfold lastN
            rw [if_pos hx]
            omega
        · refine ⟨q, ?_, h7, (LenOk.pow ih q _).2 ⟨h9, w, rfl, hq⟩⟩
          unfold lastN
          rw [if_neg hx]
          omega
    · exfalso
      unfold Bare at hb
      omega
theorem cat_mat (m : Nat) : ∀ (l : List T) (d : Nat) (k : Int), RL d k l → ∀ (acc : List Bool) (P : List UInt8 → Prop), acc.length = m + 1 → LenOk m P acc → LenOk m (fun w => ∃ u v, w = u ++ v ∧ P u ∧ MCat l v) (catB m acc l)
  | [], d, k, _, acc, P, _, hP => by
    rw [catB]
    refine hP.congr fun w => ?_
    constructor
    · exact fun h => ⟨w, [], by simp, h, (mcat_nil []).2 rfl⟩
    · rintro ⟨u, v, rfl, hu, hv⟩
      rw [(mcat_nil v).1 hv, List.append_nil]
      exact hu
  | t :: l, d, k, hR, acc, P, hal, hP => by
    obtain ⟨h1, h2⟩ := RL_cons hR
    have ih := lens_mat m t d (IS.rt (k := k) h1)
    rw [catB]
    refine (cat_mat m l d k h2 _ _ (by rw [joinB_length]; exact hal) (LenOk.join hal hP ih)).congr fun w => ?_
    constructor
    · rintro ⟨-, v, rfl, ⟨a, b, rfl, ha, hb⟩, hv⟩
      exact ⟨a, b ++ v, by simp, ha, (mcat_cons t l _).2 ⟨b, v, rfl, hb, hv⟩⟩
    · rintro ⟨u, v, rfl, hu, hv⟩
      obtain ⟨a, b, rfl, ha, hb⟩ := (mcat_cons t l _).1 hv
      exact ⟨u ++ a, b, by simp, ⟨u, a, rfl, hu, ha⟩, hb⟩
theorem alt_mat (m : Nat) : ∀ (l : List T) (d : Nat) (k : Int), RL d k l → ∀ (acc : List Bool) (P : List UInt8 → Prop), acc.length = m + 1 → LenOk m P acc → LenOk m (fun w => P w ∨ MAlt l w) (altB m acc l)
  | [], d, k, _, acc, P, _, hP => by
    rw [altB]
    refine hP.congr fun w => ?_
    constructor
    · exact fun h => .inl h
    · rintro (h | h)
      · exact h
      · exact absurd h (malt_nil w)
  | t :: l, d, k, hR, acc, P, hal, hP => by
    obtain ⟨h1, h2⟩ := RL_cons hR
    have ih := lens_mat m t d (IS.rt (k := k) h1)
    rw [altB]
    refine (alt_mat m l d k h2 _ _ (by unfold orB; rw [OP_length]; exact hal) (LenOk.or (by rw [lens_length, hal]) hP ih)).congr fun w => ?_
    rw [malt_cons]
    exact or_assoc
end

/-- Nothing is matched, as the document says. -/
theorem none_mat {t : T} {d : Nat} (h : RT d t) : noneB t = true ↔ ∀ w, ¬ Mat t w := by
  have hlb := least_bnd t d h
  constructor
  · intro hn w hw
    have h1 := (lens_mat w.length t d h w.length).2 ⟨Nat.le_refl _, w, rfl, hw⟩
    exact (lens_facts w.length t d h).no hn w.length h1
  · intro hw
    cases hn : noneB t with
    | true => rfl
    | false =>
      have h0 := hlb.2.1 hn
      obtain ⟨-, w, -, h1⟩ := (lens_mat (leastI t).toNat t d h (leastI t).toNat).1 ((lens_facts (leastI t).toNat t d h).at_ hn (by omega))
      exact absurd h1 (hw w)
/-- The empty text is matched. -/
theorem null_mat {t : T} {d : Nat} (h : RT d t) : nullB t = true ↔ Mat t [] := by
  show Hs (lens 0 t) 0 ↔ _
  rw [lens_mat 0 t d h 0]
  constructor
  · rintro ⟨-, w, h1, h2⟩
    rw [List.eq_nil_of_length_eq_zero h1] at h2
    exact h2
  · exact fun h => ⟨Nat.le_refl 0, [], rfl, h⟩
end Go.Proofs.Ythcjfgfbeollpaa.P10
/- Layer 10 (simplify), plain. Part 1: put together simply, as the document says (P10.1). -/
namespace Go.Proofs.Ythcjfgfbeollpaa.P10
open Go.Proofs.Ythcjfgfbeollpaa.P07 Go.Proofs.Ythcjfgfbeollpaa.P08 Go.Proofs.Ythcjfgfbeollpaa.P09 Go.Proofs.Ythcjfgfbeollpaa.Bytes
open Go.Proofs.Ythcjfgfbeollpaa.Sets (ST)

mutual
/-- Are two the same? -/
def sameB : T → T → Bool
  | .nd k s m x l, .nd k' s' m' x' l' => decide (k = k') && (eqB s s' && (decide (m = m') && (decide (x = x') && sameL l l')))
def sameL : List T → List T → Bool
  | [], [] => true
  | a :: l, b :: m => sameB a b && sameL l m
  | [], _ :: _ => false
  | _ :: _, [] => false
end
mutual
theorem sameB_iff : ∀ a b : T, sameB a b = true ↔ a = b
  | .nd k s m x l, .nd k' s' m' x' l' => by
    rw [sameB]
    simp only [Bool.and_eq_true, decide_eq_true_eq, eqB_iff, sameL_iff l l', T.nd.injEq]
theorem sameL_iff : ∀ a b : List T, sameL a b = true ↔ a = b
  | [], [] => by rw [sameL]; simp
  | a :: l, b :: m => by
    rw [sameL]
    simp only [Bool.and_eq_true, sameB_iff a b, sameL_iff l m, List.cons.injEq]
  | [], _ :: _ => by rw [sameL]; simp
  | _ :: _, [] => by rw [sameL]; simp
end

/-- Nothing: Class of the empty set. -/
def isNo (t : T) : Bool := decide (t.kind = 2) && eqB t.set ST.none
def noT : T := clsT ST.none
def epsT : T := .nd 1 ST.none 0 0 []
/-- Each of the kind gives its own parts in its place. -/
def unf (k : Int) (L : List T) : List T := L.flatMap fun t => if t.kind = k then t.subs else [t]
/-- Another one of none, the only one, or one of the kind. -/
def joinT (k : Int) (L : List T) (e : T) : T :=
  match L with
  | [] => e
  | [t] => t
  | a :: b :: l => .nd k ST.none 0 0 (a :: b :: l)
def catT (L : List T) : T := if (unf 3 L).any isNo then noT else joinT 3 ((unf 3 L).filter fun t => decide (t.kind ≠ 1)) epsT
/-- One more choice: what stands so far, and where all of Class stand. -/
def altS (A : List T × Option Nat) (t : T) : List T × Option Nat :=
  if isNo t = true then A
  else if t.kind = 2 then (match A.2 with
    | none => (A.1 ++ [clsT t.set], some A.1.length)
    | some i => (A.1.set i (clsT ((A.1.getD i noT).set.or t.set)), some i))
  else if A.1.any (sameB t) = true then A else (A.1 ++ [t], A.2)
def altF (L : List T) : List T × Option Nat := L.foldl altS ([], none)
def altT (L : List T) : T := joinT 4 (altF (unf 4 L)).1 noT
/-- Is it a repetition from 0 to -1? -/
def isSt (t : T) : Bool := decide (t.kind = 5 ∧ t.mn = 0 ∧ t.mx = -1)
mutual
/-- As often as may be. -/
def starT : T → T
  | .nd k s mn mx l => if k = 1 ∨ isNo (.nd k s mn mx l) = true then epsT else if isSt (.nd k s mn mx l) = true then .nd k s mn mx l
    else if k = 5 ∧ (mn = 0 ∨ mn = 1) ∧ l.length = 1 then starH l else .nd 5 ST.none 0 (-1) [.nd k s mn mx l]
def starH : List T → T
  | [] => epsT
  | t :: _ => starT t
end
def repP (t : T) (lo hi : Int) : T :=
  if hi = 0 ∨ t.kind = 1 ∨ (isNo t = true ∧ lo = 0) then epsT
  else if isNo t = true ∨ (lo = 1 ∧ hi = 1) ∨ isSt t = true then t
  else if lo = 0 ∧ hi = -1 then starT t
  else .nd 5 ST.none lo hi [t]
mutual
/-- The simple one. -/
def simT : T → T
  | .nd k s mn mx l => if k = 3 then catT (simL l) else if k = 4 then altT (simL l) else if k = 5 then simH mn mx l else .nd k s mn mx l
def simL : List T → List T
  | [] => []
  | t :: l => simT t :: simL l
def simH : Int → Int → List T → T
  | _, _, [] => noT
  | mn, mx, t :: _ => repP (simT t) mn mx
end
theorem mat_kind1 {t : T} (h : t.kind = 1) (w : List UInt8) : Mat t w ↔ w = [] := by
  cases t with
  | nd k s mn mx l =>
    have : k = 1 := h
    subst this
    exact mat_1 _ _ _ _ w
theorem mat_kind3 {t : T} (h : t.kind = 3) (w : List UInt8) : Mat t w ↔ MCat t.subs w := by
  cases t with
  | nd k s mn mx l =>
    have : k = 3 := h
    subst this
    exact mat_3 _ _ _ _ w
theorem mat_kind4 {t : T} (h : t.kind = 4) (w : List UInt8) : Mat t w ↔ MAlt t.subs w := by
  cases t with
  | nd k s mn mx l =>
    have : k = 4 := h
    subst this
    exact mat_4 _ _ _ _ w
theorem mat_kind2 {t : T} (h : t.kind = 2) (w : List UInt8) : Mat t w ↔ ∃ b : UInt8, w = [b] ∧ t.set.has b.toNat = true := by
  cases t with
  | nd k s mn mx l =>
    have : k = 2 := h
    subst this
    exact mat_2 _ _ _ _ w
end Go.Proofs.Ythcjfgfbeollpaa.P10
/- Layer 10 (simplify), plain. Part 2: what is simple; it is right, no greater, matches the same, and made simple again it is the same (P10.2). -/
namespace Go.Proofs.Ythcjfgfbeollpaa.P10
open Go.Proofs.Ythcjfgfbeollpaa.P07 Go.Proofs.Ythcjfgfbeollpaa.P08 Go.Proofs.Ythcjfgfbeollpaa.P09 Go.Proofs.Ythcjfgfbeollpaa.Bytes
open Go.Proofs.Ythcjfgfbeollpaa.Sets (ST)

/-- Choices that are put together: none is nothing, an Alt or there twice; one Class at most. -/
structure Alo (L : List T) (c : Option Nat) : Prop where
  no : ∀ t ∈ L, isNo t = false
  four : ∀ t ∈ L, t.kind ≠ 4
  dup : ∀ (i j : Nat) (t : T), L[i]? = some t → L[j]? = some t → i = j
  cl : ∀ (i : Nat) (t : T), L[i]? = some t → t.kind = 2 → c = some i
  at_ : ∀ i : Nat, c = some i → ∃ s : ST, s.Ok ∧ L[i]? = some (clsT s)
/-- Is it a repetition that tells nothing within one from 0 to -1? -/
def needs (t : T) : Prop := t.kind = 5 ∧ (t.mn = 0 ∨ t.mn = 1) ∧ t.subs.length = 1
mutual
/-- Simple. -/
def Smp : T → Prop
  | .nd k _ mn mx l => SmpL l ∧ (k = 3 → ∀ t ∈ l, t.kind ≠ 3 ∧ t.kind ≠ 1 ∧ isNo t = false) ∧ (k = 4 → ∃ c, Alo l c)
    ∧ (k = 5 → mx ≠ 0 ∧ ∀ t ∈ l, t.kind ≠ 1 ∧ isNo t = false ∧ ¬ (mn = 1 ∧ mx = 1) ∧ isSt t = false ∧ (mn = 0 → mx = -1 → ¬ needs t))
def SmpL : List T → Prop
  | [] => True
  | t :: l => Smp t ∧ SmpL l
end
theorem rl_iff {d : Nat} {k : Int} {L : List T} : RL d k L ↔ ∀ t ∈ L, IS d k t := by
  constructor
  · intro h t ht
    induction L with
    | nil => cases ht
    | cons a L ih =>
      obtain ⟨h1, h2⟩ := RL_cons h
      rcases List.mem_cons.1 ht with rfl | ht
      · exact h1
      · exact ih h2 ht
  · exact RL_all L
theorem epsT_rt (d : Nat) : RT d epsT := by
  unfold epsT
  rw [RT]
  exact ⟨.inl ⟨rfl, rfl, rfl, rfl, rfl⟩, ST.none_ok, by rw [RL]; trivial⟩
/-- A right Class, a right Empty, are just that. -/
theorem cls_is {d : Nat} {t : T} (h : RT d t) (hk : t.kind = 2) : t = clsT t.set ∧ t.set.Ok := by
  cases t with
  | nd k s mn mx l =>
    obtain ⟨hb, hs, hl⟩ := h.bare
    have : k = 2 := hk
    subst this
    unfold Bare at hb
    have e : l = [] := List.eq_nil_of_length_eq_zero (by omega)
    have e2 : mn = 0 ∧ mx = 0 := by omega
    subst e
    rw [e2.1, e2.2]
    exact ⟨rfl, hs⟩
theorem eps_is {d : Nat} {t : T} (h : RT d t) (hk : t.kind = 1) : t = epsT := by
  cases t with
  | nd k s mn mx l =>
    obtain ⟨hb, hs, hl⟩ := h.bare
    have : k = 1 := hk
    subst this
    unfold Bare at hb
    rcases hb with h | h | h | h
    · obtain ⟨-, rfl, rfl, rfl, h0⟩ := h
      rw [List.eq_nil_of_length_eq_zero h0]
      rfl
    · omega
    · omega
    · omega
theorem kinds {d : Nat} {t : T} (h : RT d t) : t.kind = 1 ∨ t.kind = 2 ∨ t.kind = 3 ∨ t.kind = 4 ∨ t.kind = 5 := by
  cases t with
  | nd k s mn mx l =>
    obtain ⟨hb, -, -⟩ := h.bare
    show k = 1 ∨ k = 2 ∨ k = 3 ∨ k = 4 ∨ k = 5
    unfold Bare at hb
    omega
theorem many_is {d : Nat} {t : T} (h : RT d t) (hk : t.kind = 3 ∨ t.kind = 4) : t = .nd t.kind ST.none 0 0 t.subs ∧ 2 ≤ t.subs.length := by
  cases t with
  | nd k s mn mx l =>
    obtain ⟨hb, -, -⟩ := h.bare
    unfold T.kind T.subs at *
    dsimp only at *
    unfold Bare at hb
    rcases hb with h | h | h | h
    · omega
    · omega
    · obtain ⟨-, rfl, rfl, rfl, h0⟩ := h
      exact ⟨rfl, h0⟩
    · omega
theorem rep_is {d : Nat} {t : T} (h : RT d t) (hk : t.kind = 5) : ∃ a mn mx, t = .nd 5 ST.none mn mx [a] ∧ 0 ≤ mn ∧ mn ≤ 20 ∧ (mx = -1 ∨ mn ≤ mx ∧ mx ≤ 20) ∧ IS d 5 a := by
  cases t with
  | nd k s mn mx l =>
    have : k = 5 := hk
    subst this
    obtain ⟨a, rfl, b0, b1, bx, ha⟩ := one_sub h rfl
    obtain ⟨hb, -, -⟩ := h.bare
    unfold Bare at hb
    have hs : s = ST.none := by
      rcases hb with h | h | h | h
      · omega
      · omega
      · omega
      · exact h.2.1
    rw [hs]
    exact ⟨a, mn, mx, rfl, b0, b1, bx, ha⟩

end Go.Proofs.Ythcjfgfbeollpaa.P10
/- Layer 10 (simplify), plain. Part 3: repetitions; the consequences (P10.2); put together with nothing, or with Empty. -/
namespace Go.Proofs.Ythcjfgfbeollpaa.P10
open Go.Proofs.Ythcjfgfbeollpaa.P07 Go.Proofs.Ythcjfgfbeollpaa.P08 Go.Proofs.Ythcjfgfbeollpaa.P09 Go.Proofs.Ythcjfgfbeollpaa.Bytes
open Go.Proofs.Ythcjfgfbeollpaa.Sets (ST)

/-- What is told of a simple one that was made of another one. -/
structure SimOk (d : Nat) (t m : T) : Prop where
  rt : RT d m
  smp : Smp m
  cnt : cnt m ≤ cnt t
  mat : ∀ w, Mat m w ↔ Mat t w

theorem mat_rep (a : T) (mn mx : Int) (w : List UInt8) : Mat (.nd 5 ST.none mn mx [a]) w ↔ ∃ n : Nat, mn ≤ n ∧ (mx < 0 ∨ (n : Int) ≤ mx) ∧ Pow (Mat a) n w := by
  rw [mat_5]
  have e : ∀ n w, Pow (MHd [a]) n w ↔ Pow (Mat a) n w := fun n w => Pow.congr (fun w => mhd_cons a [] w) n w
  simp only [e]
/-- As often as may be. -/
structure StarOk (d : Nat) (a r : T) : Prop where
  what : r = epsT ∨ (∃ b, r = b ∧ IS d 5 b ∧ b.kind = 5) ∨ ∃ b, r = .nd 5 ST.none 0 (-1) [b] ∧ IS d 5 b
  rt : RT d r
  smp : Smp r
  cnt : cnt r ≤ 1 + cnt a
  mat : ∀ w, Mat r w ↔ ∃ n : Nat, Pow (Mat a) n w
/-- So often. -/
structure RepOk (d : Nat) (a r : T) (mn mx : Int) : Prop where
  what : r = epsT ∨ r = a ∨ (r.kind = 5 ∧ RT d r)
  rt : RT d r
  smp : Smp r
  cnt : cnt r ≤ 1 + cnt a
  mat : ∀ w, Mat r w ↔ ∃ n : Nat, mn ≤ n ∧ (mx < 0 ∨ (n : Int) ≤ mx) ∧ Pow (Mat a) n w
theorem many_rt {d : Nat} {k : Int} (hk : k = 3 ∨ k = 4) {L : List T} (h2 : 2 ≤ L.length) (h : ∀ t ∈ L, IS d k t) : RT d (.nd k ST.none 0 0 L) := by
  rw [RT]
  exact ⟨.inr (.inr (.inl ⟨hk, rfl, rfl, rfl, h2⟩)), ST.none_ok, rl_iff.2 h⟩
theorem mcat_congr {f : T → T} : ∀ (L : List T), (∀ t ∈ L, ∀ w, Mat (f t) w ↔ Mat t w) → ∀ w, MCat (L.map f) w ↔ MCat L w
  | [], _, w => Iff.rfl
  | t :: L, h, w => by
    rw [List.map_cons, mcat_cons, mcat_cons]
    have h1 := h t (by simp)
    have h2 := mcat_congr L fun u hu => h u (by simp [hu])
    constructor
    · rintro ⟨u, v, e, hu, hv⟩
      exact ⟨u, v, e, (h1 u).1 hu, (h2 v).1 hv⟩
    · rintro ⟨u, v, e, hu, hv⟩
      exact ⟨u, v, e, (h1 u).2 hu, (h2 v).2 hv⟩
theorem malt_congr {f : T → T} : ∀ (L : List T), (∀ t ∈ L, ∀ w, Mat (f t) w ↔ Mat t w) → ∀ w, MAlt (L.map f) w ↔ MAlt L w
  | [], _, w => Iff.rfl
  | t :: L, h, w => by
    rw [List.map_cons, malt_cons, malt_cons, h t (by simp) w, malt_congr L (fun u hu => h u (by simp [hu])) w]
end Go.Proofs.Ythcjfgfbeollpaa.P10
