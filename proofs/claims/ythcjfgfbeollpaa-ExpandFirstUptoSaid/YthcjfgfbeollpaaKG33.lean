/- Layer 10 (simplify), plain. Part 4: made simple again it is the same; its matches have the same lengths, and begin alike; with nothing, with Empty. -/
import Derived.Test.YthcjfgfbeollpaaKG32
import Derived.Test.YthcjfgfbeollpaaKG28
import Derived.Test.YthcjfgfbeollpaaKG27
import Derived.Test.YthcjfgfbeollpaaKG30
namespace Go.Proofs.Ythcjfgfbeollpaa.P10
open Go.Proofs.Ythcjfgfbeollpaa.P07 Go.Proofs.Ythcjfgfbeollpaa.P08 Go.Proofs.Ythcjfgfbeollpaa.P09 Go.Proofs.Ythcjfgfbeollpaa.Bytes
open Go.Proofs.Ythcjfgfbeollpaa.Sets (ST)

/-- Two right ones that match the same: as many lengths, as the document counts them. -/
theorem none_same {t m : T} {d e : Nat} (ht : RT d t) (hm : RT e m) (h : ∀ w, Mat m w ↔ Mat t w) : noneB m = noneB t := by
  rw [Bool.eq_iff_iff, none_mat ht, none_mat hm]
  constructor
  · exact fun h1 w hw => h1 w ((h w).2 hw)
  · exact fun h1 w hw => h1 w ((h w).1 hw)
theorem lens_same {t m : T} {d e : Nat} (ht : RT d t) (hm : RT e m) (h : ∀ w, Mat m w ↔ Mat t w) (k : Nat) : lens k m = lens k t := by
  apply List.ext_getElem?
  intro i
  have h1 : Hs (lens k m) i ↔ Hs (lens k t) i := by
    rw [lens_mat k m e hm i, lens_mat k t d ht i]
    constructor
    · rintro ⟨h1, w, e, h2⟩
      exact ⟨h1, w, e, (h w).1 h2⟩
    · rintro ⟨h1, w, e, h2⟩
      exact ⟨h1, w, e, (h w).2 h2⟩
  have l1 := lens_length k m
  have l2 := lens_length k t
  by_cases hi : i < k + 1
  · have g1 : (lens k m)[i]? = some ((lens k m).getD i false) := by rw [List.getD_eq_getElem?_getD, List.getElem?_eq_getElem (by omega)]; rfl
    have g2 : (lens k t)[i]? = some ((lens k t).getD i false) := by rw [List.getD_eq_getElem?_getD, List.getElem?_eq_getElem (by omega)]; rfl
    rw [g1, g2]
    congr 1
    rw [Bool.eq_iff_iff]
    exact h1
  · rw [List.getElem?_eq_none (by omega), List.getElem?_eq_none (by omega)]
/-- The bytes with which a match may begin. -/
theorem cat_first_iff {d : Nat} : ∀ (l : List T), (∀ t ∈ l, RT d t ∧ noneB t = false ∧ (firstS t).Ok ∧ ∀ b : UInt8, (firstS t).has b.toNat = true ↔ ∃ w, Mat t (b :: w)) → ∀ acc : ST, acc.Ok → (catF acc l).Ok ∧ ∀ b : UInt8, (catF acc l).has b.toNat = true ↔ acc.has b.toNat = true ∨ ∃ w, MCat l (b :: w)
  | [], _, acc, ha => by
    rw [catF]
    refine ⟨ha, fun b => ⟨.inl, ?_⟩⟩
    rintro (h | ⟨w, hw⟩)
    · exact h
    · cases (mcat_nil _).1 hw
  | t :: l, h, acc, ha => by
    have h0 := h t (by simp)
    have hl : ∀ u ∈ l, RT d u ∧ noneB u = false ∧ (firstS u).Ok ∧ ∀ b : UInt8, (firstS u).has b.toNat = true ↔ ∃ w, Mat u (b :: w) := fun u hu => h u (by simp [hu])
    have hsome : ∃ w, MCat l w := by
      clear h0 h
      induction l with
      | nil => exact ⟨[], (mcat_nil []).2 rfl⟩
      | cons u l ih =>
        obtain ⟨v, hv⟩ := ih fun x hx => hl x (by simp [hx])
        have hu := hl u (by simp)
        obtain ⟨w, hw⟩ : ∃ w, Mat u w := Classical.byContradiction fun hn => by
          have := (none_mat hu.1).2 fun w hw => hn ⟨w, hw⟩
          rw [hu.2.1] at this
          cases this
        exact ⟨w ++ v, (mcat_cons u l _).2 ⟨w, v, rfl, hw, hv⟩⟩
    have hor : (acc.or (firstS t)).Ok := ST.or_ok ha h0.2.2.1
    have ho : ∀ b : UInt8, (acc.or (firstS t)).has b.toNat = true ↔ acc.has b.toNat = true ∨ ∃ w, Mat t (b :: w) := fun b => by
      rw [ST.has_or _ _ _ b.toNat_lt, Bool.or_eq_true, h0.2.2.2]
    rw [catF]
    split
    · rename_i hn
      have hnil := (null_mat h0.1).1 hn
      have ih := cat_first_iff l hl _ hor
      refine ⟨ih.1, fun b => ?_⟩
      rw [ih.2, ho, or_assoc]
      constructor
      · rintro (h | ⟨w, h⟩ | ⟨w, h⟩)
        · exact .inl h
        · obtain ⟨v, hv⟩ := hsome
          exact .inr ⟨w ++ v, (mcat_cons t l _).2 ⟨b :: w, v, rfl, h, hv⟩⟩
        · exact .inr ⟨w, (mcat_cons t l _).2 ⟨[], b :: w, rfl, hnil, h⟩⟩
      · rintro (h | ⟨w, h⟩)
        · exact .inl h
        · obtain ⟨u, v, e, hu, hv⟩ := (mcat_cons t l _).1 h
          cases u with
          | nil => exact .inr (.inr ⟨w, by rw [show b :: w = v from e]; exact hv⟩)
          | cons c u =>
            injection e with e1 e2
            subst e1
            exact .inr (.inl ⟨u, hu⟩)
    · rename_i hn
      refine ⟨hor, fun b => ?_⟩
      rw [ho]
      constructor
      · rintro (h | ⟨w, h⟩)
        · exact .inl h
        · obtain ⟨v, hv⟩ := hsome
          exact .inr ⟨w ++ v, (mcat_cons t l _).2 ⟨b :: w, v, rfl, h, hv⟩⟩
      · rintro (h | ⟨w, h⟩)
        · exact .inl h
        · obtain ⟨u, v, e, hu, hv⟩ := (mcat_cons t l _).1 h
          cases u with
          | nil => exact absurd ((null_mat h0.1).2 hu) hn
          | cons c u =>
            injection e with e1 e2
            subst e1
            exact .inr ⟨u, hu⟩
theorem alt_first_iff : ∀ (l : List T), (∀ t ∈ l, (firstS t).Ok ∧ ∀ b : UInt8, (firstS t).has b.toNat = true ↔ ∃ w, Mat t (b :: w)) → ∀ acc : ST, acc.Ok → (P09.altF acc l).Ok ∧ ∀ b : UInt8, (P09.altF acc l).has b.toNat = true ↔ acc.has b.toNat = true ∨ ∃ w, MAlt l (b :: w)
  | [], _, acc, ha => by
    rw [P09.altF]
    refine ⟨ha, fun b => ⟨.inl, ?_⟩⟩
    rintro (h | ⟨w, hw⟩)
    · exact h
    · exact absurd hw (malt_nil _)
  | t :: l, h, acc, ha => by
    have h0 := h t (by simp)
    have ih := alt_first_iff l (fun u hu => h u (by simp [hu])) _ (ST.or_ok ha h0.1)
    rw [P09.altF]
    refine ⟨ih.1, fun b => ?_⟩
    rw [ih.2, ST.has_or _ _ _ b.toNat_lt, Bool.or_eq_true, h0.2, or_assoc]
    simp only [malt_cons, exists_or]
theorem first_mat : ∀ (t : T) (d : Nat), RT d t → (firstS t).Ok ∧ ∀ b : UInt8, (firstS t).has b.toNat = true ↔ ∃ w, Mat t (b :: w) := by
  intro t
  induction h : SizeOf.sizeOf t using Nat.strongRecOn generalizing t with
  | _ n ih0 =>
    subst h
    intro d hR
    have ih : ∀ u ∈ t.subs, (firstS u).Ok ∧ ∀ b : UInt8, (firstS u).has b.toNat = true ↔ ∃ w, Mat u (b :: w) := fun u hu => ih0 (SizeOf.sizeOf u) (by
      obtain ⟨i, hi⟩ := List.mem_iff_getElem?.1 hu
      exact sub_less hi) u rfl d (sub_right hR.subs u hu)
    clear ih0
    have hno : (ST.none).Ok ∧ ((∀ w, ¬ Mat t w) → ∀ b : UInt8, ST.none.has b.toNat = true ↔ ∃ w, Mat t (b :: w)) := ⟨ST.none_ok, fun h b => by
      rw [ST.has_none]
      constructor
      · intro h; cases h
      · rintro ⟨w, hw⟩
        exact absurd hw (h _)⟩
    rw [firstS_eq]
    by_cases hn : noneB t = true
    · rw [if_pos hn]
      exact ⟨hno.1, hno.2 ((none_mat hR).1 hn)⟩
    rw [if_neg hn]
    have hn : noneB t = false := by simpa using hn
    by_cases h2 : t.kind = 2
    · rw [if_pos h2]
      refine ⟨(cls_is hR h2).2, fun b => ?_⟩
      constructor
      · exact fun h => ⟨[], (mat_kind2 h2 _).2 ⟨b, rfl, h⟩⟩
      · rintro ⟨w, hw⟩
        obtain ⟨c, e, hc⟩ := (mat_kind2 h2 _).1 hw
        injection e with e1 e2
        rw [e1]
        exact hc
    rw [if_neg h2]
    by_cases h3 : t.kind = 3
    · rw [if_pos h3]
      have hall : ∀ u ∈ t.subs, noneB u = false := fun u hu => by
        cases e : noneB u with
        | false => rfl
        | true =>
          obtain ⟨i, hi⟩ := List.mem_iff_getElem?.1 hu
          rw [noneB_eq, if_neg h2, if_pos h3, anyN_get hi e] at hn
          cases hn
      have := cat_first_iff (d := d) t.subs (fun u hu => ⟨sub_right hR.subs u hu, hall u hu, ih u hu⟩) .none ST.none_ok
      refine ⟨this.1, fun b => ?_⟩
      rw [this.2, ST.has_none]
      constructor
      · rintro (h | ⟨w, h⟩)
        · cases h
        · exact ⟨w, (mat_kind3 h3 _).2 h⟩
      · rintro ⟨w, h⟩
        exact .inr ⟨w, (mat_kind3 h3 _).1 h⟩
    rw [if_neg h3]
    by_cases h4 : t.kind = 4
    · rw [if_pos h4]
      have := alt_first_iff t.subs ih .none ST.none_ok
      refine ⟨this.1, fun b => ?_⟩
      rw [this.2, ST.has_none]
      constructor
      · rintro (h | ⟨w, h⟩)
        · cases h
        · exact ⟨w, (mat_kind4 h4 _).2 h⟩
      · rintro ⟨w, h⟩
        exact .inr ⟨w, (mat_kind4 h4 _).1 h⟩
    rw [if_neg h4]
    by_cases h5 : t.kind = 5
    · obtain ⟨a, mn, mx, rfl, b0, b1, bx, hI⟩ := rep_is hR h5
      have ha := ih a (by show a ∈ [a]; simp)
      have hstart : ∀ (n : Nat) (b : UInt8) (w : List UInt8), Pow (Mat a) n (b :: w) → ∃ w, Mat a (b :: w) := fun n => by
        induction n with
        | zero =>
          intro b w h
          cases h
        | succ n ihn =>
          rintro b w ⟨u, v, e, hu, hv⟩
          cases u with
          | nil => exact ihn b w (by rw [show b :: w = v from e]; exact hv)
          | cons c u =>
            injection e with e1 e2
            subst e1
            exact ⟨u, hu⟩
      by_cases hm : mx = 0
      · rw [if_neg (by rintro ⟨-, h⟩; exact h hm)]
        refine ⟨ST.none_ok, fun b => ?_⟩
        rw [ST.has_none]
        constructor
        · intro h; cases h
        · rintro ⟨w, hw⟩
          obtain ⟨n, h6, h7, h8⟩ := (mat_rep a mn mx _).1 hw
          have : n = 0 := by omega
          subst this
          cases h8
      · rw [if_pos (show (T.nd 5 ST.none mn mx [a]).kind = 5 ∧ (T.nd 5 ST.none mn mx [a]).mx ≠ 0 from ⟨rfl, hm⟩)]
        show (headF [a]).Ok ∧ _
        rw [headF]
        refine ⟨ha.1, fun b => ?_⟩
        show (headF [a]).has b.toNat = true ↔ _
        rw [headF, ha.2]
        constructor
        · rintro ⟨w, hw⟩
          obtain ⟨q, hq⟩ : ∃ q : Nat, mn = q := ⟨mn.toNat, by omega⟩
          have hpow : ∀ n, ∃ v, Pow (Mat a) n v := fun n => by
            induction n with
            | zero => exact ⟨[], rfl⟩
            | succ n ihn =>
              obtain ⟨v, hv⟩ := ihn
              exact ⟨(b :: w) ++ v, b :: w, v, rfl, hw, hv⟩
          obtain ⟨v, hv⟩ := hpow (q - 1)
          refine ⟨w ++ v, (mat_rep a mn mx _).2 ⟨(q - 1) + 1, by omega, by omega, b :: w, v, rfl, hw, hv⟩⟩
        · rintro ⟨w, hw⟩
          obtain ⟨n, -, -, hn⟩ := (mat_rep a mn mx _).1 hw
          exact hstart n b w hn
    · rw [if_neg (fun h => h5 h.1)]
      refine ⟨ST.none_ok, fun b => ?_⟩
      have hk := kinds hR
      rw [ST.has_none]
      constructor
      · intro h; cases h
      · rintro ⟨w, hw⟩
        cases (mat_kind1 (by omega) _).1 hw
theorem first_same {t m : T} {d e : Nat} (ht : RT d t) (hm : RT e m) (h : ∀ w, Mat m w ↔ Mat t w) : firstS m = firstS t := by
  have h1 := first_mat t d ht
  have h2 := first_mat m e hm
  refine ST.ext h2.1 h1.1 fun b hb => ?_
  have e : (UInt8.ofNat b).toNat = b := UInt8.toNat_ofNat_of_lt' (by simpa using hb)
  have g1 := h1.2 (UInt8.ofNat b)
  have g2 := h2.2 (UInt8.ofNat b)
  rw [e] at g1 g2
  rw [Bool.eq_iff_iff, g1, g2]
  simp only [h]

/-! ### With nothing, with Empty -/
end Go.Proofs.Ythcjfgfbeollpaa.P10
/- What is written out (layer 13), plain: it is right at some depth, plain, has no more nodes than the expression is wide, and matches the same. -/
namespace Go.Proofs.Ythcjfgfbeollpaa.P13
open Go.Proofs.Ythcjfgfbeollpaa.Bytes Go.Proofs.Ythcjfgfbeollpaa.P07 Go.Proofs.Ythcjfgfbeollpaa.P08 Go.Proofs.Ythcjfgfbeollpaa.P09 Go.Proofs.Ythcjfgfbeollpaa.P10
open Go.Proofs.Ythcjfgfbeollpaa.Sets (ST)

def starP (a : T) : T := .nd 5 ST.none 0 (-1) [a]
def optP (a : T) : T := .nd 4 ST.none 0 0 [a, epsT]
/-- The row of what is repeated. -/
def tmsP (mn mx : Int) (a : T) : List T := List.replicate mn.toNat a ++ (if mx < 0 then [starP a] else List.replicate (mx - mn).toNat (optP a))
/-- One of a row. -/
def rowP : List T → T
  | [] => epsT
  | [a] => a
  | a :: b :: l => .nd 3 ST.none 0 0 (a :: b :: l)
mutual
/-- Written out. -/
def plT : T → T
  | .nd k s mn mx l => if k = 5 then rowP (plR mn mx l) else .nd k s 0 0 (plL l)
def plL : List T → List T
  | [] => []
  | t :: l => plT t :: plL l
def plR (mn mx : Int) : List T → List T
  | [] => []
  | t :: _ => tmsP mn mx (plT t)
end
theorem plL_map : ∀ l : List T, plL l = l.map plT
  | [] => by rw [plL]; rfl
  | t :: l => by rw [plL, plL_map l]; rfl
theorem plT_not {t : T} (h : t.kind ≠ 5) : plT t = .nd t.kind t.set 0 0 (t.subs.map plT) := by
  cases t with
  | nd k s mn mx l =>
    rw [plT, if_neg (show ¬ k = 5 from h), plL_map]
    rfl
theorem plT_rep (s : ST) (mn mx : Int) (a : T) : plT (.nd 5 s mn mx [a]) = rowP (tmsP mn mx (plT a)) := by rw [plT, if_pos rfl, plR]
theorem rowP_two {L : List T} (h : 2 ≤ L.length) : rowP L = .nd 3 ST.none 0 0 L := by
  match L, h with
  | a :: b :: l, _ => rfl

/-! ### right -/
theorem is_up {e : Nat} {t : T} (h : RT e t) (k : Int) : IS (e + 1) k t := by
  unfold IS
  split
  · exact ⟨by omega, by rw [Nat.add_sub_cancel]; exact h⟩
  · exact RT_mono t _ _ h (by omega)
theorem all_rt : ∀ L : List T, (∀ t ∈ L, ∃ e, RT e t) → ∃ e, ∀ t ∈ L, RT e t
  | [], _ => ⟨0, fun t ht => by cases ht⟩
  | t :: L, h => by
    obtain ⟨d, h1⟩ := h t (by simp)
    obtain ⟨e, he⟩ := all_rt L fun u hu => h u (List.mem_cons_of_mem _ hu)
    refine ⟨max d e, fun u hu => ?_⟩
    rcases List.mem_cons.1 hu with rfl | hu
    · exact RT_mono u _ _ h1 (by omega)
    · exact RT_mono u _ _ (he u hu) (by omega)
theorem many_up {k : Int} (hk : k = 3 ∨ k = 4) {L : List T} (h2 : 2 ≤ L.length) (h : ∀ t ∈ L, ∃ e, RT e t) : ∃ e, RT e (.nd k ST.none 0 0 L) := by
  obtain ⟨e, he⟩ := all_rt L h
  exact ⟨e + 1, many_rt hk h2 fun t ht => is_up (he t ht) k⟩
theorem starP_rt {a : T} (h : ∃ e, RT e a) : ∃ e, RT e (starP a) := by
  obtain ⟨e, he⟩ := h
  refine ⟨e + 1, ?_⟩
  unfold starP
  rw [RT]
  exact ⟨.inr (.inr (.inr ⟨rfl, rfl, rfl, by omega, by omega, .inl rfl⟩)), ST.none_ok, rl_iff.2 fun t ht => by rw [List.mem_singleton.1 ht]; exact is_up he 5⟩
theorem optP_rt {a : T} (h : ∃ e, RT e a) : ∃ e, RT e (optP a) :=
  many_up (.inr rfl) (Nat.le_refl 2) fun t ht => by
    simp only [List.mem_cons, List.not_mem_nil, or_false] at ht
    rcases ht with rfl | rfl
    · exact h
    · exact ⟨0, epsT_rt 0⟩
theorem tmsP_mem {mn mx : Int} {a t : T} (h : t ∈ tmsP mn mx a) : t = a ∨ t = starP a ∨ t = optP a := by
  unfold tmsP at h
  rcases List.mem_append.1 h with h | h
  · exact .inl (List.mem_replicate.1 h).2
  · split at h
    · exact .inr (.inl (List.mem_singleton.1 h))
    · exact .inr (.inr (List.mem_replicate.1 h).2)
theorem rowP_rt {L : List T} (h : ∀ t ∈ L, ∃ e, RT e t) : ∃ e, RT e (rowP L) := by
  match L, h with
  | [], _ => exact ⟨0, epsT_rt 0⟩
  | [a], h => exact h a (by simp)
  | a :: b :: l, h => exact many_up (.inl rfl) (by simp) h
theorem subs_lt {t u : T} (h : u ∈ t.subs) : SizeOf.sizeOf u < SizeOf.sizeOf t := by
  obtain ⟨i, hi⟩ := List.mem_iff_getElem?.1 h
  exact sub_less hi
theorem plT_rt : ∀ (n : Nat) (t : T), SizeOf.sizeOf t < n → ∀ d, RT d t → ∃ e, RT e (plT t)
  | 0, _, h, _, _ => absurd h (Nat.not_lt_zero _)
  | n + 1, t, h, d, hR => by
    have ih : ∀ u ∈ t.subs, ∃ e, RT e (plT u) := fun u hu => plT_rt n u (by have := subs_lt hu; omega) d (sub_right hR.subs u hu)
    rcases P10.kinds hR with k | k | k | k | k
    · rw [eps_is hR k]
      exact ⟨0, by rw [show plT epsT = epsT by kernel_rfl]; exact epsT_rt 0⟩
    · have hc := cls_is hR k
      rw [hc.1]
      exact ⟨0, by rw [plT_not (by show (2 : Int) ≠ 5; omega)]; exact class_RT hc.2 0⟩
    · rw [plT_not (by omega), k]
      have hm := many_is hR (.inl k)
      have hs : t.set = ST.none := by rw [hm.1]; rfl
      rw [hs]
      refine many_up (.inl rfl) (by rw [List.length_map]; exact hm.2) fun u hu => ?_
      obtain ⟨v, hv, rfl⟩ := List.mem_map.1 hu
      exact ih v hv
    · rw [plT_not (by omega), k]
      have hm := many_is hR (.inr k)
      have hs : t.set = ST.none := by rw [hm.1]; rfl
      rw [hs]
      refine many_up (.inr rfl) (by rw [List.length_map]; exact hm.2) fun u hu => ?_
      obtain ⟨v, hv, rfl⟩ := List.mem_map.1 hu
      exact ih v hv
    · obtain ⟨a, mn, mx, e, b0, b1, bx, -⟩ := rep_is hR k
      subst e
      have ha := ih a (by show a ∈ [a]; simp)
      rw [plT_rep]
      refine rowP_rt fun u hu => ?_
      rcases tmsP_mem hu with rfl | rfl | rfl
      · exact ha
      · exact starP_rt ha
      · exact optP_rt ha
theorem pl_rt {t : T} {d : Nat} (h : RT d t) : ∃ e, RT e (plT t) := plT_rt _ t (Nat.lt_succ_self _) d h

/-! ### it matches the same -/
theorem mcat_app : ∀ (A B : List T) (w : List UInt8), MCat (A ++ B) w ↔ ∃ u v, w = u ++ v ∧ MCat A u ∧ MCat B v
  | [], B, w => by
    rw [List.nil_append]
    constructor
    · exact fun h => ⟨[], w, rfl, (mcat_nil _).2 rfl, h⟩
    · rintro ⟨u, v, rfl, h1, h2⟩
      rw [(mcat_nil _).1 h1]
      exact h2
  | t :: A, B, w => by
    rw [List.cons_append, mcat_cons]
    constructor
    · rintro ⟨u, v, rfl, h1, h2⟩
      obtain ⟨u2, v2, rfl, h3, h4⟩ := (mcat_app A B v).1 h2
      exact ⟨u ++ u2, v2, by rw [List.append_assoc], (mcat_cons _ _ _).2 ⟨u, u2, rfl, h1, h3⟩, h4⟩
    · rintro ⟨u, v, rfl, h1, h2⟩
      obtain ⟨u2, v2, rfl, h3, h4⟩ := (mcat_cons _ _ _).1 h1
      exact ⟨u2, v2 ++ v, by rw [List.append_assoc], h3, (mcat_app A B _).2 ⟨v2, v, rfl, h4, h2⟩⟩
theorem mcat_rep (a : T) : ∀ (n : Nat) (w : List UInt8), MCat (List.replicate n a) w ↔ Pow (Mat a) n w
  | 0, w => by rw [List.replicate_zero, mcat_nil]; exact Iff.rfl
  | n + 1, w => by
    rw [List.replicate_succ, mcat_cons]
    constructor
    · rintro ⟨u, v, e, h1, h2⟩
      exact ⟨u, v, e, h1, (mcat_rep a n v).1 h2⟩
    · rintro ⟨u, v, e, h1, h2⟩
      exact ⟨u, v, e, h1, (mcat_rep a n v).2 h2⟩
theorem mat_opt (a : T) (w : List UInt8) : Mat (optP a) w ↔ Mat a w ∨ w = [] := by
  unfold optP
  rw [mat_4, malt_cons, malt_cons]
  unfold epsT
  rw [mat_1]
  constructor
  · rintro (h | h | h)
    · exact .inl h
    · exact .inr h
    · exact (malt_nil _ h).elim
  · rintro (h | h)
    · exact .inl h
    · exact .inr (.inl h)
theorem mcat_opt (a : T) : ∀ (k : Nat) (w : List UInt8), MCat (List.replicate k (optP a)) w ↔ ∃ n, n ≤ k ∧ Pow (Mat a) n w
  | 0, w => by
    rw [List.replicate_zero, mcat_nil]
    constructor
    · exact fun h => ⟨0, Nat.le_refl 0, h⟩
    · rintro ⟨n, hn, h⟩
      obtain rfl : n = 0 := by omega
      exact h
  | k + 1, w => by
    rw [List.replicate_succ, mcat_cons]
    constructor
    · rintro ⟨u, v, rfl, h1, h2⟩
      obtain ⟨n, hn, hp⟩ := (mcat_opt a k v).1 h2
      rcases (mat_opt a u).1 h1 with h1 | rfl
      · exact ⟨n + 1, by omega, u, v, rfl, h1, hp⟩
      · exact ⟨n, by omega, hp⟩
    · rintro ⟨n, hn, hp⟩
      cases n with
      | zero =>
        obtain rfl : w = [] := hp
        exact ⟨[], [], rfl, (mat_opt a []).2 (.inr rfl), (mcat_opt a k []).2 ⟨0, Nat.zero_le _, rfl⟩⟩
      | succ n =>
        obtain ⟨u, v, rfl, h1, h2⟩ := hp
        exact ⟨u, v, rfl, (mat_opt a u).2 (.inl h1), (mcat_opt a k v).2 ⟨n, by omega, h2⟩⟩
theorem mat_star (a : T) (w : List UInt8) : Mat (starP a) w ↔ ∃ n, Pow (Mat a) n w := by
  unfold starP
  rw [mat_5]
  have e : ∀ n w, Pow (MHd [a]) n w ↔ Pow (Mat a) n w := fun n w => Pow.congr (fun w => mhd_cons a [] w) n w
  constructor
  · rintro ⟨n, -, -, h⟩
    exact ⟨n, (e n w).1 h⟩
  · rintro ⟨n, h⟩
    exact ⟨n, by omega, .inl (by omega), (e n w).2 h⟩
theorem pow_split {P : List UInt8 → Prop} : ∀ (n m : Nat) (w : List UInt8), Pow P (n + m) w ↔ ∃ u v, w = u ++ v ∧ Pow P n u ∧ Pow P m v
  | 0, m, w => by
    rw [Nat.zero_add]
    constructor
    · exact fun h => ⟨[], w, rfl, rfl, h⟩
    · rintro ⟨u, v, rfl, h1, h2⟩
      obtain rfl : u = [] := h1
      exact h2
  | n + 1, m, w => by
    constructor
    · intro h
      rw [show n + 1 + m = (n + m) + 1 by omega] at h
      obtain ⟨a, b, rfl, h1, h2⟩ := h
      obtain ⟨u, v, rfl, h3, h4⟩ := (pow_split n m b).1 h2
      exact ⟨a ++ u, v, by rw [List.append_assoc], ⟨a, u, rfl, h1, h3⟩, h4⟩
    · rintro ⟨u, v, rfl, h1, h2⟩
      exact Pow.add (n + 1) m u v h1 h2
theorem mcat_tms {mn mx : Int} (b0 : 0 ≤ mn) (bx : mx = -1 ∨ mn ≤ mx) (a : T) (w : List UInt8) : MCat (tmsP mn mx a) w ↔ ∃ n : Nat, mn ≤ n ∧ (mx < 0 ∨ (n : Int) ≤ mx) ∧ Pow (Mat a) n w := by
  unfold tmsP
  rw [mcat_app]
  split
  · rename_i h
    constructor
    · rintro ⟨u, v, rfl, h1, h2⟩
      obtain ⟨x, y, rfl, h3, h4⟩ := (mcat_cons _ _ _).1 h2
      rw [(mcat_nil _).1 h4, List.append_nil]
      obtain ⟨n, hn⟩ := (mat_star a x).1 h3
      exact ⟨mn.toNat + n, by omega, .inl h, Pow.add _ _ _ _ ((mcat_rep a _ u).1 h1) hn⟩
    · rintro ⟨n, h1, -, hp⟩
      rw [show n = mn.toNat + (n - mn.toNat) by omega] at hp
      obtain ⟨u, v, rfl, h3, h4⟩ := (pow_split _ _ w).1 hp
      exact ⟨u, v, rfl, (mcat_rep a _ u).2 h3, (mcat_cons _ _ _).2 ⟨v, [], by simp, (mat_star a v).2 ⟨_, h4⟩, (mcat_nil _).2 rfl⟩⟩
  · rename_i h
    constructor
    · rintro ⟨u, v, rfl, h1, h2⟩
      obtain ⟨n, hn, hp⟩ := (mcat_opt a _ v).1 h2
      exact ⟨mn.toNat + n, by omega, .inr (by omega), Pow.add _ _ _ _ ((mcat_rep a _ u).1 h1) hp⟩
    · rintro ⟨n, h1, h2, hp⟩
      rw [show n = mn.toNat + (n - mn.toNat) by omega] at hp
      obtain ⟨u, v, rfl, h3, h4⟩ := (pow_split _ _ w).1 hp
      exact ⟨u, v, rfl, (mcat_rep a _ u).2 h3, (mcat_opt a _ v).2 ⟨_, by omega, h4⟩⟩
theorem mat_row (L : List T) (w : List UInt8) : Mat (rowP L) w ↔ MCat L w := by
  match L with
  | [] =>
    show Mat epsT w ↔ _
    unfold epsT
    rw [mat_1, mcat_nil]
  | [a] =>
    show Mat a w ↔ _
    rw [mcat_cons]
    constructor
    · exact fun h => ⟨w, [], by simp, h, (mcat_nil _).2 rfl⟩
    · rintro ⟨u, v, rfl, h1, h2⟩
      rw [(mcat_nil _).1 h2, List.append_nil]
      exact h1
  | a :: b :: l => exact mat_3 _ _ _ _ _
theorem plT_mat : ∀ (n : Nat) (t : T), SizeOf.sizeOf t < n → ∀ d, RT d t → ∀ w, Mat (plT t) w ↔ Mat t w
  | 0, _, h, _, _ => absurd h (Nat.not_lt_zero _)
  | n + 1, t, h, d, hR => by
    intro w
    have ih : ∀ u ∈ t.subs, ∀ w, Mat (plT u) w ↔ Mat u w := fun u hu => plT_mat n u (by have := subs_lt hu; omega) d (sub_right hR.subs u hu)
    rcases P10.kinds hR with k | k | k | k | k
    · rw [eps_is hR k, show plT epsT = epsT by kernel_rfl]
    · rw [(cls_is hR k).1, plT_not (by show (2 : Int) ≠ 5; omega)]
      exact Iff.rfl
    · rw [plT_not (by omega), k, mat_3, mcat_congr t.subs ih]
      have hm := many_is hR (.inl k)
      rw [k] at hm
      conv => rhs; rw [hm.1, mat_3]
    · rw [plT_not (by omega), k, mat_4, malt_congr t.subs ih]
      have hm := many_is hR (.inr k)
      rw [k] at hm
      conv => rhs; rw [hm.1, mat_4]
    · obtain ⟨a, mn, mx, e, b0, b1, bx, -⟩ := rep_is hR k
      subst e
      have ha := ih a (by show a ∈ [a]; simp)
      rw [plT_rep, mat_row, mcat_tms b0 (by omega), mat_5]
      have e : ∀ n w, Pow (Mat (plT a)) n w ↔ Pow (MHd [a]) n w := fun n w => Pow.congr (fun w => (ha w).trans (mhd_cons a [] w).symm) n w
      simp only [e]
theorem pl_mat {t : T} {d : Nat} (h : RT d t) (w : List UInt8) : Mat (plT t) w ↔ Mat t w := plT_mat _ t (Nat.lt_succ_self _) d h w

/-! ### it has no more nodes than the expression is wide -/
theorem cntL_rep (a : T) : ∀ n, cntL (List.replicate n a) = n * cnt a
  | 0 => by rw [List.replicate_zero, cntL, Nat.zero_mul]
  | n + 1 => by rw [List.replicate_succ, cntL, cntL_rep a n, Nat.succ_mul]; omega
theorem cntL_app : ∀ A B : List T, cntL (A ++ B) = cntL A + cntL B
  | [], B => by rw [List.nil_append, cntL]; omega
  | t :: A, B => by rw [List.cons_append, cntL, cntL, cntL_app A B]; omega
theorem row_cnt (L : List T) : cnt (rowP L) ≤ 1 + cntL L := by
  match L with
  | [] =>
    have h : cnt epsT = 1 := by kernel_rfl
    show cnt epsT ≤ _
    omega
  | [a] =>
    show cnt a ≤ _
    rw [cntL, cntL]
    omega
  | a :: b :: l =>
    show cnt (.nd 3 ST.none 0 0 (a :: b :: l)) ≤ _
    rw [cnt]
    exact Nat.le_refl _
/-- Where it isn't cut off, it is the sum. -/
theorem wdL_lt {k mn mx : Int} : ∀ (L : List T) (acc : Int), wdL k mn mx acc L < 1073741824 → (∀ t ∈ L, 0 ≤ wstep k mn mx (wd t)) → acc ≤ wdL k mn mx acc L ∧ ∀ t ∈ L, acc + wstep k mn mx (wd t) ≤ wdL k mn mx acc L
  | [], acc, _, _ => by rw [wdL]; exact ⟨Int.le_refl _, fun t ht => by cases ht⟩
  | t :: L, acc, h, h0 => by
    rw [wdL] at h ⊢
    have h1 := wdL_lt L _ h (fun u hu => h0 u (List.mem_cons_of_mem _ hu))
    have h2 := h0 t (by simp)
    have h3 : min (acc + wstep k mn mx (wd t)) 1073741824 = acc + wstep k mn mx (wd t) := by
      by_cases hc : acc + wstep k mn mx (wd t) ≤ 1073741824
      · exact Int.min_eq_left hc
      · exfalso
        rw [Int.min_eq_right (by omega)] at h h1
        have := h1.1
        omega
    rw [h3] at h1 ⊢
    refine ⟨by omega, fun u hu => ?_⟩
    rcases List.mem_cons.1 hu with rfl | hu
    · exact h1.1
    · have := h1.2 u hu
      omega
theorem wdL_cnt {k : Int} (hk : k ≠ 5) {mn mx : Int} : ∀ (L : List T) (acc : Int), wdL k mn mx acc L < 1073741824 → (∀ t ∈ L, 0 ≤ wd t ∧ (wd t < 1073741824 → (cnt (plT t) : Int) ≤ wd t)) → 0 ≤ acc → acc + (cntL (L.map plT) : Int) ≤ wdL k mn mx acc L
  | [], acc, _, _, _ => by rw [wdL, List.map_nil, cntL]; omega
  | t :: L, acc, h, h0, ha => by
    have e : ∀ w, wstep k mn mx w = w := fun w => by
      unfold wstep
      rw [if_neg (fun h => hk h.1), if_neg hk]
    have hl := wdL_lt (t :: L) acc h (fun u hu => by rw [e]; exact (h0 u hu).1)
    have ht := hl.2 t (by simp)
    rw [e] at ht
    rw [wdL, e] at h ht ⊢
    have h3 : min (acc + wd t) 1073741824 = acc + wd t := Int.min_eq_left (by omega)
    rw [h3] at h ht ⊢
    have h4 := wdL_cnt hk L (acc + wd t) h (fun u hu => h0 u (List.mem_cons_of_mem _ hu)) (by have := (h0 t (by simp)).1; omega)
    have h5 := (h0 t (by simp)).2 (by omega)
    rw [List.map_cons, cntL]
    omega
theorem starP_cnt (a : T) : cnt (starP a) = 1 + cnt a := by
  unfold starP
  rw [cnt, cntL, cntL]
  omega
theorem optP_cnt (a : T) : cnt (optP a) = 2 + cnt a := by
  have h : cnt epsT = 1 := by kernel_rfl
  unfold optP
  rw [cnt, cntL, cntL, cntL, h]
  omega
theorem plT_cnt : ∀ (n : Nat) (t : T), SizeOf.sizeOf t < n → ∀ d, RT d t → 1 ≤ wd t ∧ (wd t < 1073741824 → (cnt (plT t) : Int) ≤ wd t)
  | 0, _, h, _, _ => absurd h (Nat.not_lt_zero _)
  | n + 1, t, h, d, hR => by
    have ih : ∀ u ∈ t.subs, 1 ≤ wd u ∧ (wd u < 1073741824 → (cnt (plT u) : Int) ≤ wd u) := fun u hu => plT_cnt n u (by have := subs_lt hu; omega) d (sub_right hR.subs u hu)
    rw [wd_eq]
    by_cases k : t.kind = 5
    · obtain ⟨a, mn, mx, e, b0, b1, bx, -⟩ := rep_is hR k
      subst e
      have ha := ih a (by show a ∈ [a]; simp)
      show 1 ≤ wdL 5 mn mx 1 [a] ∧ (wdL 5 mn mx 1 [a] < 1073741824 → (cnt (plT (.nd 5 ST.none mn mx [a])) : Int) ≤ wdL 5 mn mx 1 [a])
      rw [wdL, wdL, plT_rep]
      have h0 := wstep_ge (k := 5) (mn := mn) (mx := mx) (w := wd a) (by omega) b0 (by omega)
      refine ⟨by rw [Int.le_min]; omega, fun hlt => ?_⟩
      have hle : 1 + wstep 5 mn mx (wd a) < 1073741824 := by
        by_cases hc : 1 + wstep 5 mn mx (wd a) ≤ 1073741824
        · rw [Int.min_eq_left hc] at hlt
          exact hlt
        · rw [Int.min_eq_right (by omega)] at hlt
          omega
      rw [Int.min_eq_left (by omega)]
      have hr := row_cnt (tmsP mn mx (plT a))
      obtain ⟨m, hm⟩ : ∃ m : Nat, mn = m := ⟨mn.toNat, by omega⟩
      subst hm
      rcases bx with bx | bx
      · subst bx
        have ew : wstep 5 m (-1) (wd a) = wd a * ((m : Int) + 1) + 1 := by
          unfold wstep
          rw [if_pos ⟨rfl, rfl⟩]
        have ec : cntL (tmsP m (-1) (plT a)) = m * cnt (plT a) + (1 + cnt (plT a)) := by
          unfold tmsP
          rw [cntL_app, cntL_rep, Int.toNat_natCast, if_pos (by decide), cntL, cntL, starP_cnt]
          omega
        rw [ew] at hle ⊢
        rw [ec] at hr
        have hw : wd a ≤ wd a * ((m : Int) + 1) := by
          have := Int.mul_le_mul_of_nonneg_left (show (1 : Int) ≤ (m : Int) + 1 by omega) (show 0 ≤ wd a by omega)
          omega
        have h2 := ha.2 (by omega)
        have h3 := Int.mul_le_mul_of_nonneg_right h2 (show (0 : Int) ≤ (m : Int) + 1 by omega)
        have h4 : (m : Int) * (cnt (plT a) : Int) + (cnt (plT a) : Int) = (cnt (plT a) : Int) * ((m : Int) + 1) := by rw [Int.mul_add, Int.mul_one, Int.mul_comm]
        have h5 : ((m * cnt (plT a) : Nat) : Int) = (m : Int) * (cnt (plT a) : Int) := Int.natCast_mul _ _
        omega
      · have hx : ¬ mx = -1 := by omega
        have ew : wstep 5 m mx (wd a) = (wd a + 2) * mx := by
          unfold wstep
          rw [if_neg (fun h => hx h.2), if_pos rfl]
        obtain ⟨x, hx2⟩ : ∃ x : Nat, mx = m + x := ⟨(mx - m).toNat, by omega⟩
        subst hx2
        have ec : cntL (tmsP m (m + x) (plT a)) = m * cnt (plT a) + x * (2 + cnt (plT a)) := by
          unfold tmsP
          rw [cntL_app, cntL_rep, Int.toNat_natCast, if_neg (by omega), cntL_rep, optP_cnt, show ((m : Int) + x - m).toNat = x by omega]
        rw [ew] at hle ⊢
        rw [ec] at hr
        by_cases hz : m + x = 0
        · obtain rfl : m = 0 := by omega
          obtain rfl : x = 0 := by omega
          have : cnt (rowP (tmsP ((0 : Nat) : Int) (((0 : Nat) : Int) + ((0 : Nat) : Int)) (plT a))) = 1 := by
            show cnt (rowP []) = 1
            kernel_rfl
          omega
        have hw : wd a + 2 ≤ (wd a + 2) * ((m : Int) + x) := by
          have := Int.mul_le_mul_of_nonneg_left (show (1 : Int) ≤ (m : Int) + x by omega) (show 0 ≤ wd a + 2 by omega)
          omega
        have h2 := ha.2 (by omega)
        have h3 := Int.mul_le_mul_of_nonneg_right (show (cnt (plT a) : Int) + 2 ≤ wd a + 2 by omega) (show (0 : Int) ≤ (m : Int) + x by omega)
        have h4 : ((cnt (plT a) : Int) + 2) * ((m : Int) + x) = (m : Int) * (cnt (plT a) : Int) + 2 * m + (x : Int) * (2 + (cnt (plT a) : Int)) := by
          rw [Int.mul_add, Int.add_mul, Int.mul_comm _ (m : Int), Int.mul_comm _ (x : Int), Int.add_comm (cnt (plT a) : Int) 2]
        have h5 : ((m * cnt (plT a) : Nat) : Int) = (m : Int) * (cnt (plT a) : Int) := Int.natCast_mul _ _
        have h6 : ((x * (2 + cnt (plT a)) : Nat) : Int) = (x : Int) * (2 + (cnt (plT a) : Int)) := by rw [Int.natCast_mul]; rfl
        omega
    · rw [plT_not k]
      have e : ∀ w, wstep t.kind t.mn t.mx w = w := fun w => by
        unfold wstep
        rw [if_neg (fun h => k h.1), if_neg k]
      have h1 : ∀ L : List T, (∀ u ∈ L, u ∈ t.subs) → ∀ acc : Int, 1 ≤ acc → 1 ≤ wdL t.kind t.mn t.mx acc L := by
        intro L
        induction L with
        | nil => intro _ acc ha; rw [wdL]; exact ha
        | cons u L ihL =>
          intro hL acc ha
          rw [wdL, e]
          refine ihL (fun v hv => hL v (List.mem_cons_of_mem _ hv)) _ ?_
          have := (ih u (hL u (by simp))).1
          rw [Int.le_min]
          omega
      refine ⟨h1 t.subs (fun u hu => hu) 1 (by omega), fun hlt => ?_⟩
      have h2 := wdL_cnt k t.subs 1 hlt (fun u hu => ⟨by have := (ih u hu).1; omega, (ih u hu).2⟩) (by omega)
      rw [cnt]
      omega
theorem pl_cnt {t : T} {d : Nat} (h : RT d t) (hw : wd t < 1073741824) : (cnt (plT t) : Int) ≤ wd t := (plT_cnt _ t (Nat.lt_succ_self _) d h).2 hw
/-- A node's own fields are as a plain one's. -/
def fldP (t : T) : Bool := decide (t.mn = 0) && ((decide (t.kind = 1) && (eqB t.set ST.none && (decide (t.mx = 0) && decide (t.subs.length = 0)))) || ((decide (t.kind = 2) && (decide (t.mx = 0) && decide (t.subs.length = 0))) || (((decide (t.kind = 3) || decide (t.kind = 4)) && (eqB t.set ST.none && (decide (t.mx = 0) && decide (2 ≤ t.subs.length)))) || (decide (t.kind = 5) && (eqB t.set ST.none && (decide (t.mx = -1) && decide (t.subs.length = 1)))))))
mutual
/-- Plain. -/
def isP : T → Bool
  | .nd k s mn mx l => fldP (.nd k s mn mx l) && isPL l
def isPL : List T → Bool
  | [] => true
  | t :: l => isP t && isPL l
end
theorem isP_eq (t : T) : isP t = (fldP t && isPL t.subs) := by
  cases t
  rw [isP]
  rfl
theorem fld_star (a : T) : fldP (starP a) = true := by
  unfold fldP starP T.kind T.set T.mn T.mx T.subs
  simp [eqB_refl]
theorem fld_many {k : Int} (hk : k = 3 ∨ k = 4) {L : List T} (h : 2 ≤ L.length) : fldP (.nd k ST.none 0 0 L) = true := by
  unfold fldP T.kind T.set T.mn T.mx T.subs
  rcases hk with rfl | rfl <;> simp [eqB_refl, h]
theorem isPL_all : ∀ l : List T, isPL l = true ↔ ∀ t ∈ l, isP t = true
  | [] => by rw [isPL]; simp
  | t :: l => by rw [isPL, Bool.and_eq_true, isPL_all l]; simp
theorem isP_eps : isP epsT = true := by kernel_rfl
theorem isP_star {a : T} (h : isP a = true) : isP (starP a) = true := by
  rw [isP_eq, fld_star, Bool.true_and]
  exact (isPL_all _).2 fun t ht => by
    have ht : t ∈ [a] := ht
    rw [List.mem_singleton.1 ht]
    exact h
theorem isP_opt {a : T} (h : isP a = true) : isP (optP a) = true := by
  unfold optP
  rw [isP_eq, fld_many (L := [a, epsT]) (.inr rfl) (Nat.le_refl 2), Bool.true_and]
  refine (isPL_all _).2 fun t ht => ?_
  have ht : t ∈ [a, epsT] := ht
  simp only [List.mem_cons, List.not_mem_nil, or_false] at ht
  rcases ht with rfl | rfl
  · exact h
  · exact isP_eps
theorem isP_row {L : List T} (h : ∀ t ∈ L, isP t = true) : isP (rowP L) = true := by
  match L, h with
  | [], _ => exact isP_eps
  | [a], h => exact h a (by simp)
  | a :: b :: l, h =>
    show isP (.nd 3 ST.none 0 0 (a :: b :: l)) = true
    rw [isP_eq, fld_many (.inl rfl) (by simp), Bool.true_and]
    exact (isPL_all _).2 h
/-- What is written out is plain. -/
theorem plT_isP : ∀ (n : Nat) (t : T), SizeOf.sizeOf t < n → ∀ d, RT d t → isP (plT t) = true
  | 0, _, h, _, _ => absurd h (Nat.not_lt_zero _)
  | n + 1, t, h, d, hR => by
    have ih : ∀ u ∈ t.subs, isP (plT u) = true := fun u hu => plT_isP n u (by have := subs_lt hu; omega) d (sub_right hR.subs u hu)
    rcases P10.kinds hR with k | k | k | k | k
    · rw [eps_is hR k, show plT epsT = epsT by kernel_rfl]
      exact isP_eps
    · rw [(cls_is hR k).1, plT_not (by show (2 : Int) ≠ 5; omega)]
      show isP (.nd 2 t.set 0 0 []) = true
      rw [isP_eq]
      unfold fldP T.kind T.set T.mn T.mx T.subs
      simp [isPL]
    · have hm := many_is hR (.inl k)
      have hs : t.set = ST.none := by rw [hm.1]; rfl
      rw [plT_not (by omega), k, hs, isP_eq, fld_many (.inl rfl) (by rw [List.length_map]; exact hm.2), Bool.true_and]
      refine (isPL_all _).2 fun u hu => ?_
      obtain ⟨v, hv, rfl⟩ := List.mem_map.1 (show u ∈ t.subs.map plT from hu)
      exact ih v hv
    · have hm := many_is hR (.inr k)
      have hs : t.set = ST.none := by rw [hm.1]; rfl
      rw [plT_not (by omega), k, hs, isP_eq, fld_many (.inr rfl) (by rw [List.length_map]; exact hm.2), Bool.true_and]
      refine (isPL_all _).2 fun u hu => ?_
      obtain ⟨v, hv, rfl⟩ := List.mem_map.1 (show u ∈ t.subs.map plT from hu)
      exact ih v hv
    · obtain ⟨a, mn, mx, e, b0, b1, bx, -⟩ := rep_is hR k
      subst e
      have ha := ih a (by show a ∈ [a]; simp)
      rw [plT_rep]
      refine isP_row fun u hu => ?_
      rcases tmsP_mem hu with rfl | rfl | rfl
      · exact ha
      · exact isP_star ha
      · exact isP_opt ha
theorem pl_isP {t : T} {d : Nat} (h : RT d t) : isP (plT t) = true := plT_isP _ t (Nat.lt_succ_self _) d h
theorem isP_subs {t : T} (h : isP t = true) : ∀ u ∈ t.subs, isP u = true := by
  rw [isP_eq, Bool.and_eq_true] at h
  exact (isPL_all _).1 h.2
end Go.Proofs.Ythcjfgfbeollpaa.P13
/- The code's fieldsPlain (layer 13). -/
namespace Go.Proofs.Ythcjfgfbeollpaa.P13
open Go.RowKit Go.Proofs.Ythcjfgfbeollpaa.Base Go.Proofs.Ythcjfgfbeollpaa.Bytes Go.Proofs.Ythcjfgfbeollpaa.P07 Go.Proofs.Ythcjfgfbeollpaa.P08
open Go.Proofs.Ythcjfgfbeollpaa.Sets (ST)

set_option maxRecDepth 100000 in
set_option maxHeartbeats 8000000 in
theorem fld_any (t : T) (bl o : Nat) (a : Option Addr) (c : Nat) (w : World) (h : NodeP w bl o t a c) : Calls Try.prog 81 #[.pointer (some ⟨bl, o, none⟩)] w fun e w' => e = .returned (.bool (fldP t)) ∧ w = w' := by
  obtain ⟨E, hE⟩ : ∃ E, eqB t.set ST.none = E := ⟨_, rfl⟩
  have es : ∀ W, (Op.equalIn 10000 24 (.agg #[.int .u64 (t.set.x0 : Int), .int .u64 (t.set.x1 : Int), .int .u64 (t.set.x2 : Int), .int .u64 (t.set.x3 : Int)]) (.agg #[.int .u64 0, .int .u64 0, .int .u64 0, .int .u64 0])).run Try.prog W = .ok E W := fun W => by
    rw [← hE]
    exact eq_set t.set ST.none W
  have HE := Lib.hid hE
  obtain ⟨c0, c1, c2, c3, c4, c5, c6, c7⟩ := h.eight
  clear hE h
  have hx : ∀ x : Int, ((x == 0) = true ∧ (x == -1) = false ∧ x = 0) ∨ ((x == 0) = false ∧ (x == -1) = true ∧ x = -1) ∨ ((x == 0) = false ∧ (x == -1) = false ∧ ¬ x = 0 ∧ ¬ x = -1) := fun x => by
    by_cases h1 : x = 0
    · simp [h1]
    · by_cases h2 : x = -1 <;> simp [h1, h2]
  have hk : ∀ k : Int, (k = 1 ∧ (k == 1) = true ∧ (k == 2) = false ∧ (k == 3) = false ∧ (k == 4) = false ∧ (k == 5) = false) ∨ (k = 2 ∧ (k == 1) = false ∧ (k == 2) = true ∧ (k == 3) = false ∧ (k == 4) = false ∧ (k == 5) = false) ∨
        (k = 3 ∧ (k == 1) = false ∧ (k == 2) = false ∧ (k == 3) = true ∧ (k == 4) = false ∧ (k == 5) = false) ∨ (k = 4 ∧ (k == 1) = false ∧ (k == 2) = false ∧ (k == 3) = false ∧ (k == 4) = true ∧ (k == 5) = false) ∨ ((¬ k = 1 ∧ ¬ k = 2 ∧ ¬ k = 3 ∧ ¬ k = 4 ∧ ¬ k = 5) ∧ (k == 1) = false ∧ (k == 2) = false ∧ (k == 3) = false ∧ (k == 4) = false ∧ (k == 5) = false) ∨
        (k = 5 ∧ (k == 1) = false ∧ (k == 2) = false ∧ (k == 3) = false ∧ (k == 4) = false ∧ (k == 5) = true) := fun k => by
      by_cases k1 : k = 1
      · simp [k1]
      · by_cases k2 : k = 2
        · simp [k2]
        · by_cases k3 : k = 3
          · simp [k3]
          · by_cases k4 : k = 4
            · simp [k4]
            · by_cases k5 : k = 5
              · simp [k5]
              · simp [k1, k2, k3, k4, k5]
  rcases (show ((t.mn == 0) = true ∧ t.mn = 0) ∨ ((t.mn == 0) = false ∧ ¬ t.mn = 0) from by by_cases h1 : t.mn = 0 <;> simp [h1]) with ⟨m1, m2⟩ | ⟨m1, m2⟩
  · rcases hk t.kind with ⟨k0, k1, k2, k3, k4, k5⟩ | ⟨k0, k1, k2, k3, k4, k5⟩ | ⟨k0, k1, k2, k3, k4, k5⟩ | ⟨k0, k1, k2, k3, k4, k5⟩ | ⟨k0, k1, k2, k3, k4, k5⟩ | ⟨k0, k1, k2, k3, k4, k5⟩
    all_goals
      rcases hx t.mx with ⟨x1, x2, x3⟩ | ⟨x1, x2, x3⟩ | ⟨x1, x2, x3⟩
    all_goals clear hx hk
    all_goals
      have HF := Lib.hid (And.intro m2 (And.intro k0 x3))
      clear m2 k0 x3
      have m1' : (t.mn != 0) = false := by simp [bne, m1]
      have x1' : (t.mx != 0) = !(t.mx == 0) := rfl
      have k5' : (t.kind != 5) = !(t.kind == 5) := rfl
      have k2' : (t.kind != 2) = !(t.kind == 2) := rfl
      rw [x1] at x1'
      rw [k5] at k5'
      rw [k2] at k2'
      simp only [Bool.not_true, Bool.not_false] at x1' k5' k2'
      first
      | (go_enter Try.func81, Try.ntmps81
         go_wp2_with fail
         go_ret
         refine ⟨Bytes.ret_bool ?_, rfl⟩
         obtain ⟨m2, k0, x3⟩ := HF.out
         unfold fldP
         simp [m2, k0, x3]
         done)
      | (cases E
         all_goals
           go_enter Try.func81, Try.ntmps81
           go_wp2_with fail
           go_ret
           refine ⟨Bytes.ret_bool ?_, rfl⟩
           obtain ⟨m2, k0, x3⟩ := HF.out
           rw [Bool.eq_iff_iff]
           unfold fldP
           rw [HE.out]
           simp [m2, k0, x3]
           try omega)
  · have HF := Lib.hid m2
    have m1' : (t.mn != 0) = true := by simp [bne, m1]
    clear m2 hx hk
    go_enter Try.func81, Try.ntmps81
    go_wp2_with fail
    go_ret
    refine ⟨Bytes.ret_bool ?_, rfl⟩
    unfold fldP
    simp [HF.out]
end Go.Proofs.Ythcjfgfbeollpaa.P13
/- The code's plus, times, wideTimes (layer 9). -/
namespace Go.Proofs.Ythcjfgfbeollpaa.P09
open Go.RowKit Go.Proofs.Ythcjfgfbeollpaa.Base Go.Proofs.Ythcjfgfbeollpaa.Bytes Go.Proofs.Ythcjfgfbeollpaa.P07 Go.Proofs.Ythcjfgfbeollpaa.P08
open Go.Proofs.Ythcjfgfbeollpaa.Sets (ST)

set_option maxRecDepth 100000 in
theorem wtimes_is {w0 mn mx r : Int} (h0 : 0 ≤ w0) (h1 : w0 ≤ 1073741824) (hm : 0 ≤ mn) (h20 : mn ≤ 20) (hx : mx = -1 ∨ 0 ≤ mx) (hx2 : mx ≤ 20) (hr : 1 + wstep 5 mn mx w0 = r) (w : World) : Calls Try.prog 95 #[.int .i64 w0, .int .i64 mn, .int .i64 mx] w fun e w' => e = .returned (.int .i64 r) ∧ w = w' := by
  unfold wstep at hr
  rcases hx with hx | hx
  · rw [if_pos ⟨rfl, hx⟩] at hr
    have b1 : (mx == -1) = true := by simp [hx]
    have p0 := Int.mul_nonneg h0 (show 0 ≤ mn + 1 by omega)
    have p1 := Int.mul_le_mul_of_nonneg_left (show mn + 1 ≤ 21 by omega) h0
    have e1 : IntKind.i64.wrap ((mn + 1) * w0) = (mn + 1) * w0 := by rw [IntKind.wrap_i64, Int.mul_comm]; omega
    have e2 : IntKind.i64.wrap (2 + (mn + 1) * w0) = r := by rw [IntKind.wrap_i64, Int.mul_comm]; omega
    clear hx hr
    go_enter Try.func95, Try.ntmps95
    go_wp2_with fail
    go_ret
    exact ⟨rfl, rfl⟩
  · rw [if_neg (by omega), if_pos rfl] at hr
    have b1 : (mx == -1) = false := by simp; omega
    have p0 := Int.mul_nonneg (show 0 ≤ w0 + 2 by omega) hx
    have p1 := Int.mul_le_mul_of_nonneg_left hx2 (show 0 ≤ w0 + 2 by omega)
    have e1 : IntKind.i64.wrap (mx * (w0 + 2)) = mx * (w0 + 2) := by rw [IntKind.wrap_i64, Int.mul_comm]; omega
    have e2 : IntKind.i64.wrap (1 + mx * (w0 + 2)) = r := by rw [IntKind.wrap_i64, Int.mul_comm]; omega
    clear hr
    go_enter Try.func95, Try.ntmps95
    go_wp2_with fail
    go_ret
    exact ⟨rfl, rfl⟩
end Go.Proofs.Ythcjfgfbeollpaa.P09
