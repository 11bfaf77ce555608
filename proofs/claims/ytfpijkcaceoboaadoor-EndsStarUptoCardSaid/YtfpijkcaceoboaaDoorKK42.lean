/- The document's Best (layer 11). -/
import Derived.Test.YtfpijkcaceoboaaDoorKK35
import Derived.Test.YtfpijkcaceoboaaDoorKK39
import Derived.Test.YtfpijkcaceoboaaDoorKK26
import Derived.Test.YtfpijkcaceoboaaDoorKK27
namespace Go.Proofs.YtfpijkcaceoboaaDoor.P11
open Go.RowKit Go.Proofs.YtfpijkcaceoboaaDoor.Base Go.Proofs.YtfpijkcaceoboaaDoor.Bytes Go.Proofs.YtfpijkcaceoboaaDoor.P07 Go.Proofs.YtfpijkcaceoboaaDoor.P08 Go.Proofs.YtfpijkcaceoboaaDoor.P09
open Go.Proofs.YtfpijkcaceoboaaDoor.Sets (ST)

/-- How far a rule's longest match goes, and whether it counts. -/
noncomputable def farI (s : List UInt8) (f : Nat) (t : T) : Int := lastI (endsI s t f)
noncomputable def bestS (s : List UInt8) (f : Nat) : List RU → Int → Int × Int → Int × Int
  | [], _, p => p
  | x :: L, i, p => bestS s f L (i + 1) (if rightB x.re = true ∧ (f : Int) < farI s f x.re ∧ p.2 < farI s f x.re then (i, farI s f x.re) else p)
/-- Best's answer. -/
noncomputable def bestI (s : List UInt8) (f : Int) (L : List RU) : Int × Int := if 0 ≤ f ∧ f ≤ s.length then bestS s f.toNat L 0 (-1, -1) else (-1, -1)

end Go.Proofs.YtfpijkcaceoboaaDoor.P11
/- Layer 11, plain: what the laws say of ends. -/
namespace Go.Proofs.YtfpijkcaceoboaaDoor.P11
open Go.RowKit Go.Proofs.YtfpijkcaceoboaaDoor.Base Go.Proofs.YtfpijkcaceoboaaDoor.Bytes Go.Proofs.YtfpijkcaceoboaaDoor.P07 Go.Proofs.YtfpijkcaceoboaaDoor.P08 Go.Proofs.YtfpijkcaceoboaaDoor.P09 Go.Proofs.YtfpijkcaceoboaaDoor.P10 Go.Proofs.YtfpijkcaceoboaaDoor.IL
open Go.Proofs.YtfpijkcaceoboaaDoor.Sets (ST)

theorem plc_congr {X Y : List Bool} : ∀ k, (∀ j, j < k → (On X j ↔ On Y j)) → plc X k = plc Y k
  | 0, _ => rfl
  | k + 1, h => by
    have e : X.getD k false = Y.getD k false := by
      rw [Bool.eq_iff_iff]
      exact h k (Nat.lt_succ_self k)
    rw [plc_succ, plc_succ, plc_congr k (fun j hj => h j (by omega)), e]
theorem plc_mem {X : List Bool} {k : Nat} {x : Int} : x ∈ plc X k ↔ ∃ j : Nat, j < k ∧ On X j ∧ x = j := by
  unfold plc On
  exact lst_mem _ k x
theorem plc_add (Y : List Bool) (n : Nat) : ∀ m, ∃ R, plc Y (n + m) = plc Y n ++ R ∧ ∀ x ∈ R, (n : Int) ≤ x
  | 0 => ⟨[], by simp, fun x h => by cases h⟩
  | m + 1 => by
    obtain ⟨R, h1, h2⟩ := plc_add Y n m
    rw [← Nat.add_assoc, plc_succ]
    split
    · refine ⟨R ++ [((n + m : Nat) : Int)], by rw [h1, List.append_assoc], fun x hx => ?_⟩
      rcases List.mem_append.1 hx with hx | hx
      · exact h2 x hx
      · rw [List.mem_singleton] at hx
        omega
    · exact ⟨R, h1, h2⟩
/-- Two expressions with the same ends. -/
theorem ends_same {s : List UInt8} {t u : T} {d e f : Nat} (hR : RT d t) (hU : RT e u) (hf : f ≤ s.length) (h : ∀ w, P10.Mat t w ↔ P10.Mat u w) : endsI s t f = endsI s u f := by
  unfold endsI
  refine plc_congr _ (fun j _ => ?_)
  rw [(rowT_ok hR hf).2 j, (rowT_ok hU hf).2 j]
  unfold EndAt
  rw [h]
/-- What is simple has the same ends. -/
theorem ends_simple {s : List UInt8} {t : T} {d f : Nat} (hR : RT d t) (hf : f ≤ s.length) : endsI s t f = endsI s (simT t) f := by
  have h := (sim_ok t d hR).1
  exact ends_same hR h.rt hf (fun w => (h.mat w).symm)
/-- A longer text changes nothing of ends that were there. -/
theorem ends_longer {s m : List UInt8} {t : T} {d f : Nat} (hR : RT d t) (hf : f ≤ s.length) : ∃ R, endsI (s ++ m) t f = endsI s t f ++ R ∧ ∀ x ∈ R, (s.length : Int) < x := by
  obtain ⟨R, h1, h2⟩ := plc_add (rowT (s ++ m) t f) (s.length + 1) m.length
  refine ⟨R, ?_, fun x hx => by have := h2 x hx; omega⟩
  unfold endsI
  rw [List.length_append, show s.length + m.length + 1 = s.length + 1 + m.length by omega, h1]
  congr 1
  refine plc_congr _ (fun j hj => ?_)
  rw [(rowT_ok hR (by rw [List.length_append]; omega)).2 j, (rowT_ok hR hf).2 j]
  unfold EndAt
  rw [seg_longer s m (by omega), List.length_append]
  constructor
  · exact fun h => ⟨h.1, by omega, h.2.2⟩
  · exact fun h => ⟨h.1, by omega, h.2.2⟩
/-- The first end. -/
theorem plc_head {X : List Bool} {f k : Nat} (h1 : On X f) (h2 : ∀ j, On X j → f ≤ j) (hk : f < k) : (plc X k)[0]? = some (f : Int) := by
  have e0 : plc X f = [] := by
    rw [List.eq_nil_iff_forall_not_mem]
    intro x hx
    obtain ⟨j, hj, ho, -⟩ := plc_mem.1 hx
    have := h2 j ho
    omega
  obtain ⟨R, h3, -⟩ := plc_add X (f + 1) (k - (f + 1))
  rw [show f + 1 + (k - (f + 1)) = k by omega] at h3
  rw [h3, plc_succ, if_pos (show X.getD f false = true from h1), e0]
  rfl
/-- As often as may be. -/
def starT (t : T) : T := .nd 5 ST.none 0 (-1) [t]
def emptyT : T := .nd 1 ST.none 0 0 []
def moreT (t : T) : T := .nd 4 ST.none 0 0 [emptyT, .nd 3 ST.none 0 0 [t, starT t]]
theorem star_more (t : T) (w : List UInt8) : P10.Mat (starT t) w ↔ P10.Mat (moreT t) w := by
  unfold moreT emptyT
  rw [mat_4, malt_cons, malt_cons, mat_1, mat_3, mcat_cons]
  have hs : ∀ w, P10.Mat (starT t) w ↔ ∃ n : Nat, Pow (P10.Mat t) n w := fun w => by
    unfold starT
    rw [mat_5]
    constructor
    · rintro ⟨n, -, -, h⟩
      exact ⟨n, (Pow.congr (fun w => mhd_cons t [] w) n w).1 h⟩
    · rintro ⟨n, h⟩
      exact ⟨n, by omega, .inl (by decide), (Pow.congr (fun w => (mhd_cons t [] w).symm) n w).1 h⟩
  rw [hs]
  constructor
  · rintro ⟨n, h⟩
    cases n with
    | zero => exact .inl h
    | succ n =>
      obtain ⟨u, v, rfl, h1, h2⟩ := h
      exact .inr (.inl ⟨u, v, rfl, h1, (mcat_cons _ _ _).2 ⟨v, [], by simp, (hs v).2 ⟨n, h2⟩, (mcat_nil _).2 rfl⟩⟩)
  · rintro (h | ⟨u, v, rfl, h1, h2⟩ | h)
    · exact ⟨0, h⟩
    · obtain ⟨a, b, rfl, h3, h4⟩ := (mcat_cons _ _ _).1 h2
      rw [mcat_nil] at h4
      subst h4
      rw [List.append_nil]
      obtain ⟨n, hn⟩ := (hs a).1 h3
      exact ⟨n + 1, u, a, rfl, h1, hn⟩
    · exact absurd h (malt_nil _)
theorem ends_star {s : List UInt8} {t : T} {d e f : Nat} (hR : RT d (starT t)) (hU : RT e (moreT t)) (hf : f ≤ s.length) : endsI s (starT t) f = endsI s (moreT t) f ∧ (endsI s (starT t) f)[0]? = some (f : Int) := by
  refine ⟨ends_same hR hU hf (star_more t), plc_head (((rowT_ok hR hf).2 f).2 ⟨Nat.le_refl f, hf, ?_⟩) (fun j hj => (((rowT_ok hR hf).2 j).1 hj).1) (by omega)⟩
  rw [seg_self, star_more]
  unfold moreT emptyT
  rw [mat_4, malt_cons, mat_1]
  exact .inl rfl
/-- Match, by its row. -/
theorem match_row {s : List UInt8} {t : T} {d : Nat} (hR : RT d t) : pb (P10.Mat t s) = (rowT s t 0).getD s.length false := by
  refine pb_is ?_
  have h := (rowT_ok (s := s) hR (Nat.zero_le _)).2 s.length
  unfold On at h
  rw [h]
  unfold EndAt
  rw [seg_whole]
  exact ⟨fun h => ⟨Nat.zero_le _, Nat.le_refl _, h⟩, fun h => h.2.2⟩
/-- Two choices, two behind one another. -/
def altP (a b : T) : T := .nd 4 ST.none 0 0 [a, b]
def catP (a b : T) : T := .nd 3 ST.none 0 0 [a, b]
end Go.Proofs.YtfpijkcaceoboaaDoor.P11
