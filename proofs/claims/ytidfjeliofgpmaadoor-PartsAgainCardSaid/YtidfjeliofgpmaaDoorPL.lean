/- A list of pairs of bytes in a slice of its own: what append makes of it, what is read, what a store into its last pair's second byte does. -/
import Derived.Test.YtidfjeliofgpmaaDoorFrom
import Derived.Maps.AppendAt
import Derived.Lib.AppendZeros
namespace Go.Proofs.YtidfjeliofgpmaaDoor.PL
open Go.RowKit Go.Proofs.YtidfjeliofgpmaaDoor.Base Go.Proofs.YtidfjeliofgpmaaDoor.Sets

def flat (L : List (Nat × Nat)) : List Value := L.flatMap fun r => [.int .u8 r.1, .int .u8 r.2]

theorem flat_length : ∀ L, (flat L).length = L.length * 2
  | [] => rfl
  | r :: L => by
    have := flat_length L
    unfold flat at *
    rw [List.flatMap_cons, List.length_append, this, List.length_cons]
    simp
    omega

theorem flat_append (L M : List (Nat × Nat)) : flat (L ++ M) = flat L ++ flat M := List.flatMap_append ..

theorem flat_at : ∀ (L : List (Nat × Nat)) (i : Nat) (r : Nat × Nat), L[i]? = some r → (flat L)[2 * i]? = some (.int .u8 r.1) ∧ (flat L)[2 * i + 1]? = some (.int .u8 r.2)
  | [], i, r, h => by simp at h
  | s :: L, 0, r, h => by
    simp at h
    subst h
    exact ⟨rfl, rfl⟩
  | s :: L, i + 1, r, h => by
    have := flat_at L i r (by simpa using h)
    have e : flat (s :: L) = .int .u8 s.1 :: .int .u8 s.2 :: flat L := rfl
    rw [e, show 2 * (i + 1) = 2 * i + 1 + 1 from by omega]
    simpa using this

/-- The slice v holds the pairs L, from its block's head. -/
def PL (w : World) (v : Value) (L : List (Nat × Nat)) : Prop := w.ownsRow 0 64 2 v L.length (flat L)

theorem PL.nil (w : World) : PL w (.slice none 0 0) [] := ⟨rfl, .inl ⟨rfl, rfl⟩⟩

theorem PL.keep {S : Nat → Prop} {w w' : World} {v : Value} {L : List (Nat × Nat)} (h : PL w v L) (q : Keep S w w') (hn : ∀ g, v.ownBlock = some g → ¬ S g) : PL w' v L := by
  refine ⟨h.1, ?_⟩
  rcases h.2 with h | ⟨g, cap, cur, rfl, hb, hg, r⟩
  · exact .inl h
  · refine .inr ⟨g, cap, cur, rfl, hb, ?_, r⟩
    have : At w g 64 cur := hg
    exact this.keep q (hn g rfl)

theorem PL.lt {w : World} {v : Value} {L : List (Nat × Nat)} (h : PL w v L) {g : Nat} (hg : v.ownBlock = some g) : g < w.heap.size := by
  rcases h.2 with ⟨rfl, _⟩ | ⟨g', cap, cur, rfl, _, h1, _⟩
  · cases hg
  · cases hg
    exact (Array.getElem?_eq_some_iff.1 h1).1

/-- The slice's form, and its cells. -/
theorem PL.form {w : World} {v : Value} {L : List (Nat × Nat)} (h : PL w v L) : ∃ a cap, v = .slice a L.length cap ∧ (L = [] → a = none ∨ ∃ g, a = some ⟨g, 0, none⟩) ∧ ∀ (i : Nat) (r : Nat × Nat), L[i]? = some r → ∃ g, v.ownBlock = some g ∧ a = some ⟨g, 0, none⟩ ∧ w.cell? ⟨g, 2 * i, none⟩ = some (.int .u8 r.1) ∧ w.cell? ⟨g, 2 * i + 1, none⟩ = some (.int .u8 r.2) ∧ (∀ j, w.frozen? ⟨g, j, none⟩ = false) := by
  rcases h.2 with ⟨rfl, h0⟩ | ⟨g, cap, cur, rfl, _, hg, h1, h2, h3, h4⟩
  · refine ⟨none, 0, by rw [h0], fun _ => .inl rfl, fun i r hr => ?_⟩
    rw [List.eq_nil_of_length_eq_zero h0] at hr
    simp at hr
  · refine ⟨_, cap, rfl, fun _ => .inr ⟨g, rfl⟩, fun i r hr => ⟨g, rfl, rfl, ?_⟩⟩
    have hi : i < L.length := (List.getElem?_eq_some_iff.1 hr).1
    have ha : At w g 64 cur := hg
    obtain ⟨f1, f2⟩ := flat_at L i r hr
    refine ⟨ha.cell ?_, ha.cell ?_, fun j => ha.frozen j⟩
    · have h5 : (cur.toList.take (L.length * 2))[2 * i]? = (flat L)[2 * i]? := by rw [h4]
      rw [List.getElem?_take_of_lt (by omega), f1] at h5
      simpa using h5
    · have h5 : (cur.toList.take (L.length * 2))[2 * i + 1]? = (flat L)[2 * i + 1]? := by rw [h4]
      rw [List.getElem?_take_of_lt (by omega), f2] at h5
      simpa using h5

theorem infoP : (Tryd.prog.info? 64).map (fun i => (i.zero, i.size, i.bytes)) = some (some (.agg #[.int .u8 0, .int .u8 0]), 2, 2) := by kernel_rfl

theorem keep_grown {w w' : World} {r : Option Nat} (h : w.grownBy w' r) : Keep (fun b => r = some b) w w' :=
  ⟨h.os, h.tape, h.output, h.size, fun k hk hn => h.block k hk (fun e => hn e.symm)⟩

/-- append of one pair, laid by the call itself. -/
theorem PL.push {w : World} {v : Value} {L : List (Nat × Nat)} (h : PL w v L) (r : Nat × Nat) (hl : L.length < 2097152) (ty : TypeId) :
    ∃ v' w', (Builtin.append_ #[62, 62] ty #[v, .slice (some ⟨w.heap.size, 0, none⟩) 1 1]).run Tryd.prog (w.alloc (.cells #[.int .u8 r.1, .int .u8 r.2] 64)) = .ok v' w' ∧ PL w' v' (L ++ [r]) ∧ Keep (fun b => v.ownBlock = some b) w w' ∧ (∀ g, v'.ownBlock = some g → v.ownBlock = some g ∨ w.heap.size ≤ g) := by
  have h1 : PL (w.alloc (.cells #[.int .u8 r.1, .int .u8 r.2] 64)) v L := h.keep ((Keep.refl (fun _ => False) w).alloc _) (fun _ _ h => h)
  have c1 := (At.new w #[.int .u8 r.1, .int .u8 r.2] 64).cell (o := 0) rfl
  have c2 := (At.new w #[.int .u8 r.1, .int .u8 r.2] 64).cell (o := 1) rfl
  obtain ⟨i0, hi0, hz0, hz1, hz2⟩ := info_parts infoP
  obtain ⟨v', w', hrun, h2, h3, _, h5⟩ := run_append_own_at (P := Tryd.prog) (w.alloc (.cells #[.int .u8 r.1, .int .u8 r.2] 64)) 0 62 ty 64 i0 (.agg #[.int .u8 0, .int .u8 0]) 2 2 Tryd.underlying62 hi0 hz0 hz1 hz2 rfl (by omega) v L.length (flat L) h1 ⟨w.heap.size, 0, none⟩ 1 1 (flat [r]) rfl
    (fun j u hu => by
      match j, hu with
      | 0, hu => cases hu; exact c1
      | 1, hu => cases hu; exact c2
      | j + 2, hu => simp [flat] at hu) (by intro u hu; simp [flat] at hu; rcases hu with rfl | rfl <;> rfl) (by simp only [maxLen]; omega) (by omega) (Nat.zero_le _)
  refine ⟨v', w', hrun, by unfold PL; rw [List.length_append, flat_append]; exact h2, ((Keep.refl _ w).alloc _).trans (keep_grown h3), fun g hg => ?_⟩
  rcases h5 with h5 | h5
  · exact .inl (by rw [← h5]; exact hg)
  · rw [h5] at hg
    injection hg with hg
    simp at hg
    exact .inr (by omega)

/-- A store into the last pair's second byte. -/
theorem PL.set_last {w : World} {v : Value} {L : List (Nat × Nat)} {r : Nat × Nat} (h : PL w v (L ++ [r])) (k : Nat) {g : Nat} (hg : v.ownBlock = some g) :
    PL (w.setCell ⟨g, 2 * L.length + 1, none⟩ (.int .u8 k)) v (L ++ [(r.1, k)]) := by
  rcases h.2 with ⟨rfl, _⟩ | ⟨g', cap, cur, rfl, hb, h1, h2, h3, h4, h5⟩
  · cases hg
  · cases hg
    have e : (L ++ [(r.1, k)]).length = (L ++ [r]).length := by simp
    refine ⟨by rw [flat_length], .inr ⟨g', cap, _, by rw [e], hb, At.set (w := w) h1 _ _, by rw [e]; exact h2, h3, by rw [Array.size_setIfInBounds]; exact h4, ?_⟩⟩
    rw [e, Array.toList_setIfInBounds, List.take_set, h5, flat_append, flat_append]
    have hf := flat_length L
    rw [List.set_append_right _ _ (by omega), hf, show 2 * L.length + 1 - L.length * 2 = 1 from by omega]
    rfl

end Go.Proofs.YtidfjeliofgpmaaDoor.PL
