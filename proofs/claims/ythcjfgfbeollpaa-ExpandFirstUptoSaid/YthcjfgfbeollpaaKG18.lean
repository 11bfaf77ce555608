/- A list of sets in a slice of its own: what append makes of it. -/
import Derived.Test.YthcjfgfbeollpaaKG13
import Derived.Maps.AppendAt
import Derived.Lib.AppendZeros
namespace Go.Proofs.Ythcjfgfbeollpaa.OL
open Go.RowKit Go.Proofs.Ythcjfgfbeollpaa.Base Go.Proofs.Ythcjfgfbeollpaa.Sets Go.Proofs.Ythcjfgfbeollpaa.Bytes Go.Proofs.Ythcjfgfbeollpaa.SetL

def flat (L : List ST) : List Value := L.flatMap fun s => (cells s).toList

theorem flat_length : ∀ L, (flat L).length = L.length * 4
  | [] => rfl
  | s :: L => by
    have := flat_length L
    unfold flat at *
    rw [List.flatMap_cons, List.length_append, this, List.length_cons]
    simp
    omega

theorem flat_append (L M : List ST) : flat (L ++ M) = flat L ++ flat M := List.flatMap_append ..

theorem flat_at : ∀ (L : List ST) (i : Nat) (s : ST), L[i]? = some s → ∀ j, j < 4 → (flat L)[i * 4 + j]? = some (.int .u64 (s.w j))
  | [], i, s, h, _, _ => by simp at h
  | t :: L, 0, s, h, j, hj => by
    simp at h
    subst h
    have e : flat (t :: L) = (cells t).toList ++ flat L := rfl
    rw [e, List.getElem?_append_left (by simp; omega), Nat.zero_mul, Nat.zero_add, ← cells_at t j hj]
    simp
  | t :: L, i + 1, s, h, j, hj => by
    have := flat_at L i s (by simpa using h) j hj
    have e : flat (t :: L) = (cells t).toList ++ flat L := rfl
    rw [e, List.getElem?_append_right (by simp; omega), ← this]
    congr 1
    simp
    omega

theorem flat_cell {L : List ST} {j : Nat} {u : Value} (h : (flat L)[j]? = some u) : ∃ s, L[j / 4]? = some s ∧ u = .int .u64 (s.w (j % 4)) := by
  have hj : j < (flat L).length := (List.getElem?_eq_some_iff.1 h).1
  rw [flat_length] at hj
  have hi : j / 4 < L.length := by omega
  refine ⟨L[j / 4], List.getElem?_eq_getElem hi, ?_⟩
  have := flat_at L (j / 4) _ (List.getElem?_eq_getElem hi) (j % 4) (by omega)
  rw [show j / 4 * 4 + j % 4 = j from by omega, h] at this
  exact Option.some.inj this

/-- The slice v holds the sets L, from its block's head. -/
def OL (w : World) (v : Value) (L : List ST) : Prop := w.ownsRow 0 24 4 v L.length (flat L)

theorem OL.nil (w : World) : OL w (.slice none 0 0) [] := ⟨rfl, .inl ⟨rfl, rfl⟩⟩

theorem OL.keep {S : Nat → Prop} {w w' : World} {v : Value} {L : List ST} (h : OL w v L) (q : Keep S w w') (hn : ∀ g, v.ownBlock = some g → ¬ S g) : OL w' v L := by
  refine ⟨h.1, ?_⟩
  rcases h.2 with h | ⟨g, cap, cur, rfl, hb, hg, r⟩
  · exact .inl h
  · refine .inr ⟨g, cap, cur, rfl, hb, ?_, r⟩
    have : At w g 24 cur := hg
    exact this.keep q (hn g rfl)

theorem OL.lt {w : World} {v : Value} {L : List ST} (h : OL w v L) {g : Nat} (hg : v.ownBlock = some g) : g < w.heap.size := by
  rcases h.2 with ⟨rfl, _⟩ | ⟨g', cap, cur, rfl, _, h1, _⟩
  · cases hg
  · cases hg
    exact (Array.getElem?_eq_some_iff.1 h1).1

/-- As an argument. -/
theorem OL.form {w : World} {v : Value} {L : List ST} (h : OL w v L) : ∃ a cap, v = .slice a L.length cap ∧ SL w a L ∧ (∀ x, a = some x → v.ownBlock = some x.block) := by
  rcases h.2 with ⟨rfl, h0⟩ | ⟨g, cap, cur, rfl, _, hg, h1, h2, h3, h4⟩
  · refine ⟨none, 0, by rw [h0], .inl (List.eq_nil_of_length_eq_zero h0), fun x hx => by cases hx⟩
  · have ha : At w g 24 cur := hg
    refine ⟨_, cap, rfl, .inr ⟨g, 0, rfl, ha.lt, fun i s hs j hj => ha.cell ?_⟩, fun x hx => by cases hx; rfl⟩
    have hi : i < L.length := (List.getElem?_eq_some_iff.1 hs).1
    have h5 : (cur.toList.take (L.length * 4))[i * 4 + j]? = (flat L)[i * 4 + j]? := by rw [h4]
    rw [List.getElem?_take_of_lt (by omega), flat_at L i s hs j hj] at h5
    rw [Nat.zero_add]
    simpa using h5

theorem infoS : (Try.prog.info? 24).map (fun i => (i.zero, i.size, i.bytes)) = some (some (.agg #[.int .u64 0, .int .u64 0, .int .u64 0, .int .u64 0]), 4, 32) := by kernel_rfl

theorem keep_grown {w w' : World} {r : Option Nat} (h : w.grownBy w' r) : Keep (fun b => r = some b) w w' :=
  ⟨h.os, h.tape, h.output, h.size, fun k hk hn => h.block k hk (fun e => hn e.symm)⟩

theorem append_of_nil (w : World) (ty : TypeId) (v : Value) (L : List ST) (h : OL w v L) (c : Nat) : (Builtin.append_ #[42, 42] ty #[v, .slice none 0 c]).run Try.prog w = .ok v w := by
  obtain ⟨i0, hi0, hz0, hz1, hz2⟩ := info_parts infoS
  rcases h.2 with ⟨rfl, h0⟩ | ⟨g, cap, cur, rfl, _, _, hnc, _⟩
  · simp [Builtin.append_, run_underlying (P := Try.prog) Try.underlying42, sizeOf, typeInfo, hi0, Builtin.lenOf, Builtin.firstCells]
  · simp [Builtin.append_, run_underlying (P := Try.prog) Try.underlying42, sizeOf, typeInfo, hi0, Builtin.lenOf, Builtin.firstCells, hnc, storeCells]

/-- append of the sets M, which lie at A. -/
theorem OL.append {w : World} {v : Value} {L : List ST} (h : OL w v L) (M : List ST) (A : Option Addr) (c : Nat) (hs : SL w A M) (hl : L.length + M.length ≤ 2097152) (ty : TypeId) :
    ∃ v' w', (Builtin.append_ #[42, 42] ty #[v, .slice A M.length c]).run Try.prog w = .ok v' w' ∧ OL w' v' (L ++ M) ∧ Keep (fun b => v.ownBlock = some b) w w' ∧ (∀ g, v'.ownBlock = some g → v.ownBlock = some g ∨ w.heap.size ≤ g) := by
  cases A with
  | none =>
    have hM : M = [] := by
      rcases hs with h | ⟨_, _, e, _⟩
      · exact h
      · cases e
    subst hM
    exact ⟨v, w, append_of_nil w ty v L h c, by simpa using h, Keep.refl _ w, fun g hg => .inl hg⟩
  | some ad =>
    obtain ⟨i0, hi0, hz0, hz1, hz2⟩ := info_parts infoS
    obtain ⟨v', w', hrun, h2, h3, _, h5⟩ := run_append_own_at (P := Try.prog) w 0 42 ty 24 i0 (.agg #[.int .u64 0, .int .u64 0, .int .u64 0, .int .u64 0]) 4 32 Try.underlying42 hi0 hz0 hz1 hz2 rfl (by omega) v L.length (flat L) h ad M.length c (flat M) (flat_length M)
      (fun j u hu => by
        obtain ⟨s, h1, rfl⟩ := flat_cell hu
        rcases hs with rfl | ⟨bl, off, e, _, hc⟩
        · simp at h1
        · cases e
          have := hc _ s h1 (j % 4) (by omega)
          rw [show j / 4 * 4 + j % 4 = j from by omega] at this
          rw [Addr.add_mid]
          exact this) (by intro u hu; obtain ⟨j, hj⟩ := List.getElem?_of_mem hu; obtain ⟨s, _, rfl⟩ := flat_cell hj; rfl) (by simp only [maxLen]; omega) (by omega) (Nat.zero_le _)
    refine ⟨v', w', hrun, by unfold OL; rw [List.length_append, flat_append]; exact h2, keep_grown h3, fun g hg => ?_⟩
    rcases h5 with h5 | h5
    · exact .inl (by rw [← h5]; exact hg)
    · rw [h5] at hg
      injection hg with hg
      exact .inr (by omega)

theorem new_one (w : World) (s : ST) : OL (w.alloc (.cells (cells s) 24)) (.slice (some ⟨w.heap.size, 0, none⟩) 1 1) [s] :=
  ⟨rfl, .inr ⟨_, 1, cells s, rfl, Nat.zero_le _, At.new w (cells s) 24, Nat.le_refl _, by simp only [maxLen]; omega, rfl, by simp [flat]⟩⟩
/-- append of one set, laid by the call itself. -/
theorem OL.push {w : World} {v : Value} {L : List ST} (h : OL w v L) (s : ST) (hl : L.length < 2097152) (ty : TypeId) :
    ∃ v' w', (Builtin.append_ #[42, 42] ty #[v, .slice (some ⟨w.heap.size, 0, none⟩) 1 1]).run Try.prog (w.alloc (.cells (cells s) 24)) = .ok v' w' ∧ OL w' v' (L ++ [s]) ∧ Keep (fun b => v.ownBlock = some b) w w' ∧ (∀ g, v'.ownBlock = some g → v.ownBlock = some g ∨ w.heap.size ≤ g) := by
  have h1 : OL (w.alloc (.cells (cells s) 24)) v L := h.keep ((Keep.refl (fun _ => False) w).alloc _) (fun _ _ h => h)
  obtain ⟨a, cap, e, hsl, -⟩ := (new_one w s).form
  injection e with e1 _ e2
  subst e1 e2
  obtain ⟨v', w', hr, g1, g2, g3⟩ := h1.append [s] (some ⟨w.heap.size, 0, none⟩) 1 hsl (by simp; omega) ty
  refine ⟨v', w', hr, g1, ((Keep.refl _ w).alloc _).trans g2, fun g hg => ?_⟩
  rcases g3 g hg with h | h
  · exact .inl h
  · right
    simp at h
    omega

end Go.Proofs.Ythcjfgfbeollpaa.OL
/- A slice of sets of the program's own: an element's cells (as in OL2). -/
namespace Go.Proofs.Ythcjfgfbeollpaa.OL
open Go.RowKit Go.Proofs.Ythcjfgfbeollpaa.Base Go.Proofs.Ythcjfgfbeollpaa.Sets Go.Proofs.Ythcjfgfbeollpaa.Bytes Go.Proofs.Ythcjfgfbeollpaa.SetL

/-- An element's cells, and the block's. -/
theorem OL.get13 {w : World} {v : Value} {L : List ST} (h : OL w v L) {i : Nat} {s : ST} (hi : L[i]? = some s) : ∃ g cap, v = .slice (some ⟨g, 0, none⟩) L.length cap ∧ v.ownBlock = some g ∧ g < w.heap.size ∧
    (∀ j, j < 4 → w.cell? ⟨g, i * 4 + j, none⟩ = some (.int .u64 (s.w j))) ∧ (∀ j, w.frozen? ⟨g, j, none⟩ = false) := by
  rcases h.2 with ⟨rfl, h0⟩ | ⟨g, cap, cur, rfl, _, hg, h1, h2, h3, h4⟩
  · rw [List.eq_nil_of_length_eq_zero h0] at hi
    simp at hi
  · have ha : At w g 24 cur := hg
    refine ⟨g, cap, rfl, rfl, ha.lt, fun j hj => ha.cell ?_, fun j => ha.frozen j⟩
    have hl : i < L.length := (List.getElem?_eq_some_iff.1 hi).1
    have h5 : (cur.toList.take (L.length * 4))[i * 4 + j]? = (flat L)[i * 4 + j]? := by rw [h4]
    rw [List.getElem?_take_of_lt (by omega), flat_at L i s hi j hj] at h5
    simpa using h5
end Go.Proofs.Ythcjfgfbeollpaa.OL
