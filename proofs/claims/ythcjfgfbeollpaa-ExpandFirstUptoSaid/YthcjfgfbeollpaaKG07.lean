/- A list of ints in a slice of its own: what append makes of it (XLists without the sort). -/
import Derived.Test.YthcjfgfbeollpaaKG05
import Derived.Test.YthcjfgfbeollpaaChecked
import Derived.Maps.AppendAt
import Derived.Lib.AppendZeros
namespace Go.Proofs.Ythcjfgfbeollpaa.IL
open Go.RowKit Go.Proofs.Ythcjfgfbeollpaa.Base

/-- The slice v holds the numbers L, from its block's head. -/
def IL (w : World) (v : Value) (L : List Int) : Prop := w.ownsRow 0 3 1 v L.length (L.map (Value.int .i64))

theorem IL.nil (w : World) : IL w (.slice none 0 0) [] := ⟨rfl, .inl ⟨rfl, rfl⟩⟩

theorem IL.keep {S : Nat → Prop} {w w' : World} {v : Value} {L : List Int} (h : IL w v L) (q : Keep S w w') (hn : ∀ g, v.ownBlock = some g → ¬ S g) : IL w' v L := by
  refine ⟨h.1, ?_⟩
  rcases h.2 with h | ⟨g, cap, cur, rfl, hb, hg, r⟩
  · exact .inl h
  · refine .inr ⟨g, cap, cur, rfl, hb, ?_, r⟩
    have : At w g 3 cur := hg
    exact this.keep q (hn g rfl)

theorem IL.lt {w : World} {v : Value} {L : List Int} (h : IL w v L) {g : Nat} (hg : v.ownBlock = some g) : g < w.heap.size := by
  rcases h.2 with ⟨rfl, _⟩ | ⟨g', cap, cur, rfl, _, h1, _⟩
  · cases hg
  · cases hg
    exact (Array.getElem?_eq_some_iff.1 h1).1

/-- The slice's form, and its cells. -/
theorem IL.form {w : World} {v : Value} {L : List Int} (h : IL w v L) : ∃ a cap, v = .slice a L.length cap ∧ ∀ (i : Nat) (x : Int), L[i]? = some x → ∃ g, v.ownBlock = some g ∧ a = some ⟨g, 0, none⟩ ∧ w.cell? ⟨g, i, none⟩ = some (.int .i64 x) := by
  rcases h.2 with ⟨rfl, h0⟩ | ⟨g, cap, cur, rfl, _, hg, h1, h2, h3, h4⟩
  · refine ⟨none, 0, by rw [h0], fun i x hx => ?_⟩
    rw [List.eq_nil_of_length_eq_zero h0] at hx
    simp at hx
  · refine ⟨_, cap, rfl, fun i x hx => ⟨g, rfl, rfl, ?_⟩⟩
    have hi : i < L.length := (List.getElem?_eq_some_iff.1 hx).1
    have ha : At w g 3 cur := hg
    refine ha.cell ?_
    have h5 : (cur.toList.take (L.length * 1))[i]? = (L.map (Value.int .i64))[i]? := by rw [h4]
    rw [List.getElem?_take_of_lt (by omega), List.getElem?_map, hx] at h5
    simpa using h5

theorem infoI : (Try.prog.info? 3).map (fun i => (i.zero, i.size, i.bytes)) = some (some (.int .i64 0), 1, 8) := by kernel_rfl

theorem Keep.of_grown {w w' : World} {r : Option Nat} (h : w.grownBy w' r) : Keep (fun b => r = some b) w w' :=
  ⟨h.os, h.tape, h.output, h.size, fun k hk hn => h.block k hk (fun e => hn e.symm)⟩

theorem append_of_nil (w : World) (ty : TypeId) (v : Value) (L : List Int) (h : IL w v L) (c : Nat) : (Builtin.append_ #[38, 38] ty #[v, .slice none 0 c]).run Try.prog w = .ok v w := by
  obtain ⟨i0, hi0, hz0, hz1, hz2⟩ := info_parts infoI
  rcases h.2 with ⟨rfl, h0⟩ | ⟨g, cap, cur, rfl, _, _, hnc, _⟩
  · simp [Builtin.append_, run_underlying (P := Try.prog) Try.underlying38, sizeOf, typeInfo, hi0, Builtin.lenOf, Builtin.firstCells]
  · simp [Builtin.append_, run_underlying (P := Try.prog) Try.underlying38, sizeOf, typeInfo, hi0, Builtin.lenOf, Builtin.firstCells, hnc, storeCells]

/-- append of the numbers M, which lie at A. -/
theorem IL.append {w : World} {v : Value} {L : List Int} (h : IL w v L) (M : List Int) (A : Option Addr) (c : Nat) (hs : ∀ (j : Nat) (x : Int), M[j]? = some x → ∃ ad, A = some ad ∧ w.cell? (ad.add j) = some (.int .i64 x)) (hl : L.length + M.length ≤ 2097152) (ty : TypeId) :
    ∃ v' w', (Builtin.append_ #[38, 38] ty #[v, .slice A M.length c]).run Try.prog w = .ok v' w' ∧ IL w' v' (L ++ M) ∧ Keep (fun b => v.ownBlock = some b) w w' ∧ (∀ g, v'.ownBlock = some g → v.ownBlock = some g ∨ w.heap.size ≤ g) := by
  cases A with
  | none =>
    have hM : M = [] := by
      cases M with
      | nil => rfl
      | cons x M => obtain ⟨ad, e, _⟩ := hs 0 x rfl; cases e
    subst hM
    exact ⟨v, w, append_of_nil w ty v L h c, by simpa using h, Keep.refl _ w, fun g hg => .inl hg⟩
  | some ad =>
    obtain ⟨i0, hi0, hz0, hz1, hz2⟩ := info_parts infoI
    obtain ⟨v', w', hrun, h2, h3, _, h5⟩ := run_append_own_at (P := Try.prog) w 0 38 ty 3 i0 (.int .i64 0) 1 8 Try.underlying38 hi0 hz0 hz1 hz2 rfl (by omega) v L.length (L.map (Value.int .i64)) h ad M.length c (M.map (Value.int .i64)) (by simp)
      (fun j u hu => by
        rw [List.getElem?_map] at hu
        cases e : M[j]? with
        | none => rw [e] at hu; cases hu
        | some x =>
          rw [e] at hu
          cases hu
          obtain ⟨ad', e', hc⟩ := hs j x e
          cases e'
          exact hc) (by intro u hu; obtain ⟨x, _, rfl⟩ := List.mem_map.1 hu; rfl) (by simp only [maxLen]; omega) (by omega) (Nat.zero_le _)
    refine ⟨v', w', hrun, by unfold IL; rw [List.length_append, List.map_append]; exact h2, Keep.of_grown h3, fun g hg => ?_⟩
    rcases h5 with h5 | h5
    · exact .inl (by rw [← h5]; exact hg)
    · rw [h5] at hg
      injection hg with hg
      exact .inr (by omega)

/-- append of one number, laid by the call itself. -/
theorem IL.push {w : World} {v : Value} {L : List Int} (h : IL w v L) (x : Int) (hl : L.length < 2097152) (ty : TypeId) :
    ∃ v' w', (Builtin.append_ #[38, 38] ty #[v, .slice (some ⟨w.heap.size, 0, none⟩) 1 1]).run Try.prog (w.alloc (.cells #[.int .i64 x] 3)) = .ok v' w' ∧ IL w' v' (L ++ [x]) ∧ Keep (fun b => v.ownBlock = some b) w w' ∧ (∀ g, v'.ownBlock = some g → v.ownBlock = some g ∨ w.heap.size ≤ g) := by
  have h1 : IL (w.alloc (.cells #[.int .i64 x] 3)) v L := h.keep ((Keep.refl (fun _ => False) w).alloc _) (fun _ _ h => h)
  have c1 := (At.new w #[.int .i64 x] 3).cell (o := 0) rfl
  obtain ⟨v', w', hr, g1, g2, g3⟩ := h1.append [x] (some ⟨w.heap.size, 0, none⟩) 1 (fun j y hy => by
    match j, hy with
    | 0, hy => cases hy; exact ⟨_, rfl, c1⟩
    | j + 1, hy => simp at hy) (by simp; omega) ty
  refine ⟨v', w', hr, g1, ((Keep.refl _ w).alloc _).trans g2, fun g hg => ?_⟩
  rcases g3 g hg with h | h
  · exact .inl h
  · right
    simp at h
    omega

end Go.Proofs.Ythcjfgfbeollpaa.IL
