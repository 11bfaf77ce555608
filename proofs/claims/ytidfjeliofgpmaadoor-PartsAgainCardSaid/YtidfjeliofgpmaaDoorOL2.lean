/- More on a slice of sets of the program's own: its cells, a store of a whole set, and append with a word on the elder row. -/
import Derived.Test.YtidfjeliofgpmaaDoorOL
namespace Go.Proofs.YtidfjeliofgpmaaDoor.OL
open Go.RowKit Go.Proofs.YtidfjeliofgpmaaDoor.Base Go.Proofs.YtidfjeliofgpmaaDoor.Sets Go.Proofs.YtidfjeliofgpmaaDoor.Bytes Go.Proofs.YtidfjeliofgpmaaDoor.SetL

/-- An element's cells, and the block's. -/
theorem OL.get {w : World} {v : Value} {L : List ST} (h : OL w v L) {i : Nat} {s : ST} (hi : L[i]? = some s) : ∃ g cap, v = .slice (some ⟨g, 0, none⟩) L.length cap ∧ v.ownBlock = some g ∧ g < w.heap.size ∧
    (∀ j, j < 4 → w.cell? ⟨g, i * 4 + j, none⟩ = some (.int .u64 (s.w j))) ∧ (∀ j, w.frozen? ⟨g, j, none⟩ = false) := by
  rcases h.2 with ⟨rfl, h0⟩ | ⟨g, cap, cur, rfl, _, hg, h1, h2, h3, h4⟩
  · rw [List.eq_nil_of_length_eq_zero h0] at hi
    simp at hi
  · have ha : At w g 35 cur := hg
    refine ⟨g, cap, rfl, rfl, ha.lt, fun j hj => ha.cell ?_, fun j => ha.frozen j⟩
    have hl : i < L.length := (List.getElem?_eq_some_iff.1 hi).1
    have h5 : (cur.toList.take (L.length * 4))[i * 4 + j]? = (flat L)[i * 4 + j]? := by rw [h4]
    rw [List.getElem?_take_of_lt (by omega), flat_at L i s hi j hj] at h5
    simpa using h5

theorem flat_set : ∀ (L : List ST) (i : Nat) (s : ST), i < L.length → flat (L.set i s) = ((((flat L).set (i * 4) (.int .u64 s.x0)).set (i * 4 + 1) (.int .u64 s.x1)).set (i * 4 + 2) (.int .u64 s.x2)).set (i * 4 + 3) (.int .u64 s.x3)
  | [], i, s, h => by simp at h
  | t :: L, 0, s, _ => rfl
  | t :: L, i + 1, s, h => by
    have := flat_set L i s (by simpa using h)
    have e : flat (t :: L) = .int .u64 t.x0 :: .int .u64 t.x1 :: .int .u64 t.x2 :: .int .u64 t.x3 :: flat L := rfl
    have e' : flat (t :: L.set i s) = .int .u64 t.x0 :: .int .u64 t.x1 :: .int .u64 t.x2 :: .int .u64 t.x3 :: flat (L.set i s) := rfl
    rw [List.set_cons_succ, e', e, this, show (i + 1) * 4 = i * 4 + 1 + 1 + 1 + 1 from by omega]
    rfl

/-- A store of a whole set. -/
@[reducible] def put4 (w : World) (g o : Nat) (s : ST) : World :=
  (((w.setCell ⟨g, o, none⟩ (.int .u64 s.x0)).setCell ⟨g, o + 1, none⟩ (.int .u64 s.x1)).setCell ⟨g, o + 2, none⟩ (.int .u64 s.x2)).setCell ⟨g, o + 3, none⟩ (.int .u64 s.x3)

theorem OL.put {w : World} {v : Value} {L : List ST} (h : OL w v L) {i : Nat} (hi : i < L.length) {g : Nat} (hg : v.ownBlock = some g) (s : ST) : OL (put4 w g (i * 4) s) v (L.set i s) := by
  rcases h.2 with ⟨rfl, _⟩ | ⟨g', cap, cur, rfl, hb, h1, h2, h3, h4, h5⟩
  · cases hg
  · cases hg
    have ha : At w g' 35 cur := h1
    have a4 := (((ha.set (i * 4) (.int .u64 s.x0)).set (i * 4 + 1) (.int .u64 s.x1)).set (i * 4 + 2) (.int .u64 s.x2)).set (i * 4 + 3) (.int .u64 s.x3)
    have e : (L.set i s).length = L.length := List.length_set
    refine ⟨by rw [flat_length], .inr ⟨g', cap, _, by rw [e], hb, a4, by rw [e]; exact h2, h3, by simp [h4], ?_⟩⟩
    rw [e, flat_set L i s hi, ← h5]
    simp [Array.toList_setIfInBounds, List.take_set]

theorem put4_keep (w : World) (g o : Nat) (s : ST) : Keep (fun b => b = g) w (put4 w g o s) :=
  ((((Keep.refl (fun b => b = g) w).setCell (p := ⟨g, o, none⟩) (fun _ => rfl) _).setCell (p := ⟨g, o + 1, none⟩) (fun _ => rfl) _).setCell (p := ⟨g, o + 2, none⟩) (fun _ => rfl) _).setCell (p := ⟨g, o + 3, none⟩) (fun _ => rfl) _

/-- append of one set, laid by the call itself: the row grows where it lies, or goes elsewhere and is left as it was. -/
theorem OL.push2 {w : World} {v : Value} {L : List ST} (h : OL w v L) {g : Nat} (hg : v.ownBlock = some g) (s : ST) (hl : L.length < 2097152) (ty : TypeId) :
    ∃ v' w', (Builtin.append_ #[22, 22] ty #[v, .slice (some ⟨w.heap.size, 0, none⟩) 1 1]).run Tryd.prog (w.alloc (.cells (cells s) 35)) = .ok v' w' ∧ OL w' v' (L ++ [s]) ∧
      ((v'.ownBlock = some g ∧ Keep (fun b => b = g) w w') ∨ (Keep (fun _ => False) w w' ∧ ∀ g', v'.ownBlock = some g' → w.heap.size ≤ g')) := by
  obtain ⟨v', w', hr, g1, g2, g3⟩ := h.push s hl ty
  refine ⟨v', w', hr, g1, ?_⟩
  have h1 : OL (w.alloc (.cells (cells s) 35)) v L := h.keep ((Keep.refl (fun _ => False) w).alloc _) (fun _ _ h => h)
  have hn1 : OL (w.alloc (.cells (cells s) 35)) (.slice (some ⟨w.heap.size, 0, none⟩) 1 1) [s] := new_one w s
  obtain ⟨i0, hi0, hz0, hz1, hz2⟩ := info_parts infoS
  have hnews : ∀ j u, (flat [s])[j]? = some u → (w.alloc (.cells (cells s) 35)).cell? ((⟨w.heap.size, 0, none⟩ : Addr).add j) = some u := hn1.cells (g := w.heap.size) rfl
  rcases h1.2 with ⟨rfl, _⟩ | ⟨g', cap, cur, rfl, _, hb, hnc, hcm, hcs, htake⟩
  · cases hg
  · cases hg
    by_cases hroom : L.length + 1 ≤ cap
    · have hr2 := run_append_room (P := Tryd.prog) (w.alloc (.cells (cells s) 35)) 22 ty 35 i0 Tryd.underlying22 hi0 g' L.length cap cur hb ⟨w.heap.size, 0, none⟩ 1 1 (flat [s]) (by rw [flat_length, hz1]; rfl) hnews
        (by intro u hu; obtain ⟨j, hj⟩ := List.getElem?_of_mem hu; obtain ⟨s, _, rfl⟩ := flat_cell hj; rfl) hroom (by rw [flat_length, hz1, hcs]; have := Nat.mul_le_mul_right 4 hroom; simp at *; omega)
      rw [hr] at hr2
      injection hr2 with e1 e2
      left
      refine ⟨by rw [e1]; rfl, g2.mono fun i hi => ?_⟩
      have hi' : some g' = some i := hi
      injection hi' with hi'
      exact hi'.symm
    · have hr2 := run_append_grow (P := Tryd.prog) (w.alloc (.cells (cells s) 35)) 22 ty 35 i0 _ Tryd.underlying22 hi0 hz0 ⟨g', 0, none⟩ L.length cap (flat L) (by rw [flat_length, hz1]) (h1.cells (g := g') rfl)
        ⟨w.heap.size, 0, none⟩ 1 1 (flat [s]) (by rw [flat_length, hz1]; rfl) hnews (by omega) (by omega) (growslice_fits (by omega) (by rw [hz2]; omega))
      rw [hr] at hr2
      injection hr2 with e1 e2
      right
      rw [e1, e2]
      refine ⟨(((Keep.refl _ w).alloc _).drew).alloc _, fun g hg => ?_⟩
      simp [Value.ownBlock] at hg
      omega

end Go.Proofs.YtidfjeliofgpmaaDoor.OL
