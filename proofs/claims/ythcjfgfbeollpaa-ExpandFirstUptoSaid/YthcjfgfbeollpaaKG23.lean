/- Lists of nodes of the program's own (layer 10): append of a whole slice, a store into one, a new one of noughts. -/
import Derived.Test.YthcjfgfbeollpaaKG22
import Derived.Laws.OwnMore
namespace Go.Proofs.Ythcjfgfbeollpaa.P07
open Go.RowKit Go.Proofs.Ythcjfgfbeollpaa.Base Go.Proofs.Ythcjfgfbeollpaa.IL Go.Proofs.Ythcjfgfbeollpaa.Bytes
open Go.Proofs.Ythcjfgfbeollpaa.Sets (ST)

/-- The row of a slice, if it has one, lies from n0 on. -/
def Own (n0 : Nat) (v : Value) : Prop := ∀ g, v.ownBlock = some g → n0 ≤ g
theorem Own.nil (n0 : Nat) : Own n0 (.slice none 0 0) := fun g hg => by cases hg
theorem Own.next {n0 n1 : Nat} {v v' : Value} (h : Own n0 v) (hn : n0 ≤ n1) (hg : ∀ g, v'.ownBlock = some g → v.ownBlock = some g ∨ n1 ≤ g) : Own n0 v' := fun g e => by
  rcases hg g e with h1 | h1
  · exact h g h1
  · omega

theorem flatN_get {X : List (T × Option Addr × Nat)} {j : Nat} {u : Value} (h : (flatN X)[j]? = some u) : ∃ x, X[j / 8]? = some x ∧ (ncells x.1 x.2.1 x.2.2)[j % 8]? = some u := by
  have hj := (List.getElem?_eq_some_iff.1 h).1
  rw [flatN_length] at hj
  have hi : j / 8 < X.length := by omega
  have hx : X[j / 8]? = some X[j / 8] := List.getElem?_eq_getElem hi
  refine ⟨_, hx, ?_⟩
  have hs : (ncells X[j / 8].1 X[j / 8].2.1 X[j / 8].2.2).size = 8 := rfl
  have hv : (ncells X[j / 8].1 X[j / 8].2.1 X[j / 8].2.2)[j % 8]? = some ((ncells X[j / 8].1 X[j / 8].2.1 X[j / 8].2.2)[j % 8]'(by rw [hs]; omega)) := Array.getElem?_eq_getElem _
  have := flatN_at X (j / 8) _ hx (j % 8) _ hv
  rw [show j / 8 * 8 + j % 8 = j from by omega, h] at this
  rw [hv, ← this]
theorem flatN_append (X Y : List (T × Option Addr × Nat)) : flatN (X ++ Y) = flatN X ++ flatN Y := List.flatMap_append ..
theorem ncells_one {t : T} {a : Option Addr} {c j : Nat} {u : Value} (h : (ncells t a c)[j]? = some u) : u.oneCell' = true := by
  match j with
  | 0 => injection h with h; subst h; rfl
  | 1 => injection h with h; subst h; rfl
  | 2 => injection h with h; subst h; rfl
  | 3 => injection h with h; subst h; rfl
  | 4 => injection h with h; subst h; rfl
  | 5 => injection h with h; subst h; rfl
  | 6 => injection h with h; subst h; rfl
  | 7 => injection h with h; subst h; rfl
  | j + 8 => exact absurd (Array.getElem?_eq_some_iff.1 h).1 (by simp)
theorem nadd (bl off j : Nat) : (⟨bl, off, none⟩ : Addr).add j = ⟨bl, off + j, none⟩ := by
  unfold Addr.add
  split
  · rename_i hz
    rw [hz, Nat.add_zero]
  · rfl
theorem append_nothing (w : World) (ty : TypeId) (v : Value) (n : Nat) (X : List Value) (h : w.ownsRow 0 27 8 v n X) (a : Option Addr) (c : Nat) : (Builtin.append_ #[25, 25] ty #[v, .slice a 0 c]).run Try.prog w = .ok v w := by
  obtain ⟨i0, hi0, hz0, hz1, hz2⟩ := info_parts infoN
  rcases h.2 with ⟨rfl, h0⟩ | ⟨g, cap, cur, rfl, _, _, hnc, _⟩
  · cases a <;> simp [Builtin.append_, run_underlying (P := Try.prog) Try.underlying25, sizeOf, typeInfo, hi0, Builtin.lenOf, Builtin.firstCells, loadCells, loadCellsFrom]
  · cases a <;> simp [Builtin.append_, run_underlying (P := Try.prog) Try.underlying25, sizeOf, typeInfo, hi0, Builtin.lenOf, Builtin.firstCells, hnc, storeCells, loadCells, loadCellsFrom]
/-- append of all nodes of a slice. -/
theorem OT.append {w : World} {ok : Nat → Prop} {v : Value} {L : List T} (h : OT w ok v L) (M : List T) (a : Option Addr) (c : Nat) (hl : Lie w (fun k => ok k ∧ v.ownBlock ≠ some k) a M)
    (hlen : (L.length + M.length) * 80 ≤ 140737488355328) (hok : ∀ g, w.heap.size ≤ g → ok g) (ty : TypeId) :
    ∃ v' w', (Builtin.append_ #[25, 25] ty #[v, .slice a M.length c]).run Try.prog w = .ok v' w' ∧ OT w' ok v' (L ++ M) ∧ Keep (fun b => v.ownBlock = some b) w w' ∧ (∀ g, v'.ownBlock = some g → v.ownBlock = some g ∨ w.heap.size ≤ g) := by
  obtain ⟨X, ⟨h1, h2, h3⟩, rfl⟩ := h
  cases hl with
  | nil a =>
    refine ⟨v, w, append_nothing w ty v _ _ h1 a c, ?_, Keep.refl _ w, fun g hg => .inl hg⟩
    rw [List.append_nil]
    exact ⟨X, ⟨h1, h2, h3⟩, rfl⟩
  | cons bl off M A C hL hb hokb hC hc hs =>
    obtain ⟨Y, hY⟩ : ∃ Y, Y = M.mapIdx fun i t => (t, A i, C i) := ⟨_, rfl⟩
    have hYl : Y.length = M.length := by rw [hY, List.length_mapIdx]
    have hYm : Y.map (·.1) = M := by
      rw [hY]
      apply List.ext_getElem?
      intro i
      rw [List.getElem?_map, List.getElem?_mapIdx]
      cases M[i]? <;> rfl
    have hYg : ∀ i x, Y[i]? = some x → M[i]? = some x.1 ∧ x.2.1 = A i ∧ x.2.2 = C i := fun i x hx => by
      rw [hY, List.getElem?_mapIdx] at hx
      obtain ⟨t, ht, rfl⟩ := Option.map_eq_some_iff.1 hx
      exact ⟨ht, rfl, rfl⟩
    obtain ⟨i0, hi0, hz0, hz1, hz2⟩ := info_parts infoN
    rw [List.length_map] at hlen
    obtain ⟨v', w', hrun, g2, g3, _, g5⟩ := run_append_own_at (P := Try.prog) w 0 25 ty 27 i0 (.agg #[.int .i64 0, .int .u64 0, .int .u64 0, .int .u64 0, .int .u64 0, .int .i64 0, .int .i64 0, .slice none 0 0]) 8 80 Try.underlying25 hi0 hz0 hz1 hz2 rfl (by omega) v X.length (flatN X) h1 ⟨bl, off, none⟩ M.length c (flatN Y) (by rw [flatN_length, hYl])
      (fun j u hu => by
        obtain ⟨x, hx, hu⟩ := flatN_get hu
        obtain ⟨e1, e2, e3⟩ := hYg _ x hx
        rw [e2, e3] at hu
        have := hc _ _ e1 _ _ hu
        rw [nadd]
        rw [show off + j / 8 * 8 + j % 8 = off + j from by omega] at this
        exact this)
      (by
        intro u hu
        obtain ⟨j, hj⟩ := List.getElem?_of_mem hu
        obtain ⟨x, hx, hu⟩ := flatN_get hj
        exact ncells_one hu) (by simp only [maxLen]; omega) (by omega) (Nat.zero_le _)
    have q : Keep (fun b => v.ownBlock = some b) w w' := nkeep_grown g3
    have hbl : ∀ g, v'.ownBlock = some g → v.ownBlock = some g ∨ w.heap.size ≤ g := fun g hg => by
      rcases g5 with g5 | g5
      · exact .inl (by rw [← g5]; exact hg)
      · rw [g5] at hg
        injection hg with hg
        exact .inr (by omega)
    have hlie : ∀ {a : Option Addr} {M : List T}, Lie w (fun k => ok k ∧ v.ownBlock ≠ some k) a M → Lie w' (fun k => ok k ∧ v'.ownBlock ≠ some k) a M := fun {a M} h => by
      refine (h.under.keep q (fun b hb e => hb.1.2 e)).mono (fun k hk => ⟨hk.1.1, fun e => ?_⟩)
      rcases hbl k e with h | h
      · exact hk.1.2 h
      · have := hk.2
        omega
    refine ⟨v', w', hrun, ⟨X ++ Y, ⟨?_, fun g hg => ?_, fun x hx => ?_⟩, by rw [List.map_append, hYm]⟩, q, hbl⟩
    · rw [List.length_append, hYl, flatN_append]
      exact g2
    · rcases hbl g hg with h | h
      · exact h2 g h
      · exact hok g h
    · rcases List.mem_append.1 hx with hx | hx
      · exact ⟨(h3 x hx).1, hlie (h3 x hx).2⟩
      · obtain ⟨i, hi⟩ := List.mem_iff_getElem?.1 hx
        obtain ⟨e1, e2, e3⟩ := hYg i x hi
        rw [e2, e3]
        exact ⟨hC i _ e1, hlie (hs i _ e1)⟩

/-- The parts that lie there may be asked to lie elsewhere than in what is of the program's own. -/
theorem OT.sub {w : World} {ok ok' : Nat → Prop} {v : Value} {L : List T} (h : OT w ok v L) (hk : ∀ k, ok k → ok' k) : OT w ok' v L := by
  obtain ⟨X, ⟨h1, h2, h3⟩, h4⟩ := h
  exact ⟨X, ⟨h1, fun g hg => hk g (h2 g hg), fun x hx => ⟨(h3 x hx).1, (h3 x hx).2.mono fun k hk1 => ⟨hk k hk1.1, hk1.2⟩⟩⟩, h4⟩

/-- Eight stores in a row of nodes. -/
def putNd (w : World) (g o : Nat) (t : T) (a : Option Addr) (c : Nat) : World :=
  ((((((((w.setCell ⟨g, o, none⟩ (.int .i64 t.kind)).setCell ⟨g, o + 1, none⟩ (.int .u64 t.set.x0)).setCell ⟨g, o + 2, none⟩ (.int .u64 t.set.x1)).setCell ⟨g, o + 3, none⟩ (.int .u64 t.set.x2)).setCell ⟨g, o + 4, none⟩ (.int .u64 t.set.x3)).setCell ⟨g, o + 5, none⟩ (.int .i64 t.mn)).setCell ⟨g, o + 6, none⟩ (.int .i64 t.mx)).setCell ⟨g, o + 7, none⟩ (.slice a t.subs.length c))
theorem putNd_keep (w : World) (g o : Nat) (t : T) (a : Option Addr) (c : Nat) : Keep (fun b => b = g) w (putNd w g o t a c) :=
  (((((((((Keep.refl (fun b => b = g) w).setCell (p := ⟨g, o, none⟩) (fun _ => rfl) _).setCell (p := ⟨g, o + 1, none⟩) (fun _ => rfl) _).setCell (p := ⟨g, o + 2, none⟩) (fun _ => rfl) _).setCell (p := ⟨g, o + 3, none⟩) (fun _ => rfl) _).setCell (p := ⟨g, o + 4, none⟩) (fun _ => rfl) _).setCell (p := ⟨g, o + 5, none⟩) (fun _ => rfl) _).setCell (p := ⟨g, o + 6, none⟩) (fun _ => rfl) _).setCell (p := ⟨g, o + 7, none⟩) (fun _ => rfl) _)
theorem putNd_at {w : World} {g o : Nat} {ty : TypeId} {cur : Array Value} (h : At w g ty cur) (ho : o + 8 ≤ cur.size) (t : T) (a : Option Addr) (c : Nat) :
    ∃ cur', At (putNd w g o t a c) g ty cur' ∧ cur'.size = cur.size ∧ (∀ j, j < o ∨ o + 8 ≤ j → cur'[j]? = cur[j]?) ∧ ∀ j, j < 8 → cur'[o + j]? = (ncells t a c)[j]? := by
  have k := (((((((h.set o (.int .i64 t.kind)).set (o + 1) (.int .u64 t.set.x0)).set (o + 2) (.int .u64 t.set.x1)).set (o + 3) (.int .u64 t.set.x2)).set (o + 4) (.int .u64 t.set.x3)).set (o + 5) (.int .i64 t.mn)).set (o + 6) (.int .i64 t.mx)).set (o + 7) (.slice a t.subs.length c)
  refine ⟨_, k, by simp, fun j hj => ?_, fun j hj => ?_⟩
  · simp only [Array.getElem?_setIfInBounds, Array.size_setIfInBounds]
    rw [if_neg (by omega), if_neg (by omega), if_neg (by omega), if_neg (by omega), if_neg (by omega), if_neg (by omega), if_neg (by omega), if_neg (by omega)]
  · simp only [Array.getElem?_setIfInBounds, Array.size_setIfInBounds]
    match j, hj with
    | 0, _ => rw [if_neg (by omega), if_neg (by omega), if_neg (by omega), if_neg (by omega), if_neg (by omega), if_neg (by omega), if_neg (by omega), if_pos (by omega), if_pos (by omega)]; rfl
    | 1, _ => rw [if_neg (by omega), if_neg (by omega), if_neg (by omega), if_neg (by omega), if_neg (by omega), if_neg (by omega), if_pos (by omega), if_pos (by omega)]; rfl
    | 2, _ => rw [if_neg (by omega), if_neg (by omega), if_neg (by omega), if_neg (by omega), if_neg (by omega), if_pos (by omega), if_pos (by omega)]; rfl
    | 3, _ => rw [if_neg (by omega), if_neg (by omega), if_neg (by omega), if_neg (by omega), if_pos (by omega), if_pos (by omega)]; rfl
    | 4, _ => rw [if_neg (by omega), if_neg (by omega), if_neg (by omega), if_pos (by omega), if_pos (by omega)]; rfl
    | 5, _ => rw [if_neg (by omega), if_neg (by omega), if_pos (by omega), if_pos (by omega)]; rfl
    | 6, _ => rw [if_neg (by omega), if_pos (by omega), if_pos (by omega)]; rfl
    | 7, _ => rw [if_pos (by omega), if_pos (by omega)]; rfl
theorem flatN_set {X : List (T × Option Addr × Nat)} {i : Nat} {x : T × Option Addr × Nat} (hi : i < X.length) {j : Nat} : (flatN (X.set i x))[j]? = if i * 8 ≤ j ∧ j < i * 8 + 8 then (ncells x.1 x.2.1 x.2.2)[j - i * 8]? else (flatN X)[j]? := by
  have hl : (flatN (X.set i x)).length = X.length * 8 := by rw [flatN_length, List.length_set]
  by_cases hj : j < X.length * 8
  · obtain ⟨u, h1⟩ : ∃ u, (flatN (X.set i x))[j]? = some u := ⟨_, List.getElem?_eq_getElem (by omega)⟩
    obtain ⟨y, hy, hu⟩ := flatN_get h1
    rw [h1]
    split
    · rename_i h2
      rw [show j / 8 = i from by omega, List.getElem?_set_self hi] at hy
      injection hy with hy
      rw [show j - i * 8 = j % 8 from by omega, hy, hu]
    · rename_i h2
      rw [List.getElem?_set_ne (by omega)] at hy
      have := flatN_at X _ y hy _ _ hu
      rw [show j / 8 * 8 + j % 8 = j from by omega] at this
      rw [this]
  · rw [List.getElem?_eq_none (by omega), if_neg (by omega), List.getElem?_eq_none (by rw [flatN_length]; omega)]
/-- .. at the cells of the row. -/
theorem rowN_set {w : World} {g cap : Nat} {X : List (T × Option Addr × Nat)} (h : w.ownsRow 0 27 8 (.slice (some ⟨g, 0, none⟩) X.length cap) X.length (flatN X)) {i : Nat} (hi : i < X.length) (t : T) (a : Option Addr) (c : Nat) :
    (putNd w g (i * 8) t a c).ownsRow 0 27 8 (.slice (some ⟨g, 0, none⟩) X.length cap) X.length (flatN (X.set i (t, a, c))) := by
  rcases h.2 with ⟨e, h0⟩ | ⟨g', cap', cur, e, hb, hg, h5, h6, h7, h8⟩
  · cases e
  · have e1 : g = g' ∧ cap = cap' := by
      injection e with e1 e2 e3
      injection e1 with e1
      injection e1 with e1
      exact ⟨e1, e3⟩
    obtain ⟨rfl, rfl⟩ := e1
    have ha : At w g 27 cur := hg
    obtain ⟨cur', a1, a2, a3, a4⟩ := putNd_at ha (o := i * 8) (by omega) t a c
    refine ⟨by rw [flatN_length, List.length_set], .inr ⟨g, cap, cur', rfl, Nat.zero_le _, a1, h5, h6, a2.trans h7, ?_⟩⟩
    apply List.ext_getElem?
    intro j
    rw [flatN_set hi]
    by_cases hj : j < X.length * 8
    · rw [List.getElem?_take_of_lt hj]
      have e1 : cur'.toList[j]? = cur'[j]? := by simp
      rw [e1]
      split
      · rename_i h9
        have := a4 (j - i * 8) (by omega)
        rw [show i * 8 + (j - i * 8) = j from by omega] at this
        exact this
      · rename_i h9
        rw [a3 j (by omega)]
        have e2 : (cur.toList.take (X.length * 8))[j]? = (flatN X)[j]? := by rw [h8]
        rw [List.getElem?_take_of_lt hj] at e2
        simpa using e2
    · rw [List.getElem?_eq_none (by rw [List.length_take]; omega), if_neg (by omega), List.getElem?_eq_none (by rw [flatN_length]; omega)]
/-- A store of one node. -/
theorem OT.set {w : World} {ok : Nat → Prop} {g n cap : Nat} {L : List T} (h : OT w ok (.slice (some ⟨g, 0, none⟩) n cap) L) {i : Nat} (hi : i < L.length) (t : T) (a : Option Addr) (c : Nat) (hc : t.subs.length ≤ c) (hl : Lie w (fun k => ok k ∧ k ≠ g) a t.subs) :
    OT (putNd w g (i * 8) t a c) ok (.slice (some ⟨g, 0, none⟩) n cap) (L.set i t) := by
  obtain ⟨X, ⟨h1, h2, h3⟩, rfl⟩ := h
  rw [List.length_map] at hi
  have hn : n = X.length := by
    rcases h1.2 with ⟨e, h0⟩ | ⟨g', cap', cur, e, -⟩
    · cases e
    · injection e
  subst hn
  have hown : ∀ k, (Value.slice (some ⟨g, 0, none⟩) X.length cap).ownBlock = some k ↔ k = g := fun k => by
    show some g = some k ↔ k = g
    simp [eq_comm]
  have hlie : ∀ {a' : Option Addr} {M : List T}, Lie w (fun k => ok k ∧ k ≠ g) a' M → Lie (putNd w g (i * 8) t a c) (fun k => ok k ∧ (Value.slice (some ⟨g, 0, none⟩) X.length cap).ownBlock ≠ some k) a' M := fun {a' M} h =>
    (h.keep (putNd_keep w g (i * 8) t a c) (fun k hk e => hk.2 e)).mono fun k hk => ⟨hk.1, fun e => hk.2 ((hown k).1 e)⟩
  refine ⟨X.set i (t, a, c), ⟨?_, h2, fun x hx => ?_⟩, by rw [List.map_set]⟩
  · rw [List.length_set]
    exact rowN_set h1 hi t a c
  · rcases List.mem_or_eq_of_mem_set hx with hx | rfl
    · exact ⟨(h3 x hx).1, hlie ((h3 x hx).2.mono fun k hk => ⟨hk.1, fun e => hk.2 ((hown k).2 e)⟩)⟩
    · exact ⟨hc, hlie hl⟩

def zT : T := .nd 0 ST.none 0 0 []
end Go.Proofs.Ythcjfgfbeollpaa.P07
