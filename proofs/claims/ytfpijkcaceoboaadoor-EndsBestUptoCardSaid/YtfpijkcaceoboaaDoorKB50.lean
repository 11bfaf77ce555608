/- An argument that is a row of rules: its sets are sets, its nodes are no more than the bound counts. -/
import Derived.Test.YtfpijkcaceoboaaDoorKB48
import Derived.Test.YtfpijkcaceoboaaDoorKB41
import Derived.Test.YtfpijkcaceoboaaDoorKB09
namespace Go.Proofs.YtfpijkcaceoboaaDoor.P11
open Go.ChangeShapes Go.WideShapes Go.ChangeAt Go.RowKit Go.Proofs.YtfpijkcaceoboaaDoor.Base Go.Proofs.YtfpijkcaceoboaaDoor.Bytes Go.Proofs.YtfpijkcaceoboaaDoor.P07 Go.Proofs.YtfpijkcaceoboaaDoor.P08
open Go.Proofs.YtfpijkcaceoboaaDoor.Sets (ST)

theorem cofRule : Tryd.prog.cellsOf 44 = 9 := by kernel_rfl
theorem cofStr : Tryd.prog.cellsOf 9 = 1 := by kernel_rfl

theorem bulk_mem {H : Type} : ∀ (E : List (DataW H × List MemPlace)) (i : Nat) (x : DataW H × List MemPlace), E[i]? = some x → Rows.uptoBulk x.1 ≤ Rows.uptoBulkAll (E.map (·.1))
  | [], _, _, h => by simp at h
  | y :: E, 0, x, h => by
    cases h
    rw [List.map_cons, Rows.uptoBulkAll]
    omega
  | y :: E, i + 1, x, h => by
    have := bulk_mem E i x (by simpa using h)
    rw [List.map_cons, Rows.uptoBulkAll]
    omega

set_option maxRecDepth 100000 in
theorem rule_trod {H : Type} {enc : TypeId × Value → H} {W : World} {sp : Nat → Bool} {hd : Bool} (fuel : Nat) (cs : List Value) (y : DataW H × List MemPlace)
    (h : DataW.trod enc Tryd.prog W 0 sp hd fuel 44 cs = some y) : ∃ (x : RU) (a : Option Addr) (c : Nat), cs = (rcells x a c).toList ∧ x.re.subs.length ≤ c ∧ Lie W (fun _ => True) a x.re.subs ∧ cnt x.re ≤ Rows.uptoBulk y.1 ∧ SOk x.re := by
  obtain ⟨xs, n, hn, hy, hl, hlen, hg⟩ := DataW.trod_struct Tryd.underlying44 h
  rw [cofRule] at hl
  match cs, hl with
  | [v0, v1, v2, v3, v4, v5, v6, v7, v8], _ =>
    match xs, hlen with
    | [y0, y1], _ =>
      have g0 : DataW.trod enc Tryd.prog W 0 sp hd n 9 (([v0, v1, v2, v3, v4, v5, v6, v7, v8].drop 0).take (Tryd.prog.cellsOf 9)) = some y0 := hg 0 _ rfl
      rw [cofStr] at g0
      have g0 : DataW.trod enc Tryd.prog W 0 sp hd n 9 [v0] = some y0 := g0
      have g1 : DataW.trod enc Tryd.prog W 0 sp hd n 27 (([v0, v1, v2, v3, v4, v5, v6, v7, v8].drop 1).take (Tryd.prog.cellsOf 27)) = some y1 := hg 1 _ rfl
      rw [cofNode] at g1
      have g1 : DataW.trod enc Tryd.prog W 0 sp hd n 27 [v1, v2, v3, v4, v5, v6, v7, v8] = some y1 := g1
      obtain ⟨s, e0, -, -⟩ := DataW.trod_string Tryd.underlying9 g0
      obtain ⟨t, a, c, e1, hle, hL, hcn, hsk⟩ := node_trod n _ _ g1
      injection e0 with e0
      subst e0
      refine ⟨⟨s.data.toList, t⟩, a, c, ?_, hle, hL, ?_, hsk⟩
      · have hs : (⟨s.data.toList.toArray⟩ : ByteArray) = s := by rw [Array.toArray_toList]
        show Value.string s :: [v1, v2, v3, v4, v5, v6, v7, v8] = Value.string ⟨s.data.toList.toArray⟩ :: (ncells t a c).toList
        rw [e1, hs]
      · subst hy
        simp only [Rows.uptoBulk, Rows.uptoBulkAll, List.map]
        omega

set_option maxRecDepth 100000 in
theorem rows_arg {H : Type} {enc : TypeId × Value → H} {W : World} {r : Reach} {sp : Nat → Bool} {v : Value} {d : DataW H} {p : List MemPlace}
    (k : Value.okWide Tryd.prog W r 0 41 v) (h : DataW.Trod enc Tryd.prog W 0 sp true 41 v d p) :
    ∃ (L : List RU) (a : Option Addr) (cap : Nat), v = .slice a L.length cap ∧ RS W (fun _ => True) a L ∧ L.length ≤ 9223372036854775807 ∧ ∀ x ∈ L, SOk x.re ∧ cnt x.re ≤ Rows.uptoBulk d := by
  obtain ⟨a, len, cap, rfl⟩ := okWide_slice Tryd.underlying41 k
  obtain ⟨fuel, hf⟩ := h
  have hf : DataW.trod enc Tryd.prog W 0 sp true fuel 41 [.slice a len cap] = some (d, p) := hf
  rcases DataW.trod_slice Tryd.underlying41 hf with ⟨e4, -⟩ | ⟨x, len', cap', elems, rest, n', hn', e4, hx, -, hlc, hcm, hel, hi, -, -⟩
  · injection e4 with e4
    injection e4 with e1 e2 e3
    subst e1 e2 e3
    exact ⟨[], none, 0, rfl, .inl rfl, by simp, by simp⟩
  · injection e4 with e4
    injection e4 with e1 e2 e3
    subst e1 e2 e3
    injection hx with hx _
    subst hx
    have hat : ∀ i, i < len → ∃ z : RU × Option Addr × Nat, (∀ j v, (rcells z.1 z.2.1 z.2.2)[j]? = some v → W.cell? ((x.add (i * 9)).add j) = some v) ∧ z.1.re.subs.length ≤ z.2.2 ∧ Lie W (fun _ => True) z.2.1 z.1.re.subs ∧ cnt z.1.re ≤ Rows.uptoBulkAll (elems.map (·.1)) ∧ SOk z.1.re := fun i hil => by
      have h1 := hi i hil
      rw [cofRule] at h1
      obtain ⟨w, hw⟩ : ∃ w, elems[i]? = some w := ⟨elems[i], List.getElem?_eq_getElem (by omega)⟩
      rw [hw] at h1
      obtain ⟨cs', hc1, hc2⟩ := Option.bind_eq_some_iff.1 h1
      obtain ⟨-, hcl, hcc⟩ := World.cells?_some hc1
      obtain ⟨t, a, c, rfl, hle, hL, hcn, hsk⟩ := rule_trod n' cs' w hc2
      refine ⟨(t, a, c), fun j v hv => ?_, hle, hL, Nat.le_trans hcn (bulk_mem _ i w hw), hsk⟩
      have hj : j < 9 := (Array.getElem?_eq_some_iff.1 hv).1
      rw [hcc j hj, Array.getElem?_toList]
      exact hv
    haveI : Inhabited (RU × Option Addr × Nat) := ⟨(⟨[], zeroT⟩, none, 0)⟩
    obtain ⟨Z, hZ⟩ := Go.Deep.choose_lt hat
    have hlen : ((List.range len).map fun i => (Z i).1).length = len := by simp
    refine ⟨(List.range len).map fun i => (Z i).1, some x, cap, by rw [hlen], ?_, by rw [hlen]; unfold maxLen at hcm; omega, fun y hy => ?_⟩
    · rcases Nat.eq_zero_or_pos len with h0 | hpos
      · subst h0
        exact .inl rfl
      · have h00 := (hZ 0 hpos).1 0 _ rfl
        obtain ⟨bl, off, spot⟩ := x
        have hsp : spot = none := by simpa [Addr.add] using World.cell?_spot h00
        subst hsp
        have hbl : bl < W.heap.size := by
          have := World.block_lt_of_cell? W _ h00
          simpa [Addr.add] using this
        refine .inr ⟨bl, off, fun i => (Z i).2.1, fun i => (Z i).2.2, rfl, hbl, trivial, fun i t ht => ?_⟩
        rw [List.getElem?_map] at ht
        obtain ⟨i', h1, rfl⟩ := Option.map_eq_some_iff.1 ht
        obtain ⟨hi', rfl⟩ := List.getElem?_eq_some_iff.1 h1
        rw [List.length_range] at hi'
        simp only [List.getElem_range] at *
        refine ⟨(hZ i hi').2.1, (hZ i hi').2.2.1, fun j v hv => ?_⟩
        have := (hZ i hi').1 j v hv
        rw [add_lit, add_lit] at this
        exact this
    · obtain ⟨i, hi', rfl⟩ := List.mem_map.1 hy
      have hz := hZ i (List.mem_range.1 hi')
      refine ⟨hz.2.2.2.2, Nat.le_trans hz.2.2.2.1 ?_⟩
      simp only [Rows.uptoBulk]
      omega
end Go.Proofs.YtfpijkcaceoboaaDoor.P11
