/- An argument that is an expression (by value, its parts in memory): its nodes are no more than the bound counts, its sets are sets. -/
import Derived.Test.YthcjfgfbeollpaaKG26
import Derived.Test.YthcjfgfbeollpaaKG19
import Derived.Test.YthcjfgfbeollpaaRows
import Derived.Deep.Slices
import Derived.Laws.IdiomArrays
namespace Go.Proofs.Ythcjfgfbeollpaa.P08
open Go.ChangeShapes Go.WideShapes Go.ChangeAt Go.RowKit Go.Proofs.Ythcjfgfbeollpaa.Base Go.Proofs.Ythcjfgfbeollpaa.Bytes Go.Proofs.Ythcjfgfbeollpaa.P07
open Go.Proofs.Ythcjfgfbeollpaa.Sets (ST)

theorem cofNode : Try.prog.cellsOf 27 = 8 := by kernel_rfl
theorem cofSet : Try.prog.cellsOf 24 = 4 := by kernel_rfl
theorem cofInt : Try.prog.cellsOf 3 = 1 := by kernel_rfl
theorem cofSl : Try.prog.cellsOf 25 = 1 := by kernel_rfl

theorem SOkL_all : ∀ (L : List T), (∀ t ∈ L, SOk t) → SOkL L
  | [], _ => by rw [SOkL]; trivial
  | t :: L, h => by
    rw [SOkL]
    exact ⟨h t (by simp), SOkL_all L fun u hu => h u (List.mem_cons_of_mem _ hu)⟩
theorem cntL_bulk {H : Type} : ∀ (E : List (DataW H × List MemPlace)) (L : List T), L.length = E.length → (∀ (i : Nat) (t : T) (x : DataW H × List MemPlace), L[i]? = some t → E[i]? = some x → cnt t ≤ Rows.uptoBulk x.1) → cntL L ≤ Rows.uptoBulkAll (E.map (·.1))
  | [], [], _, _ => by rw [cntL]; exact Nat.zero_le _
  | [], t :: L, h, _ => by simp at h
  | x :: E, [], h, _ => by simp at h
  | x :: E, t :: L, h, hi => by
    have h1 := hi 0 t x rfl rfl
    have h2 := cntL_bulk E L (by simpa using h) (fun i t' x' ht hx => hi (i + 1) t' x' (by simpa using ht) (by simpa using hx))
    rw [cntL, List.map_cons, Rows.uptoBulkAll]
    omega

theorem add_lit (bl off n : Nat) : (⟨bl, off, none⟩ : Addr).add n = ⟨bl, off + n, none⟩ := by
  unfold Addr.add
  split
  · rename_i hz
    rw [hz, Nat.add_zero]
  · rfl

set_option maxRecDepth 100000 in
/-- What reads as an expression is one. -/
theorem node_trod {H : Type} {enc : TypeId × Value → H} {W : World} {sp : Nat → Bool} {hd : Bool} : ∀ (fuel : Nat) (cs : List Value) (y : DataW H × List MemPlace),
    DataW.trod enc Try.prog W 0 sp hd fuel 27 cs = some y → ∃ (t : T) (a : Option Addr) (c : Nat), cs = (ncells t a c).toList ∧ t.subs.length ≤ c ∧ Lie W (fun _ => True) a t.subs ∧ cnt t ≤ Rows.uptoBulk y.1 ∧ SOk t := by
  intro fuel
  induction fuel using Nat.strongRecOn with
  | _ fuel ih =>
    intro cs y h
    obtain ⟨xs, n, hn, hy, hl, hlen, hg⟩ := DataW.trod_struct Try.underlying27 h
    rw [cofNode] at hl
    match cs, hl with
    | [v0, v1, v2, v3, v4, v5, v6, v7], _ =>
      match xs, hlen with
      | [y0, y1, y2, y3, y4], _ =>
        have g0 : DataW.trod enc Try.prog W 0 sp hd n 3 (([v0, v1, v2, v3, v4, v5, v6, v7].drop 0).take (Try.prog.cellsOf 3)) = some y0 := hg 0 _ rfl
        rw [cofInt] at g0
        have g0 : DataW.trod enc Try.prog W 0 sp hd n 3 [v0] = some y0 := g0
        have g1 : DataW.trod enc Try.prog W 0 sp hd n 24 (([v0, v1, v2, v3, v4, v5, v6, v7].drop 1).take (Try.prog.cellsOf 24)) = some y1 := hg 1 _ rfl
        rw [cofSet] at g1
        have g1 : DataW.trod enc Try.prog W 0 sp hd n 24 [v1, v2, v3, v4] = some y1 := g1
        have g2 : DataW.trod enc Try.prog W 0 sp hd n 3 (([v0, v1, v2, v3, v4, v5, v6, v7].drop 5).take (Try.prog.cellsOf 3)) = some y2 := hg 2 _ rfl
        rw [cofInt] at g2
        have g2 : DataW.trod enc Try.prog W 0 sp hd n 3 [v5] = some y2 := g2
        have g3 : DataW.trod enc Try.prog W 0 sp hd n 3 (([v0, v1, v2, v3, v4, v5, v6, v7].drop 6).take (Try.prog.cellsOf 3)) = some y3 := hg 3 _ rfl
        rw [cofInt] at g3
        have g3 : DataW.trod enc Try.prog W 0 sp hd n 3 [v6] = some y3 := g3
        have g4 : DataW.trod enc Try.prog W 0 sp hd n 25 (([v0, v1, v2, v3, v4, v5, v6, v7].drop 7).take (Try.prog.cellsOf 25)) = some y4 := hg 4 _ rfl
        rw [cofSl] at g4
        have g4 : DataW.trod enc Try.prog W 0 sp hd n 25 [v7] = some y4 := g4
        obtain ⟨k, e0, -, -⟩ := DataW.trod_int Try.underlying3 g0
        obtain ⟨s, es, hso⟩ := Tied.set_trod (d := y1.1) (p := y1.2) rfl g1
        obtain ⟨mn, e2, -, -⟩ := DataW.trod_int Try.underlying3 g2
        obtain ⟨mx, e3, -, -⟩ := DataW.trod_int Try.underlying3 g3
        injection e0 with e0
        injection e2 with e2
        injection e3 with e3
        injection es with s0 es
        injection es with s1 es
        injection es with s2 es
        injection es with s3 es
        subst e0 e2 e3 s0 s1 s2 s3 hy hn
        have hb0 : Rows.uptoBulk y4.1 + 1 ≤ Rows.uptoBulk (DataW.agg (H := H) (([y0, y1, y2, y3, y4] : List (DataW H × List MemPlace)).map (·.1))) := by
          simp only [Rows.uptoBulk, Rows.uptoBulkAll, List.map]
          omega
        rcases DataW.trod_slice Try.underlying25 g4 with ⟨e4, rfl⟩ | ⟨x, len, cap, elems, rest, n', hn', e4, rfl, -, hlc, hcm, hel, hi, -, -⟩
        · injection e4 with e4
          subst e4
          refine ⟨.nd k s mn mx [], none, 0, rfl, Nat.le_refl 0, .nil _, ?_, by rw [SOk, SOkL]; exact ⟨hso, trivial⟩⟩
          rw [cnt, cntL]
          exact Nat.le_trans (by omega) hb0
        · injection e4 with e4
          subst e4
          have hat : ∀ i, i < len → ∃ z : T × Option Addr × Nat, (∀ j v, (ncells z.1 z.2.1 z.2.2)[j]? = some v → W.cell? ((x.add (i * 8)).add j) = some v) ∧ z.1.subs.length ≤ z.2.2 ∧ Lie W (fun _ => True) z.2.1 z.1.subs ∧ (∀ w, elems[i]? = some w → cnt z.1 ≤ Rows.uptoBulk w.1) ∧ SOk z.1 := fun i hil => by
            have h1 := hi i hil
            rw [cofNode] at h1
            obtain ⟨w, hw⟩ : ∃ w, elems[i]? = some w := ⟨elems[i], List.getElem?_eq_getElem (by omega)⟩
            rw [hw] at h1
            obtain ⟨cs', hc1, hc2⟩ := Option.bind_eq_some_iff.1 h1
            obtain ⟨-, hcl, hcc⟩ := World.cells?_some hc1
            obtain ⟨t, a, c, rfl, hle, hL, hcn, hsk⟩ := ih n' (by omega) cs' w hc2
            refine ⟨(t, a, c), fun j v hv => ?_, hle, hL, fun w' hw' => ?_, hsk⟩
            · have hj : j < 8 := (Array.getElem?_eq_some_iff.1 hv).1
              rw [hcc j hj, Array.getElem?_toList]
              exact hv
            · rw [hw] at hw'
              injection hw' with hw'
              rw [← hw']
              exact hcn
          haveI : Inhabited (T × Option Addr × Nat) := ⟨(zeroT, none, 0)⟩
          obtain ⟨Z, hZ⟩ := Go.Deep.choose_lt hat
          have hlen : ((List.range len).map fun i => (Z i).1).length = len := by simp
          have hcnt : cntL ((List.range len).map fun i => (Z i).1) ≤ Rows.uptoBulkAll (elems.map (·.1)) := cntL_bulk _ _ (by rw [hlen, hel]) (fun i t w ht hw => by
            rw [List.getElem?_map] at ht
            obtain ⟨i', h1, rfl⟩ := Option.map_eq_some_iff.1 ht
            obtain ⟨hi', rfl⟩ := List.getElem?_eq_some_iff.1 h1
            rw [List.length_range] at hi'
            rw [List.getElem_range]
            exact (hZ i hi').2.2.2.1 w hw)
          refine ⟨.nd k s mn mx ((List.range len).map fun i => (Z i).1), some x, cap, ?_, by show _ ≤ cap; rw [show (T.nd k s mn mx ((List.range len).map fun i => (Z i).1)).subs.length = len from hlen]; exact hlc, ?_, ?_, ?_⟩
          · show [_, _, _, _, _, _, _, _] = [_, _, _, _, _, _, _, Value.slice (some x) ((List.range len).map fun i => (Z i).1).length cap]
            rw [hlen]
            rfl
          · show Lie W _ (some x) ((List.range len).map fun i => (Z i).1)
            rcases Nat.eq_zero_or_pos len with h0 | hpos
            · subst h0
              exact .nil _
            · have h00 := (hZ 0 hpos).1 0 _ rfl
              obtain ⟨bl, off, spot⟩ := x
              have hsp : spot = none := by simpa [Addr.add] using World.cell?_spot h00
              subst hsp
              have hbl : bl < W.heap.size := by
                have := World.block_lt_of_cell? W _ h00
                simpa [Addr.add] using this
              refine .cons bl off _ (fun i => (Z i).2.1) (fun i => (Z i).2.2) (by rw [hlen]; unfold maxLen at hcm; omega) hbl trivial (fun i t ht => ?_) (fun i t ht j v hv => ?_) (fun i t ht => ?_)
              all_goals
                rw [List.getElem?_map] at ht
                obtain ⟨i', h1, rfl⟩ := Option.map_eq_some_iff.1 ht
                obtain ⟨hi', rfl⟩ := List.getElem?_eq_some_iff.1 h1
                rw [List.length_range] at hi'
                simp only [List.getElem_range] at *
              · exact (hZ i hi').2.1
              · have := (hZ i hi').1 j v hv
                rw [add_lit, add_lit] at this
                exact this
              · exact (hZ i hi').2.2.1
          · rw [cnt]
            have h1 : Rows.uptoBulkAll (elems.map (·.1)) + 1 ≤ Rows.uptoBulk (DataW.slice (elems.map (·.1)) (rest.map (·.1))) := by
              simp only [Rows.uptoBulk]
              omega
            refine Nat.le_trans ?_ hb0
            show 1 + cntL _ ≤ Rows.uptoBulk (DataW.slice (elems.map (·.1)) (rest.map (·.1))) + 1
            omega
          · rw [SOk]
            refine ⟨hso, SOkL_all _ fun t ht => ?_⟩
            obtain ⟨i, hi', rfl⟩ := List.mem_map.1 ht
            exact (hZ i (List.mem_range.1 hi')).2.2.2.2

set_option maxRecDepth 100000 in
theorem node_arg {H : Type} {enc : TypeId × Value → H} {W : World} {r : Reach} {sp : Nat → Bool} {hd : Bool} {v : Value} {d : DataW H} {p : List MemPlace}
    (k : Value.okWide Try.prog W r 0 27 v) (h : DataW.Trod enc Try.prog W 0 sp hd 27 v d p) :
    ∃ (t : T) (a : Option Addr) (c : Nat), v = nodeV t a c ∧ t.subs.length ≤ c ∧ Lie W (fun _ => True) a t.subs ∧ cnt t ≤ Rows.uptoBulk d ∧ SOk t := by
  unfold Value.okWide at k
  rw [Try.underlying27] at k
  obtain ⟨cs, rfl, -, -⟩ := k
  obtain ⟨fuel, hf⟩ := h
  obtain ⟨l⟩ := cs
  obtain ⟨t, a, c, hcs, hle, hL, hcn, hsk⟩ := node_trod fuel l (d, p) hf
  exact ⟨t, a, c, by rw [hcs], hle, hL, hcn, hsk⟩
end Go.Proofs.Ythcjfgfbeollpaa.P08
