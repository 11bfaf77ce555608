/- Sets of sets: maps from sets to truth values, of the caller's own (layer 13); what sets a written-out expression has. -/
import Derived.Test.YthcjfgfbeollpaaKG24
import Derived.Test.YthcjfgfbeollpaaKG33
import Derived.Test.YthcjfgfbeollpaaKG42
import Derived.DeepKeys4
import Derived.Maps.OwnSet
import Derived.StringKeys
import Derived.MapViews
namespace Go.Proofs.Ythcjfgfbeollpaa.P13
open Go.RowKit Go.Maps Go.ChangeMaps Go.MapKept Go.ChangeShapes Go.WideShapes Go.Proofs.Ythcjfgfbeollpaa.Base Go.Proofs.Ythcjfgfbeollpaa.Bytes Go.Proofs.Ythcjfgfbeollpaa.P07 Go.Proofs.Ythcjfgfbeollpaa.P08 Go.Proofs.Ythcjfgfbeollpaa.P09 Go.Proofs.Ythcjfgfbeollpaa.P10
open Go.Proofs.Ythcjfgfbeollpaa.Sets (ST)

theorem laid13 : laidOutB Try.prog = true := by kernel_rfl
theorem lawS : Keyed Try.prog 24 := Keyed.of_law (deep_law_laid laid13 (m := 2) (by omega) (of_decide_eq_true (by kernel_rfl)) (by kernel_rfl) (by rw [Try.underlying24]))
theorem key_set (s : ST) (hs : s.Ok) : ∃ l, keyOf Try.prog 24 (val s) = some l := by
  have b0 := hs.w 0
  have b1 := hs.w 1
  have b2 := hs.w 2
  have b3 := hs.w 3
  have w0 : (Lit.int .u64 (s.x0 : Int)).wf = true := WalkArith.wf_u64 (by have b0 : s.x0 < 18446744073709551616 := b0; omega)
  have w1 : (Lit.int .u64 (s.x1 : Int)).wf = true := WalkArith.wf_u64 (by have b1 : s.x1 < 18446744073709551616 := b1; omega)
  have w2 : (Lit.int .u64 (s.x2 : Int)).wf = true := WalkArith.wf_u64 (by have b2 : s.x2 < 18446744073709551616 := b2; omega)
  have w3 : (Lit.int .u64 (s.x3 : Int)).wf = true := WalkArith.wf_u64 (by have b3 : s.x3 < 18446744073709551616 := b3; omega)
  have e1 : Try.prog.cellsOf 24 = 4 := by kernel_rfl
  have e2 : Try.prog.cellsOf 22 = 1 := by kernel_rfl
  have hd : DataW.Trod (H := Unit) (fun _ => ()) Try.prog (World.settled Try.prog default) 0 (fun _ => false) true 24 (val s) (.agg [.lit (.int .u64 s.x0), .lit (.int .u64 s.x1), .lit (.int .u64 s.x2), .lit (.int .u64 s.x3)]) [] :=
    ⟨3, by simp [cells, DataW.trod, Value.cells, Try.underlying24, Try.underlying22, w0, w1, w2, w3, e1, e2, List.range, List.range.loop]⟩
  exact ⟨_, (keyOf_asKey (by kernel_rfl) (by rw [Try.underlying24]) (by simp [cells, Value.formed, Try.underlying24, e1]) hd).1⟩
theorem zeroB (w : World) : (zeroValue 4).run Try.prog w = .ok (.bool false) w := by kernel_rfl
/-- Block b holds a set of sets, those of L among them. -/
def SM (w : World) (b n : Nat) (L : List ST) : Prop :=
  ∃ D : DataW Unit, w.ownsMap Try.prog 24 (plainElem Try.prog 4) b n D ∧ ∀ s ∈ L, s.Ok → ∀ l, keyOf Try.prog 24 (val s) = some l → D.atKey l (.lit (.bool false)) = .lit (.bool true)
theorem SM.lt {w : World} {b n : Nat} {L : List ST} (h : SM w b n L) : b < w.heap.size := by
  obtain ⟨D, h2, r⟩ := h
  exact World.ownsMap.lt h2
theorem SM.keep {S : Nat → Prop} {w w' : World} {b n : Nat} {L : List ST} (h : SM w b n L) (q : Keep S w w') (hn : ¬ S b) : SM w' b n L := by
  obtain ⟨D, h2, r⟩ := h
  refine ⟨D, ?_, r⟩
  have hlt := World.ownsMap.lt h2
  obtain ⟨es, clock, hb, r⟩ := h2
  exact ⟨es, clock, (q.block b hlt hn).trans hb, r⟩
set_option maxRecDepth 100000 in
theorem SM.new (w : World) : SM (w.alloc (.map #[] 0)) w.heap.size 0 [] := ⟨.map [], World.ownsMap_made w _ _ _, fun s hs => by cases hs⟩
set_option maxRecDepth 100000 in
theorem SM.put {w : World} {b n : Nat} {L : List ST} (h : SM w b n L) {t : TypeId} (ht : Try.prog.underlying t = some (.map 24 4)) (s : ST) (hs : s.Ok) (hn : n < maxLen) :
    ∃ w', (Instr.mapUpdate t (.map (some b)) (val s) (.bool true)).run Try.prog w = .ok () w' ∧ SM w' b (n + 1) (L ++ [s]) ∧ Keep (· = b) w w' := by
  obtain ⟨D, h2, r⟩ := h
  obtain ⟨l, hl⟩ := key_set s hs
  obtain ⟨w', hrun, hown, hg⟩ := World.ownsMap.update h2 lawS ht hn hl (plainElem_bool Try.underlying4 true)
  refine ⟨w', hrun, ⟨_, hown, fun s' h3 h4 l' h5 => ?_⟩, (okeep_grown hg).mono fun j hj => by injection hj with hj; exact hj.symm⟩
  by_cases e : l' = l
  · subst e
    exact atKey_put_same (World.ownsMap.isMap h2) (lawS.key hl) _ _
  · rw [atKey_put_other e]
    rcases List.mem_append.1 h3 with h3 | h3
    · exact r s' h3 h4 l' h5
    · rw [List.mem_singleton.1 h3, hl] at h5
      injection h5 with h5
      exact absurd h5.symm e
set_option maxRecDepth 100000 in
theorem SM.look {w : World} {b n : Nat} {L : List ST} (h : SM w b n L) {t : TypeId} (ht : Try.prog.underlying t = some (.map 24 4)) {s : ST} (hs : s.Ok) (hm : s ∈ L) :
    (Instr.lookup t (.map (some b)) (val s) false).run Try.prog w = .ok (.bool true) w := by
  obtain ⟨D, h2, r⟩ := h
  obtain ⟨l, hl⟩ := key_set s hs
  obtain ⟨v, ps, hrun, hv⟩ := World.ownsMap.lookup h2 lawS ht (zeroB w) (plainElem_bool Try.underlying4 false) hl
  rw [r s hm hs l hl] at hv
  have e : v = .bool true := by
    unfold plainElem at hv
    rw [Try.underlying4] at hv
    cases v <;> simp at hv
    rw [hv.1]
  rw [hrun, e]

/-! ### what sets there are -/
theorem setsL_mem : ∀ {L : List T} {x : ST}, x ∈ setsL L ↔ ∃ t ∈ L, x ∈ setsT t
  | [], x => by rw [setsL]; simp
  | t :: L, x => by rw [setsL, List.mem_append, setsL_mem]; simp
theorem sokL_mem : ∀ {L : List T} {u : T}, SOkL L → u ∈ L → SOk u
  | [], u, _, h => by cases h
  | t :: L, u, hs, h => by
    rw [SOkL] at hs
    rcases List.mem_cons.1 h with rfl | h
    · exact hs.1
    · exact sokL_mem hs.2 h
theorem sets_not {t : T} (h : t.kind ≠ 2) : setsT t = setsL t.subs := by
  rw [setsT_eq, if_neg h]
theorem sets_two {t : T} (h : t.kind = 2) : setsT t = [t.set] := by
  rw [setsT_eq, if_pos h]
theorem sets_ok : ∀ (n : Nat) (t : T), SizeOf.sizeOf t < n → SOk t → ∀ x ∈ setsT t, x.Ok
  | 0, _, h, _ => absurd h (Nat.not_lt_zero _)
  | n + 1, t, h, hs => by
    intro x hx
    rw [setsT_eq] at hx
    split at hx
    · rw [List.mem_singleton.1 hx]
      cases t with
      | nd k s mn mx l => rw [SOk] at hs; exact hs.1
    · obtain ⟨u, hu, hxu⟩ := setsL_mem.1 hx
      refine sets_ok n u (by have := subs_lt hu; omega) ?_ x hxu
      cases t with
      | nd k s mn mx l =>
        rw [SOk] at hs
        exact sokL_mem hs.2 hu
theorem pl_sets : ∀ (n : Nat) (t : T), SizeOf.sizeOf t < n → ∀ d, RT d t → ∀ x ∈ setsT (plT t), x ∈ setsT t
  | 0, _, h, _, _ => absurd h (Nat.not_lt_zero _)
  | n + 1, t, h, d, hR => by
    intro x hx
    have ih : ∀ u ∈ t.subs, ∀ x ∈ setsT (plT u), x ∈ setsT u := fun u hu => pl_sets n u (by have := subs_lt hu; omega) d (sub_right hR.subs u hu)
    by_cases k5 : t.kind = 5
    · obtain ⟨a, mn, mx, e, -⟩ := P10.rep_is hR k5
      subst e
      have ha := ih a (by show a ∈ [a]; simp)
      have hne : setsT epsT = [] := by kernel_rfl
      rw [plT_rep] at hx
      have key : ∀ y, y ∈ setsL (tmsP mn mx (plT a)) → y ∈ setsT (.nd 5 ST.none mn mx [a]) := fun y hy => by
        obtain ⟨u, hu, hyu⟩ := setsL_mem.1 hy
        have hya : y ∈ setsT (plT a) := by
          rcases tmsP_mem hu with rfl | rfl | rfl
          · exact hyu
          · unfold starP at hyu
            rw [sets_not (by show (5 : Int) ≠ 2; omega)] at hyu
            obtain ⟨z, hz, hyz⟩ := setsL_mem.1 hyu
            rw [List.mem_singleton.1 (show z ∈ [plT a] from hz)] at hyz
            exact hyz
          · unfold optP at hyu
            rw [sets_not (by show (4 : Int) ≠ 2; omega)] at hyu
            obtain ⟨z, hz, hyz⟩ := setsL_mem.1 hyu
            have hz : z ∈ [plT a, epsT] := hz
            simp only [List.mem_cons, List.not_mem_nil, or_false] at hz
            rcases hz with rfl | rfl
            · exact hyz
            · rw [hne] at hyz
              cases hyz
        rw [sets_not (by show (5 : Int) ≠ 2; omega)]
        exact setsL_mem.2 ⟨a, List.mem_singleton.2 rfl, ha y hya⟩
      generalize tmsP mn mx (plT a) = M at hx key
      match M, hx, key with
      | [], hx, key =>
        have hx : x ∈ setsT epsT := hx
        rw [hne] at hx
        cases hx
      | [m], hx, key => exact key x (setsL_mem.2 ⟨m, List.mem_singleton.2 rfl, hx⟩)
      | m1 :: m2 :: M, hx, key =>
        rw [rowP_two (by simp), sets_not (by show (3 : Int) ≠ 2; omega)] at hx
        exact key x hx
    · rw [plT_not k5] at hx
      by_cases k2 : t.kind = 2
      · rw [sets_two (by show t.kind = 2; exact k2)] at hx
        rw [sets_two k2]
        exact hx
      · rw [sets_not (by show t.kind ≠ 2; exact k2)] at hx
        rw [sets_not k2]
        obtain ⟨z, hz, hxz⟩ := setsL_mem.1 hx
        obtain ⟨u, hu, rfl⟩ := List.mem_map.1 (show z ∈ t.subs.map plT from hz)
        exact setsL_mem.2 ⟨u, hu, ih u hu x hxz⟩
end Go.Proofs.Ythcjfgfbeollpaa.P13
