/- The comparison that parts' Cut hands to slices.SortFunc, and the sort of a slice of sets by it. -/
import Derived.Test.YtidfjeliofgpmaaDoorGrown
import Derived.Test.YtidfjeliofgpmaaDoorOL2
import Derived.Test.YtidfjeliofgpmaaDoorPart
import Derived.Test.YtidfjeliofgpmaaDoorLayF
namespace Go.Proofs.YtidfjeliofgpmaaDoor.Cmp
open Go.RowKit Go.Proofs.YtidfjeliofgpmaaDoor.Base Go.Proofs.YtidfjeliofgpmaaDoor.Sets Go.Proofs.YtidfjeliofgpmaaDoor.Bytes Go.Proofs.YtidfjeliofgpmaaDoor.SetL Go.Proofs.YtidfjeliofgpmaaDoor.OL Go.Proofs.YtidfjeliofgpmaaDoor.Part

theorem leastB_bd (p : Nat → Bool) : -1 ≤ leastB p ∧ leastB p ≤ 255 := by
  unfold leastB
  split <;> omega

theorem least_is {s : ST} (hs : s.Ok) {x : Int} (h : leastB s.has = x) {w : World} (hT : Tab w) : Calls Tryd.prog 27 #[val s] w fun e w' => e = .returned (.int .i64 x) ∧ Grown.Keep (fun _ => False) w w' := by
  rw [← h]
  exact Grown.least_any s hs w hT

set_option maxRecDepth 100000 in
theorem cmp_any (s t : ST) (hs : s.Ok) (ht : t.Ok) (w : World) (hT : Tab w) : Calls Tryd.prog 26 #[val s, val t] w fun e w' => e = .returned (.int .i64 (leastB s.has - leastB t.has)) ∧ Grown.Keep (fun _ => False) w w' := by
  have bx := leastB_bd s.has
  have by' := leastB_bd t.has
  obtain ⟨x, hx⟩ : ∃ x, leastB s.has = x := ⟨_, rfl⟩
  obtain ⟨y, hy⟩ : ∃ y, leastB t.has = y := ⟨_, rfl⟩
  rw [hx] at bx
  rw [hy] at by'
  rw [hx, hy]
  have HX := Lib.hid hx
  have HY := Lib.hid hy
  clear hx hy
  go_enter Tryd.func26, Tryd.ntmps26
  go_wp2_with fail
  have a1 := (At.new w (cells s) 35).alloc (.cells (cells t) 35)
  have a2 := At.new (w.alloc (.cells (cells s) 35)) (cells t) 35
  have q := ((Grown.Keep.refl (fun _ => False) w).alloc (.cells (cells s) 35)).alloc (.cells (cells t) 35)
  rw [show (w.alloc (.cells (cells s) 35)).heap.size = w.heap.size + 1 from by simp] at a2
  have A1 := Lib.hid (And.intro a1 (And.intro a2 q))
  clear a1 a2 q
  generalize ((w.alloc (.cells (cells s) 35)).alloc (.cells (cells t) 35)) = W at *
  have hS : ∀ w', Grown.Keep (fun _ => False) W w' → Grown.Keep (fun _ => False) W w' ∧ Tab w' ∧ w'.cell? ⟨w.heap.size, 0, none⟩ = some (.int .u64 s.x0) ∧ w'.cell? ⟨w.heap.size, 1, none⟩ = some (.int .u64 s.x1) ∧ w'.cell? ⟨w.heap.size, 2, none⟩ = some (.int .u64 s.x2) ∧ w'.cell? ⟨w.heap.size, 3, none⟩ = some (.int .u64 s.x3)
      ∧ w'.cell? ⟨w.heap.size + 1, 0, none⟩ = some (.int .u64 t.x0) ∧ w'.cell? ⟨w.heap.size + 1, 1, none⟩ = some (.int .u64 t.x1) ∧ w'.cell? ⟨w.heap.size + 1, 2, none⟩ = some (.int .u64 t.x2) ∧ w'.cell? ⟨w.heap.size + 1, 3, none⟩ = some (.int .u64 t.x3) := fun w' q => by
    obtain ⟨⟨c0, c1, c2, c3⟩, -⟩ := cells4 (A1.out.1.keep q.base (fun h => h))
    obtain ⟨⟨d0, d1, d2, d3⟩, -⟩ := cells4 (A1.out.2.1.keep q.base (fun h => h))
    exact ⟨q, (hT.keep A1.out.2.2.base).keep q.base, c0, c1, c2, c3, d0, d1, d2, d3⟩
  have HS := Lib.hid hS
  have HT := Lib.hid ((hT.keep A1.out.2.2.base).keep ((Keep.refl _ _).drew))
  clear hS hT
  go_region_held3 (fun w' => Grown.Keep (fun _ => False) W w' ∧ Tab w' ∧ w'.cell? ⟨w.heap.size, 0, none⟩ = some (.int .u64 s.x0) ∧ w'.cell? ⟨w.heap.size, 1, none⟩ = some (.int .u64 s.x1) ∧ w'.cell? ⟨w.heap.size, 2, none⟩ = some (.int .u64 s.x2) ∧ w'.cell? ⟨w.heap.size, 3, none⟩ = some (.int .u64 s.x3)
      ∧ w'.cell? ⟨w.heap.size + 1, 0, none⟩ = some (.int .u64 t.x0) ∧ w'.cell? ⟨w.heap.size + 1, 1, none⟩ = some (.int .u64 t.x1) ∧ w'.cell? ⟨w.heap.size + 1, 2, none⟩ = some (.int .u64 t.x2) ∧ w'.cell? ⟨w.heap.size + 1, 3, none⟩ = some (.int .u64 t.x3)) (first | exact HS.out _ ((Grown.Keep.refl _ _).drew) | exact HS.out _ (Grown.Keep.trans (And.left (by assumption)) q)) (first
    | (go_at_call_of 27 (Value.agg #[Value.int IntKind.u64 (s.x0 : Int), Value.int IntKind.u64 (s.x1 : Int), Value.int IntKind.u64 (s.x2 : Int), Value.int IntKind.u64 (s.x3 : Int)]); refine (least_is hs HX.out (by first | assumption | exact HT.out | exact And.left (And.right (by assumption)) | exact HT.out.keep q.base)).mono ?_; rintro e w1 ⟨rfl, q⟩)
    | (go_at_call_of 27 (Value.agg #[Value.int IntKind.u64 (t.x0 : Int), Value.int IntKind.u64 (t.x1 : Int), Value.int IntKind.u64 (t.x2 : Int), Value.int IntKind.u64 (t.x3 : Int)]); refine (least_is ht HY.out (by first | assumption | exact HT.out | exact And.left (And.right (by assumption)) | exact HT.out.keep q.base)).mono ?_; rintro e w1 ⟨rfl, q⟩))
  all_goals
    rename_i hh
    have H := Lib.hid (A1.out.2.2.trans hh.1)
    clear hh q
    go_wp2_with fail
    go_ret
    exact ⟨ret_int (by first | rfl | (rw [IntKind.wrap_i64]; omega)), H.out⟩

/-- A set whose words fit. -/
structure OS where
  s : ST
  ok : s.Ok
instance : Inhabited OS := ⟨⟨ST.none, ST.none_ok⟩⟩
def enc (x : OS) : List Value := [.int .u64 x.1.x0, .int .u64 x.1.x1, .int .u64 x.1.x2, .int .u64 x.1.x3]
def cf (x y : OS) : Int := leastB x.1.has - leastB y.1.has
theorem swo : Go.Sort.SWO (Go.Proofs.ltOf cf) where
  irrefl x := by unfold Go.Proofs.ltOf cf; simp
  trans x y z h1 h2 := by unfold Go.Proofs.ltOf cf at *; simp at *; omega
  ntrans x y z h1 h2 := by unfold Go.Proofs.ltOf cf at *; simp at *; omega


theorem enc_at (x : OS) (j : Nat) (h : j < 4) : (enc x)[j]! = .int .u64 (x.1.w j) := by
  match j, h with
  | 0, _ => rfl
  | 1, _ => rfl
  | 2, _ => rfl
  | 3, _ => rfl

/-- The sets of an array. -/
def sets (d : Array OS) : List ST := d.toList.map fun x => x.1
theorem sets_length (d : Array OS) : (sets d).length = d.size := by simp [sets]
theorem sets_at (d : Array OS) (i : Nat) (h : i < d.size) : (sets d)[i]? = some (d[i]!).1 := by
  unfold sets
  rw [List.getElem?_map, Array.getElem?_toList, Array.getElem?_eq_getElem h]
  simp [h]

theorem holds_of {w : World} {v : Value} {d : Array OS} (h : OL w v (sets d)) {g : Nat} (hg : v.ownBlock = some g) : Go.Sort.HoldsK enc 4 w g 0 d := by
  intro j hj
  rw [Go.Sort.size_flatK] at hj
  have hi : j / 4 < d.size := by omega
  obtain ⟨g2, cap, -, hg2, -, hc, hf⟩ := h.get (sets_at d (j / 4) hi)
  rw [hg] at hg2
  injection hg2 with hg2
  subst hg2
  rw [Go.Sort.get_flatK _ _ _ _ hj, enc_at _ _ (Nat.mod_lt _ (by decide)), Nat.zero_add]
  have := hc (j % 4) (Nat.mod_lt _ (by decide))
  rw [show j / 4 * 4 + j % 4 = j from by omega] at this
  exact ⟨this, hf j⟩

theorem keep_sorted (w : World) (g m : Nat) (d : Array OS) (os : Array Obj) : Keep (fun b => b = g) w (Go.Proofs.sortWorldK enc 4 w g 0 m d os) := by
  unfold Go.Proofs.sortWorldK Go.Sort.putRowK Go.Sort.putRow Go.Sort.mapBlock Go.Sort.grow Go.Sort.ahead
  refine ⟨rfl, rfl, rfl, by simp, fun k hk hn => ?_⟩
  have hn' : ¬ g = k := fun e => hn e.symm
  simp only [Array.getElem?_append, Array.size_modify, if_pos hk, Array.getElem?_modify, if_neg hn']

theorem ol_sorted {w : World} {v : Value} {L : List ST} (h : OL w v L) {g : Nat} (hg : v.ownBlock = some g) (m : Nat) (d : Array OS) (os : Array Obj) (hd : d.size = L.length) : OL (Go.Proofs.sortWorldK enc 4 w g 0 m d os) v (sets d) := by
  rcases h.2 with ⟨rfl, _⟩ | ⟨g', cap, cur, rfl, hb, h1, h2, h3, h4, h5⟩
  · cases hg
  · cases hg
    have hlen : (sets d).length = L.length := by rw [sets_length, hd]
    have hlt : g' < w.heap.size := (Array.getElem?_eq_some_iff.1 h1).1
    have hw : (Go.Proofs.sortWorldK enc 4 w g' 0 m d os).heap[g']? = some (.cells (Go.Sort.putCells id 0 (Go.Sort.flatK enc 4 d) cur) 35 (0, 0)) := by
      unfold Go.Proofs.sortWorldK Go.Sort.putRowK Go.Sort.putRow Go.Sort.mapBlock Go.Sort.grow Go.Sort.ahead
      simp only [Array.getElem?_append, Array.size_modify, if_pos hlt, Array.getElem?_modify, if_true, h1, Option.map_some, Go.Sort.onCells]
    refine ⟨by rw [flat_length], .inr ⟨g', cap, _, by rw [hlen], hb, hw, by rw [hlen]; exact h2, h3, by simp [Go.Sort.putCells, h4], ?_⟩⟩
    have h2' : L.length * 4 ≤ cap * 4 := Nat.mul_le_mul_right 4 h2
    rw [hlen]
    apply List.ext_getElem?
    intro j
    by_cases hj : j < L.length * 4
    · have hi : j / 4 < d.size := by omega
      have hf := flat_at (sets d) (j / 4) _ (sets_at d (j / 4) hi) (j % 4) (Nat.mod_lt _ (by decide))
      rw [show j / 4 * 4 + j % 4 = j from by omega] at hf
      rw [List.getElem?_take_of_lt hj, hf, Array.getElem?_toList]
      have hs : j < (Go.Sort.flatK enc 4 d).size := by rw [Go.Sort.size_flatK]; omega
      have hjc : j < cur.size := by omega
      unfold Go.Sort.putCells
      rw [Array.getElem?_mapIdx, Array.getElem?_eq_getElem hjc, Option.map_some, if_pos ⟨Nat.zero_le _, by omega⟩, Nat.sub_zero, Go.Sort.get_flatK _ _ _ _ (by omega), enc_at _ _ (Nat.mod_lt _ (by decide))]
      rfl
    · rw [List.getElem?_eq_none (by simp; omega), List.getElem?_eq_none (by rw [flat_length, hlen]; omega)]

theorem tab_keep {S : Nat → Prop} {w w' : World} (h : Tab w) (q : Keep S w w') (hn : ¬ S 0) : Tab w' := fun j hj => by
  have hc := h j hj
  exact (q.cell (a := ⟨0, j, none⟩) (World.block_lt_of_cell? w _ hc) hn).trans hc

/-- An array of the sets of a list. -/
theorem array_of (L : List ST) (h : ∀ s ∈ L, s.Ok) : ∃ d : Array OS, sets d = L := by
  refine ⟨(L.pmap (fun s k => (⟨s, k⟩ : OS)) h).toArray, ?_⟩
  show List.map (fun x : OS => x.1) (L.pmap (fun s k => (⟨s, k⟩ : OS)) h) = L
  rw [List.map_pmap]
  simp

theorem leastB_low {s : ST} (h : ∃ b, b < 256 ∧ s.has b = true) : leastB s.has = low s := by
  unfold leastB
  rw [if_pos (low_spec h).1]

set_option maxRecDepth 100000 in
theorem sort_any {w : World} {v : Value} {L M : List ST} (hM : Part L M) (hv : OL w v M) {g : Nat} (hg : v.ownBlock = some g) (hgt : g ≠ 0) (hT : Tab w) :
    Calls Tryd.prog 25 #[v, .func (.func 26) #[] #[]] w fun e w' => e = .returned (.tuple #[]) ∧ ∃ N, Done L N ∧ OL w' v N ∧ Keep (fun b => b = g) w w' := by
  obtain ⟨d, rfl⟩ := array_of M hM.ok
  have h0 : 0 < d.size := by
    obtain ⟨s, hs, -⟩ := hM.cover 0 (by decide)
    have := List.length_pos_of_mem hs
    rwa [sets_length] at this
  have h256 := part_le hM
  rw [sets_length] at h256
  obtain ⟨g2, cap, rfl, hg2, hgl, -, -⟩ := hv.get (sets_at d 0 h0)
  rw [hg] at hg2
  injection hg2 with hg2
  subst hg2
  have eg : ∀ args w, (callFunc 26 args).run Tryd.prog w = .ok (.enter 26 args) w := enters_of Tryd.func26 (by kernel_rfl) rfl
  have hcmp : CmpLays Tryd.prog 26 #[] enc 4 cf g 0 d.size w := fun m os dk _ x y =>
    (cmp_any x.1 y.1 x.2 y.2 _ (tab_keep hT (keep_sorted w g m dk os) (fun h => hgt h.symm))).mono fun e w' ⟨he, q⟩ => ⟨he, q.grown⟩
  have hcon := AnyQ.slices_SortFunc Lay.sortFuncA 4 Tryd.isAgg35 Tryd.sizeOf35 enc (fun _ => rfl) (fun x v hv => by simp [enc] at hv; rcases hv with rfl | rfl | rfl | rfl <;> rfl) cf swo 26 #[] g 0 cap d w eg hcmp (holds_of hv hg) hgl (by omega)
  change Calls Tryd.prog 25 _ _ _ at hcon
  rw [sets_length] at hv ⊢
  refine hcon.mono ?_
  rintro e w' ⟨rfl, d', n, os, hp, hs, rfl⟩
  have hperm : (sets d).Perm (sets d') := by
    have h3 := hp.2.2
    have e1 : d'.extract 0 d.size = d' := by rw [← hp.1]; simp
    have e2 : d.extract 0 d.size = d := by simp
    rw [e1, e2] at h3
    exact (h3.map _).symm
  have hN := part_perm hM hperm
  refine ⟨rfl, sets d', Done.of hN ?_, ol_sorted hv rfl n d' os (by rw [hp.1, sets_length]), keep_sorted w g n d' os⟩
  rw [List.pairwise_iff_getElem]
  intro i j hi hj hij
  have hi' : i < d'.size := by rwa [sets_length] at hi
  have hj' : j < d'.size := by rwa [sets_length] at hj
  have k := hs i j (Nat.zero_le _) hij (by rw [← hp.1]; exact hj')
  have ei : (sets d')[i] = (d'[i]!).1 := Option.some.inj ((List.getElem?_eq_getElem hi).symm.trans (sets_at d' i hi'))
  have ej : (sets d')[j] = (d'[j]!).1 := Option.some.inj ((List.getElem?_eq_getElem hj).symm.trans (sets_at d' j hj'))
  have li := leastB_low (hN.ne _ (List.getElem_mem hi))
  have lj := leastB_low (hN.ne _ (List.getElem_mem hj))
  unfold Go.Proofs.ltOf cf at k
  rw [decide_eq_false_iff_not] at k
  rw [← ei, ← ej] at k
  omega

end Go.Proofs.YtidfjeliofgpmaaDoor.Cmp
