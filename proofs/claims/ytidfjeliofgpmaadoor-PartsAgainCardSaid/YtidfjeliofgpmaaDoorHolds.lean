/- The methods of *Parts, and all that the laws of stage 5 lean on (Holds). -/
import Derived.Test.YtidfjeliofgpmaaDoorCut
import Derived.Deep.MidRow
import Derived.Deep.DeepCutAuto
import Derived.Deep.CutBlock
namespace Go.Proofs.YtidfjeliofgpmaaDoor.Cut
open Go.RowKit Go.Proofs.YtidfjeliofgpmaaDoor.Base Go.Proofs.YtidfjeliofgpmaaDoor.Sets Go.Proofs.YtidfjeliofgpmaaDoor.Bytes Go.Proofs.YtidfjeliofgpmaaDoor.SetL Go.Proofs.YtidfjeliofgpmaaDoor.OL Go.Proofs.YtidfjeliofgpmaaDoor.Cls Go.Proofs.YtidfjeliofgpmaaDoor.Parts Go.Proofs.YtidfjeliofgpmaaDoor.Part Go.Proofs.YtidfjeliofgpmaaDoor.IL

theorem eq_z (s : ST) (w : World) : (Op.equalIn 10000 35 (val s) (.agg #[.int .u64 0, .int .u64 0, .int .u64 0, .int .u64 0])).run Tryd.prog w = .ok (eqB s ST.none) w := eq_set4 _ _ _ _ _ _ _ _ w

theorem PT.keep {w w' : World} {v : Value} {L : List ST} (h : PT w v L) (q : Keep (fun _ => False) w w') : PT w' v L := by
  obtain ⟨b, a, N, cap, rfl, h1, h2, h3⟩ := h
  exact ⟨b, a, N, cap, rfl, h1.keep q (fun h => h), h2.keep q (fun _ _ h => h), h3⟩

theorem len_any {w : World} {v : Value} {L : List ST} (h : PT w v L) : Calls Tryd.prog 17 #[v] w fun e w' => e = .returned (.int .i64 (ncl (key L))) ∧ Keep (fun _ => False) w w' := by
  obtain ⟨b, a, N, cap, rfl, h1, h2, h3⟩ := h
  have c0 := h1.cell (pcells_0 _ _)
  have hn := h3.len
  have HN := Lib.hid hn
  clear hn h1 h2 h3
  go_enter Tryd.func17, Tryd.ntmps17
  go_wp2
  go_ret
  exact ⟨ret_int (by rw [HN.out]), Keep.refl _ _⟩

theorem len_nil (w : World) : Calls Tryd.prog 17 #[.pointer .none] w fun e w' => e = .returned (.int .i64 0) ∧ Keep (fun _ => False) w w' := by
  go_enter Tryd.func17, Tryd.ntmps17
  go_wp2
  go_ret
  exact ⟨rfl, Keep.refl _ _⟩

theorem class_any {w : World} {v : Value} {L : List ST} {b : Nat} (h : PT w v L) (hb : b < 256) : Calls Tryd.prog 12 #[v, .int .u8 b] w fun e w' => e = .returned (.int .i64 (cls (key L) b)) ∧ Keep (fun _ => False) w w' := by
  obtain ⟨g, a, N, cap, rfl, h1, h2, h3⟩ := h
  have c0 := h1.cell (pcells_at _ L b hb)
  have hc := cls_lt (key L) hb
  have hn := ncl_le (key L)
  generalize cls (key L) b = C at *
  have hb' : (b : Int) < 256 := by omega
  clear h1 h2 h3
  go_enter Tryd.func12, Tryd.ntmps12
  go_wp2
  go_ret
  exact ⟨ret_int (by first | rfl | go_num), Keep.refl _ _⟩

theorem class_nil (w : World) (b : Nat) : Calls Tryd.prog 12 #[.pointer .none, .int .u8 b] w fun e w' => e = .returned (.int .i64 0) ∧ Keep (fun _ => False) w w' := by
  go_enter Tryd.func12, Tryd.ntmps12
  go_wp2
  go_ret
  exact ⟨rfl, Keep.refl _ _⟩

/-- Of a class that there is not. -/
theorem of_out {w : World} {v : Value} {c : Int} {n : Nat} (hv : ∀ w', Keep (fun _ => False) w w' → Calls Tryd.prog 17 #[v] w' fun e w'' => e = .returned (.int .i64 n) ∧ Keep (fun _ => False) w' w'') (h1 : -9223372036854775808 ≤ c) (h2 : c ≤ 9223372036854775807) (h : c < 0 ∨ (n : Int) ≤ c) :
    Calls Tryd.prog 14 #[v, .int .i64 c] w fun e w' => e = .returned (val ST.none) ∧ Keep (fun _ => False) w w' := by
  have HV := Lib.hid hv
  clear hv
  go_enter Tryd.func14, Tryd.ntmps14
  by_cases h0 : c < 0
  · go_wp2_with fail
    have a1 := At.new w zeros 35
    have q1 := (Keep.refl (fun _ => False) w).alloc (.cells zeros 35)
    obtain ⟨⟨x0, x1, x2, x3⟩, -⟩ := cells4 a1
    generalize (w.alloc (.cells zeros 35)) = W2 at *
    exact bodyPost_ret (v := val ST.none) (by simp [results, Tryd.results14, go_sem, x0, x1, x2, x3, ST.none]) rfl ⟨rfl, q1⟩
  · have hnc : (n : Int) ≤ c := by omega
    go_wp2_with fail
    have a1 := At.new w zeros 35
    have q1 := (Keep.refl (fun _ => False) w).alloc (.cells zeros 35)
    refine (HV.out _ q1).mono ?_
    rintro e w2 ⟨rfl, q2⟩
    have a2 := a1.keep q2 (fun h => h)
    have q3 := q1.trans q2
    have A := Lib.hid (And.intro a2 q3)
    obtain ⟨⟨d0, d1, d2, d3⟩, f0, f1, f2, f3⟩ := cells4 a2
    clear a1 q1 q2 a2 q3
    go_wp2_with fail
    have q := keep4 A.out.2 (b := w.heap.size) (fun h => absurd h (by simp)) (.int .u64 0) (.int .u64 0) (.int .u64 0) (.int .u64 0)
    have a := set4 A.out.1 (.int .u64 0) (.int .u64 0) (.int .u64 0) (.int .u64 0)
    generalize World.setCell _ _ _ = W2 at *
    obtain ⟨⟨x0, x1, x2, x3⟩, -⟩ := cells4 a
    exact bodyPost_ret (v := val ST.none) (by simp [results, Tryd.results14, go_sem, x0, x1, x2, x3, ST.none]) rfl ⟨rfl, q⟩

theorem of_in {w : World} {v : Value} {L : List ST} {c : Nat} (h : PT w v L) (hc : c < ncl (key L)) :
    Calls Tryd.prog 14 #[v, .int .i64 c] w fun e w' => e = .returned (val (ofC L c)) ∧ Keep (fun _ => False) w w' := by
  have hle := ncl_le (key L)
  obtain ⟨b, a, N, cap, rfl, h1, h2, h3⟩ := h
  have hs := h3.get hc
  obtain ⟨bl, off, rfl, -, -⟩ := h2.range hs
  obtain ⟨r, hr⟩ : ∃ r, ofC L c = r := ⟨_, rfl⟩
  rw [hr] at hs ⊢
  have HP := Lib.hid (show PT w (.pointer (some ⟨b, 0, none⟩)) L from ⟨b, _, N, cap, rfl, h1, h2, h3⟩)
  have HH := Lib.hid (And.intro h1 (And.intro h2 hs))
  have hcN : (c : Int) < N.length := by rw [h3.len]; omega
  clear h1 h2 h3 hr hs
  go_enter Tryd.func14, Tryd.ntmps14
  go_wp2_with fail
  have a1 := At.new w zeros 35
  have q1 := (Keep.refl (fun _ => False) w).alloc (.cells zeros 35)
  refine (len_any (HP.out.keep q1)).mono ?_
  rintro e w2 ⟨rfl, q2⟩
  have a2 := a1.keep q2 (fun h => h)
  have q3 := q1.trans q2
  obtain ⟨⟨d0, d1, d2, d3⟩, f0, f1, f2, f3⟩ := cells4 a2
  have hcc := (HH.out.2.1.keep q3 (fun _ _ h => h)).cells HH.out.2.2
  have e0 : w2.cell? ⟨bl, off + c * 4, none⟩ = some (.int .u64 r.x0) := hcc 0 (by omega)
  have e1 : w2.cell? ⟨bl, off + c * 4 + 1, none⟩ = some (.int .u64 r.x1) := hcc 1 (by omega)
  have e2 : w2.cell? ⟨bl, off + c * 4 + 2, none⟩ = some (.int .u64 r.x2) := hcc 2 (by omega)
  have e3 : w2.cell? ⟨bl, off + c * 4 + 3, none⟩ = some (.int .u64 r.x3) := hcc 3 (by omega)
  have k0 := (HH.out.1.keep q3 (fun h => h)).cell (pcells_0 _ _)
  have A := Lib.hid (And.intro a2 q3)
  have hcn : ¬ ((ncl (key L) : Nat) : Int) ≤ c := by omega
  have hi0 : (0 : Int) ≤ c := by omega
  clear a1 q1 q2 a2 q3 hcc
  generalize ncl (key L) = n at *
  go_wp2_with fail
  have q := keep4 A.out.2 (b := w.heap.size) (fun h => absurd h (by simp)) (.int .u64 r.x0) (.int .u64 r.x1) (.int .u64 r.x2) (.int .u64 r.x3)
  have a := set4 A.out.1 (.int .u64 r.x0) (.int .u64 r.x1) (.int .u64 r.x2) (.int .u64 r.x3)
  generalize World.setCell _ _ _ = W2 at *
  obtain ⟨⟨x0, x1, x2, x3⟩, -⟩ := cells4 a
  exact bodyPost_ret (v := val r) (by simp [results, Tryd.results14, go_sem, x0, x1, x2, x3]) rfl ⟨rfl, q⟩

theorem of_any' {w : World} {v : Value} {L : List ST} {c : Int} (h : PT w v L) (h1 : -9223372036854775808 ≤ c) (h2 : c ≤ 9223372036854775807) :
    Calls Tryd.prog 14 #[v, .int .i64 c] w fun e w' => e = .returned (val (ofC L c)) ∧ Keep (fun _ => False) w w' := by
  by_cases ho : c < 0 ∨ (ncl (key L) : Int) ≤ c
  · rw [Part.ofC_none ho]
    exact of_out (fun w' q => len_any (h.keep q)) h1 h2 ho
  · obtain ⟨n, rfl⟩ : ∃ n : Nat, c = n := ⟨c.toNat, by omega⟩
    exact of_in h (by omega)

theorem of_nil {w : World} {c : Int} (h1 : -9223372036854775808 ≤ c) (h2 : c ≤ 9223372036854775807) :
    Calls Tryd.prog 14 #[.pointer .none, .int .i64 c] w fun e w' => e = .returned (val ST.none) ∧ Keep (fun _ => False) w w' :=
  of_out (n := 0) (fun w' _ => len_nil w') h1 h2 (by omega)

/-- Sample, where Of has answered s. -/
theorem sample_yes {w : World} {v : Value} {c : Int} {s : ST} {r : Nat} (hs : s.Ok) (hr : nxt s.has 0 = r) (h : r < 256) (hT : Tab w) (ho : Calls Tryd.prog 14 #[v, .int .i64 c] w fun e w' => e = .returned (val s) ∧ Keep (fun _ => False) w w') :
    Calls Tryd.prog 15 #[v, .int .i64 c] w fun e w' => e = .returned (.tuple #[.int .u8 r, .bool true]) ∧ Keep (fun _ => False) w w' := by
  have hl : leastB s.has = (r : Int) := by
    unfold leastB
    rw [hr]
    simp [h]
  have HO := Lib.hid (And.intro hs (And.intro (fun (w' : World) (q : Keep (fun _ => False) w w') => hT.keep q) (And.intro ho hl)))
  clear hs hT ho hr hl
  have hw : IntKind.u8.wrap (r : Int) = r := by rw [show IntKind.u8.wrap (r : Int) = (r : Int) % 256 from by simp [IntKind.wrap, IntKind.bits, IntKind.signed]]; omega
  have h0 : ¬ (r : Int) < 0 := by omega
  go_enter Tryd.func15, Tryd.ntmps15
  go_wp2_with fail
  refine HO.out.2.2.1.mono ?_
  rintro e w1 ⟨rfl, q1⟩
  have Q1 := Lib.hid q1
  clear q1
  go_wp2_with fail
  refine (least_any s HO.out.1 w1 (HO.out.2.1 _ Q1.out)).mono ?_
  rintro e w2 ⟨rfl, q2⟩
  have Q2 := Lib.hid (Q1.out.trans q2)
  clear q2
  rw [HO.out.2.2.2]
  go_wp2
  exact bodyPost_ret (v := .tuple #[.int .u8 r, .bool true]) (by simp [results, Tryd.results15, go_sem]) rfl ⟨rfl, Q2.out⟩

theorem sample_no {w : World} {v : Value} {c : Int} {s : ST} {r : Nat} (hs : s.Ok) (hr : nxt s.has 0 = r) (h : ¬ r < 256) (hT : Tab w) (ho : Calls Tryd.prog 14 #[v, .int .i64 c] w fun e w' => e = .returned (val s) ∧ Keep (fun _ => False) w w') :
    Calls Tryd.prog 15 #[v, .int .i64 c] w fun e w' => e = .returned (.tuple #[.int .u8 0, .bool false]) ∧ Keep (fun _ => False) w w' := by
  have hl : leastB s.has = -1 := by
    unfold leastB
    rw [hr]
    simp [h]
  have HO := Lib.hid (And.intro hs (And.intro (fun (w' : World) (q : Keep (fun _ => False) w w') => hT.keep q) (And.intro ho hl)))
  clear hs hT ho hr hl
  go_enter Tryd.func15, Tryd.ntmps15
  go_wp2_with fail
  refine HO.out.2.2.1.mono ?_
  rintro e w1 ⟨rfl, q1⟩
  have Q1 := Lib.hid q1
  clear q1
  go_wp2_with fail
  refine (least_any s HO.out.1 w1 (HO.out.2.1 _ Q1.out)).mono ?_
  rintro e w2 ⟨rfl, q2⟩
  have Q2 := Lib.hid (Q1.out.trans q2)
  clear q2
  rw [HO.out.2.2.2]
  go_wp2
  exact bodyPost_ret (v := .tuple #[.int .u8 0, .bool false]) (by simp [results, Tryd.results15, go_sem]) rfl ⟨rfl, Q2.out⟩

theorem sample_any {w : World} {v : Value} {L : List ST} {b : Nat} (hT : Tab w) (h : PT w v L) (hb : b < 256) (hf : first (key L) b = true) :
    Calls Tryd.prog 15 #[v, .int .i64 (cls (key L) b)] w fun e w' => e = .returned (.tuple #[.int .u8 b, .bool true]) ∧ Keep (fun _ => False) w w' := by
  have hl := low_ofC hb hf
  exact sample_yes (ofC_ok L (cls (key L) b)) hl hb hT (of_any' h (c := (cls (key L) b : Int)) (by omega) (by have := cls_lt (key L) hb; have := ncl_le (key L); omega))

theorem sample_none {w : World} {v : Value} {c : Int} (hT : Tab w) (ho : Calls Tryd.prog 14 #[v, .int .i64 c] w fun e w' => e = .returned (val ST.none) ∧ Keep (fun _ => False) w w') :
    Calls Tryd.prog 15 #[v, .int .i64 c] w fun e w' => e = .returned (.tuple #[.int .u8 0, .bool false]) ∧ Keep (fun _ => False) w w' := by
  exact sample_no ST.none_ok low_none (by decide) hT ho

set_option maxRecDepth 100000 in
theorem remap_any' {w : World} {v : Value} {L : List ST} (h : PT w v L) : Calls Tryd.prog 11 #[v] w fun e w' => e = .returned (.agg (arr8 fun i => (cls (key L) i : Int))) ∧ Keep (fun _ => False) w w' := by
  obtain ⟨b, a, N, cap, rfl, h1, -, -⟩ := h
  have hr : w.rangeAt b 1 (arr8 fun i => (cls (key L) i : Int)).toList := fun j v hv => by
    rw [Array.getElem?_toList] at hv
    have hj : j < 256 := by
      have := (Array.getElem?_eq_some_iff.1 hv).1
      rwa [arr8_size] at this
    rw [arr8_at _ _ hj] at hv
    rw [h1.cell (pcells_at _ L j hj), ← hv]
  have hz := run_zero8
  obtain ⟨ys, hys⟩ : ∃ ys, ys = arr8 fun _ => 0 := ⟨_, rfl⟩
  rw [← hys] at hz
  have hm1 := arr8_one (fun i => (cls (key L) i : Int))
  have hs1 := arr8_size (fun i => (cls (key L) i : Int))
  have hz1 : ys.size = 256 := by rw [hys, arr8_size]
  generalize arr8 (fun i => (cls (key L) i : Int)) = M at *
  have hi1 : (Tryd.prog.info? 29).map (·.size) = some M.size := by rw [hs1]; exact size8
  have ht := (At.new w ys 29)
  have H := Lib.hid (And.intro (hr : w.rangeAt b 1 M.toList) (And.intro hi1 (And.intro hm1 (And.intro (hz1.trans hs1.symm) (And.intro ht h1.lt)))))
  clear hr hys hm1 hs1 hz1 hi1 ht h1
  go_enter Tryd.func11, Tryd.ntmps11
  go_wp2_with (first
    | (refine wpList_load_mid rfl 29 _ rfl b 1 rfl M.toList _ (World.rangeAt_alloc H.out.1 _) Tryd.underlying29 rfl (by rw [Array.length_toList]; exact H.out.2.1) ?_; rw [Array.toArray_toList])
    | (refine wpList_store_row rfl 29 _ _ rfl w.heap.size M rfl rfl 29 ys H.out.2.2.2.2.1 H.out.2.1 H.out.2.2.2.1 H.out.2.2.1 ?_; rw [World.setRow_alloc_new]))
  have hr := run_loadVar_row (P := Tryd.prog) (w.alloc (.cells M 29)) w.heap.size 29 29 M (0, 0) _ (At.new w M 29) Tryd.underlying29 rfl H.out.2.1
  exact bodyPost_ret (v := .agg M) (by simp [results, Tryd.results11, asAddr, Act.put, hr]) rfl ⟨rfl, (Keep.refl _ w).alloc _⟩

set_option maxRecDepth 100000 in
theorem remap_nil (w : World) : Calls Tryd.prog 11 #[.pointer .none] w fun e w' => e = .returned (.agg (arr8 fun _ => 0)) ∧ Keep (fun _ => False) w w' := by
  have hz := run_zero8
  have hm1 := arr8_one (fun _ => 0)
  have hs1 := arr8_size (fun _ => 0)
  generalize arr8 (fun _ => 0) = M at *
  have hi1 : (Tryd.prog.info? 29).map (·.size) = some M.size := by rw [hs1]; exact size8
  have ht := (At.new w M 29)
  have H := Lib.hid (And.intro hi1 (And.intro hm1 ht))
  clear hm1 hs1 hi1 ht
  go_enter Tryd.func11, Tryd.ntmps11
  go_wp2_with (first
    | (refine wpList_store_row rfl 29 _ _ rfl w.heap.size M rfl rfl 29 M H.out.2.2 H.out.1 rfl H.out.2.1 ?_; rw [World.setRow_alloc_new]))
  have hr := run_loadVar_row (P := Tryd.prog) (w.alloc (.cells M 29)) w.heap.size 29 29 M (0, 0) _ (At.new w M 29) Tryd.underlying29 rfl H.out.1
  exact bodyPost_ret (v := .agg M) (by simp [results, Tryd.results11, asAddr, Act.put, hr]) rfl ⟨rfl, (Keep.refl _ w).alloc _⟩

/-- Of the first k classes those that lie in the set. -/
def clk (L : List ST) (s : ST) (k : Nat) : List Int := ((List.range k).filter (inn L s)).map fun c : Nat => (c : Int)
theorem clk_yes {L : List ST} {s : ST} {k : Nat} (h : inn L s k = true) : clk L s (k + 1) = clk L s k ++ [(k : Int)] := by
  unfold clk
  rw [List.range_succ, List.filter_append, List.map_append]
  simp [h]
theorem clk_no {L : List ST} {s : ST} {k : Nat} (h : inn L s k = false) : clk L s (k + 1) = clk L s k := by
  unfold clk
  rw [List.range_succ, List.filter_append, List.map_append]
  simp [h]
theorem clk_length (L : List ST) (s : ST) (k : Nat) : (clk L s k).length ≤ k := by
  unfold clk
  rw [List.length_map]
  have := List.length_filter_le (inn L s) (List.range k)
  rwa [List.length_range] at this

set_option maxRecDepth 100000 in
theorem classes_any {w : World} {v : Value} {L : List ST} {s : ST} (h : PT w v L) (hs : s.Ok) : Calls Tryd.prog 18 #[v, val s] w fun e w' => ∃ u, e = .returned u ∧ IL w' u (cl L s) ∧ Keep (fun _ => False) w w' := by
  have hle := ncl_le (key L)
  obtain ⟨b, a, N, cap, rfl, h1, h2, h3⟩ := h
  have HP := Lib.hid (And.intro (show PT w (.pointer (some ⟨b, 0, none⟩)) L from ⟨b, a, N, cap, rfl, h1, h2, h3⟩) (And.intro h1 (And.intro h2 (And.intro h3 hs))))
  have hcl : cl L s = clk L s (ncl (key L)) := rfl
  rw [hcl]
  clear h1 h2 hs hcl
  have hN := h3.len
  clear h3
  go_enter Tryd.func18, Tryd.ntmps18
  go_wp2_with fail
  have a1 := At.new w (cells s) 35
  have q1 := (Keep.refl (fun _ => False) w).alloc (.cells (cells s) 35)
  refine (len_any (HP.out.1.keep q1)).mono ?_
  rintro e w1 ⟨rfl, q2⟩
  have A := Lib.hid (And.intro (a1.keep q2 (fun h => h)) (q1.trans q2))
  clear a1 q1 q2
  rw [← hN] at hle ⊢
  go_wp2_with fail
  go_loopg [5, 9] N.length (fun gg u i wr => ∃ k : Nat, i = .int .i64 k ∧ k + gg = N.length ∧ IL wr u (clk L s k) ∧ (∀ g, u.ownBlock = some g → w.heap.size < g) ∧ At wr w.heap.size 35 (cells s) ∧ Keep (fun _ => False) w wr)
  case atStart => exact ⟨0, rfl, by omega, IL.nil _, fun g hg => (by cases hg), A.out.1, A.out.2⟩
  case round =>
    obtain ⟨k, rfl, hk, hu, hb, ha, hq⟩ := hrel
    clear A
    by_cases hlt : k < N.length
    · have hlt' : (k : Int) < N.length := by omega
      have hsk := HP.out.2.2.2.1.get (c := k) (by rw [← hN]; exact hlt)
      obtain ⟨bl, off, rfl, -, -⟩ := HP.out.2.2.1.range hsk
      have hin := inn_iff L HP.out.2.2.2.2 k
      have hro := ofC_ok L (k : Int)
      obtain ⟨r, hr⟩ : ∃ r, ofC L (k : Int) = r := ⟨_, rfl⟩
      rw [hr] at hsk hin hro
      clear hr
      have hS : ∀ w', Keep (fun _ => False) wr w' → Keep (fun _ => False) wr w' ∧ w'.cell? ⟨b, 0, none⟩ = some (.slice (some ⟨bl, off, none⟩) N.length cap) ∧ w'.cell? ⟨bl, off + k * 4, none⟩ = some (.int .u64 r.x0) ∧ w'.cell? ⟨bl, off + k * 4 + 1, none⟩ = some (.int .u64 r.x1) ∧ w'.cell? ⟨bl, off + k * 4 + 2, none⟩ = some (.int .u64 r.x2) ∧ w'.cell? ⟨bl, off + k * 4 + 3, none⟩ = some (.int .u64 r.x3)
          ∧ w'.cell? ⟨w.heap.size, 0, none⟩ = some (.int .u64 s.x0) ∧ w'.cell? ⟨w.heap.size, 1, none⟩ = some (.int .u64 s.x1) ∧ w'.cell? ⟨w.heap.size, 2, none⟩ = some (.int .u64 s.x2) ∧ w'.cell? ⟨w.heap.size, 3, none⟩ = some (.int .u64 s.x3) := fun w' q => by
        have hq' := hq.trans q
        have hcc := (HP.out.2.2.1.keep hq' (fun _ _ h => h)).cells hsk
        obtain ⟨⟨d0, d1, d2, d3⟩, -⟩ := cells4 (ha.keep q (fun h => h))
        exact ⟨q, (HP.out.2.1.keep hq' (fun h => h)).cell (pcells_0 _ _), hcc 0 (by omega), hcc 1 (by omega), hcc 2 (by omega), hcc 3 (by omega), d0, d1, d2, d3⟩
      have HS := Lib.hid hS
      have H := Lib.hid (And.intro hk (And.intro hu (And.intro hb (And.intro ha (And.intro hq (And.intro hro hin))))))
      clear hS hk hu hb ha hq hro hin hsk
      have E1 := fun w => eq_z (r.and s.not) w
      generalize hbb : eqB (r.and s.not) ST.none = bb at *
      have HB := Lib.hid hbb
      clear hbb
      go_wp2_with fail
      go_region_held3 (fun w' => Keep (fun _ => False) wr w' ∧ w'.cell? ⟨b, 0, none⟩ = some (.slice (some ⟨bl, off, none⟩) N.length cap) ∧ w'.cell? ⟨bl, off + k * 4, none⟩ = some (.int .u64 r.x0) ∧ w'.cell? ⟨bl, off + k * 4 + 1, none⟩ = some (.int .u64 r.x1) ∧ w'.cell? ⟨bl, off + k * 4 + 2, none⟩ = some (.int .u64 r.x2) ∧ w'.cell? ⟨bl, off + k * 4 + 3, none⟩ = some (.int .u64 r.x3)
          ∧ w'.cell? ⟨w.heap.size, 0, none⟩ = some (.int .u64 s.x0) ∧ w'.cell? ⟨w.heap.size, 1, none⟩ = some (.int .u64 s.x1) ∧ w'.cell? ⟨w.heap.size, 2, none⟩ = some (.int .u64 s.x2) ∧ w'.cell? ⟨w.heap.size, 3, none⟩ = some (.int .u64 s.x3)) (first | exact HS.out _ ((Keep.refl _ _).drew) | exact HS.out _ (Keep.trans (And.left (by assumption)) q)) (first
        | (go_at_call 31; refine (without_any r s H.out.2.2.2.2.2.1 HP.out.2.2.2.2 _).mono ?_; rintro e w2 ⟨rfl, q⟩))
      all_goals
        rename_i hh
        have Q := Lib.hid hh.1
        clear hh q
        cases bb
        · have hno : inn L s k = false := H.out.2.2.2.2.2.2
          have HI := Lib.hid hno
          clear hno
          go_wp2_with fail
          go_roundg (N.length - (k + 1))
          case measure => have := H.out.1; omega
          case rel =>
            obtain ⟨hk, hu, hb, ha, hq, -, -⟩ := H.out
            exact ⟨k + 1, by go_num, by omega, by rw [clk_no HI.out]; exact hu.keep Q.out (fun _ _ h => h), hb, ha.keep Q.out (fun h => h), hq.trans Q.out⟩
        · have hyes : inn L s k = true := H.out.2.2.2.2.2.2
          obtain ⟨hk, hu, hb, ha, hq, -, -⟩ := H.out
          have hu2 := hu.keep Q.out (fun _ _ h => h)
          have ha2 := ha.keep Q.out (fun h => h)
          have hq2 := hq.trans Q.out
          obtain ⟨v', w4, hrun, hv4, q4, hb4⟩ := hu2.push (k : Int) (by have := clk_length L s k; omega) 42
          rw [← clk_yes hyes] at hv4
          have hsz := ha2.lt
          have ha4 := ha2.keep q4 (fun h => by have := hb _ h; omega)
          have hq4 := hq2.next q4 (fun i hi hl => by have := hb i hi; omega)
          have hb5 : ∀ g, v'.ownBlock = some g → w.heap.size < g := fun g hg => by
            rcases hb4 g hg with h | h
            · exact hb g h
            · omega
          have HF := Lib.hid (And.intro hk (And.intro hv4 (And.intro hb5 (And.intro ha4 hq4))))
          clear hk hu hb ha hq hu2 ha2 hq2 hv4 q4 hb4 hsz ha4 hq4 hb5 hyes
          go_wp2_with (at_builtin; refine Lib.wpList_append_run _ rfl _ _ _ _ rfl _ _ rfl rfl _ _ hrun ?_)
          clear hrun
          go_wp2_with fail
          go_roundg (N.length - (k + 1))
          case measure => have := HF.out.1; omega
          case rel => exact ⟨k + 1, by go_num, by have := HF.out.1; omega, HF.out.2.1, HF.out.2.2.1, HF.out.2.2.2.1, HF.out.2.2.2.2⟩
    · have hkN : k = N.length := by omega
      subst hkN
      have H := Lib.hid (And.intro hu hq)
      clear hu hq hk hb ha
      go_wp2
      go_ret
      have hf := H.out.1
      rw [hN] at hf
      exact ⟨_, rfl, hf, H.out.2⟩

set_option maxRecDepth 100000 in
theorem classes_nil {w : World} {s : ST} : Calls Tryd.prog 18 #[.pointer .none, val s] w fun e w' => ∃ u, e = .returned u ∧ IL w' u [] ∧ Keep (fun _ => False) w w' := by
  go_enter Tryd.func18, Tryd.ntmps18
  go_wp2_with fail
  have q1 := (Keep.refl (fun _ => False) w).alloc (.cells (cells s) 35)
  refine (len_nil _).mono ?_
  rintro e w1 ⟨rfl, q2⟩
  have Q := Lib.hid (q1.trans q2)
  clear q1 q2
  go_wp2_with fail
  go_loopg [5, 9] 0 (fun gg u i wr => gg = 0 ∧ i = .int .i64 0 ∧ u = .slice none 0 0 ∧ Keep (fun _ => False) w wr)
  case atStart => exact ⟨rfl, rfl, rfl, Q.out⟩
  case round =>
    obtain ⟨rfl, rfl, rfl, hq⟩ := hrel
    have H := Lib.hid hq
    clear hq
    go_wp2
    go_ret
    exact ⟨_, rfl, IL.nil _, H.out⟩

theorem holds : Holds PT where
  form := fun h => by
    obtain ⟨b, a, N, cap, rfl, -⟩ := h
    exact ⟨_, rfl⟩
  keep := fun h q => h.keep q
  cut := fun cap hT hl hok hL => cut_any cap hT hl hok hL
  len := fun _ h => len_any h
  class' := fun _ h hb => class_any h hb
  of := fun _ h h1 h2 => of_any' h h1 h2
  sample := fun hT h hb hf => sample_any hT h hb hf
  none := fun hT h h1 h2 ho => sample_none hT (by
    have := of_any' h h1 h2
    rw [Part.ofC_none ho] at this
    exact this)
  remap := fun _ h => remap_any' h
  classes := fun _ h hs => classes_any h hs
  len0 := fun {w} _ => len_nil w
  class0 := fun {w b} _ _ => class_nil w b
  of0 := fun _ h1 h2 => of_nil h1 h2
  sample0 := fun hT h1 h2 => sample_none hT (of_nil h1 h2)
  remap0 := fun {w} _ => remap_nil w
  classes0 := fun _ _ => classes_nil
end Go.Proofs.YtidfjeliofgpmaaDoor.Cut
