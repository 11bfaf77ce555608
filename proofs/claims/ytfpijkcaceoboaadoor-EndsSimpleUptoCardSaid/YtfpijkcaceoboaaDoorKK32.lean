/- The document's often (layer 11): as often as may be. -/
import Derived.Test.YtfpijkcaceoboaaDoorKK28
import Derived.Deep.CutRange
namespace Go.Proofs.YtfpijkcaceoboaaDoor.P11
open Go.RowKit Go.Proofs.YtfpijkcaceoboaaDoor.Base Go.Proofs.YtfpijkcaceoboaaDoor.Bytes Go.Proofs.YtfpijkcaceoboaaDoor.P07 Go.Proofs.YtfpijkcaceoboaaDoor.P08 Go.Proofs.YtfpijkcaceoboaaDoor.P09 Go.Proofs.YtfpijkcaceoboaaDoor.P10
open Go.Proofs.YtfpijkcaceoboaaDoor.Sets (ST)

set_option maxRecDepth 100000 in
set_option maxHeartbeats 8000000 in
theorem foften_any (t u : T) (d : Nat) (hR : RT d t) (hk5 : t.kind = 5) (hs0 : t.subs[0]? = some u) (hu : FIsOk u) : ∀ (N done : Nat) (s : List UInt8), (t.mn - done).toNat + s.length < N → done + N ≤ 100000 → s.length ≤ 100 → (t.mx < 0 ∨ (done : Int) ≤ t.mx) → ∀ (a : Option Addr) (c : Nat) (w : World), t.subs.length ≤ c → Lie w (fun _ => True) a t.subs →
    Calls Tryd.prog 34 #[nodeV t a c, .string ⟨s.toArray⟩, .int .i64 (done : Int)] w (IsSays (Oft (Mat u) t.mn t.mx s done) w)
  | 0, _, _, h, _, _, _, _, _, _, _, _ => absurd h (Nat.not_lt_zero _)
  | N + 1, done, s, hN, hd, hsl, hmx, a, c, w, hc, hL => by
    have hsz := P07.size_str s
    have ih := foften_any t u d hR hk5 hs0 hu N (done + 1)
    obtain ⟨u', hsub, m0, m1, hxx, -⟩ := kind5_one hR hk5
    have hl1 : t.subs.length = 1 := by rw [hsub]; rfl
    have hB := Bx.new (c := c) hL
    have q0 := (Keep.refl (fun _ => False) w).alloc (.cells (ncells t a c) 27)
    obtain ⟨n0, hn0⟩ : ∃ n0, w.heap.size = n0 := ⟨_, rfl⟩
    rw [hn0] at hB
    have H0 := Lib.hid (And.intro ih (And.intro (hu d (sub_RT hR hs0)) (And.intro hs0 (And.intro hmx (And.intro hc (And.intro hN (And.intro hB q0)))))))
    have hmb : 0 ≤ t.mn ∧ t.mn ≤ 20 ∧ -1 ≤ t.mx ∧ t.mx ≤ 20 := by omega
    clear ih hu hs0 hmx hc hN hB hL hsub hxx q0 m0 m1 hR hk5
    go_enter Tryd.func34, Tryd.ntmps34
    go_upto_region 1 with fail
    generalize (w.alloc (.cells (ncells t a c) 27)) = W at *
    try rw [hn0]
    obtain ⟨c0, c1, c2, c3, c4, c5, c6, c7⟩ := H0.out.2.2.2.2.2.2.1.eight
    by_cases hend : t.mn ≤ done ∧ s = []
    · obtain ⟨h1, h2⟩ := hend
      have he : s.isEmpty = true := by rw [h2]; rfl
      have HE := Lib.hid h2
      clear h2
      go_wp2_with fail
      go_ret
      refine ⟨?_, H0.out.2.2.2.2.2.2.2⟩
      rw [HE.out, pb_yes (oft_done h1 H0.out.2.2.2.1)]
      rfl
    have hc1 : (t.mn ≤ done ∧ s.isEmpty = false) ∨ (done : Int) < t.mn := by
      by_cases h : t.mn ≤ done
      · refine .inl ⟨h, ?_⟩
        cases s with
        | nil => exact absurd ⟨h, rfl⟩ hend
        | cons b s => rfl
      · exact .inr (by omega)
    have HE := Lib.hid hend
    clear hend
    go_cut [15] from 8 to 15 (fun x wx => x = .bool false ∧ wx = W)
    case first =>
      rcases hc1 with ⟨h1, h2⟩ | h1
      all_goals
        go_wp2_with fail
        go_meet
        case rel => exact ⟨rfl, rfl⟩
    case rest =>
    obtain ⟨rfl, hwc⟩ := hcut
    have hwc' := hwc.symm
    subst hwc'
    clear hc1 hwc
    by_cases hful : 0 ≤ t.mx ∧ t.mx ≤ done
    · obtain ⟨h1, h2⟩ := hful
      go_wp2_with fail
      go_ret
      refine ⟨?_, H0.out.2.2.2.2.2.2.2⟩
      rw [pb_no (oft_full h1 h2 HE.out)]
      rfl
    have hc2 : t.mx < 0 ∨ (0 ≤ t.mx ∧ (done : Int) < t.mx) := by omega
    have HF := Lib.hid (And.intro hful hc2)
    go_upto_region 3 with fail
    go_cut [24] from 16 to 24 (fun x wx => x = .bool false ∧ wx = W)
    case first =>
      have h3 := hc2
      rcases hc2 with h1 | ⟨h1, h2⟩
      all_goals
        go_wp2_with fail
        go_meet
        case rel => exact ⟨by first | rfl | (congr 1; exact decide_eq_false (by omega)), rfl⟩
    case rest =>
    obtain ⟨rfl, hwc⟩ := hcut
    have hwc' := hwc.symm
    subst hwc'
    clear hc2 hwc hful
    have hpr := oft_more (P := Mat u) (mx := t.mx) HE.out
    have HP := Lib.hid hpr
    clear hpr
    go_wp2_with fail
    go_loopg [7] (s.length + 1) (fun gg i wr => ∃ k : Nat, i = .int .i64 k ∧ k + gg = s.length + 1 ∧ (∀ j, j < k → ¬ (¬ (j = 0 ∧ t.mn ≤ done) ∧ Mat u (s.take j) ∧ Oft (Mat u) t.mn t.mx (s.drop j) (done + 1))) ∧ Keep (fun _ => False) W wr)
    case atStart => exact ⟨0, rfl, by omega, fun j hj => absurd hj (Nat.not_lt_zero _), Keep.refl _ _⟩
    case round =>
      obtain ⟨k, rfl, hk, hno, hq⟩ := hrel
      by_cases hlt : k ≤ s.length
      · have hlt' : (k : Int) ≤ s.length := by omega
        have i0 : (0 : Int) ≤ k := by omega
        obtain ⟨c0, c1, c2, c3, c4, c5, c6, c7⟩ := (H0.out.2.2.2.2.2.2.1.keep hq).eight
        by_cases hz : k = 0 ∧ t.mn ≤ done
        · obtain ⟨rfl, hm⟩ := hz
          have HQ := Lib.hid hq
          clear hq hno
          go_wp2_with fail
          go_roundg (s.length + 1 - 1)
          case measure => omega
          case rel => exact ⟨1, by go_num, by omega, fun j hj h => h.1 ⟨by omega, hm⟩, HQ.out⟩
        have hc3 : ((k : Int) == 0) = false ∨ (((k : Int) == 0) = true ∧ (done : Int) < t.mn) := by
          by_cases h : k = 0
          · exact .inr ⟨by simp [h], by omega⟩
          · exact .inl (by simp [h])
        have HZ := Lib.hid (And.intro hz (And.intro hno hq))
        have hN := H0.out.2.2.2.2.2.1
        have hmx := HF.out.2
        have r1 : ∀ W, _ := fun W => slice_to s k hlt W
        have r2 : ∀ W, _ := fun W => slice_from s k hlt W
        unfold P07.str at r1 r2
        have B2 := H0.out.2.2.2.2.2.2.1.keep hq
        obtain ⟨bl, off, a1, e1, rfl, L1, d0, d1, d2, d3, d4, d5, d6, d7⟩ := B2.first H0.out.2.2.1
        obtain ⟨bl', off', a1', e1', ea, -, -, hle, -⟩ := B2.lie.get H0.out.2.2.1
        have hle1 : u.subs.length ≤ e1 := by
          obtain ⟨bl2, off2, a2, e2, ea2, -, -, hle2, -, C2⟩ := B2.lie.get H0.out.2.2.1
          have h7 := C2 7 (.slice a2 u.subs.length e2) rfl
          cases ea2
          rw [Nat.zero_mul, Nat.add_zero] at h7
          rw [d7] at h7
          cases h7
          exact hle2
        clear ea hle
        have hcall := fun W1 (q : Keep (fun _ => False) wr W1) => H0.out.2.1 (s.take k) (by rw [List.length_take]; omega) a1 e1 W1 hle1 (L1.keepF q)
        have hcall2 := fun W1 (q : Keep (fun _ => False) wr W1) => H0.out.1 (s.drop k) (by rw [List.length_drop]; omega) (by omega) (by rw [List.length_drop]; omega) (by omega) (some ⟨bl, off, none⟩) c W1 H0.out.2.2.2.2.1 (B2.lie.keepF q)
        rw [show ((done + 1 : Nat) : Int) = (done : Int) + 1 from by omega] at hcall2
        have hw : IntKind.i64.wrap ((done : Int) + 1) = (done : Int) + 1 := by rw [IntKind.wrap_i64]; omega
        rw [show nodeV t (some ⟨bl, off, none⟩) c = .agg #[.int .i64 t.kind, .int .u64 t.set.x0, .int .u64 t.set.x1, .int .u64 t.set.x2, .int .u64 t.set.x3, .int .i64 t.mn, .int .i64 t.mx, .slice (some ⟨bl, off, none⟩) 1 c] from by rw [← hl1]] at hcall2
        unfold IsSays at hcall hcall2
        rw [hl1] at c7
        have HS := Lib.hid (show ∀ W1, Keep (fun _ => False) wr W1 → (Keep (fun _ => False) wr W1 ∧ W1.cell? ⟨n0, 0, none⟩ = some (.int .i64 t.kind) ∧ W1.cell? ⟨n0, 1, none⟩ = some (.int .u64 t.set.x0) ∧ W1.cell? ⟨n0, 2, none⟩ = some (.int .u64 t.set.x1) ∧ W1.cell? ⟨n0, 3, none⟩ = some (.int .u64 t.set.x2) ∧ W1.cell? ⟨n0, 4, none⟩ = some (.int .u64 t.set.x3) ∧ W1.cell? ⟨n0, 5, none⟩ = some (.int .i64 t.mn) ∧ W1.cell? ⟨n0, 6, none⟩ = some (.int .i64 t.mx) ∧ W1.cell? ⟨n0, 7, none⟩ = some (.slice (some ⟨bl, off, none⟩) 1 c) ∧ W1.cell? ⟨bl, off, none⟩ = some (.int .i64 u.kind) ∧ W1.cell? ⟨bl, off + 1, none⟩ = some (.int .u64 u.set.x0) ∧ W1.cell? ⟨bl, off + 2, none⟩ = some (.int .u64 u.set.x1) ∧ W1.cell? ⟨bl, off + 3, none⟩ = some (.int .u64 u.set.x2) ∧ W1.cell? ⟨bl, off + 4, none⟩ = some (.int .u64 u.set.x3) ∧ W1.cell? ⟨bl, off + 5, none⟩ = some (.int .i64 u.mn) ∧ W1.cell? ⟨bl, off + 6, none⟩ = some (.int .i64 u.mx) ∧ W1.cell? ⟨bl, off + 7, none⟩ = some (.slice a1 u.subs.length e1)) from fun W1 q => by
          obtain ⟨z0, z1, z2, z3, z4, z5, z6, z7⟩ := (B2.keep q).eight
          rw [hl1] at z7
          have hg := fun j v (h : wr.cell? ⟨bl, j, none⟩ = some v) => (q.cell (a := ⟨bl, j, none⟩) (World.block_lt_of_cell? wr _ h) (fun h => h)).trans h
          exact ⟨q, z0, z1, z2, z3, z4, z5, z6, z7, hg _ _ d0, hg _ _ d1, hg _ _ d2, hg _ _ d3, hg _ _ d4, hg _ _ d5, hg _ _ d6, hg _ _ d7⟩)
        obtain ⟨B, hB⟩ : ∃ B, pb (Mat u (s.take k)) = B := ⟨_, rfl⟩
        obtain ⟨C, hC⟩ : ∃ C, pb (Oft (Mat u) t.mn t.mx (s.drop k) (done + 1)) = C := ⟨_, rfl⟩
        rw [hB] at hcall
        rw [hC] at hcall2
        have HC := Lib.hid (And.intro hcall (And.intro hcall2 (And.intro hB hC)))
        clear hcall hcall2 hB hC hz hno hq hN hmx B2 L1 hle1
        go_upto_region 8 with fail
        go_cut [38] from 31 to 38 (fun x wx => x = .bool false ∧ wx = wr)
        case first =>
          rcases hc3 with h1 | ⟨h1, h2⟩
          all_goals
            go_wp2_with fail
            go_meet
            case rel => exact ⟨by first | rfl | (congr 1; exact decide_eq_false (by omega)), rfl⟩
        case rest =>
        obtain ⟨rfl, hwc⟩ := hcut
        have hwc' := hwc.symm
        subst hwc'
        clear hc3 hwc
        go_wp2_with fail
        cases B with
        | false =>
          refine wp_region_noPanic ?_
          refine wp_region_held_drew (S := (fun W1 => (Keep (fun _ => False) wr W1 ∧ W1.cell? ⟨n0, 0, none⟩ = some (.int .i64 t.kind) ∧ W1.cell? ⟨n0, 1, none⟩ = some (.int .u64 t.set.x0) ∧ W1.cell? ⟨n0, 2, none⟩ = some (.int .u64 t.set.x1) ∧ W1.cell? ⟨n0, 3, none⟩ = some (.int .u64 t.set.x2) ∧ W1.cell? ⟨n0, 4, none⟩ = some (.int .u64 t.set.x3) ∧ W1.cell? ⟨n0, 5, none⟩ = some (.int .i64 t.mn) ∧ W1.cell? ⟨n0, 6, none⟩ = some (.int .i64 t.mx) ∧ W1.cell? ⟨n0, 7, none⟩ = some (.slice (some ⟨bl, off, none⟩) 1 c) ∧ W1.cell? ⟨bl, off, none⟩ = some (.int .i64 u.kind) ∧ W1.cell? ⟨bl, off + 1, none⟩ = some (.int .u64 u.set.x0) ∧ W1.cell? ⟨bl, off + 2, none⟩ = some (.int .u64 u.set.x1) ∧ W1.cell? ⟨bl, off + 3, none⟩ = some (.int .u64 u.set.x2) ∧ W1.cell? ⟨bl, off + 4, none⟩ = some (.int .u64 u.set.x3) ∧ W1.cell? ⟨bl, off + 5, none⟩ = some (.int .i64 u.mn) ∧ W1.cell? ⟨bl, off + 6, none⟩ = some (.int .i64 u.mx) ∧ W1.cell? ⟨bl, off + 7, none⟩ = some (.slice a1 u.subs.length e1)))) (by kernel_rfl) ?_ (fun hHeld => ?_)
          · exact HS.out _ ((Keep.refl _ _).drew)
          refine wpAnyH_take (i := 0) (oi := { dst := some 39, op := Go.Op.fieldAddr 27 (Go.Operand.tmp 3) 4, type := 0, pos := "ref.go:118", after := #[], guard := none }) (v := ?_) rfl (by kernel_rfl) (by kernel_rfl) (by kernel_rfl) (fun _ _ _ h => h) (Or.inl ⟨by rfl, ?_⟩) (by assumption) ?_
          rotate_left 1
          · (intro w hSw; (try dsimp only at hSw); go_simp; first | done | with_reducible rfl)
          try simp only [Act.put, List.setIfInBounds_toArray, List.set_cons_zero, List.set_cons_succ]
          refine wpAnyH_take (i := 1) (oi := { dst := some 40, op := Go.Op.load 25 (Go.Operand.tmp 39), type := 25, pos := "ref.go:118", after := #[{ on := 0, ground := Go.Ground.data }], guard := none }) (v := ?_) rfl (by kernel_rfl) (by kernel_rfl) (by kernel_rfl) (fun _ _ _ h => h) (Or.inl ⟨by rfl, ?_⟩) (by assumption) ?_
          rotate_left 1
          · (intro w hSw; (try dsimp only at hSw); go_simp; first | done | with_reducible rfl)
          try simp only [Act.put, List.setIfInBounds_toArray, List.set_cons_zero, List.set_cons_succ]
          refine wpAnyH_take (i := 2) (oi := { dst := some 41, op := Go.Op.indexAddr 25 (Go.Operand.tmp 40) (Go.Operand.const (Go.Value.int Go.IntKind.i64 0)), type := 0, pos := "ref.go:118", after := #[{ on := 1, ground := Go.Ground.data }], guard := none }) (v := ?_) rfl (by kernel_rfl) (by kernel_rfl) (by kernel_rfl) (fun _ _ _ h => h) (Or.inl ⟨by rfl, ?_⟩) (by assumption) ?_
          rotate_left 1
          · (intro w hSw; (try dsimp only at hSw); go_simp; first | done | with_reducible rfl)
          try simp only [Act.put, List.setIfInBounds_toArray, List.set_cons_zero, List.set_cons_succ]
          refine wpAnyH_take (i := 3) (oi := { dst := some 42, op := Go.Op.load 27 (Go.Operand.tmp 41), type := 27, pos := "ref.go:118", after := #[{ on := 2, ground := Go.Ground.data }], guard := none }) (v := ?_) rfl (by kernel_rfl) (by kernel_rfl) (by kernel_rfl) (fun _ _ _ h => h) (Or.inl ⟨by rfl, ?_⟩) (by assumption) ?_
          rotate_left 1
          · (intro w hSw; (try dsimp only at hSw); go_simp; first | done | with_reducible rfl)
          try simp only [Act.put, List.setIfInBounds_toArray, List.set_cons_zero, List.set_cons_succ]
          refine wpAnyH_take (i := 4) (oi := { dst := some 43, op := Go.Op.move (Go.Operand.tmp 1), type := 9, pos := "ref.go:118", after := #[], guard := none }) (v := ?_) rfl (by kernel_rfl) (by kernel_rfl) (by kernel_rfl) (fun _ _ _ h => h) (Or.inl ⟨by rfl, ?_⟩) (by assumption) ?_
          rotate_left 1
          · (intro w hSw; (try dsimp only at hSw); go_simp; first | done | with_reducible rfl)
          try simp only [Act.put, List.setIfInBounds_toArray, List.set_cons_zero, List.set_cons_succ]
          refine wpAnyH_take (i := 5) (oi := { dst := some 44, op := Go.Op.move (Go.Operand.tmp 7), type := 3, pos := "ref.go:118", after := #[], guard := none }) (v := ?_) rfl (by kernel_rfl) (by kernel_rfl) (by kernel_rfl) (fun _ _ _ h => h) (Or.inl ⟨by rfl, ?_⟩) (by assumption) ?_
          rotate_left 1
          · (intro w hSw; (try dsimp only at hSw); go_simp; first | done | with_reducible rfl)
          try simp only [Act.put, List.setIfInBounds_toArray, List.set_cons_zero, List.set_cons_succ]
          refine wpAnyH_take (i := 6) (oi := { dst := some 45, op := Go.Op.slice 9 (Go.Operand.tmp 43) none (some (Go.Operand.tmp 44)) none, type := 9, pos := "ref.go:118", after := #[{ on := 4, ground := Go.Ground.data }, { on := 5, ground := Go.Ground.data }], guard := none }) (v := ?_) rfl (by kernel_rfl) (by kernel_rfl) (by kernel_rfl) (fun _ _ _ h => h) (Or.inl ⟨by rfl, ?_⟩) (by assumption) ?_
          rotate_left 1
          · (intro w hSw; (try dsimp only at hSw); go_simp; first | done | with_reducible rfl)
          try simp only [Act.put, List.setIfInBounds_toArray, List.set_cons_zero, List.set_cons_succ]
          refine wpAnyH_ready (rs := [7]) (by kernel_rfl) (by simp) ?_
          refine AllReadyH.cons (o := { dst := some 46, op := Go.Op.call { callee := Go.Callee.value (Go.Operand.func 20), args := #[Go.Operand.tmp 42, Go.Operand.tmp 45], argTypes := #[27, 9] }, type := 4, pos := "ref.go:118", after := #[{ on := 3, ground := Go.Ground.data }, { on := 6, ground := Go.Ground.data }], guard := none }) rfl (fun K hK => ?_) AllReadyH.nil
          go_simp
          (go_at_call 20; refine (HC.out.1 _ (And.left hHeld)).mono ?_; rintro e w2 ⟨rfl, q⟩)
          refine hK.out _ _ ?_ (fun hHeld' => ?_)
          · exact HS.out _ (Keep.trans (And.left hHeld) q)
          clear hK K hHeld
          have hHeld := hHeld'
          clear hHeld'
          try simp only [Act.put, List.setIfInBounds_toArray, List.set_cons_zero, List.set_cons_succ]
          refine wpAnyH_take (i := 8) (oi := { dst := some 47, op := Go.Op.move (Go.Operand.tmp 46), type := 4, pos := "ref.go:118", after := #[{ on := 7, ground := Go.Ground.data }, { on := 7, ground := Go.Ground.chain }], guard := none }) (v := ?_) rfl (by kernel_rfl) (by kernel_rfl) (by kernel_rfl) (fun _ _ _ h => h) (Or.inl ⟨by rfl, ?_⟩) (by assumption) ?_
          rotate_left 1
          · (intro w hSw; (try dsimp only at hSw); go_simp; first | done | with_reducible rfl)
          try simp only [Act.put, List.setIfInBounds_toArray, List.set_cons_zero, List.set_cons_succ]
          refine wpAnyH_take (i := 9) (oi := { dst := some 48, op := Go.Op.load 27 (Go.Operand.tmp 3), type := 27, pos := "ref.go:118", after := #[{ on := 8, ground := Go.Ground.guard }], guard := some (8, true) }) (v := undef) rfl (by kernel_rfl) (by kernel_rfl) (by kernel_rfl) (fun _ _ _ h => h) (Or.inr ⟨by rfl, rfl⟩) (by assumption) ?_
          try simp only [Act.put, List.setIfInBounds_toArray, List.set_cons_zero, List.set_cons_succ]
          refine wpAnyH_take (i := 10) (oi := { dst := some 49, op := Go.Op.move (Go.Operand.tmp 1), type := 9, pos := "ref.go:118", after := #[{ on := 8, ground := Go.Ground.guard }], guard := some (8, true) }) (v := undef) rfl (by kernel_rfl) (by kernel_rfl) (by kernel_rfl) (fun _ _ _ h => h) (Or.inr ⟨by rfl, rfl⟩) (by assumption) ?_
          try simp only [Act.put, List.setIfInBounds_toArray, List.set_cons_zero, List.set_cons_succ]
          refine wpAnyH_take (i := 11) (oi := { dst := some 50, op := Go.Op.move (Go.Operand.tmp 7), type := 3, pos := "ref.go:118", after := #[{ on := 8, ground := Go.Ground.guard }], guard := some (8, true) }) (v := undef) rfl (by kernel_rfl) (by kernel_rfl) (by kernel_rfl) (fun _ _ _ h => h) (Or.inr ⟨by rfl, rfl⟩) (by assumption) ?_
          try simp only [Act.put, List.setIfInBounds_toArray, List.set_cons_zero, List.set_cons_succ]
          refine wpAnyH_take (i := 12) (oi := { dst := some 51, op := Go.Op.slice 9 (Go.Operand.tmp 49) (some (Go.Operand.tmp 50)) none none, type := 9, pos := "ref.go:118", after := #[{ on := 10, ground := Go.Ground.data }, { on := 11, ground := Go.Ground.data }, { on := 8, ground := Go.Ground.guard }], guard := some (8, true) }) (v := undef) rfl (by kernel_rfl) (by kernel_rfl) (by kernel_rfl) (fun _ _ _ h => h) (Or.inr ⟨by rfl, rfl⟩) (by assumption) ?_
          try simp only [Act.put, List.setIfInBounds_toArray, List.set_cons_zero, List.set_cons_succ]
          refine wpAnyH_take (i := 13) (oi := { dst := some 52, op := Go.Op.move (Go.Operand.tmp 2), type := 3, pos := "ref.go:118", after := #[{ on := 8, ground := Go.Ground.guard }], guard := some (8, true) }) (v := undef) rfl (by kernel_rfl) (by kernel_rfl) (by kernel_rfl) (fun _ _ _ h => h) (Or.inr ⟨by rfl, rfl⟩) (by assumption) ?_
          try simp only [Act.put, List.setIfInBounds_toArray, List.set_cons_zero, List.set_cons_succ]
          refine wpAnyH_take (i := 14) (oi := { dst := some 53, op := Go.Op.binOp Go.BinOp.add 3 (Go.Operand.tmp 52) (Go.Operand.const (Go.Value.int Go.IntKind.i64 1)) 3, type := 3, pos := "ref.go:118", after := #[{ on := 13, ground := Go.Ground.data }, { on := 8, ground := Go.Ground.guard }], guard := some (8, true) }) (v := undef) rfl (by kernel_rfl) (by kernel_rfl) (by kernel_rfl) (fun _ _ _ h => h) (Or.inr ⟨by rfl, rfl⟩) (by assumption) ?_
          try simp only [Act.put, List.setIfInBounds_toArray, List.set_cons_zero, List.set_cons_succ]
          refine wpAnyH_take (i := 15) (oi := { dst := some 54, op := Go.Op.call { callee := Go.Callee.value (Go.Operand.func 34), args := #[Go.Operand.tmp 48, Go.Operand.tmp 51, Go.Operand.tmp 53], argTypes := #[27, 9, 3] }, type := 4, pos := "ref.go:118", after := #[{ on := 9, ground := Go.Ground.data }, { on := 12, ground := Go.Ground.data }, { on := 14, ground := Go.Ground.data }, { on := 8, ground := Go.Ground.chain }, { on := 8, ground := Go.Ground.guard }], guard := some (8, true) }) (v := undef) rfl (by kernel_rfl) (by kernel_rfl) (by kernel_rfl) (fun _ _ _ h => h) (Or.inr ⟨by rfl, rfl⟩) (by assumption) ?_
          try simp only [Act.put, List.setIfInBounds_toArray, List.set_cons_zero, List.set_cons_succ]
          refine wpAnyH_take (i := 16) (oi := { dst := some 55, op := Go.Op.pick (Go.Operand.tmp 47) (Go.Operand.tmp 54) (Go.Operand.const (Go.Value.bool false)), type := 4, pos := "ref.go:118", after := #[{ on := 8, ground := Go.Ground.data }, { on := 15, ground := Go.Ground.data }], guard := none }) (v := ?_) rfl (by kernel_rfl) (by kernel_rfl) (by kernel_rfl) (fun _ _ _ h => h) (Or.inl ⟨by rfl, ?_⟩) (by assumption) ?_
          rotate_left 1
          · (intro w hSw; (try dsimp only at hSw); go_simp; first | done | with_reducible rfl)
          try simp only [Act.put, List.setIfInBounds_toArray, List.set_cons_zero, List.set_cons_succ]
          refine wpAnyH_done (by kernel_rfl) ?_ _
          refine NoPanic.normal ?_
          have Q1 := Lib.hid (HZ.out.2.2.trans (And.left hHeld))
          clear hHeld c0 c1 c2 c3 c4 c5 c6 c7 d0 d1 d2 d3 d4 d5 d6 d7
          go_wp2_with fail
          go_roundg (s.length + 1 - (k + 1))
          case measure => omega
          case rel => exact ⟨k + 1, by go_num, by omega, fun j hj => by
            by_cases e : j = k
            · subst e
              intro h
              have := HC.out.2.2.1
              rw [pb_iff.2 h.2.1] at this
              cases this
            · exact HZ.out.2.1 j (by omega), Q1.out⟩
        | true =>
          cases C with
          | false =>
            refine wp_region_noPanic ?_
            refine wp_region_held_drew (S := (fun W1 => (Keep (fun _ => False) wr W1 ∧ W1.cell? ⟨n0, 0, none⟩ = some (.int .i64 t.kind) ∧ W1.cell? ⟨n0, 1, none⟩ = some (.int .u64 t.set.x0) ∧ W1.cell? ⟨n0, 2, none⟩ = some (.int .u64 t.set.x1) ∧ W1.cell? ⟨n0, 3, none⟩ = some (.int .u64 t.set.x2) ∧ W1.cell? ⟨n0, 4, none⟩ = some (.int .u64 t.set.x3) ∧ W1.cell? ⟨n0, 5, none⟩ = some (.int .i64 t.mn) ∧ W1.cell? ⟨n0, 6, none⟩ = some (.int .i64 t.mx) ∧ W1.cell? ⟨n0, 7, none⟩ = some (.slice (some ⟨bl, off, none⟩) 1 c) ∧ W1.cell? ⟨bl, off, none⟩ = some (.int .i64 u.kind) ∧ W1.cell? ⟨bl, off + 1, none⟩ = some (.int .u64 u.set.x0) ∧ W1.cell? ⟨bl, off + 2, none⟩ = some (.int .u64 u.set.x1) ∧ W1.cell? ⟨bl, off + 3, none⟩ = some (.int .u64 u.set.x2) ∧ W1.cell? ⟨bl, off + 4, none⟩ = some (.int .u64 u.set.x3) ∧ W1.cell? ⟨bl, off + 5, none⟩ = some (.int .i64 u.mn) ∧ W1.cell? ⟨bl, off + 6, none⟩ = some (.int .i64 u.mx) ∧ W1.cell? ⟨bl, off + 7, none⟩ = some (.slice a1 u.subs.length e1)))) (by kernel_rfl) ?_ (fun hHeld => ?_)
            · exact HS.out _ ((Keep.refl _ _).drew)
            refine wpAnyH_take (i := 0) (oi := { dst := some 39, op := Go.Op.fieldAddr 27 (Go.Operand.tmp 3) 4, type := 0, pos := "ref.go:118", after := #[], guard := none }) (v := ?_) rfl (by kernel_rfl) (by kernel_rfl) (by kernel_rfl) (fun _ _ _ h => h) (Or.inl ⟨by rfl, ?_⟩) (by assumption) ?_
            rotate_left 1
            · (intro w hSw; (try dsimp only at hSw); go_simp; first | done | with_reducible rfl)
            try simp only [Act.put, List.setIfInBounds_toArray, List.set_cons_zero, List.set_cons_succ]
            refine wpAnyH_take (i := 1) (oi := { dst := some 40, op := Go.Op.load 25 (Go.Operand.tmp 39), type := 25, pos := "ref.go:118", after := #[{ on := 0, ground := Go.Ground.data }], guard := none }) (v := ?_) rfl (by kernel_rfl) (by kernel_rfl) (by kernel_rfl) (fun _ _ _ h => h) (Or.inl ⟨by rfl, ?_⟩) (by assumption) ?_
            rotate_left 1
            · (intro w hSw; (try dsimp only at hSw); go_simp; first | done | with_reducible rfl)
            try simp only [Act.put, List.setIfInBounds_toArray, List.set_cons_zero, List.set_cons_succ]
            refine wpAnyH_take (i := 2) (oi := { dst := some 41, op := Go.Op.indexAddr 25 (Go.Operand.tmp 40) (Go.Operand.const (Go.Value.int Go.IntKind.i64 0)), type := 0, pos := "ref.go:118", after := #[{ on := 1, ground := Go.Ground.data }], guard := none }) (v := ?_) rfl (by kernel_rfl) (by kernel_rfl) (by kernel_rfl) (fun _ _ _ h => h) (Or.inl ⟨by rfl, ?_⟩) (by assumption) ?_
            rotate_left 1
            · (intro w hSw; (try dsimp only at hSw); go_simp; first | done | with_reducible rfl)
            try simp only [Act.put, List.setIfInBounds_toArray, List.set_cons_zero, List.set_cons_succ]
            refine wpAnyH_take (i := 3) (oi := { dst := some 42, op := Go.Op.load 27 (Go.Operand.tmp 41), type := 27, pos := "ref.go:118", after := #[{ on := 2, ground := Go.Ground.data }], guard := none }) (v := ?_) rfl (by kernel_rfl) (by kernel_rfl) (by kernel_rfl) (fun _ _ _ h => h) (Or.inl ⟨by rfl, ?_⟩) (by assumption) ?_
            rotate_left 1
            · (intro w hSw; (try dsimp only at hSw); go_simp; first | done | with_reducible rfl)
            try simp only [Act.put, List.setIfInBounds_toArray, List.set_cons_zero, List.set_cons_succ]
            refine wpAnyH_take (i := 4) (oi := { dst := some 43, op := Go.Op.move (Go.Operand.tmp 1), type := 9, pos := "ref.go:118", after := #[], guard := none }) (v := ?_) rfl (by kernel_rfl) (by kernel_rfl) (by kernel_rfl) (fun _ _ _ h => h) (Or.inl ⟨by rfl, ?_⟩) (by assumption) ?_
            rotate_left 1
            · (intro w hSw; (try dsimp only at hSw); go_simp; first | done | with_reducible rfl)
            try simp only [Act.put, List.setIfInBounds_toArray, List.set_cons_zero, List.set_cons_succ]
            refine wpAnyH_take (i := 5) (oi := { dst := some 44, op := Go.Op.move (Go.Operand.tmp 7), type := 3, pos := "ref.go:118", after := #[], guard := none }) (v := ?_) rfl (by kernel_rfl) (by kernel_rfl) (by kernel_rfl) (fun _ _ _ h => h) (Or.inl ⟨by rfl, ?_⟩) (by assumption) ?_
            rotate_left 1
            · (intro w hSw; (try dsimp only at hSw); go_simp; first | done | with_reducible rfl)
            try simp only [Act.put, List.setIfInBounds_toArray, List.set_cons_zero, List.set_cons_succ]
            refine wpAnyH_take (i := 6) (oi := { dst := some 45, op := Go.Op.slice 9 (Go.Operand.tmp 43) none (some (Go.Operand.tmp 44)) none, type := 9, pos := "ref.go:118", after := #[{ on := 4, ground := Go.Ground.data }, { on := 5, ground := Go.Ground.data }], guard := none }) (v := ?_) rfl (by kernel_rfl) (by kernel_rfl) (by kernel_rfl) (fun _ _ _ h => h) (Or.inl ⟨by rfl, ?_⟩) (by assumption) ?_
            rotate_left 1
            · (intro w hSw; (try dsimp only at hSw); go_simp; first | done | with_reducible rfl)
            try simp only [Act.put, List.setIfInBounds_toArray, List.set_cons_zero, List.set_cons_succ]
            refine wpAnyH_ready (rs := [7]) (by kernel_rfl) (by simp) ?_
            refine AllReadyH.cons (o := { dst := some 46, op := Go.Op.call { callee := Go.Callee.value (Go.Operand.func 20), args := #[Go.Operand.tmp 42, Go.Operand.tmp 45], argTypes := #[27, 9] }, type := 4, pos := "ref.go:118", after := #[{ on := 3, ground := Go.Ground.data }, { on := 6, ground := Go.Ground.data }], guard := none }) rfl (fun K hK => ?_) AllReadyH.nil
            go_simp
            (go_at_call 20; refine (HC.out.1 _ (And.left hHeld)).mono ?_; rintro e w2 ⟨rfl, q⟩)
            refine hK.out _ _ ?_ (fun hHeld' => ?_)
            · exact HS.out _ (Keep.trans (And.left hHeld) q)
            clear hK K hHeld
            have hHeld := hHeld'
            clear hHeld'
            try simp only [Act.put, List.setIfInBounds_toArray, List.set_cons_zero, List.set_cons_succ]
            refine wpAnyH_take (i := 8) (oi := { dst := some 47, op := Go.Op.move (Go.Operand.tmp 46), type := 4, pos := "ref.go:118", after := #[{ on := 7, ground := Go.Ground.data }, { on := 7, ground := Go.Ground.chain }], guard := none }) (v := ?_) rfl (by kernel_rfl) (by kernel_rfl) (by kernel_rfl) (fun _ _ _ h => h) (Or.inl ⟨by rfl, ?_⟩) (by assumption) ?_
            rotate_left 1
            · (intro w hSw; (try dsimp only at hSw); go_simp; first | done | with_reducible rfl)
            try simp only [Act.put, List.setIfInBounds_toArray, List.set_cons_zero, List.set_cons_succ]
            refine wpAnyH_take (i := 9) (oi := { dst := some 48, op := Go.Op.load 27 (Go.Operand.tmp 3), type := 27, pos := "ref.go:118", after := #[{ on := 8, ground := Go.Ground.guard }], guard := some (8, true) }) (v := ?_) rfl (by kernel_rfl) (by kernel_rfl) (by kernel_rfl) (fun _ _ _ h => h) (Or.inl ⟨by rfl, ?_⟩) (by assumption) ?_
            rotate_left 1
            · (intro w hSw; (try dsimp only at hSw); go_simp; first | done | with_reducible rfl)
            try simp only [Act.put, List.setIfInBounds_toArray, List.set_cons_zero, List.set_cons_succ]
            refine wpAnyH_take (i := 10) (oi := { dst := some 49, op := Go.Op.move (Go.Operand.tmp 1), type := 9, pos := "ref.go:118", after := #[{ on := 8, ground := Go.Ground.guard }], guard := some (8, true) }) (v := ?_) rfl (by kernel_rfl) (by kernel_rfl) (by kernel_rfl) (fun _ _ _ h => h) (Or.inl ⟨by rfl, ?_⟩) (by assumption) ?_
            rotate_left 1
            · (intro w hSw; (try dsimp only at hSw); go_simp; first | done | with_reducible rfl)
            try simp only [Act.put, List.setIfInBounds_toArray, List.set_cons_zero, List.set_cons_succ]
            refine wpAnyH_take (i := 11) (oi := { dst := some 50, op := Go.Op.move (Go.Operand.tmp 7), type := 3, pos := "ref.go:118", after := #[{ on := 8, ground := Go.Ground.guard }], guard := some (8, true) }) (v := ?_) rfl (by kernel_rfl) (by kernel_rfl) (by kernel_rfl) (fun _ _ _ h => h) (Or.inl ⟨by rfl, ?_⟩) (by assumption) ?_
            rotate_left 1
            · (intro w hSw; (try dsimp only at hSw); go_simp; first | done | with_reducible rfl)
            try simp only [Act.put, List.setIfInBounds_toArray, List.set_cons_zero, List.set_cons_succ]
            refine wpAnyH_take (i := 12) (oi := { dst := some 51, op := Go.Op.slice 9 (Go.Operand.tmp 49) (some (Go.Operand.tmp 50)) none none, type := 9, pos := "ref.go:118", after := #[{ on := 10, ground := Go.Ground.data }, { on := 11, ground := Go.Ground.data }, { on := 8, ground := Go.Ground.guard }], guard := some (8, true) }) (v := ?_) rfl (by kernel_rfl) (by kernel_rfl) (by kernel_rfl) (fun _ _ _ h => h) (Or.inl ⟨by rfl, ?_⟩) (by assumption) ?_
            rotate_left 1
            · (intro w hSw; (try dsimp only at hSw); go_simp; first | done | with_reducible rfl)
            try simp only [Act.put, List.setIfInBounds_toArray, List.set_cons_zero, List.set_cons_succ]
            refine wpAnyH_take (i := 13) (oi := { dst := some 52, op := Go.Op.move (Go.Operand.tmp 2), type := 3, pos := "ref.go:118", after := #[{ on := 8, ground := Go.Ground.guard }], guard := some (8, true) }) (v := ?_) rfl (by kernel_rfl) (by kernel_rfl) (by kernel_rfl) (fun _ _ _ h => h) (Or.inl ⟨by rfl, ?_⟩) (by assumption) ?_
            rotate_left 1
            · (intro w hSw; (try dsimp only at hSw); go_simp; first | done | with_reducible rfl)
            try simp only [Act.put, List.setIfInBounds_toArray, List.set_cons_zero, List.set_cons_succ]
            refine wpAnyH_take (i := 14) (oi := { dst := some 53, op := Go.Op.binOp Go.BinOp.add 3 (Go.Operand.tmp 52) (Go.Operand.const (Go.Value.int Go.IntKind.i64 1)) 3, type := 3, pos := "ref.go:118", after := #[{ on := 13, ground := Go.Ground.data }, { on := 8, ground := Go.Ground.guard }], guard := some (8, true) }) (v := ?_) rfl (by kernel_rfl) (by kernel_rfl) (by kernel_rfl) (fun _ _ _ h => h) (Or.inl ⟨by rfl, ?_⟩) (by assumption) ?_
            rotate_left 1
            · (intro w hSw; (try dsimp only at hSw); go_simp; first | done | with_reducible rfl)
            try simp only [Act.put, List.setIfInBounds_toArray, List.set_cons_zero, List.set_cons_succ]
            refine wpAnyH_ready (rs := [15]) (by kernel_rfl) (by simp) ?_
            refine AllReadyH.cons (o := { dst := some 54, op := Go.Op.call { callee := Go.Callee.value (Go.Operand.func 34), args := #[Go.Operand.tmp 48, Go.Operand.tmp 51, Go.Operand.tmp 53], argTypes := #[27, 9, 3] }, type := 4, pos := "ref.go:118", after := #[{ on := 9, ground := Go.Ground.data }, { on := 12, ground := Go.Ground.data }, { on := 14, ground := Go.Ground.data }, { on := 8, ground := Go.Ground.chain }, { on := 8, ground := Go.Ground.guard }], guard := some (8, true) }) rfl (fun K hK => ?_) AllReadyH.nil
            go_simp
            (go_at_call 34; refine (HC.out.2.1 _ (And.left hHeld)).mono ?_; rintro e w3 ⟨rfl, q⟩)
            refine hK.out _ _ ?_ (fun hHeld' => ?_)
            · exact HS.out _ (Keep.trans (And.left hHeld) q)
            clear hK K hHeld
            have hHeld := hHeld'
            clear hHeld'
            try simp only [Act.put, List.setIfInBounds_toArray, List.set_cons_zero, List.set_cons_succ]
            refine wpAnyH_take (i := 16) (oi := { dst := some 55, op := Go.Op.pick (Go.Operand.tmp 47) (Go.Operand.tmp 54) (Go.Operand.const (Go.Value.bool false)), type := 4, pos := "ref.go:118", after := #[{ on := 8, ground := Go.Ground.data }, { on := 15, ground := Go.Ground.data }], guard := none }) (v := ?_) rfl (by kernel_rfl) (by kernel_rfl) (by kernel_rfl) (fun _ _ _ h => h) (Or.inl ⟨by rfl, ?_⟩) (by assumption) ?_
            rotate_left 1
            · (intro w hSw; (try dsimp only at hSw); go_simp; first | done | with_reducible rfl)
            try simp only [Act.put, List.setIfInBounds_toArray, List.set_cons_zero, List.set_cons_succ]
            refine wpAnyH_done (by kernel_rfl) ?_ _
            refine NoPanic.normal ?_
            have Q1 := Lib.hid (HZ.out.2.2.trans (And.left hHeld))
            clear hHeld c0 c1 c2 c3 c4 c5 c6 c7 d0 d1 d2 d3 d4 d5 d6 d7
            go_wp2_with fail
            go_roundg (s.length + 1 - (k + 1))
            case measure => omega
            case rel => exact ⟨k + 1, by go_num, by omega, fun j hj => by
              by_cases e : j = k
              · subst e
                intro h
                have := HC.out.2.2.2
                rw [pb_iff.2 h.2.2] at this
                cases this
              · exact HZ.out.2.1 j (by omega), Q1.out⟩
          | true =>
            refine wp_region_noPanic ?_
            refine wp_region_held_drew (S := (fun W1 => (Keep (fun _ => False) wr W1 ∧ W1.cell? ⟨n0, 0, none⟩ = some (.int .i64 t.kind) ∧ W1.cell? ⟨n0, 1, none⟩ = some (.int .u64 t.set.x0) ∧ W1.cell? ⟨n0, 2, none⟩ = some (.int .u64 t.set.x1) ∧ W1.cell? ⟨n0, 3, none⟩ = some (.int .u64 t.set.x2) ∧ W1.cell? ⟨n0, 4, none⟩ = some (.int .u64 t.set.x3) ∧ W1.cell? ⟨n0, 5, none⟩ = some (.int .i64 t.mn) ∧ W1.cell? ⟨n0, 6, none⟩ = some (.int .i64 t.mx) ∧ W1.cell? ⟨n0, 7, none⟩ = some (.slice (some ⟨bl, off, none⟩) 1 c) ∧ W1.cell? ⟨bl, off, none⟩ = some (.int .i64 u.kind) ∧ W1.cell? ⟨bl, off + 1, none⟩ = some (.int .u64 u.set.x0) ∧ W1.cell? ⟨bl, off + 2, none⟩ = some (.int .u64 u.set.x1) ∧ W1.cell? ⟨bl, off + 3, none⟩ = some (.int .u64 u.set.x2) ∧ W1.cell? ⟨bl, off + 4, none⟩ = some (.int .u64 u.set.x3) ∧ W1.cell? ⟨bl, off + 5, none⟩ = some (.int .i64 u.mn) ∧ W1.cell? ⟨bl, off + 6, none⟩ = some (.int .i64 u.mx) ∧ W1.cell? ⟨bl, off + 7, none⟩ = some (.slice a1 u.subs.length e1)))) (by kernel_rfl) ?_ (fun hHeld => ?_)
            · exact HS.out _ ((Keep.refl _ _).drew)
            refine wpAnyH_take (i := 0) (oi := { dst := some 39, op := Go.Op.fieldAddr 27 (Go.Operand.tmp 3) 4, type := 0, pos := "ref.go:118", after := #[], guard := none }) (v := ?_) rfl (by kernel_rfl) (by kernel_rfl) (by kernel_rfl) (fun _ _ _ h => h) (Or.inl ⟨by rfl, ?_⟩) (by assumption) ?_
            rotate_left 1
            · (intro w hSw; (try dsimp only at hSw); go_simp; first | done | with_reducible rfl)
            try simp only [Act.put, List.setIfInBounds_toArray, List.set_cons_zero, List.set_cons_succ]
            refine wpAnyH_take (i := 1) (oi := { dst := some 40, op := Go.Op.load 25 (Go.Operand.tmp 39), type := 25, pos := "ref.go:118", after := #[{ on := 0, ground := Go.Ground.data }], guard := none }) (v := ?_) rfl (by kernel_rfl) (by kernel_rfl) (by kernel_rfl) (fun _ _ _ h => h) (Or.inl ⟨by rfl, ?_⟩) (by assumption) ?_
            rotate_left 1
            · (intro w hSw; (try dsimp only at hSw); go_simp; first | done | with_reducible rfl)
            try simp only [Act.put, List.setIfInBounds_toArray, List.set_cons_zero, List.set_cons_succ]
            refine wpAnyH_take (i := 2) (oi := { dst := some 41, op := Go.Op.indexAddr 25 (Go.Operand.tmp 40) (Go.Operand.const (Go.Value.int Go.IntKind.i64 0)), type := 0, pos := "ref.go:118", after := #[{ on := 1, ground := Go.Ground.data }], guard := none }) (v := ?_) rfl (by kernel_rfl) (by kernel_rfl) (by kernel_rfl) (fun _ _ _ h => h) (Or.inl ⟨by rfl, ?_⟩) (by assumption) ?_
            rotate_left 1
            · (intro w hSw; (try dsimp only at hSw); go_simp; first | done | with_reducible rfl)
            try simp only [Act.put, List.setIfInBounds_toArray, List.set_cons_zero, List.set_cons_succ]
            refine wpAnyH_take (i := 3) (oi := { dst := some 42, op := Go.Op.load 27 (Go.Operand.tmp 41), type := 27, pos := "ref.go:118", after := #[{ on := 2, ground := Go.Ground.data }], guard := none }) (v := ?_) rfl (by kernel_rfl) (by kernel_rfl) (by kernel_rfl) (fun _ _ _ h => h) (Or.inl ⟨by rfl, ?_⟩) (by assumption) ?_
            rotate_left 1
            · (intro w hSw; (try dsimp only at hSw); go_simp; first | done | with_reducible rfl)
            try simp only [Act.put, List.setIfInBounds_toArray, List.set_cons_zero, List.set_cons_succ]
            refine wpAnyH_take (i := 4) (oi := { dst := some 43, op := Go.Op.move (Go.Operand.tmp 1), type := 9, pos := "ref.go:118", after := #[], guard := none }) (v := ?_) rfl (by kernel_rfl) (by kernel_rfl) (by kernel_rfl) (fun _ _ _ h => h) (Or.inl ⟨by rfl, ?_⟩) (by assumption) ?_
            rotate_left 1
            · (intro w hSw; (try dsimp only at hSw); go_simp; first | done | with_reducible rfl)
            try simp only [Act.put, List.setIfInBounds_toArray, List.set_cons_zero, List.set_cons_succ]
            refine wpAnyH_take (i := 5) (oi := { dst := some 44, op := Go.Op.move (Go.Operand.tmp 7), type := 3, pos := "ref.go:118", after := #[], guard := none }) (v := ?_) rfl (by kernel_rfl) (by kernel_rfl) (by kernel_rfl) (fun _ _ _ h => h) (Or.inl ⟨by rfl, ?_⟩) (by assumption) ?_
            rotate_left 1
            · (intro w hSw; (try dsimp only at hSw); go_simp; first | done | with_reducible rfl)
            try simp only [Act.put, List.setIfInBounds_toArray, List.set_cons_zero, List.set_cons_succ]
            refine wpAnyH_take (i := 6) (oi := { dst := some 45, op := Go.Op.slice 9 (Go.Operand.tmp 43) none (some (Go.Operand.tmp 44)) none, type := 9, pos := "ref.go:118", after := #[{ on := 4, ground := Go.Ground.data }, { on := 5, ground := Go.Ground.data }], guard := none }) (v := ?_) rfl (by kernel_rfl) (by kernel_rfl) (by kernel_rfl) (fun _ _ _ h => h) (Or.inl ⟨by rfl, ?_⟩) (by assumption) ?_
            rotate_left 1
            · (intro w hSw; (try dsimp only at hSw); go_simp; first | done | with_reducible rfl)
            try simp only [Act.put, List.setIfInBounds_toArray, List.set_cons_zero, List.set_cons_succ]
            refine wpAnyH_ready (rs := [7]) (by kernel_rfl) (by simp) ?_
            refine AllReadyH.cons (o := { dst := some 46, op := Go.Op.call { callee := Go.Callee.value (Go.Operand.func 20), args := #[Go.Operand.tmp 42, Go.Operand.tmp 45], argTypes := #[27, 9] }, type := 4, pos := "ref.go:118", after := #[{ on := 3, ground := Go.Ground.data }, { on := 6, ground := Go.Ground.data }], guard := none }) rfl (fun K hK => ?_) AllReadyH.nil
            go_simp
            (go_at_call 20; refine (HC.out.1 _ (And.left hHeld)).mono ?_; rintro e w2 ⟨rfl, q⟩)
            refine hK.out _ _ ?_ (fun hHeld' => ?_)
            · exact HS.out _ (Keep.trans (And.left hHeld) q)
            clear hK K hHeld
            have hHeld := hHeld'
            clear hHeld'
            try simp only [Act.put, List.setIfInBounds_toArray, List.set_cons_zero, List.set_cons_succ]
            refine wpAnyH_take (i := 8) (oi := { dst := some 47, op := Go.Op.move (Go.Operand.tmp 46), type := 4, pos := "ref.go:118", after := #[{ on := 7, ground := Go.Ground.data }, { on := 7, ground := Go.Ground.chain }], guard := none }) (v := ?_) rfl (by kernel_rfl) (by kernel_rfl) (by kernel_rfl) (fun _ _ _ h => h) (Or.inl ⟨by rfl, ?_⟩) (by assumption) ?_
            rotate_left 1
            · (intro w hSw; (try dsimp only at hSw); go_simp; first | done | with_reducible rfl)
            try simp only [Act.put, List.setIfInBounds_toArray, List.set_cons_zero, List.set_cons_succ]
            refine wpAnyH_take (i := 9) (oi := { dst := some 48, op := Go.Op.load 27 (Go.Operand.tmp 3), type := 27, pos := "ref.go:118", after := #[{ on := 8, ground := Go.Ground.guard }], guard := some (8, true) }) (v := ?_) rfl (by kernel_rfl) (by kernel_rfl) (by kernel_rfl) (fun _ _ _ h => h) (Or.inl ⟨by rfl, ?_⟩) (by assumption) ?_
            rotate_left 1
            · (intro w hSw; (try dsimp only at hSw); go_simp; first | done | with_reducible rfl)
            try simp only [Act.put, List.setIfInBounds_toArray, List.set_cons_zero, List.set_cons_succ]
            refine wpAnyH_take (i := 10) (oi := { dst := some 49, op := Go.Op.move (Go.Operand.tmp 1), type := 9, pos := "ref.go:118", after := #[{ on := 8, ground := Go.Ground.guard }], guard := some (8, true) }) (v := ?_) rfl (by kernel_rfl) (by kernel_rfl) (by kernel_rfl) (fun _ _ _ h => h) (Or.inl ⟨by rfl, ?_⟩) (by assumption) ?_
            rotate_left 1
            · (intro w hSw; (try dsimp only at hSw); go_simp; first | done | with_reducible rfl)
            try simp only [Act.put, List.setIfInBounds_toArray, List.set_cons_zero, List.set_cons_succ]
            refine wpAnyH_take (i := 11) (oi := { dst := some 50, op := Go.Op.move (Go.Operand.tmp 7), type := 3, pos := "ref.go:118", after := #[{ on := 8, ground := Go.Ground.guard }], guard := some (8, true) }) (v := ?_) rfl (by kernel_rfl) (by kernel_rfl) (by kernel_rfl) (fun _ _ _ h => h) (Or.inl ⟨by rfl, ?_⟩) (by assumption) ?_
            rotate_left 1
            · (intro w hSw; (try dsimp only at hSw); go_simp; first | done | with_reducible rfl)
            try simp only [Act.put, List.setIfInBounds_toArray, List.set_cons_zero, List.set_cons_succ]
            refine wpAnyH_take (i := 12) (oi := { dst := some 51, op := Go.Op.slice 9 (Go.Operand.tmp 49) (some (Go.Operand.tmp 50)) none none, type := 9, pos := "ref.go:118", after := #[{ on := 10, ground := Go.Ground.data }, { on := 11, ground := Go.Ground.data }, { on := 8, ground := Go.Ground.guard }], guard := some (8, true) }) (v := ?_) rfl (by kernel_rfl) (by kernel_rfl) (by kernel_rfl) (fun _ _ _ h => h) (Or.inl ⟨by rfl, ?_⟩) (by assumption) ?_
            rotate_left 1
            · (intro w hSw; (try dsimp only at hSw); go_simp; first | done | with_reducible rfl)
            try simp only [Act.put, List.setIfInBounds_toArray, List.set_cons_zero, List.set_cons_succ]
            refine wpAnyH_take (i := 13) (oi := { dst := some 52, op := Go.Op.move (Go.Operand.tmp 2), type := 3, pos := "ref.go:118", after := #[{ on := 8, ground := Go.Ground.guard }], guard := some (8, true) }) (v := ?_) rfl (by kernel_rfl) (by kernel_rfl) (by kernel_rfl) (fun _ _ _ h => h) (Or.inl ⟨by rfl, ?_⟩) (by assumption) ?_
            rotate_left 1
            · (intro w hSw; (try dsimp only at hSw); go_simp; first | done | with_reducible rfl)
            try simp only [Act.put, List.setIfInBounds_toArray, List.set_cons_zero, List.set_cons_succ]
            refine wpAnyH_take (i := 14) (oi := { dst := some 53, op := Go.Op.binOp Go.BinOp.add 3 (Go.Operand.tmp 52) (Go.Operand.const (Go.Value.int Go.IntKind.i64 1)) 3, type := 3, pos := "ref.go:118", after := #[{ on := 13, ground := Go.Ground.data }, { on := 8, ground := Go.Ground.guard }], guard := some (8, true) }) (v := ?_) rfl (by kernel_rfl) (by kernel_rfl) (by kernel_rfl) (fun _ _ _ h => h) (Or.inl ⟨by rfl, ?_⟩) (by assumption) ?_
            rotate_left 1
            · (intro w hSw; (try dsimp only at hSw); go_simp; first | done | with_reducible rfl)
            try simp only [Act.put, List.setIfInBounds_toArray, List.set_cons_zero, List.set_cons_succ]
            refine wpAnyH_ready (rs := [15]) (by kernel_rfl) (by simp) ?_
            refine AllReadyH.cons (o := { dst := some 54, op := Go.Op.call { callee := Go.Callee.value (Go.Operand.func 34), args := #[Go.Operand.tmp 48, Go.Operand.tmp 51, Go.Operand.tmp 53], argTypes := #[27, 9, 3] }, type := 4, pos := "ref.go:118", after := #[{ on := 9, ground := Go.Ground.data }, { on := 12, ground := Go.Ground.data }, { on := 14, ground := Go.Ground.data }, { on := 8, ground := Go.Ground.chain }, { on := 8, ground := Go.Ground.guard }], guard := some (8, true) }) rfl (fun K hK => ?_) AllReadyH.nil
            go_simp
            (go_at_call 34; refine (HC.out.2.1 _ (And.left hHeld)).mono ?_; rintro e w3 ⟨rfl, q⟩)
            refine hK.out _ _ ?_ (fun hHeld' => ?_)
            · exact HS.out _ (Keep.trans (And.left hHeld) q)
            clear hK K hHeld
            have hHeld := hHeld'
            clear hHeld'
            try simp only [Act.put, List.setIfInBounds_toArray, List.set_cons_zero, List.set_cons_succ]
            refine wpAnyH_take (i := 16) (oi := { dst := some 55, op := Go.Op.pick (Go.Operand.tmp 47) (Go.Operand.tmp 54) (Go.Operand.const (Go.Value.bool false)), type := 4, pos := "ref.go:118", after := #[{ on := 8, ground := Go.Ground.data }, { on := 15, ground := Go.Ground.data }], guard := none }) (v := ?_) rfl (by kernel_rfl) (by kernel_rfl) (by kernel_rfl) (fun _ _ _ h => h) (Or.inl ⟨by rfl, ?_⟩) (by assumption) ?_
            rotate_left 1
            · (intro w hSw; (try dsimp only at hSw); go_simp; first | done | with_reducible rfl)
            try simp only [Act.put, List.setIfInBounds_toArray, List.set_cons_zero, List.set_cons_succ]
            refine wpAnyH_done (by kernel_rfl) ?_ _
            refine NoPanic.normal ?_
            have Q1 := Lib.hid (HZ.out.2.2.trans (And.left hHeld))
            clear hHeld c0 c1 c2 c3 c4 c5 c6 c7 d0 d1 d2 d3 d4 d5 d6 d7
            go_wp2_with fail
            go_ret
            exact ⟨by rw [pb_yes (HP.out.2 ⟨k, hlt, HZ.out.1, pb_iff.1 HC.out.2.2.1, pb_iff.1 HC.out.2.2.2⟩)]; rfl, H0.out.2.2.2.2.2.2.2.trans Q1.out⟩
      · have hke : k = s.length + 1 := by omega
        subst hke
        have hgt : ¬ (s.length : Int) + 1 ≤ s.length := by omega
        have HQ := Lib.hid (And.intro hno hq)
        clear hno hq
        go_wp2_with fail
        go_ret
        refine ⟨?_, H0.out.2.2.2.2.2.2.2.trans HQ.out.2⟩
        rw [pb_no (fun h => by
          obtain ⟨k, hk, h0, h1, h2⟩ := HP.out.1 h
          exact HQ.out.1 k (by omega) ⟨h0, h1, h2⟩)]
        rfl
end Go.Proofs.YtfpijkcaceoboaaDoor.P11
/- The document's Is (layer 11), of right expressions: matching by definition. -/
namespace Go.Proofs.YtfpijkcaceoboaaDoor.P11
open Go.RowKit Go.Proofs.YtfpijkcaceoboaaDoor.Base Go.Proofs.YtfpijkcaceoboaaDoor.Bytes Go.Proofs.YtfpijkcaceoboaaDoor.P07 Go.Proofs.YtfpijkcaceoboaaDoor.P08 Go.Proofs.YtfpijkcaceoboaaDoor.P09 Go.Proofs.YtfpijkcaceoboaaDoor.P10
open Go.Proofs.YtfpijkcaceoboaaDoor.Sets (ST)

set_option maxRecDepth 100000 in
set_option maxHeartbeats 8000000 in
theorem fis_step (n : Nat) (ih : ∀ t : T, SizeOf.sizeOf t < n → FIsOk t) (t : T) (h : SizeOf.sizeOf t < n + 1) : FIsOk t := fun d hR s hsl a c w hc hL => by
    have hsz := P07.size_str s
    have hlen := hL.len
    have hB := Bx.new (c := c) hL
    have q0 := (Keep.refl (fun _ => False) w).alloc (.cells (ncells t a c) 27)
    obtain ⟨n0, hn0⟩ : ∃ n0, w.heap.size = n0 := ⟨_, rfl⟩
    rw [hn0] at hB
    have hsub := fun (u : T) (i : Nat) (h : t.subs[i]? = some u) => sub_RT hR h
    have hstep : ∀ (u : T) (k : Nat), t.subs[k]? = some u → SizeOf.sizeOf u < n := fun u k hs => by have := sub_less hs; omega
    have hrow := frow_any t.subs d (fun u hu => by
      obtain ⟨i, hi⟩ := List.mem_iff_getElem?.1 hu
      exact ⟨ih u (hstep u i hi), sub_RT hR hi⟩) s hsl
    have hoft := fun (hk : t.kind = 5) (u : T) (hs : t.subs[0]? = some u) => foften_any t u d hR hk hs (ih u (hstep u 0 hs)) ((t.mn - (0 : Nat)).toNat + s.length + 1) 0 s (Nat.lt_succ_self _)
    have h5 := fun hk => kind5_one hR hk
    have hks := Lib.hid (P08.kinds hR)
    have H0 := Lib.hid (And.intro ih (And.intro hsub (And.intro hstep (And.intro hrow (And.intro hoft (And.intro h5 (And.intro hc (And.intro hB q0))))))))
    clear ih hsub hstep hrow hoft h5 hc hB q0 hL hR h
    go_enter Tryd.func20, Tryd.ntmps20
    go_upto_region 1 with fail
    generalize (w.alloc (.cells (ncells t a c) 27)) = W at *
    try rw [hn0]
    obtain ⟨c0, c1, c2, c3, c4, c5, c6, c7⟩ := H0.out.2.2.2.2.2.2.2.1.eight
    by_cases k1 : t.kind = 1
    · have hm := mat_k1 k1 s
      have b1 : (t.kind == 1) = true := by simp [k1]
      have HM := Lib.hid hm
      clear k1 hm
      go_wp2_with fail
      go_ret
      refine ⟨?_, H0.out.2.2.2.2.2.2.2.2⟩
      rw [pb_congr HM.out]
      cases s with
      | nil => rw [pb_yes rfl]; rfl
      | cons b s => rw [pb_no (by simp)]; rfl
    have b1 : (t.kind == 1) = false := by simp [k1]
    by_cases k2 : t.kind = 2
    · have hm := mat_k2 k2 s
      have b2 : (t.kind == 2) = true := by simp [k2]
      have HM := Lib.hid hm
      clear k1 k2 hm
      by_cases h1 : s.length = 1
      · have h1' : (s.length : Int) = 1 := by omega
        have hix : ∀ W, (Instr.index 9 (.string ⟨s.toArray⟩) (.int .i64 0)).run Tryd.prog W = .ok (.int .u8 (P07.byteAt s 0)) W := fun W => P07.index_run s 0 (by omega) W
        have hb := P07.byteAt_lt s 0
        have hin := fun W => fin_any t.set (P07.byteAt s 0) hb W
        have hp : pb (Mat t s) = t.set.has (P07.byteAt s 0) := by
          rw [pb_is]
          rw [HM.out]
          obtain ⟨b, rfl⟩ : ∃ b, s = [b] := List.length_eq_one_iff.1 h1
          constructor
          · rintro ⟨b', e, h⟩
            injection e with e _
            rw [← e] at h
            exact h
          · exact fun h => ⟨b, rfl, h⟩
        obtain ⟨y, hy⟩ : ∃ y, t.set.has (P07.byteAt s 0) = y := ⟨_, rfl⟩
        obtain ⟨bt, hbt⟩ : ∃ bt, P07.byteAt s 0 = bt := ⟨_, rfl⟩
        rw [hy] at hin hp
        rw [hbt] at hix hin hb
        have HI := Lib.hid (And.intro hin hp)
        clear hin hp hy hbt h1
        go_wp2_with fail
        go_region_with (go_at_call 32; refine (HI.out.1 _).mono ?_; rintro e w1 ⟨rfl, q1⟩; have Q1 := Lib.hid ((Keep.refl _ _).drew.trans q1); clear q1)
        all_goals
          go_wp2_with fail
          go_ret
          exact ⟨by rw [HI.out.2]; rfl, H0.out.2.2.2.2.2.2.2.2.trans Q1.out⟩
      · have h1' : ((s.length : Int) == 1) = false := by simp; omega
        have hp : pb (Mat t s) = false := pb_no (fun h => by
          obtain ⟨b, e, -⟩ := HM.out.1 h
          rw [e] at h1
          exact h1 rfl)
        have HI := Lib.hid hp
        clear hp h1
        go_wp2_with fail
        go_region
        go_wp2_with fail
        go_ret
        exact ⟨by rw [HI.out]; rfl, H0.out.2.2.2.2.2.2.2.2.drew⟩
    have b2 : (t.kind == 2) = false := by simp [k2]
    by_cases k3 : t.kind = 3
    · have hm := mat_k3 k3 s
      have b3 : (t.kind == 3) = true := by simp [k3]
      have hcall := H0.out.2.2.2.1 a c W H0.out.2.2.2.2.2.2.1 H0.out.2.2.2.2.2.2.2.1.lie
      unfold IsSays at hcall
      rw [← pb_congr hm] at hcall
      have HM := Lib.hid hcall
      clear k1 k2 k3 hm hcall
      go_wp2_with fail
      refine HM.out.mono ?_
      rintro e w1 ⟨rfl, q1⟩
      have Q1 := Lib.hid q1
      clear q1
      go_wp2_with fail
      go_ret
      exact ⟨rfl, H0.out.2.2.2.2.2.2.2.2.trans Q1.out⟩
    have b3 : (t.kind == 3) = false := by simp [k3]
    by_cases k4 : t.kind = 4
    · have hm := mat_k4 k4 s
      rw [malt_get] at hm
      have b4 : (t.kind == 4) = true := by simp [k4]
      have HM := Lib.hid hm
      clear k1 k2 k3 k4 hm
      go_wp2_with fail
      clear c0 c1 c2 c3 c4 c5 c6 c7
      go_loopg [5] t.subs.length (fun gg i wr => ∃ k : Nat, i = .int .i64 k ∧ k + gg = t.subs.length ∧ (∀ (j : Nat) (u : T), j < k → t.subs[j]? = some u → ¬ Mat u s) ∧ Keep (fun _ => False) W wr)
      case atStart => exact ⟨0, rfl, by omega, fun j _ hj => absurd hj (Nat.not_lt_zero _), Keep.refl _ _⟩
      case round =>
        obtain ⟨k, rfl, hk, hno, hq⟩ := hrel
        have B2 := H0.out.2.2.2.2.2.2.2.1.keep hq
        obtain ⟨-, -, -, -, -, -, -, c7⟩ := B2.eight
        by_cases hlt : k < t.subs.length
        · have hlt' : (k : Int) < t.subs.length := by omega
          have i0 : (0 : Int) ≤ k := by omega
          obtain ⟨u, hs⟩ : ∃ u, t.subs[k]? = some u := ⟨t.subs[k], List.getElem?_eq_getElem hlt⟩
          obtain ⟨bl, off, a1, e1, rfl, L1, d0, d1, d2, d3, d4, d5, d6, d7⟩ := B2.sub hs
          have hle1 : u.subs.length ≤ e1 := by
            obtain ⟨bl2, off2, a2, e2, ea2, -, -, hle2, -, C2⟩ := B2.lie.get hs
            have h7 := C2 7 (.slice a2 u.subs.length e2) rfl
            cases ea2
            rw [d7] at h7
            cases h7
            exact hle2
          have hcall := H0.out.1 u (H0.out.2.2.1 u k hs) d (H0.out.2.1 u k hs) s hsl a1 e1 wr hle1 L1
          unfold IsSays at hcall
          obtain ⟨B, hB⟩ : ∃ B, pb (Mat u s) = B := ⟨_, rfl⟩
          rw [hB] at hcall
          have HQ := Lib.hid (And.intro hq (And.intro hcall (And.intro hno (And.intro hs hB))))
          clear hq hcall hno hs hB B2 L1 hle1
          go_wp2_with fail
          refine HQ.out.2.1.mono ?_
          rintro e w2 ⟨rfl, q2⟩
          have Q2 := Lib.hid (HQ.out.1.trans q2)
          clear q2 c7 d0 d1 d2 d3 d4 d5 d6 d7
          cases B with
          | true =>
            go_wp2_with fail
            go_ret
            exact ⟨by rw [pb_yes (HM.out.2 ⟨u, List.mem_of_getElem? HQ.out.2.2.2.1, pb_iff.1 HQ.out.2.2.2.2⟩)]; rfl, H0.out.2.2.2.2.2.2.2.2.trans Q2.out⟩
          | false =>
            go_wp2_with fail
            go_roundg (t.subs.length - (k + 1))
            case measure => omega
            case rel => exact ⟨k + 1, by go_num, by omega, fun j v hj hv => by
              by_cases e : j = k
              · subst e
                rw [HQ.out.2.2.2.1] at hv
                cases hv
                intro h
                have := HQ.out.2.2.2.2
                rw [pb_iff.2 h] at this
                cases this
              · exact HQ.out.2.2.1 j v (by omega) hv, Q2.out⟩
        · have hke : k = t.subs.length := by omega
          subst hke
          have HQ := Lib.hid (And.intro hno hq)
          clear hno hq B2
          go_wp2_with fail
          go_ret
          refine ⟨?_, H0.out.2.2.2.2.2.2.2.2.trans HQ.out.2⟩
          rw [pb_no (fun h => by
            obtain ⟨u, hu, h⟩ := HM.out.1 h
            obtain ⟨j, hj⟩ := List.mem_iff_getElem?.1 hu
            exact HQ.out.1 j u (List.getElem?_eq_some_iff.1 hj).1 hj h)]
          rfl
    have b4 : (t.kind == 4) = false := by simp [k4]
    have k5 : t.kind = 5 := by
      have := hks.out
      omega
    have b5 : (t.kind == 5) = true := by simp [k5]
    obtain ⟨u, hsub, m0, m1, hxx, -⟩ := H0.out.2.2.2.2.2.1 k5
    have hm := mat_k5 k5 s
    have hcall := H0.out.2.2.2.2.1 k5 u (by rw [hsub]; rfl) (by omega) hsl (by omega) a c W H0.out.2.2.2.2.2.2.1 H0.out.2.2.2.2.2.2.2.1.lie
    rw [hsub, ← oft_zero u [] t.mn t.mx s] at hm
    unfold IsSays at hcall
    rw [← pb_congr hm, show ((0 : Nat) : Int) = 0 from rfl] at hcall
    have HM := Lib.hid hcall
    clear k1 k2 k3 k4 k5 hm hcall hsub m0 m1 hxx
    go_wp2_with fail
    refine HM.out.mono ?_
    rintro e w1 ⟨rfl, q1⟩
    have Q1 := Lib.hid q1
    clear q1
    go_wp2_with fail
    go_ret
    exact ⟨rfl, H0.out.2.2.2.2.2.2.2.2.trans Q1.out⟩
theorem fis_all : ∀ (n : Nat) (t : T), SizeOf.sizeOf t < n → FIsOk t
  | 0, _, h => absurd h (Nat.not_lt_zero _)
  | n + 1, t, h => fis_step n (fis_all n) t h
theorem fis_any (t : T) : FIsOk t := fis_all _ t (Nat.lt_succ_self _)
end Go.Proofs.YtfpijkcaceoboaaDoor.P11
