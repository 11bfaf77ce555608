/- The walk of BytesTell. Its last region by program (wip/tools/tell04.py). -/
import Derived.Test.YtdiegmejkipacaaDoorEqs
import Derived.Deep.RegionHeld3
import Derived.Deep.QuietTactic
import Derived.BigQuiet
namespace Go.Proofs.YtdiegmejkipacaaDoor.BytesTell
open Go.ChangeShapes Go.WideShapes Go.RowKit Go.Proofs.YtdiegmejkipacaaDoor.Base Go.Proofs.YtdiegmejkipacaaDoor.Sets Go.Proofs.YtdiegmejkipacaaDoor.PL Go.Proofs.YtdiegmejkipacaaDoor.IL Go.Proofs.YtdiegmejkipacaaDoor.Bytes Go.Proofs.YtdiegmejkipacaaDoor.Law04 Go.Proofs.YtdiegmejkipacaaDoor.Tied

theorem rhas_is {s : ST} {b : Nat} {v : Bool} (h : s.has b = v) (hb : b < 256) (w : World) : Calls Tryd.prog 13 #[val s, .int .i64 b] w fun e w' => e = .returned (.bool v) ∧ Keep (fun _ => False) w w' := by
  rw [← h]
  exact rhas_any s b hb w
theorem rtext_is {s : ST} {l : List UInt8} (h : textT s = l) (hs : s.Ok) (w : World) : Calls Tryd.prog 17 #[val s] w fun e w' => e = .returned (.string ⟨l.toArray⟩) ∧ Keep (fun _ => False) w w' := by
  rw [← h]
  exact rtext_any s hs w
theorem resc_is {b : Nat} {l : List UInt8} (h : esc b = l) (hb : b < 256) (w : World) : Calls Tryd.prog 19 #[.int .i64 b] w fun e w' => e = .returned (.string ⟨l.toArray⟩) ∧ Keep (fun _ => False) w w' := by
  rw [← h]
  exact resc_any b hb w

theorem PL.len {w : World} {v : Value} {L : List (Nat × Nat)} (h : PL w v L) : ∃ a cap, v = .slice a L.length cap := by
  obtain ⟨a, cap, hv, -, -⟩ := h.form
  exact ⟨a, cap, hv⟩

set_option maxRecDepth 100000 in
set_option maxHeartbeats 4000000 in
theorem walk {H : Type} {enc : TypeId × Value → H} (v0 v1 : Value) {d0 d1 : DataW H} {p0 p1 : List MemPlace} (W : World) (hT : Tab W)
    (k0 : Value.okWide Tryd.prog W .any 0 24 v0) (k1 : Value.okWide Tryd.prog W .any 0 5 v1)
    (h0 : DataW.Trod enc Tryd.prog W 0 (fun _ => true) true 24 v0 d0 p0) (h1 : DataW.Trod enc Tryd.prog W 0 (fun _ => true) true 5 v1 d1 p1) :
    Calls Tryd.prog 3 #[v0, v1] W fun e w' => e = .returned (.bool true) ∧ Below W.heap.size W w' := by
  obtain ⟨s, rfl, hs⟩ := set_arg k0 h0
  obtain ⟨b, rfl, hb⟩ := byte_arg k1 h1
  clear k0 k1 h0 h1
  have HT := Lib.hid hT
  clear hT
  obtain ⟨pv, hpv⟩ : ∃ v, s.has b = v := ⟨_, rfl⟩
  obtain ⟨lz, hlz⟩ : ∃ n, leastB s.has = n := ⟨_, rfl⟩
  obtain ⟨tx, htx⟩ : ∃ l, textT s = l := ⟨_, rfl⟩
  obtain ⟨ex, hex⟩ : ∃ l, esc b = l := ⟨_, rfl⟩
  have HC := Lib.hid (And.intro hpv (And.intro hlz (And.intro htx hex)))
  clear hpv hlz htx hex
  go_enter Tryd.func3, Tryd.ntmps3
  go_wp2_with fail
  have a1 := At.new W (cells s) 24
  have q1 := (Keep.refl (fun _ => False) W).alloc (.cells (cells s) 24)
  have A1 := Lib.hid (And.intro a1 q1)
  obtain ⟨⟨c0, c1, c2, c3⟩, -⟩ := cells4 a1
  clear a1 q1
  generalize (W.alloc (.cells (cells s) 24)) = w0 at *
  go_wp2_with fail
  refine (list_any s w0).mono ?_
  rintro e w1 ⟨lv, rfl, hi, -, q1⟩
  have hlen : (lst s.has 256).length = s.count := lst_length _ _
  have hnl : nxt s.has 0 < 256 ↔ 0 < s.count := nxt_lt_iff s.has
  have hhd := lst_head s.has
  obtain ⟨a, cap, hv, hcell⟩ := hi.form
  rw [hlen] at hv
  subst hv
  have HN := Lib.hid (And.intro hnl (And.intro hhd hcell))
  clear hnl hhd hcell
  have ha1 := A1.out.1.keep q1 (fun h => h)
  have H1 := Lib.hid (And.intro ha1 (A1.out.2.trans q1))
  clear q1 hi hlen ha1 c0 c1 c2 c3 A1
  have hS : ∀ wr, Keep (fun _ => False) w1 wr → ∀ w', Keep (fun _ => False) wr w' → Keep (fun _ => False) wr w' ∧ w'.cell? ⟨W.heap.size, 0, none⟩ = some (.int .u64 s.x0) ∧ w'.cell? ⟨W.heap.size, 1, none⟩ = some (.int .u64 s.x1) ∧ w'.cell? ⟨W.heap.size, 2, none⟩ = some (.int .u64 s.x2) ∧ w'.cell? ⟨W.heap.size, 3, none⟩ = some (.int .u64 s.x3) := fun wr k0 w' k => by
    obtain ⟨⟨b0, b1, b2, b3⟩, -⟩ := cells4 (H1.out.1.keep (k0.trans k) (fun h => h))
    exact ⟨k, b0, b1, b2, b3⟩
  have HS1 := Lib.hid hS
  clear hS
  go_upto_if 14 with fail
  go_cut [6] (fun t6 wx => t6 = .int .i64 lz ∧ w1 = wx)
  case first =>
    by_cases h00 : s.count = 0
    · have hle : lz = -1 := by rw [← HC.out.2.1]; unfold leastB; rw [if_neg (by rw [HN.out.1]; omega)]
      have g0 : ¬ (0 : Int) < (s.count : Int) := by omega
      have g0n : ¬ 0 < s.count := by omega
      have HE := Lib.hid hle
      clear h00 hle
      go_wp2_with fail
      go_meet
      case rel => exact ⟨by rw [HE.out], rfl⟩
    · have hn : nxt s.has 0 < 256 := HN.out.1.2 (by omega)
      have hle : lz = (nxt s.has 0 : Int) := by rw [← HC.out.2.1]; unfold leastB; rw [if_pos hn]
      obtain ⟨g, -, rfl, hc0⟩ := HN.out.2.2 0 _ (HN.out.2.1 hn)
      have g0 : (0 : Int) < (s.count : Int) := by omega
      have g0n : 0 < s.count := by omega
      have HE := Lib.hid hle
      clear h00 hle hn
      go_wp2_with fail
      go_meet
      case rel => exact ⟨by rw [HE.out], rfl⟩
  case rest =>
    obtain ⟨rfl, rfl⟩ := hcut
    obtain ⟨L, hL⟩ : ∃ L, L = rgs s.has 256 := ⟨_, rfl⟩
    have hra : ∀ w, Tab w → Calls Tryd.prog 9 #[val s] w (IsRanges L w) := fun w h => by rw [hL]; exact ranges_any s hs w h
    have hrb : ∀ w, Calls Tryd.prog 10 #[val s] w (IsRanges L w) := fun w => by rw [hL]; exact rranges_any s w
    have HRa := Lib.hid hra
    have HRb := Lib.hid hrb
    have hll : L.length ≤ 256 := by rw [hL]; exact rgs_le _ _
    clear hra hrb hL
    go_wp2_with fail
    go_region_held3 (fun w' => Keep (fun _ => False) w1 w' ∧ w'.cell? ⟨W.heap.size, 0, none⟩ = some (.int .u64 s.x0) ∧ w'.cell? ⟨W.heap.size, 1, none⟩ = some (.int .u64 s.x1) ∧ w'.cell? ⟨W.heap.size, 2, none⟩ = some (.int .u64 s.x2) ∧ w'.cell? ⟨W.heap.size, 3, none⟩ = some (.int .u64 s.x3)) (first | exact HS1.out _ (Keep.refl _ _) _ ((Keep.refl _ _).drew) | exact HS1.out _ (Keep.refl _ _) _ (Keep.trans (And.left (by assumption)) q)) (first
      | (go_at_call 9; refine (HRa.out _ (HT.out.keep (H1.out.2.trans (And.left (by assumption))))).mono ?_; rintro e w2 ⟨v1, rfl, hp1, -, q⟩)
      | (go_at_call 10; refine (HRb.out _).mono ?_; rintro e w3 ⟨v2, rfl, hp2, -, q⟩; have hp1' := hp1.keep q (fun _ _ h => h)))
    rename_i hh
    obtain ⟨b1, cap1, rfl⟩ := PL.len hp1'
    obtain ⟨b2, cap2, rfl⟩ := PL.len hp2
    have H3 := Lib.hid (And.intro hp1' (And.intro hp2 hh.1))
    clear hp1 hp1' hp2 hh q HRa HRb
    go_wp2_with fail
    refine (awake_any w3 (HT.out.keep (H1.out.2.trans H3.out.2.2))).mono ?_
    rintro e w4 ⟨rfl, q4⟩
    have H4 := Lib.hid (And.intro (H3.out.1.keep q4 (fun _ _ h => h)) (And.intro (H3.out.2.1.keep q4 (fun _ _ h => h)) (H3.out.2.2.trans q4)))
    clear q4 H3
    go_wp2_with fail
    go_loopg [33] L.length (fun gg i wr => ∃ k : Nat, i = .int .i64 k ∧ k + gg = L.length ∧ PL wr (.slice b1 L.length cap1) L ∧ PL wr (.slice b2 L.length cap2) L ∧ Keep (fun _ => False) w1 wr)
    case atStart => exact ⟨0, rfl, by omega, H4.out.1, H4.out.2.1, H4.out.2.2⟩
    case round =>
      obtain ⟨k, rfl, hk, hp1, hp2, hq⟩ := hrel
      by_cases hlt : k < L.length
      · obtain ⟨r, hr⟩ : ∃ r, L[k]? = some r := ⟨L[k], List.getElem?_eq_getElem hlt⟩
        obtain ⟨g1, rfl, e0, e1⟩ := PL.get hp1 hr
        obtain ⟨g2, rfl, e2, e3⟩ := PL.get hp2 hr
        have i0 : (0 : Int) ≤ (k : Int) := by omega
        have i1 : (k : Int) < (L.length : Int) := by omega
        have hen : ∀ w, (Op.equalIn 10000 30 (.agg #[.int .u8 r.1, .int .u8 r.2]) (.agg #[.int .u8 r.1, .int .u8 r.2])).run Tryd.prog w = .ok true w := fun w => by rw [eq_pair]; simp
        have HR := Lib.hid (And.intro hk (And.intro hp1 (And.intro hp2 hq)))
        clear hk hp1 hp2 hq hr
        go_wp2_with fail
        go_quiet (fail)
        have qd := Lib.hid ((Keep.refl (fun _ => False) wr).drewN nq)
        generalize wr.drewN nq = wd at *
        clear e0 e1 e2 e3
        go_wp2_with fail
        go_roundg (L.length - (k + 1))
        case measure => have := HR.out.1; omega
        case rel =>
          obtain ⟨hk, hp1, hp2, hq⟩ := HR.out
          exact ⟨k + 1, by go_num, by omega, hp1.keep qd.out (fun _ _ h => h), hp2.keep qd.out (fun _ _ h => h), hq.trans qd.out⟩
      · have hkl : k = L.length := by omega
        subst hkl
        have HQ := Lib.hid hq
        have HW := Lib.hid (H1.out.2.trans hq)
        have HS := Lib.hid (HS1.out wr hq)
        clear hp1 hp2 hq hk H4
        have hbw : IntKind.i64.wrap (b : Int) = b := by rw [IntKind.wrap_i64]; omega
        go_wp2_with fail
        refine wp_region_noPanic ?_
        refine wp_region_held_drew (S := (fun w' => Keep (fun _ => False) wr w' ∧ w'.cell? ⟨W.heap.size, 0, none⟩ = some (.int .u64 s.x0) ∧ w'.cell? ⟨W.heap.size, 1, none⟩ = some (.int .u64 s.x1) ∧ w'.cell? ⟨W.heap.size, 2, none⟩ = some (.int .u64 s.x2) ∧ w'.cell? ⟨W.heap.size, 3, none⟩ = some (.int .u64 s.x3))) (by kernel_rfl) ?_ (fun hHeld => ?_)
        · exact HS.out _ ((Keep.refl _ _).drew)
        refine wpAnyH_take (i := 0) (oi := { dst := some 46, op := Go.Op.load 24 (Go.Operand.tmp 2), type := 24, pos := "law.go:32", after := #[], guard := none }) (v := ?_) rfl (by kernel_rfl) (by kernel_rfl) (by kernel_rfl) (fun _ _ _ h => h) (Or.inl ⟨by rfl, ?_⟩) (by assumption) ?_
        rotate_left 1
        · (intro w hSw; (try dsimp only at hSw); go_simp; first | done | with_reducible rfl)
        try simp only [Act.put, List.setIfInBounds_toArray, List.set_cons_zero, List.set_cons_succ]
        refine wpAnyH_take (i := 1) (oi := { dst := some 47, op := Go.Op.move (Go.Operand.tmp 1), type := 5, pos := "law.go:32", after := #[], guard := none }) (v := ?_) rfl (by kernel_rfl) (by kernel_rfl) (by kernel_rfl) (fun _ _ _ h => h) (Or.inl ⟨by rfl, ?_⟩) (by assumption) ?_
        rotate_left 1
        · (intro w hSw; (try dsimp only at hSw); go_simp; first | done | with_reducible rfl)
        try simp only [Act.put, List.setIfInBounds_toArray, List.set_cons_zero, List.set_cons_succ]
        refine wpAnyH_take (i := 3) (oi := { dst := some 49, op := Go.Op.load 24 (Go.Operand.tmp 2), type := 24, pos := "law.go:32", after := #[], guard := none }) (v := ?_) rfl (by kernel_rfl) (by kernel_rfl) (by kernel_rfl) (fun _ _ _ h => h) (Or.inl ⟨by rfl, ?_⟩) (by assumption) ?_
        rotate_left 1
        · (intro w hSw; (try dsimp only at hSw); go_simp; first | done | with_reducible rfl)
        try simp only [Act.put, List.setIfInBounds_toArray, List.set_cons_zero, List.set_cons_succ]
        refine wpAnyH_take (i := 4) (oi := { dst := some 50, op := Go.Op.move (Go.Operand.tmp 1), type := 5, pos := "law.go:32", after := #[], guard := none }) (v := ?_) rfl (by kernel_rfl) (by kernel_rfl) (by kernel_rfl) (fun _ _ _ h => h) (Or.inl ⟨by rfl, ?_⟩) (by assumption) ?_
        rotate_left 1
        · (intro w hSw; (try dsimp only at hSw); go_simp; first | done | with_reducible rfl)
        try simp only [Act.put, List.setIfInBounds_toArray, List.set_cons_zero, List.set_cons_succ]
        refine wpAnyH_take (i := 5) (oi := { dst := some 51, op := Go.Op.convert 5 3 (Go.Operand.tmp 50), type := 3, pos := "law.go:32", after := #[{ on := 4, ground := Go.Ground.data }], guard := none }) (v := ?_) rfl (by kernel_rfl) (by kernel_rfl) (by kernel_rfl) (fun _ _ _ h => h) (Or.inl ⟨by rfl, ?_⟩) (by assumption) ?_
        rotate_left 1
        · (intro w hSw; (try dsimp only at hSw); go_simp; first | done | with_reducible rfl)
        try simp only [Act.put, List.setIfInBounds_toArray, List.set_cons_zero, List.set_cons_succ]
        refine wpAnyH_ready (rs := [2]) (by kernel_rfl) (by simp) ?_
        refine AllReadyH.cons (o := { dst := some 48, op := Go.Op.call { callee := Go.Callee.value (Go.Operand.func 12), args := #[Go.Operand.tmp 46, Go.Operand.tmp 47], argTypes := #[24, 5] }, type := 4, pos := "law.go:32", after := #[{ on := 0, ground := Go.Ground.data }, { on := 1, ground := Go.Ground.data }], guard := none }) rfl (fun K hK => ?_) AllReadyH.nil
        go_simp
        (go_at_call 12; refine (has_is HC.out.1 hs hb _).mono ?_; rintro e w1 ⟨rfl, q⟩)
        refine hK.out _ _ ?_ (fun hHeld' => ?_)
        · exact HS.out _ (Keep.trans (And.left hHeld) q)
        clear hK K hHeld
        have hHeld := hHeld'
        clear hHeld'
        try simp only [Act.put, List.setIfInBounds_toArray, List.set_cons_zero, List.set_cons_succ]
        refine wpAnyH_ready (rs := [6]) (by kernel_rfl) (by simp) ?_
        refine AllReadyH.cons (o := { dst := some 52, op := Go.Op.call { callee := Go.Callee.value (Go.Operand.func 13), args := #[Go.Operand.tmp 49, Go.Operand.tmp 51], argTypes := #[24, 3] }, type := 4, pos := "law.go:32", after := #[{ on := 3, ground := Go.Ground.data }, { on := 5, ground := Go.Ground.data }, { on := 2, ground := Go.Ground.chain }], guard := none }) rfl (fun K hK => ?_) AllReadyH.nil
        go_simp
        (go_at_call 13; refine (rhas_is HC.out.1 hb _).mono ?_; rintro e w1 ⟨rfl, q⟩)
        refine hK.out _ _ ?_ (fun hHeld' => ?_)
        · exact HS.out _ (Keep.trans (And.left hHeld) q)
        clear hK K hHeld
        have hHeld := hHeld'
        clear hHeld'
        try simp only [Act.put, List.setIfInBounds_toArray, List.set_cons_zero, List.set_cons_succ]
        refine wpAnyH_take (i := 7) (oi := { dst := some 53, op := Go.Op.binOp Go.BinOp.eql 4 (Go.Operand.tmp 48) (Go.Operand.tmp 52) 4, type := 4, pos := "law.go:32", after := #[{ on := 2, ground := Go.Ground.data }, { on := 6, ground := Go.Ground.data }], guard := none }) (v := ?_) rfl (by kernel_rfl) (by kernel_rfl) (by kernel_rfl) (fun _ _ _ h => h) (Or.inl ⟨by rfl, ?_⟩) (by assumption) ?_
        rotate_left 1
        · (intro w hSw; (try dsimp only at hSw); go_simp; first | done | with_reducible rfl)
        try simp only [Act.put, List.setIfInBounds_toArray, List.set_cons_zero, List.set_cons_succ]
        refine wpAnyH_take (i := 8) (oi := { dst := some 54, op := Go.Op.move (Go.Operand.tmp 53), type := 4, pos := "law.go:32", after := #[{ on := 7, ground := Go.Ground.data }, { on := 6, ground := Go.Ground.chain }], guard := none }) (v := ?_) rfl (by kernel_rfl) (by kernel_rfl) (by kernel_rfl) (fun _ _ _ h => h) (Or.inl ⟨by rfl, ?_⟩) (by assumption) ?_
        rotate_left 1
        · (intro w hSw; (try dsimp only at hSw); go_simp; first | done | with_reducible rfl)
        try simp only [Act.put, List.setIfInBounds_toArray, List.set_cons_zero, List.set_cons_succ]
        refine wpAnyH_take (i := 9) (oi := { dst := some 55, op := Go.Op.load 24 (Go.Operand.tmp 2), type := 24, pos := "law.go:32", after := #[{ on := 8, ground := Go.Ground.guard }], guard := some (8, true) }) (v := ?_) rfl (by kernel_rfl) (by kernel_rfl) (by kernel_rfl) (fun _ _ _ h => h) (Or.inl ⟨by rfl, ?_⟩) (by assumption) ?_
        rotate_left 1
        · (intro w hSw; (try dsimp only at hSw); go_simp; first | done | with_reducible rfl)
        try simp only [Act.put, List.setIfInBounds_toArray, List.set_cons_zero, List.set_cons_succ]
        refine wpAnyH_take (i := 11) (oi := { dst := some 57, op := Go.Op.move (Go.Operand.tmp 5), type := 25, pos := "law.go:32", after := #[{ on := 8, ground := Go.Ground.guard }], guard := some (8, true) }) (v := ?_) rfl (by kernel_rfl) (by kernel_rfl) (by kernel_rfl) (fun _ _ _ h => h) (Or.inl ⟨by rfl, ?_⟩) (by assumption) ?_
        rotate_left 1
        · (intro w hSw; (try dsimp only at hSw); go_simp; first | done | with_reducible rfl)
        try simp only [Act.put, List.setIfInBounds_toArray, List.set_cons_zero, List.set_cons_succ]
        refine wpAnyH_take (i := 12) (oi := { dst := some 58, op := Go.Op.call { callee := Go.Callee.builtin Go.Builtin.len, args := #[Go.Operand.tmp 57], argTypes := #[25] }, type := 3, pos := "law.go:32", after := #[{ on := 11, ground := Go.Ground.data }, { on := 8, ground := Go.Ground.guard }], guard := some (8, true) }) (v := ?_) rfl (by kernel_rfl) (by kernel_rfl) (by kernel_rfl) (fun _ _ _ h => h) (Or.inl ⟨by rfl, ?_⟩) (by assumption) ?_
        rotate_left 1
        · (intro w hSw; (try dsimp only at hSw); go_simp; first | done | with_reducible rfl)
        try simp only [Act.put, List.setIfInBounds_toArray, List.set_cons_zero, List.set_cons_succ]
        refine wpAnyH_ready (rs := [10]) (by kernel_rfl) (by simp) ?_
        refine AllReadyH.cons (o := { dst := some 56, op := Go.Op.call { callee := Go.Callee.value (Go.Operand.func 14), args := #[Go.Operand.tmp 55], argTypes := #[24] }, type := 3, pos := "law.go:32", after := #[{ on := 9, ground := Go.Ground.data }, { on := 8, ground := Go.Ground.chain }, { on := 8, ground := Go.Ground.guard }], guard := some (8, true) }) rfl (fun K hK => ?_) AllReadyH.nil
        go_simp
        (go_at_call 14; refine (count_any s hs _).mono ?_; rintro e w1 ⟨rfl, q⟩)
        refine hK.out _ _ ?_ (fun hHeld' => ?_)
        · exact HS.out _ (Keep.trans (And.left hHeld) q)
        clear hK K hHeld
        have hHeld := hHeld'
        clear hHeld'
        try simp only [Act.put, List.setIfInBounds_toArray, List.set_cons_zero, List.set_cons_succ]
        refine wpAnyH_take (i := 13) (oi := { dst := some 59, op := Go.Op.binOp Go.BinOp.eql 3 (Go.Operand.tmp 56) (Go.Operand.tmp 58) 3, type := 4, pos := "law.go:32", after := #[{ on := 10, ground := Go.Ground.data }, { on := 12, ground := Go.Ground.data }, { on := 8, ground := Go.Ground.guard }], guard := some (8, true) }) (v := ?_) rfl (by kernel_rfl) (by kernel_rfl) (by kernel_rfl) (fun _ _ _ h => h) (Or.inl ⟨by rfl, ?_⟩) (by assumption) ?_
        rotate_left 1
        · (intro w hSw; (try dsimp only at hSw); go_simp; first | done | with_reducible rfl)
        try simp only [Act.put, List.setIfInBounds_toArray, List.set_cons_zero, List.set_cons_succ]
        refine wpAnyH_take (i := 14) (oi := { dst := some 60, op := Go.Op.pick (Go.Operand.tmp 54) (Go.Operand.tmp 59) (Go.Operand.const (Go.Value.bool false)), type := 4, pos := "law.go:32", after := #[{ on := 8, ground := Go.Ground.data }, { on := 13, ground := Go.Ground.data }], guard := none }) (v := ?_) rfl (by kernel_rfl) (by kernel_rfl) (by kernel_rfl) (fun _ _ _ h => h) (Or.inl ⟨by rfl, ?_⟩) (by assumption) ?_
        rotate_left 1
        · (intro w hSw; (try dsimp only at hSw); go_simp; first | done | with_reducible rfl)
        try simp only [Act.put, List.setIfInBounds_toArray, List.set_cons_zero, List.set_cons_succ]
        refine wpAnyH_take (i := 15) (oi := { dst := some 61, op := Go.Op.move (Go.Operand.tmp 60), type := 4, pos := "law.go:32", after := #[{ on := 14, ground := Go.Ground.data }, { on := 10, ground := Go.Ground.chain }], guard := none }) (v := ?_) rfl (by kernel_rfl) (by kernel_rfl) (by kernel_rfl) (fun _ _ _ h => h) (Or.inl ⟨by rfl, ?_⟩) (by assumption) ?_
        rotate_left 1
        · (intro w hSw; (try dsimp only at hSw); go_simp; first | done | with_reducible rfl)
        try simp only [Act.put, List.setIfInBounds_toArray, List.set_cons_zero, List.set_cons_succ]
        refine wpAnyH_take (i := 16) (oi := { dst := some 62, op := Go.Op.load 24 (Go.Operand.tmp 2), type := 24, pos := "law.go:32", after := #[{ on := 15, ground := Go.Ground.guard }], guard := some (15, true) }) (v := ?_) rfl (by kernel_rfl) (by kernel_rfl) (by kernel_rfl) (fun _ _ _ h => h) (Or.inl ⟨by rfl, ?_⟩) (by assumption) ?_
        rotate_left 1
        · (intro w hSw; (try dsimp only at hSw); go_simp; first | done | with_reducible rfl)
        try simp only [Act.put, List.setIfInBounds_toArray, List.set_cons_zero, List.set_cons_succ]
        refine wpAnyH_take (i := 18) (oi := { dst := some 64, op := Go.Op.move (Go.Operand.tmp 6), type := 3, pos := "law.go:32", after := #[{ on := 15, ground := Go.Ground.guard }], guard := some (15, true) }) (v := ?_) rfl (by kernel_rfl) (by kernel_rfl) (by kernel_rfl) (fun _ _ _ h => h) (Or.inl ⟨by rfl, ?_⟩) (by assumption) ?_
        rotate_left 1
        · (intro w hSw; (try dsimp only at hSw); go_simp; first | done | with_reducible rfl)
        try simp only [Act.put, List.setIfInBounds_toArray, List.set_cons_zero, List.set_cons_succ]
        refine wpAnyH_ready (rs := [17]) (by kernel_rfl) (by simp) ?_
        refine AllReadyH.cons (o := { dst := some 63, op := Go.Op.call { callee := Go.Callee.value (Go.Operand.func 15), args := #[Go.Operand.tmp 62], argTypes := #[24] }, type := 3, pos := "law.go:32", after := #[{ on := 16, ground := Go.Ground.data }, { on := 15, ground := Go.Ground.chain }, { on := 15, ground := Go.Ground.guard }], guard := some (15, true) }) rfl (fun K hK => ?_) AllReadyH.nil
        go_simp
        (go_at_call 15; refine (least_is HC.out.2.1 hs _ (HT.out.keep (HW.out.trans (And.left hHeld)))).mono ?_; rintro e w1 ⟨rfl, q⟩)
        refine hK.out _ _ ?_ (fun hHeld' => ?_)
        · exact HS.out _ (Keep.trans (And.left hHeld) q)
        clear hK K hHeld
        have hHeld := hHeld'
        clear hHeld'
        try simp only [Act.put, List.setIfInBounds_toArray, List.set_cons_zero, List.set_cons_succ]
        refine wpAnyH_take (i := 19) (oi := { dst := some 65, op := Go.Op.binOp Go.BinOp.eql 3 (Go.Operand.tmp 63) (Go.Operand.tmp 64) 3, type := 4, pos := "law.go:32", after := #[{ on := 17, ground := Go.Ground.data }, { on := 18, ground := Go.Ground.data }, { on := 15, ground := Go.Ground.guard }], guard := some (15, true) }) (v := ?_) rfl (by kernel_rfl) (by kernel_rfl) (by kernel_rfl) (fun _ _ _ h => h) (Or.inl ⟨by rfl, ?_⟩) (by assumption) ?_
        rotate_left 1
        · (intro w hSw; (try dsimp only at hSw); go_simp; first | done | with_reducible rfl)
        try simp only [Act.put, List.setIfInBounds_toArray, List.set_cons_zero, List.set_cons_succ]
        refine wpAnyH_take (i := 20) (oi := { dst := some 66, op := Go.Op.pick (Go.Operand.tmp 61) (Go.Operand.tmp 65) (Go.Operand.const (Go.Value.bool false)), type := 4, pos := "law.go:32", after := #[{ on := 15, ground := Go.Ground.data }, { on := 19, ground := Go.Ground.data }], guard := none }) (v := ?_) rfl (by kernel_rfl) (by kernel_rfl) (by kernel_rfl) (fun _ _ _ h => h) (Or.inl ⟨by rfl, ?_⟩) (by assumption) ?_
        rotate_left 1
        · (intro w hSw; (try dsimp only at hSw); go_simp; first | done | with_reducible rfl)
        try simp only [Act.put, List.setIfInBounds_toArray, List.set_cons_zero, List.set_cons_succ]
        refine wpAnyH_take (i := 21) (oi := { dst := some 67, op := Go.Op.move (Go.Operand.tmp 66), type := 4, pos := "law.go:32", after := #[{ on := 20, ground := Go.Ground.data }, { on := 17, ground := Go.Ground.chain }], guard := none }) (v := ?_) rfl (by kernel_rfl) (by kernel_rfl) (by kernel_rfl) (fun _ _ _ h => h) (Or.inl ⟨by rfl, ?_⟩) (by assumption) ?_
        rotate_left 1
        · (intro w hSw; (try dsimp only at hSw); go_simp; first | done | with_reducible rfl)
        try simp only [Act.put, List.setIfInBounds_toArray, List.set_cons_zero, List.set_cons_succ]
        refine wpAnyH_take (i := 22) (oi := { dst := some 68, op := Go.Op.load 24 (Go.Operand.tmp 2), type := 24, pos := "law.go:32", after := #[{ on := 21, ground := Go.Ground.guard }], guard := some (21, true) }) (v := ?_) rfl (by kernel_rfl) (by kernel_rfl) (by kernel_rfl) (fun _ _ _ h => h) (Or.inl ⟨by rfl, ?_⟩) (by assumption) ?_
        rotate_left 1
        · (intro w hSw; (try dsimp only at hSw); go_simp; first | done | with_reducible rfl)
        try simp only [Act.put, List.setIfInBounds_toArray, List.set_cons_zero, List.set_cons_succ]
        refine wpAnyH_take (i := 24) (oi := { dst := some 70, op := Go.Op.load 24 (Go.Operand.tmp 2), type := 24, pos := "law.go:32", after := #[{ on := 21, ground := Go.Ground.guard }], guard := some (21, true) }) (v := ?_) rfl (by kernel_rfl) (by kernel_rfl) (by kernel_rfl) (fun _ _ _ h => h) (Or.inl ⟨by rfl, ?_⟩) (by assumption) ?_
        rotate_left 1
        · (intro w hSw; (try dsimp only at hSw); go_simp; first | done | with_reducible rfl)
        try simp only [Act.put, List.setIfInBounds_toArray, List.set_cons_zero, List.set_cons_succ]
        refine wpAnyH_ready (rs := [23]) (by kernel_rfl) (by simp) ?_
        refine AllReadyH.cons (o := { dst := some 69, op := Go.Op.call { callee := Go.Callee.value (Go.Operand.func 16), args := #[Go.Operand.tmp 68], argTypes := #[24] }, type := 9, pos := "law.go:32", after := #[{ on := 22, ground := Go.Ground.data }, { on := 21, ground := Go.Ground.chain }, { on := 21, ground := Go.Ground.guard }], guard := some (21, true) }) rfl (fun K hK => ?_) AllReadyH.nil
        go_simp
        (go_at_call 16; refine (text_is HC.out.2.2.1 hs _ (HT.out.keep (HW.out.trans (And.left hHeld)))).mono ?_; rintro e w1 ⟨rfl, q⟩)
        refine hK.out _ _ ?_ (fun hHeld' => ?_)
        · exact HS.out _ (Keep.trans (And.left hHeld) q)
        clear hK K hHeld
        have hHeld := hHeld'
        clear hHeld'
        try simp only [Act.put, List.setIfInBounds_toArray, List.set_cons_zero, List.set_cons_succ]
        refine wpAnyH_ready (rs := [25]) (by kernel_rfl) (by simp) ?_
        refine AllReadyH.cons (o := { dst := some 71, op := Go.Op.call { callee := Go.Callee.value (Go.Operand.func 17), args := #[Go.Operand.tmp 70], argTypes := #[24] }, type := 9, pos := "law.go:32", after := #[{ on := 24, ground := Go.Ground.data }, { on := 23, ground := Go.Ground.chain }, { on := 21, ground := Go.Ground.guard }], guard := some (21, true) }) rfl (fun K hK => ?_) AllReadyH.nil
        go_simp
        (go_at_call 17; refine (rtext_is HC.out.2.2.1 hs _).mono ?_; rintro e w1 ⟨rfl, q⟩)
        refine hK.out _ _ ?_ (fun hHeld' => ?_)
        · exact HS.out _ (Keep.trans (And.left hHeld) q)
        clear hK K hHeld
        have hHeld := hHeld'
        clear hHeld'
        try simp only [Act.put, List.setIfInBounds_toArray, List.set_cons_zero, List.set_cons_succ]
        refine wpAnyH_take (i := 26) (oi := { dst := some 72, op := Go.Op.binOp Go.BinOp.eql 9 (Go.Operand.tmp 69) (Go.Operand.tmp 71) 9, type := 4, pos := "law.go:32", after := #[{ on := 23, ground := Go.Ground.data }, { on := 25, ground := Go.Ground.data }, { on := 21, ground := Go.Ground.guard }], guard := some (21, true) }) (v := ?_) rfl (by kernel_rfl) (by kernel_rfl) (by kernel_rfl) (fun _ _ _ h => h) (Or.inl ⟨by rfl, ?_⟩) (by assumption) ?_
        rotate_left 1
        · (intro w hSw; (try dsimp only at hSw); go_simp; first | done | with_reducible rfl)
        try simp only [Act.put, List.setIfInBounds_toArray, List.set_cons_zero, List.set_cons_succ]
        refine wpAnyH_take (i := 27) (oi := { dst := some 73, op := Go.Op.pick (Go.Operand.tmp 67) (Go.Operand.tmp 72) (Go.Operand.const (Go.Value.bool false)), type := 4, pos := "law.go:32", after := #[{ on := 21, ground := Go.Ground.data }, { on := 26, ground := Go.Ground.data }], guard := none }) (v := ?_) rfl (by kernel_rfl) (by kernel_rfl) (by kernel_rfl) (fun _ _ _ h => h) (Or.inl ⟨by rfl, ?_⟩) (by assumption) ?_
        rotate_left 1
        · (intro w hSw; (try dsimp only at hSw); go_simp; first | done | with_reducible rfl)
        try simp only [Act.put, List.setIfInBounds_toArray, List.set_cons_zero, List.set_cons_succ]
        refine wpAnyH_take (i := 28) (oi := { dst := some 74, op := Go.Op.move (Go.Operand.tmp 73), type := 4, pos := "law.go:32", after := #[{ on := 27, ground := Go.Ground.data }, { on := 25, ground := Go.Ground.chain }], guard := none }) (v := ?_) rfl (by kernel_rfl) (by kernel_rfl) (by kernel_rfl) (fun _ _ _ h => h) (Or.inl ⟨by rfl, ?_⟩) (by assumption) ?_
        rotate_left 1
        · (intro w hSw; (try dsimp only at hSw); go_simp; first | done | with_reducible rfl)
        try simp only [Act.put, List.setIfInBounds_toArray, List.set_cons_zero, List.set_cons_succ]
        refine wpAnyH_take (i := 29) (oi := { dst := some 75, op := Go.Op.move (Go.Operand.tmp 1), type := 5, pos := "law.go:32", after := #[{ on := 28, ground := Go.Ground.guard }], guard := some (28, true) }) (v := ?_) rfl (by kernel_rfl) (by kernel_rfl) (by kernel_rfl) (fun _ _ _ h => h) (Or.inl ⟨by rfl, ?_⟩) (by assumption) ?_
        rotate_left 1
        · (intro w hSw; (try dsimp only at hSw); go_simp; first | done | with_reducible rfl)
        try simp only [Act.put, List.setIfInBounds_toArray, List.set_cons_zero, List.set_cons_succ]
        refine wpAnyH_take (i := 31) (oi := { dst := some 77, op := Go.Op.move (Go.Operand.tmp 1), type := 5, pos := "law.go:32", after := #[{ on := 28, ground := Go.Ground.guard }], guard := some (28, true) }) (v := ?_) rfl (by kernel_rfl) (by kernel_rfl) (by kernel_rfl) (fun _ _ _ h => h) (Or.inl ⟨by rfl, ?_⟩) (by assumption) ?_
        rotate_left 1
        · (intro w hSw; (try dsimp only at hSw); go_simp; first | done | with_reducible rfl)
        try simp only [Act.put, List.setIfInBounds_toArray, List.set_cons_zero, List.set_cons_succ]
        refine wpAnyH_take (i := 32) (oi := { dst := some 78, op := Go.Op.convert 5 3 (Go.Operand.tmp 77), type := 3, pos := "law.go:32", after := #[{ on := 31, ground := Go.Ground.data }, { on := 28, ground := Go.Ground.guard }], guard := some (28, true) }) (v := ?_) rfl (by kernel_rfl) (by kernel_rfl) (by kernel_rfl) (fun _ _ _ h => h) (Or.inl ⟨by rfl, ?_⟩) (by assumption) ?_
        rotate_left 1
        · (intro w hSw; (try dsimp only at hSw); go_simp; first | done | with_reducible rfl)
        try simp only [Act.put, List.setIfInBounds_toArray, List.set_cons_zero, List.set_cons_succ]
        refine wpAnyH_ready (rs := [30]) (by kernel_rfl) (by simp) ?_
        refine AllReadyH.cons (o := { dst := some 76, op := Go.Op.call { callee := Go.Callee.value (Go.Operand.func 18), args := #[Go.Operand.tmp 75], argTypes := #[5] }, type := 9, pos := "law.go:32", after := #[{ on := 29, ground := Go.Ground.data }, { on := 28, ground := Go.Ground.chain }, { on := 28, ground := Go.Ground.guard }], guard := some (28, true) }) rfl (fun K hK => ?_) AllReadyH.nil
        go_simp
        (go_at_call 18; refine (esc_is HC.out.2.2.2 hb _).mono ?_; rintro e w1 ⟨rfl, q⟩)
        refine hK.out _ _ ?_ (fun hHeld' => ?_)
        · exact HS.out _ (Keep.trans (And.left hHeld) q)
        clear hK K hHeld
        have hHeld := hHeld'
        clear hHeld'
        try simp only [Act.put, List.setIfInBounds_toArray, List.set_cons_zero, List.set_cons_succ]
        refine wpAnyH_ready (rs := [33]) (by kernel_rfl) (by simp) ?_
        refine AllReadyH.cons (o := { dst := some 79, op := Go.Op.call { callee := Go.Callee.value (Go.Operand.func 19), args := #[Go.Operand.tmp 78], argTypes := #[3] }, type := 9, pos := "law.go:32", after := #[{ on := 32, ground := Go.Ground.data }, { on := 30, ground := Go.Ground.chain }, { on := 28, ground := Go.Ground.guard }], guard := some (28, true) }) rfl (fun K hK => ?_) AllReadyH.nil
        go_simp
        (go_at_call 19; refine (resc_is HC.out.2.2.2 hb _).mono ?_; rintro e w1 ⟨rfl, q⟩)
        refine hK.out _ _ ?_ (fun hHeld' => ?_)
        · exact HS.out _ (Keep.trans (And.left hHeld) q)
        clear hK K hHeld
        have hHeld := hHeld'
        clear hHeld'
        try simp only [Act.put, List.setIfInBounds_toArray, List.set_cons_zero, List.set_cons_succ]
        refine wpAnyH_take (i := 34) (oi := { dst := some 80, op := Go.Op.binOp Go.BinOp.eql 9 (Go.Operand.tmp 76) (Go.Operand.tmp 79) 9, type := 4, pos := "law.go:32", after := #[{ on := 30, ground := Go.Ground.data }, { on := 33, ground := Go.Ground.data }, { on := 28, ground := Go.Ground.guard }], guard := some (28, true) }) (v := ?_) rfl (by kernel_rfl) (by kernel_rfl) (by kernel_rfl) (fun _ _ _ h => h) (Or.inl ⟨by rfl, ?_⟩) (by assumption) ?_
        rotate_left 1
        · (intro w hSw; (try dsimp only at hSw); go_simp; first | done | with_reducible rfl)
        try simp only [Act.put, List.setIfInBounds_toArray, List.set_cons_zero, List.set_cons_succ]
        refine wpAnyH_take (i := 35) (oi := { dst := some 81, op := Go.Op.pick (Go.Operand.tmp 74) (Go.Operand.tmp 80) (Go.Operand.const (Go.Value.bool false)), type := 4, pos := "law.go:32", after := #[{ on := 28, ground := Go.Ground.data }, { on := 34, ground := Go.Ground.data }], guard := none }) (v := ?_) rfl (by kernel_rfl) (by kernel_rfl) (by kernel_rfl) (fun _ _ _ h => h) (Or.inl ⟨by rfl, ?_⟩) (by assumption) ?_
        rotate_left 1
        · (intro w hSw; (try dsimp only at hSw); go_simp; first | done | with_reducible rfl)
        try simp only [Act.put, List.setIfInBounds_toArray, List.set_cons_zero, List.set_cons_succ]
        refine wpAnyH_take (i := 36) (oi := { dst := some 4, op := Go.Op.assign (Go.Operand.tmp 81), type := 4, pos := "law.go:32", after := #[{ on := 35, ground := Go.Ground.data }, { on := 33, ground := Go.Ground.chain }, { on := 0, ground := Go.Ground.phase }, { on := 1, ground := Go.Ground.phase }, { on := 2, ground := Go.Ground.phase }, { on := 3, ground := Go.Ground.phase }, { on := 4, ground := Go.Ground.phase }, { on := 5, ground := Go.Ground.phase }, { on := 6, ground := Go.Ground.phase }, { on := 7, ground := Go.Ground.phase }, { on := 8, ground := Go.Ground.phase }, { on := 9, ground := Go.Ground.phase }, { on := 10, ground := Go.Ground.phase }, { on := 11, ground := Go.Ground.phase }, { on := 12, ground := Go.Ground.phase }, { on := 13, ground := Go.Ground.phase }, { on := 14, ground := Go.Ground.phase }, { on := 15, ground := Go.Ground.phase }, { on := 16, ground := Go.Ground.phase }, { on := 17, ground := Go.Ground.phase }, { on := 18, ground := Go.Ground.phase }, { on := 19, ground := Go.Ground.phase }, { on := 20, ground := Go.Ground.phase }, { on := 21, ground := Go.Ground.phase }, { on := 22, ground := Go.Ground.phase }, { on := 23, ground := Go.Ground.phase }, { on := 24, ground := Go.Ground.phase }, { on := 25, ground := Go.Ground.phase }, { on := 26, ground := Go.Ground.phase }, { on := 27, ground := Go.Ground.phase }, { on := 28, ground := Go.Ground.phase }, { on := 29, ground := Go.Ground.phase }, { on := 30, ground := Go.Ground.phase }, { on := 31, ground := Go.Ground.phase }, { on := 32, ground := Go.Ground.phase }, { on := 33, ground := Go.Ground.phase }, { on := 34, ground := Go.Ground.phase }, { on := 35, ground := Go.Ground.phase }], guard := none }) (v := ?_) rfl (by kernel_rfl) (by kernel_rfl) (by kernel_rfl) (fun _ _ _ h => h) (Or.inl ⟨by rfl, ?_⟩) (by assumption) ?_
        rotate_left 1
        · (intro w hSw; (try dsimp only at hSw); go_simp; first | done | with_reducible rfl)
        try simp only [Act.put, List.setIfInBounds_toArray, List.set_cons_zero, List.set_cons_succ]
        refine wpAnyH_done (by kernel_rfl) ?_ _
        refine NoPanic.normal ?_
        go_wp2
        go_ret
        exact ⟨rfl, (HW.out.trans (And.left hHeld)).below (Nat.le_refl _) (fun _ _ h => h)⟩
end Go.Proofs.YtdiegmejkipacaaDoor.BytesTell
