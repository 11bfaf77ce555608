/- ExpandSame: the walk. -/
import Derived.Test.YthcjfgfbeollpaaKE50
import Derived.Test.YthcjfgfbeollpaaKE29
import Derived.Test.YthcjfgfbeollpaaKE27
import Derived.Test.YthcjfgfbeollpaaKE20
import Derived.Test.YthcjfgfbeollpaaKE33
import Derived.Test.YthcjfgfbeollpaaKE39
import Derived.Test.YthcjfgfbeollpaaKE06
import Derived.Test.YthcjfgfbeollpaaKE47
import Derived.Deep.RegionHeld3
import Derived.Test.YthcjfgfbeollpaaKE49
import Derived.Test.YthcjfgfbeollpaaKE09
import Derived.Test.YthcjfgfbeollpaaRows
import Derived.JoinedCond
namespace Go.Proofs.Ythcjfgfbeollpaa.P13
open Go.RowKit Go.Proofs.Ythcjfgfbeollpaa.Base Go.Proofs.Ythcjfgfbeollpaa.Bytes Go.Proofs.Ythcjfgfbeollpaa.P07 Go.Proofs.Ythcjfgfbeollpaa.P08 Go.Proofs.Ythcjfgfbeollpaa.P09 Go.Proofs.Ythcjfgfbeollpaa.P10 Go.Proofs.Ythcjfgfbeollpaa.P11 Go.Proofs.Ythcjfgfbeollpaa.IL
open Go.Proofs.Ythcjfgfbeollpaa.Sets (ST)

theorem drawn13 {w w' : World} (h : Drawn w w') : Keep (fun _ => False) w w' := by
  obtain ⟨k, rfl⟩ := h
  exact (Keep.refl _ _).drewN k
set_option maxRecDepth 100000 in
set_option maxHeartbeats 16000000 in
theorem law_same (t : T) (a : Option Addr) (c : Nat) (w : World) (hta : Lie w (fun _ => True) a t.subs) (hcl : t.subs.length ≤ c) (ht : cnt t ≤ 1000000000) (hst : SOk t) (s : List UInt8) :
    Calls Try.prog 4 #[nodeV t a c, .string ⟨s.toArray⟩] w fun e w' => e = .returned (.bool true) ∧ Keep (fun _ => False) w w' := by
  have q := (Keep.refl (fun _ => False) w).alloc (.cells (ncells t a c) 27)
  have H0 := Lib.hid (And.intro q (show Nd _ w.heap.size t a c from ⟨At.new w _ _, hta.keepF q, hcl⟩))
  have HCT := Lib.hid (And.intro ht hst)
  have hsz := P07.size_str s
  clear q hta hcl ht hst
  go_enter Try.func4, Try.ntmps4
  go_upto_region 1 with fail
  generalize (w.alloc (.cells (ncells t a c) 27)) = W0 at *
  generalize w.heap.size = n1 at *
  go_wp2_with fail
  refine (awake13 W0).mono ?_
  rintro e w1 ⟨rfl, q1⟩
  have H1 := Lib.hid (And.intro (H0.out.1.trans q1) (H0.out.2.keep q1))
  clear q1
  obtain ⟨x0, x1, x2, x3, x4, x5, x6, x7⟩ := (cells8 H1.out.2.cell).1
  go_wp2_with fail
  refine (few_any t HCT.out.1 a c w1 H1.out.2.lie).mono ?_
  rintro e w2 ⟨rfl, q2⟩
  have H2 := Lib.hid (And.intro (H1.out.1.trans q2) (H1.out.2.keep q2))
  clear q2 x0 x1 x2 x3 x4 x5 x6 x7
  obtain ⟨x0, x1, x2, x3, x4, x5, x6, x7⟩ := (cells8 H2.out.2.cell).1
  by_cases h1 : sz t ≤ 200
  case neg =>
    have g1 : decide (sz t ≤ 200) = false := decide_eq_false h1
    rw [g1]
    clear g1 h1
    go_wp2_with fail
    refine (awake13 w2).mono ?_
    rintro e w3 ⟨rfl, q3⟩
    have Q3 := Lib.hid (H2.out.1.trans q3)
    clear q3
    go_wp2_with fail
    go_ret
    exact ⟨rfl, Q3.out⟩
  have g1 : decide (sz t ≤ 200) = true := decide_eq_true h1
  rw [g1]
  have HF1 := Lib.hid (few_cnt h1)
  clear g1 h1
  by_cases hs20 : s.length ≤ 20
  case neg =>
    have hs21 : (20 : Int) < s.length := by omega
    go_wp2_with fail
    refine (awake13 w2).mono ?_
    rintro e w9 ⟨rfl, q9⟩
    have Q9 := Lib.hid (H2.out.1.trans q9)
    clear q9
    go_wp2_with fail
    go_ret
    exact ⟨rfl, Q9.out⟩
  have hs21 : ¬ (20 : Int) < s.length := by omega
  have hs22 : (s.length : Int) ≤ 20 := by omega
  go_wp2_with fail
  refine (fright_any t HCT.out.1 a c w2 H2.out.2.lie).mono ?_
  rintro e w3 ⟨rfl, q3⟩
  have H3 := Lib.hid (And.intro (H2.out.1.trans q3) (H2.out.2.keep q3))
  clear q3 x0 x1 x2 x3 x4 x5 x6 x7
  obtain ⟨x0, x1, x2, x3, x4, x5, x6, x7⟩ := (cells8 H3.out.2.cell).1
  cases h3 : rightB t with
  | false =>
    clear h3 x0 x1 x2 x3 x4 x5 x6 x7
    go_wp2_with fail
    refine (awake13 w3).mono ?_
    rintro e w9 ⟨rfl, q9⟩
    have Q9 := Lib.hid (H3.out.1.trans q9)
    clear q9
    go_wp2_with fail
    go_ret
    exact ⟨rfl, Q9.out⟩
  | true =>
  have hR := (rightB_iff HCT.out.2).1 h3
  by_cases h4 : wd t ≤ 400
  case neg =>
    have HP := Lib.hid (fun W (hL : Lie W (fun _ => True) a t.subs) => cplain_no t HCT.out.2 h3 rfl 400 11 (.inr ⟨rfl, rfl, by omega⟩) a c W hL)
    clear hR h4 h3
    go_wp2_with fail
    refine (HP.out w3 H3.out.2.lie).mono ?_
    rintro e w4 ⟨⟨ka, kc, rfl, -, -⟩, q4⟩
    have Q4 := Lib.hid ((H3.out.1.trans q4).alloc (.cells (ncells zT ka kc) 27))
    clear q4 x0 x1 x2 x3 x4 x5 x6 x7
    go_upto_region 4 with fail
    generalize (w4.alloc (.cells (ncells zT ka kc) 27)) = W5 at *
    generalize w4.heap.size = n5 at *
    go_wp2_with fail
    go_ret
    exact ⟨rfl, Q4.out⟩
  have hcp := pl_cnt hR (by omega)
  obtain ⟨e1, hE1⟩ := pl_rt hR
  have hms := pl_mat hR
  have hip := pl_isP hR
  obtain ⟨X, hX⟩ : ∃ X, plT t = X := ⟨_, rfl⟩
  rw [hX] at hcp hE1 hms hip
  obtain ⟨m, hm⟩ : ∃ m, wd t = m := ⟨_, rfl⟩
  have HP := Lib.hid (fun W (hL : Lie W (fun _ => True) a t.subs) => cplain_yes t hR (by have := HF1.out; omega) rfl 400 (by omega) hX a c W hL H3.out.2.le)
  have HWd0 := Lib.hid (fun W (hL : Lie W (fun _ => True) a t.subs) => fwide_any t 12 hR a c W hL)
  rw [hm] at HWd0 hcp h4
  have HEn := Lib.hid (fun (f : Nat) (hf : f ≤ s.length) => ends_same (s := s) hR hE1 hf (fun w => (hms w).symm))
  have HR := Lib.hid (And.intro hR (And.intro hE1 (And.intro hip hs20)))
  have hcx : cnt X ≤ 400 := by omega
  clear hR hms hE1 hip h3 hX hm
  go_wp2_with fail
  refine (HP.out w3 H3.out.2.lie).mono ?_
  rintro e w4 ⟨⟨xa, xc, rfl, hxc, hxl⟩, q4⟩
  have qa := (Keep.refl (fun _ => False) w4).alloc (.cells (ncells X xa xc) 27)
  have qq := q4.alloc (.cells (ncells X xa xc) 27)
  have H5 := Lib.hid (And.intro (H3.out.1.trans qq) (And.intro (H3.out.2.keep qq) (And.intro (Nd.new hxc hxl) ((zkeep hxl qa).mono (ok' := fun k => Zb (w4.alloc (.cells (ncells X xa xc) 27)) k) fun k hk => hk.2))))
  clear q4 qa qq hxc hxl x0 x1 x2 x3 x4 x5 x6 x7
  go_upto_region 4 with fail
  generalize (w4.alloc (.cells (ncells X xa xc) 27)) = W5 at *
  generalize w4.heap.size = n5 at *
  go_upto_region 6 with fail
  have HI1 := Lib.hid (fun (W : World) (q : Keep (fun _ => False) W5 W) => fisp_any X HR.out.2.2.1 xa xc W (H5.out.2.2.1.lie.keepF q))
  have HI2 := Lib.hid (fun (W : World) (q : Keep (fun _ => False) W5 W) => cisp_true X xa xc W ((H5.out.2.2.2.keepF q).mono fun k hk => hk.keep q (fun h => h)) H5.out.2.2.1.le HR.out.2.2.1 (by omega))
  have hz := fun (W : World) (q : Keep (fun _ => False) W5 W) => fsize_any X (by omega) xa xc W (H5.out.2.2.1.lie.keepF q)
  obtain ⟨N, hN⟩ : ∃ N, cnt X = N := ⟨_, rfl⟩
  rw [hN] at hz hcp hcx
  have HZ := Lib.hid hz
  have HWd := Lib.hid (fun (W : World) (q : Keep (fun _ => False) W5 W) => HWd0.out W (H5.out.2.1.lie.keepF q))
  have hcd : decide (m < (N : Int)) = false := decide_eq_false (by omega)
  have hs : ∀ W', Keep (fun _ => False) W5 W' → (fun w' => Keep (fun _ => False) W5 w' ∧ w'.cell? ⟨n1, 0, none⟩ = some (.int .i64 t.kind) ∧ w'.cell? ⟨n1, 1, none⟩ = some (.int .u64 t.set.x0) ∧ w'.cell? ⟨n1, 2, none⟩ = some (.int .u64 t.set.x1) ∧ w'.cell? ⟨n1, 3, none⟩ = some (.int .u64 t.set.x2) ∧ w'.cell? ⟨n1, 4, none⟩ = some (.int .u64 t.set.x3) ∧ w'.cell? ⟨n1, 5, none⟩ = some (.int .i64 t.mn) ∧ w'.cell? ⟨n1, 6, none⟩ = some (.int .i64 t.mx) ∧ w'.cell? ⟨n1, 7, none⟩ = some (.slice a t.subs.length c) ∧ w'.cell? ⟨n5, 0, none⟩ = some (.int .i64 X.kind) ∧ w'.cell? ⟨n5, 1, none⟩ = some (.int .u64 X.set.x0) ∧ w'.cell? ⟨n5, 2, none⟩ = some (.int .u64 X.set.x1) ∧ w'.cell? ⟨n5, 3, none⟩ = some (.int .u64 X.set.x2) ∧ w'.cell? ⟨n5, 4, none⟩ = some (.int .u64 X.set.x3) ∧ w'.cell? ⟨n5, 5, none⟩ = some (.int .i64 X.mn) ∧ w'.cell? ⟨n5, 6, none⟩ = some (.int .i64 X.mx) ∧ w'.cell? ⟨n5, 7, none⟩ = some (.slice xa X.subs.length xc)) W' := fun W' q => by
    obtain ⟨x0, x1, x2, x3, x4, x5, x6, x7⟩ := (cells8 (H5.out.2.1.cell.keep q (fun h => h))).1
    obtain ⟨y0, y1, y2, y3, y4, y5, y6, y7⟩ := (cells8 (H5.out.2.2.1.cell.keep q (fun h => h))).1
    exact ⟨q, x0, x1, x2, x3, x4, x5, x6, x7, y0, y1, y2, y3, y4, y5, y6, y7⟩
  have HS := Lib.hid hs
  clear hs hz hN hcp h4
  go_cut [49] (fun v wx => v = .bool false ∧ Keep (fun _ => False) W5 wx)
  case first =>
    · skip
      refine wp_region_noPanic ?_
      refine wp_region_held_drew (S := (fun w' => Keep (fun _ => False) W5 w' ∧ w'.cell? ⟨n1, 0, none⟩ = some (.int .i64 t.kind) ∧ w'.cell? ⟨n1, 1, none⟩ = some (.int .u64 t.set.x0) ∧ w'.cell? ⟨n1, 2, none⟩ = some (.int .u64 t.set.x1) ∧ w'.cell? ⟨n1, 3, none⟩ = some (.int .u64 t.set.x2) ∧ w'.cell? ⟨n1, 4, none⟩ = some (.int .u64 t.set.x3) ∧ w'.cell? ⟨n1, 5, none⟩ = some (.int .i64 t.mn) ∧ w'.cell? ⟨n1, 6, none⟩ = some (.int .i64 t.mx) ∧ w'.cell? ⟨n1, 7, none⟩ = some (.slice a t.subs.length c) ∧ w'.cell? ⟨n5, 0, none⟩ = some (.int .i64 X.kind) ∧ w'.cell? ⟨n5, 1, none⟩ = some (.int .u64 X.set.x0) ∧ w'.cell? ⟨n5, 2, none⟩ = some (.int .u64 X.set.x1) ∧ w'.cell? ⟨n5, 3, none⟩ = some (.int .u64 X.set.x2) ∧ w'.cell? ⟨n5, 4, none⟩ = some (.int .u64 X.set.x3) ∧ w'.cell? ⟨n5, 5, none⟩ = some (.int .i64 X.mn) ∧ w'.cell? ⟨n5, 6, none⟩ = some (.int .i64 X.mx) ∧ w'.cell? ⟨n5, 7, none⟩ = some (.slice xa X.subs.length xc))) (by kernel_rfl) ?_ (fun hHeld => ?_)
      · exact HS.out _ ((Keep.refl _ _).drew)
      refine wpAnyH_take (i := 0) (oi := { dst := some 35, op := Go.Op.load 27 (Go.Operand.tmp 5), type := 27, pos := "law.go:55", after := #[], guard := none }) (v := ?_) rfl (by kernel_rfl) (by kernel_rfl) (by kernel_rfl) (fun _ _ _ h => h) (Or.inl ⟨by rfl, ?_⟩) (by assumption) ?_
      rotate_left 1
      · (intro w hSw; (try dsimp only at hSw); go_simp; first | done | with_reducible rfl)
      try simp only [Act.put, List.setIfInBounds_toArray, List.set_cons_zero, List.set_cons_succ]
      refine wpAnyH_ready (rs := [1]) (by kernel_rfl) (by simp) ?_
      refine (AllReadyH.cons (o := { dst := some 36, op := Go.Op.call { callee := Go.Callee.value (Go.Operand.func 20), args := #[Go.Operand.tmp 35], argTypes := #[27] }, type := 4, pos := "law.go:55", after := #[{ on := 0, ground := Go.Ground.data }], guard := none }) rfl (fun K hK => ?_) AllReadyH.nil)
      go_simp
      (go_at_call 20; refine (HI1.out _ (And.left hHeld)).mono ?_; rintro e w2 ⟨rfl, q⟩)
      refine hK.out _ _ ?_ (fun hHeld' => ?_)
      · exact HS.out _ (Keep.trans (And.left hHeld) q)
      clear hK K hHeld
      have hHeld := hHeld'
      clear hHeld'
      try simp only [Act.put, List.setIfInBounds_toArray, List.set_cons_zero, List.set_cons_succ]
      refine wpAnyH_take (i := 2) (oi := { dst := some 37, op := Go.Op.unOp Go.UnOp.not 4 (Go.Operand.tmp 36), type := 4, pos := "law.go:55", after := #[{ on := 1, ground := Go.Ground.data }], guard := none }) (v := ?_) rfl (by kernel_rfl) (by kernel_rfl) (by kernel_rfl) (fun _ _ _ h => h) (Or.inl ⟨by rfl, ?_⟩) (by assumption) ?_
      rotate_left 1
      · (intro w hSw; (try dsimp only at hSw); go_simp; first | done | with_reducible rfl)
      try simp only [Act.put, List.setIfInBounds_toArray, List.set_cons_zero, List.set_cons_succ]
      refine wpAnyH_take (i := 3) (oi := { dst := some 38, op := Go.Op.move (Go.Operand.tmp 37), type := 4, pos := "law.go:55", after := #[{ on := 2, ground := Go.Ground.data }, { on := 1, ground := Go.Ground.chain }], guard := none }) (v := ?_) rfl (by kernel_rfl) (by kernel_rfl) (by kernel_rfl) (fun _ _ _ h => h) (Or.inl ⟨by rfl, ?_⟩) (by assumption) ?_
      rotate_left 1
      · (intro w hSw; (try dsimp only at hSw); go_simp; first | done | with_reducible rfl)
      try simp only [Act.put, List.setIfInBounds_toArray, List.set_cons_zero, List.set_cons_succ]
      refine wpAnyH_take (i := 4) (oi := { dst := some 39, op := Go.Op.load 27 (Go.Operand.tmp 5), type := 27, pos := "law.go:55", after := #[{ on := 3, ground := Go.Ground.guard }], guard := some (3, false) }) (v := ?_) rfl (by kernel_rfl) (by kernel_rfl) (by kernel_rfl) (fun _ _ _ h => h) (Or.inl ⟨by rfl, ?_⟩) (by assumption) ?_
      rotate_left 1
      · (intro w hSw; (try dsimp only at hSw); go_simp; first | done | with_reducible rfl)
      try simp only [Act.put, List.setIfInBounds_toArray, List.set_cons_zero, List.set_cons_succ]
      refine wpAnyH_ready (rs := [5]) (by kernel_rfl) (by simp) ?_
      refine (AllReadyH.cons (o := { dst := some 40, op := Go.Op.call { callee := Go.Callee.value (Go.Operand.func 21), args := #[Go.Operand.tmp 39], argTypes := #[27] }, type := 4, pos := "law.go:55", after := #[{ on := 4, ground := Go.Ground.data }, { on := 3, ground := Go.Ground.chain }, { on := 3, ground := Go.Ground.guard }], guard := some (3, false) }) rfl (fun K hK => ?_) AllReadyH.nil)
      go_simp
      (go_at_call 21; refine (HI2.out _ (And.left hHeld)).mono ?_; rintro e w2 ⟨rfl, q⟩)
      refine hK.out _ _ ?_ (fun hHeld' => ?_)
      · exact HS.out _ (Keep.trans (And.left hHeld) q)
      clear hK K hHeld
      have hHeld := hHeld'
      clear hHeld'
      try simp only [Act.put, List.setIfInBounds_toArray, List.set_cons_zero, List.set_cons_succ]
      refine wpAnyH_take (i := 6) (oi := { dst := some 41, op := Go.Op.unOp Go.UnOp.not 4 (Go.Operand.tmp 40), type := 4, pos := "law.go:55", after := #[{ on := 5, ground := Go.Ground.data }, { on := 3, ground := Go.Ground.guard }], guard := some (3, false) }) (v := ?_) rfl (by kernel_rfl) (by kernel_rfl) (by kernel_rfl) (fun _ _ _ h => h) (Or.inl ⟨by rfl, ?_⟩) (by assumption) ?_
      rotate_left 1
      · (intro w hSw; (try dsimp only at hSw); go_simp; first | done | with_reducible rfl)
      try simp only [Act.put, List.setIfInBounds_toArray, List.set_cons_zero, List.set_cons_succ]
      refine wpAnyH_take (i := 7) (oi := { dst := some 42, op := Go.Op.pick (Go.Operand.tmp 38) (Go.Operand.const (Go.Value.bool true)) (Go.Operand.tmp 41), type := 4, pos := "law.go:55", after := #[{ on := 3, ground := Go.Ground.data }, { on := 6, ground := Go.Ground.data }], guard := none }) (v := ?_) rfl (by kernel_rfl) (by kernel_rfl) (by kernel_rfl) (fun _ _ _ h => h) (Or.inl ⟨by rfl, ?_⟩) (by assumption) ?_
      rotate_left 1
      · (intro w hSw; (try dsimp only at hSw); go_simp; first | done | with_reducible rfl)
      try simp only [Act.put, List.setIfInBounds_toArray, List.set_cons_zero, List.set_cons_succ]
      refine wpAnyH_take (i := 8) (oi := { dst := some 43, op := Go.Op.move (Go.Operand.tmp 42), type := 4, pos := "law.go:55", after := #[{ on := 7, ground := Go.Ground.data }, { on := 5, ground := Go.Ground.chain }], guard := none }) (v := ?_) rfl (by kernel_rfl) (by kernel_rfl) (by kernel_rfl) (fun _ _ _ h => h) (Or.inl ⟨by rfl, ?_⟩) (by assumption) ?_
      rotate_left 1
      · (intro w hSw; (try dsimp only at hSw); go_simp; first | done | with_reducible rfl)
      try simp only [Act.put, List.setIfInBounds_toArray, List.set_cons_zero, List.set_cons_succ]
      refine wpAnyH_take (i := 9) (oi := { dst := some 44, op := Go.Op.load 27 (Go.Operand.tmp 5), type := 27, pos := "law.go:55", after := #[{ on := 8, ground := Go.Ground.guard }], guard := some (8, false) }) (v := ?_) rfl (by kernel_rfl) (by kernel_rfl) (by kernel_rfl) (fun _ _ _ h => h) (Or.inl ⟨by rfl, ?_⟩) (by assumption) ?_
      rotate_left 1
      · (intro w hSw; (try dsimp only at hSw); go_simp; first | done | with_reducible rfl)
      try simp only [Act.put, List.setIfInBounds_toArray, List.set_cons_zero, List.set_cons_succ]
      refine wpAnyH_take (i := 11) (oi := { dst := some 46, op := Go.Op.load 27 (Go.Operand.tmp 2), type := 27, pos := "law.go:55", after := #[{ on := 8, ground := Go.Ground.guard }], guard := some (8, false) }) (v := ?_) rfl (by kernel_rfl) (by kernel_rfl) (by kernel_rfl) (fun _ _ _ h => h) (Or.inl ⟨by rfl, ?_⟩) (by assumption) ?_
      rotate_left 1
      · (intro w hSw; (try dsimp only at hSw); go_simp; first | done | with_reducible rfl)
      try simp only [Act.put, List.setIfInBounds_toArray, List.set_cons_zero, List.set_cons_succ]
      refine wpAnyH_ready (rs := [10]) (by kernel_rfl) (by simp) ?_
      refine (AllReadyH.cons (o := { dst := some 45, op := Go.Op.call { callee := Go.Callee.value (Go.Operand.func 22), args := #[Go.Operand.tmp 44], argTypes := #[27] }, type := 3, pos := "law.go:55", after := #[{ on := 9, ground := Go.Ground.data }, { on := 8, ground := Go.Ground.chain }, { on := 8, ground := Go.Ground.guard }], guard := some (8, false) }) rfl (fun K hK => ?_) AllReadyH.nil)
      go_simp
      (go_at_call 22; refine (HZ.out _ (And.left hHeld)).mono ?_; rintro e w2 ⟨rfl, q⟩)
      refine hK.out _ _ ?_ (fun hHeld' => ?_)
      · exact HS.out _ (Keep.trans (And.left hHeld) q)
      clear hK K hHeld
      have hHeld := hHeld'
      clear hHeld'
      try simp only [Act.put, List.setIfInBounds_toArray, List.set_cons_zero, List.set_cons_succ]
      refine wpAnyH_ready (rs := [12]) (by kernel_rfl) (by simp) ?_
      refine (AllReadyH.cons (o := { dst := some 47, op := Go.Op.call { callee := Go.Callee.value (Go.Operand.func 18), args := #[Go.Operand.tmp 46], argTypes := #[27] }, type := 3, pos := "law.go:55", after := #[{ on := 11, ground := Go.Ground.data }, { on := 10, ground := Go.Ground.chain }, { on := 8, ground := Go.Ground.guard }], guard := some (8, false) }) rfl (fun K hK => ?_) AllReadyH.nil)
      go_simp
      (go_at_call 18; refine (HWd.out _ (And.left hHeld)).mono ?_; rintro e w2 ⟨rfl, q⟩)
      refine hK.out _ _ ?_ (fun hHeld' => ?_)
      · exact HS.out _ (Keep.trans (And.left hHeld) q)
      clear hK K hHeld
      have hHeld := hHeld'
      clear hHeld'
      try simp only [Act.put, List.setIfInBounds_toArray, List.set_cons_zero, List.set_cons_succ]
      refine wpAnyH_take (i := 13) (oi := { dst := some 48, op := Go.Op.binOp Go.BinOp.gtr 3 (Go.Operand.tmp 45) (Go.Operand.tmp 47) 3, type := 4, pos := "law.go:55", after := #[{ on := 10, ground := Go.Ground.data }, { on := 12, ground := Go.Ground.data }, { on := 8, ground := Go.Ground.guard }], guard := some (8, false) }) (v := ?_) rfl (by kernel_rfl) (by kernel_rfl) (by kernel_rfl) (fun _ _ _ h => h) (Or.inl ⟨by rfl, ?_⟩) (by assumption) ?_
      rotate_left 1
      · (intro w hSw; (try dsimp only at hSw); go_simp; first | done | with_reducible rfl)
      try simp only [Act.put, List.setIfInBounds_toArray, List.set_cons_zero, List.set_cons_succ]
      refine wpAnyH_take (i := 14) (oi := { dst := some 49, op := Go.Op.pick (Go.Operand.tmp 43) (Go.Operand.const (Go.Value.bool true)) (Go.Operand.tmp 48), type := 4, pos := "law.go:55", after := #[{ on := 8, ground := Go.Ground.data }, { on := 13, ground := Go.Ground.data }], guard := none }) (v := ?_) rfl (by kernel_rfl) (by kernel_rfl) (by kernel_rfl) (fun _ _ _ h => h) (Or.inl ⟨by rfl, ?_⟩) (by assumption) ?_
      rotate_left 1
      · (intro w hSw; (try dsimp only at hSw); go_simp; first | done | with_reducible rfl)
      try simp only [Act.put, List.setIfInBounds_toArray, List.set_cons_zero, List.set_cons_succ]
      refine wpAnyH_done (by kernel_rfl) ?_ _
      refine NoPanic.normal ?_
      rotate_left 1
      all_goals
        have HK := Lib.hid (And.left hHeld)
        clear hHeld
        go_wp2_with fail
        go_meet
        case rel => exact ⟨rfl, HK.out⟩
  case rest =>
    obtain ⟨rfl, hk6⟩ := hcut
    have K6 := Lib.hid hk6
    clear hk6 hcd hcx
    go_wp2_with fail
    go_loopg [53] (s.length + 1) (fun gg i wr => ∃ j : Nat, i = .int .i64 j ∧ j + gg = s.length + 1 ∧ Keep (fun _ => False) W5 wr)
    case atStart => exact ⟨0, rfl, by omega, K6.out⟩
    case round =>
      obtain ⟨j, rfl, hj, I⟩ := hrel
      have j0 : (0 : Int) ≤ j := by omega
      by_cases hlt : j < s.length + 1
      · have hlt' : (j : Int) < (s.length : Int) + 1 := by omega
        have hjs : j ≤ s.length := by omega
        have II := Lib.hid I
        have ha1 := fun (W : World) (q : Keep (fun _ => False) wr W) => fall_any t 12 HR.out.1 s (by omega) j hjs a c W (H5.out.2.1.lie.keepF (II.out.trans q))
        have ha2 := fun (W : World) (q : Keep (fun _ => False) wr W) => fall_any X e1 HR.out.2.1 s (by omega) j hjs xa xc W (H5.out.2.2.1.lie.keepF (II.out.trans q))
        rw [← HEn.out j hjs] at ha2
        have hle : (endsI s t j).length ≤ s.length + 1 := plc_length _ _
        obtain ⟨L1, hL1⟩ : ∃ L1, endsI s t j = L1 := ⟨_, rfl⟩
        rw [hL1] at ha1 ha2 hle
        have HA1 := Lib.hid ha1
        have HA2 := Lib.hid ha2
        have HLE := Lib.hid (And.intro trivial hle)
        have hs : ∀ W', Keep (fun _ => False) wr W' → (fun w' => Keep (fun _ => False) wr w' ∧ w'.cell? ⟨n1, 0, none⟩ = some (.int .i64 t.kind) ∧ w'.cell? ⟨n1, 1, none⟩ = some (.int .u64 t.set.x0) ∧ w'.cell? ⟨n1, 2, none⟩ = some (.int .u64 t.set.x1) ∧ w'.cell? ⟨n1, 3, none⟩ = some (.int .u64 t.set.x2) ∧ w'.cell? ⟨n1, 4, none⟩ = some (.int .u64 t.set.x3) ∧ w'.cell? ⟨n1, 5, none⟩ = some (.int .i64 t.mn) ∧ w'.cell? ⟨n1, 6, none⟩ = some (.int .i64 t.mx) ∧ w'.cell? ⟨n1, 7, none⟩ = some (.slice a t.subs.length c) ∧ w'.cell? ⟨n5, 0, none⟩ = some (.int .i64 X.kind) ∧ w'.cell? ⟨n5, 1, none⟩ = some (.int .u64 X.set.x0) ∧ w'.cell? ⟨n5, 2, none⟩ = some (.int .u64 X.set.x1) ∧ w'.cell? ⟨n5, 3, none⟩ = some (.int .u64 X.set.x2) ∧ w'.cell? ⟨n5, 4, none⟩ = some (.int .u64 X.set.x3) ∧ w'.cell? ⟨n5, 5, none⟩ = some (.int .i64 X.mn) ∧ w'.cell? ⟨n5, 6, none⟩ = some (.int .i64 X.mx) ∧ w'.cell? ⟨n5, 7, none⟩ = some (.slice xa X.subs.length xc)) W' := fun W' q => by
          obtain ⟨x0, x1, x2, x3, x4, x5, x6, x7⟩ := (cells8 (H5.out.2.1.cell.keep (II.out.trans q) (fun h => h))).1
          obtain ⟨y0, y1, y2, y3, y4, y5, y6, y7⟩ := (cells8 (H5.out.2.2.1.cell.keep (II.out.trans q) (fun h => h))).1
          exact ⟨q, x0, x1, x2, x3, x4, x5, x6, x7, y0, y1, y2, y3, y4, y5, y6, y7⟩
        have HS := Lib.hid hs
        clear hs ha1 ha2 hle hL1 I
        go_upto_region 11 with fail
        · skip
          refine wp_region_noPanic ?_
          refine wp_region_held_drew (S := (fun w' => Keep (fun _ => False) wr w' ∧ w'.cell? ⟨n1, 0, none⟩ = some (.int .i64 t.kind) ∧ w'.cell? ⟨n1, 1, none⟩ = some (.int .u64 t.set.x0) ∧ w'.cell? ⟨n1, 2, none⟩ = some (.int .u64 t.set.x1) ∧ w'.cell? ⟨n1, 3, none⟩ = some (.int .u64 t.set.x2) ∧ w'.cell? ⟨n1, 4, none⟩ = some (.int .u64 t.set.x3) ∧ w'.cell? ⟨n1, 5, none⟩ = some (.int .i64 t.mn) ∧ w'.cell? ⟨n1, 6, none⟩ = some (.int .i64 t.mx) ∧ w'.cell? ⟨n1, 7, none⟩ = some (.slice a t.subs.length c) ∧ w'.cell? ⟨n5, 0, none⟩ = some (.int .i64 X.kind) ∧ w'.cell? ⟨n5, 1, none⟩ = some (.int .u64 X.set.x0) ∧ w'.cell? ⟨n5, 2, none⟩ = some (.int .u64 X.set.x1) ∧ w'.cell? ⟨n5, 3, none⟩ = some (.int .u64 X.set.x2) ∧ w'.cell? ⟨n5, 4, none⟩ = some (.int .u64 X.set.x3) ∧ w'.cell? ⟨n5, 5, none⟩ = some (.int .i64 X.mn) ∧ w'.cell? ⟨n5, 6, none⟩ = some (.int .i64 X.mx) ∧ w'.cell? ⟨n5, 7, none⟩ = some (.slice xa X.subs.length xc))) (by kernel_rfl) ?_ (fun hHeld => ?_)
          · exact HS.out _ ((Keep.refl _ _).drew)
          refine wpAnyH_take (i := 0) (oi := { dst := some 56, op := Go.Op.load 27 (Go.Operand.tmp 2), type := 27, pos := "law.go:59", after := #[], guard := none }) (v := ?_) rfl (by kernel_rfl) (by kernel_rfl) (by kernel_rfl) (fun _ _ _ h => h) (Or.inl ⟨by rfl, ?_⟩) (by assumption) ?_
          rotate_left 1
          · (intro w hSw; (try dsimp only at hSw); go_simp; first | done | with_reducible rfl)
          try simp only [Act.put, List.setIfInBounds_toArray, List.set_cons_zero, List.set_cons_succ]
          refine wpAnyH_take (i := 1) (oi := { dst := some 57, op := Go.Op.move (Go.Operand.tmp 1), type := 9, pos := "law.go:59", after := #[], guard := none }) (v := ?_) rfl (by kernel_rfl) (by kernel_rfl) (by kernel_rfl) (fun _ _ _ h => h) (Or.inl ⟨by rfl, ?_⟩) (by assumption) ?_
          rotate_left 1
          · (intro w hSw; (try dsimp only at hSw); go_simp; first | done | with_reducible rfl)
          try simp only [Act.put, List.setIfInBounds_toArray, List.set_cons_zero, List.set_cons_succ]
          refine wpAnyH_take (i := 2) (oi := { dst := some 58, op := Go.Op.move (Go.Operand.tmp 7), type := 3, pos := "law.go:59", after := #[], guard := none }) (v := ?_) rfl (by kernel_rfl) (by kernel_rfl) (by kernel_rfl) (fun _ _ _ h => h) (Or.inl ⟨by rfl, ?_⟩) (by assumption) ?_
          rotate_left 1
          · (intro w hSw; (try dsimp only at hSw); go_simp; first | done | with_reducible rfl)
          try simp only [Act.put, List.setIfInBounds_toArray, List.set_cons_zero, List.set_cons_succ]
          refine wpAnyH_take (i := 4) (oi := { dst := some 60, op := Go.Op.load 27 (Go.Operand.tmp 5), type := 27, pos := "law.go:59", after := #[], guard := none }) (v := ?_) rfl (by kernel_rfl) (by kernel_rfl) (by kernel_rfl) (fun _ _ _ h => h) (Or.inl ⟨by rfl, ?_⟩) (by assumption) ?_
          rotate_left 1
          · (intro w hSw; (try dsimp only at hSw); go_simp; first | done | with_reducible rfl)
          try simp only [Act.put, List.setIfInBounds_toArray, List.set_cons_zero, List.set_cons_succ]
          refine wpAnyH_take (i := 5) (oi := { dst := some 61, op := Go.Op.move (Go.Operand.tmp 1), type := 9, pos := "law.go:59", after := #[], guard := none }) (v := ?_) rfl (by kernel_rfl) (by kernel_rfl) (by kernel_rfl) (fun _ _ _ h => h) (Or.inl ⟨by rfl, ?_⟩) (by assumption) ?_
          rotate_left 1
          · (intro w hSw; (try dsimp only at hSw); go_simp; first | done | with_reducible rfl)
          try simp only [Act.put, List.setIfInBounds_toArray, List.set_cons_zero, List.set_cons_succ]
          refine wpAnyH_take (i := 6) (oi := { dst := some 62, op := Go.Op.move (Go.Operand.tmp 7), type := 3, pos := "law.go:59", after := #[], guard := none }) (v := ?_) rfl (by kernel_rfl) (by kernel_rfl) (by kernel_rfl) (fun _ _ _ h => h) (Or.inl ⟨by rfl, ?_⟩) (by assumption) ?_
          rotate_left 1
          · (intro w hSw; (try dsimp only at hSw); go_simp; first | done | with_reducible rfl)
          try simp only [Act.put, List.setIfInBounds_toArray, List.set_cons_zero, List.set_cons_succ]
          refine wpAnyH_ready (rs := [3]) (by kernel_rfl) (by simp) ?_
          refine (AllReadyH.cons (o := { dst := some 59, op := Go.Op.call { callee := Go.Callee.value (Go.Operand.func 24), args := #[Go.Operand.tmp 56, Go.Operand.tmp 57, Go.Operand.tmp 58], argTypes := #[27, 9, 3] }, type := 38, pos := "law.go:59", after := #[{ on := 0, ground := Go.Ground.data }, { on := 1, ground := Go.Ground.data }, { on := 2, ground := Go.Ground.data }], guard := none }) rfl (fun K hK => ?_) AllReadyH.nil)
          go_simp
          (go_at_call 24; refine (HA1.out _ (And.left hHeld)).mono ?_; rintro e w2 ⟨va, rfl, ila, -, q⟩)
          have IA := Lib.hid ila
          clear ila
          have QA := Lib.hid q
          refine hK.out _ _ ?_ (fun hHeld' => ?_)
          · exact HS.out _ (Keep.trans (And.left hHeld) q)
          clear hK K hHeld
          have hHeld := hHeld'
          clear hHeld'
          try simp only [Act.put, List.setIfInBounds_toArray, List.set_cons_zero, List.set_cons_succ]
          refine wpAnyH_ready (rs := [7]) (by kernel_rfl) (by simp) ?_
          refine (AllReadyH.cons (o := { dst := some 63, op := Go.Op.call { callee := Go.Callee.value (Go.Operand.func 24), args := #[Go.Operand.tmp 60, Go.Operand.tmp 61, Go.Operand.tmp 62], argTypes := #[27, 9, 3] }, type := 38, pos := "law.go:59", after := #[{ on := 4, ground := Go.Ground.data }, { on := 5, ground := Go.Ground.data }, { on := 6, ground := Go.Ground.data }, { on := 3, ground := Go.Ground.chain }], guard := none }) rfl (fun K hK => ?_) AllReadyH.nil)
          go_simp
          (go_at_call 24; refine (HA2.out _ (And.left hHeld)).mono ?_; rintro e w2 ⟨vb, rfl, ilb, -, q⟩)
          have IB := Lib.hid ilb
          clear ilb
          have QB := Lib.hid q
          refine hK.out _ _ ?_ (fun hHeld' => ?_)
          · exact HS.out _ (Keep.trans (And.left hHeld) q)
          clear hK K hHeld
          have hHeld := hHeld'
          clear hHeld'
          try simp only [Act.put, List.setIfInBounds_toArray, List.set_cons_zero, List.set_cons_succ]
          refine wpAnyH_ready (rs := [8]) (by kernel_rfl) (by simp) ?_
          refine (AllReadyH.cons (o := { dst := some 64, op := Go.Op.call { callee := Go.Callee.value (Go.Operand.func 23), args := #[Go.Operand.tmp 59, Go.Operand.tmp 63], argTypes := #[38, 38] }, type := 4, pos := "law.go:59", after := #[{ on := 3, ground := Go.Ground.data }, { on := 7, ground := Go.Ground.data }, { on := 7, ground := Go.Ground.chain }], guard := none }) rfl (fun K hK => ?_) AllReadyH.nil)
          go_simp
          (go_at_call 23; refine (same_ref va vb L1 L1 _ (by first | exact IA.out | exact IA.out.keep QB.out (fun _ _ h => h)) (by first | exact IB.out | exact IB.out.keep QA.out (fun _ _ h => h)) (by have := HLE.out.2; omega)).mono ?_; rintro e w4 ⟨rfl, qd⟩)
          have q := drawn13 qd
          refine hK.out _ _ ?_ (fun hHeld' => ?_)
          · exact HS.out _ (Keep.trans (And.left hHeld) q)
          clear hK K hHeld
          have hHeld := hHeld'
          clear hHeld'
          refine wpAnyH_take (i := 9) (oi := { dst := some 65, op := Go.Op.unOp Go.UnOp.not 4 (Go.Operand.tmp 64), type := 4, pos := "law.go:59", after := #[{ on := 8, ground := Go.Ground.data }], guard := none }) (v := ?_) rfl (by kernel_rfl) (by kernel_rfl) (by kernel_rfl) (fun _ _ _ h => h) (Or.inl ⟨by rfl, ?_⟩) (by assumption) ?_
          rotate_left 1
          · (intro w hSw; (try dsimp only at hSw); go_simp; first | done | with_reducible rfl)
          try simp only [Act.put, List.setIfInBounds_toArray, List.set_cons_zero, List.set_cons_succ]
          refine wpAnyH_done (by kernel_rfl) ?_ _
          refine NoPanic.normal ?_
          rotate_left 1
          all_goals
            have HK := Lib.hid (And.left hHeld)
            clear hHeld
            go_wp2_with fail
            go_roundg (s.length + 1 - (j + 1))
            case measure => omega
            case rel => exact ⟨j + 1, by go_num, by omega, II.out.trans HK.out⟩
      · have hlt' : ¬ (j : Int) < (s.length : Int) + 1 := by omega
        have II := Lib.hid (H5.out.1.trans I)
        clear I
        go_wp2_with fail
        go_ret
        exact ⟨rfl, II.out⟩
end Go.Proofs.Ythcjfgfbeollpaa.P13
/- ExpandSame: the arguments opened. -/
namespace Go.Proofs.Ythcjfgfbeollpaa.ExpandSame
open Go.RowKit Go.Proofs.Ythcjfgfbeollpaa.Base Go.Proofs.Ythcjfgfbeollpaa.P08 Go.Proofs.Ythcjfgfbeollpaa.P11 Go.Proofs.Ythcjfgfbeollpaa.P13
open Go.ChangeShapes Go.WideShapes Go.ChangeAt

set_option maxRecDepth 100000 in
theorem walk {H : Type} {enc : TypeId × Value → H} (v0 v1 : Value) {d0 d1 : DataW H} {p0 p1 : List MemPlace} (W : World)
    (k0 : Value.okWide Try.prog W .any 0 27 v0) (k1 : Value.okWide Try.prog W .any 0 9 v1)
    (h0 : DataW.Trod enc Try.prog W 0 (fun _ => true) true 27 v0 d0 p0) (h1 : DataW.Trod enc Try.prog W 0 (fun _ => true) true 9 v1 d1 p1)
    (hk : Rows.uptoSmall H [d0, d1] = true) :
    Calls Try.prog 4 #[v0, v1] W fun e w' => e = .returned (.bool true) ∧ Below W.heap.size W w' := by
  have hb := of_decide_eq_true hk
  obtain ⟨t0, a0, c0, rfl, hc0, hL0, hn0, hs0⟩ := node_arg k0 h0
  obtain ⟨l1, rfl, rfl, -⟩ := str_arg11 k1 h1
  simp only [Rows.uptoBulkAll, Rows.uptoBulk] at hb
  exact (law_same t0 a0 c0 W hL0 hc0 (by omega) hs0 l1).mono fun e w' ⟨he, q⟩ => ⟨he, q.below (Nat.le_refl _) (fun _ _ h => h)⟩
end Go.Proofs.Ythcjfgfbeollpaa.ExpandSame
/- THE STATEMENT 'ExpandSame' OF LAYER 13, SECOND FORM: for every input that holds no more values than the given bound the law answers true, and each argument reads as it did. The bound: the given 'uptoSmall'. The walk is in XW13Same. -/
namespace Go.Proofs.Ythcjfgfbeollpaa.ExpandSame
open Go.ChangeShapes Go.WideShapes Go.ChangeAt Go.RowKit
set_option linter.unusedVariables false

theorem own : ownKnob Try.prog.godebug = none := by kernel_rfl
theorem laidOut : laidOutB Try.prog = true := by kernel_rfl

set_option maxRecDepth 100000 in
theorem contract (H : Type) (enc : TypeId × Value → H) (W : World) (base : Nat) (args : Array Value) (ds gs : List (DataW H)) (before : List MemPlace)
    (hval0 : ∀ (j : Nat) t v, Try.f4.params[j]? = some t → args[j]? = some v → Value.okWide Try.prog W .any base t v)
    (hW : DataW.Whole enc Try.prog Try.f4.params.toList Rows.expandSameSpec.vars false W args.toList ds gs before) (hk : Rows.uptoSmall H (ds ++ gs) = true) :
    Calls Try.prog 4 args W fun e W' => ∃ v, e = .returned v ∧ Rows.expandSameSpec.post enc Try.prog Try.f4 false true false false W args v W' := by
  have hval : ∀ (j : Nat) t v, Try.f4.params[j]? = some t → args[j]? = some v → Value.okWide Try.prog W .any base t v := hval0
  have hW' := hW
  obtain ⟨p, q, hA0, hV, rfl, hfz, hnd⟩ := hW
  have hA : DataW.TrodAll enc Try.prog W 0 (fun _ => true) true Try.f4.params.toList args.toList ds p := hA0
  rw [Try.params4] at hA hval
  obtain ⟨v0, vs0, d0, ds0, p0, q0, hargs, rfl, rfl, h0, r0⟩ := trodAll_cons hA
  obtain ⟨v1, vs1, d1, ds1, p1, q1, rfl, rfl, rfl, h1, r1⟩ := trodAll_cons r0
  obtain ⟨rfl, rfl, rfl⟩ := trodAll_nil r1
  obtain rfl : args = #[v0, v1] := by cases args; simp_all
  obtain ⟨rfl, rfl⟩ := trodVars_none hV
  have lt0 : ∀ x ∈ p0, x.block < W.heap.size := by obtain ⟨m, hm⟩ := h0; exact DataW.trod_lt m _ _ _ hm
  have lt1 : ∀ x ∈ p1, x.block < W.heap.size := by obtain ⟨m, hm⟩ := h1; exact DataW.trod_lt m _ _ _ hm
  have hk1 : Rows.uptoSmall H [d0, d1] = true := hk
  refine (walk v0 v1 W (hval 0 27 v0 rfl rfl) (hval 1 9 v1 rfl rfl) h0 h1 hk1).mono fun e W' ⟨he, bel⟩ => ?_
  subst he
  exact ⟨_, rfl, _, _, _, [], _, [], hW', trodAll_mk1 (shut_bool Try.underlying4 _), (trodAll_cons_mk (Below.trod laidOut (by kernel_rfl) (of_decide_eq_true (by kernel_rfl)) h0 bel lt0) (trodAll_cons_mk (Below.trod laidOut (by kernel_rfl) (of_decide_eq_true (by kernel_rfl)) h1 bel lt1) trodAll_mk0)), rfl, bel.frame _, fun h => by cases h⟩

set_option maxRecDepth 100000 in
theorem lifted (os : Os) (started : os.Started) (H : Type) (enc : TypeId × Value → H) (F : Stop.Interp) :
    ReturnsInHanded {} Try.checked os 4 .any ((Rows.OpenSpec.upto Rows.expandSameSpec).pre6 enc Try.prog Try.f4 Rows.expandSameUptoRow.domain false) (((Rows.OpenSpec.upto Rows.expandSameSpec).at F).post enc Try.prog Try.f4 false true false false) := by
  refine returnsInHanded_of_cond (C := Try.checked) (s := Rows.OpenSpec.upto Rows.expandSameSpec) (k := Rows.uptoSmall) rfl own started (by kernel_rfl) Try.func4
    (OpenSpec.witness (enc := enc) (C := Try.checked) (s := Rows.OpenSpec.upto Rows.expandSameSpec) (k := Rows.uptoSmall) rfl false ⟨#[], #[.agg #[.int .i64 0, .int .u64 0, .int .u64 0, .int .u64 0, .int .u64 0, .int .i64 0, .int .i64 0, .slice none 0 0], .string ⟨#[]⟩], []⟩ 8 (by kernel_rfl) (by kernel_rfl) (by kernel_rfl)
      (x := ([.agg [.lit (.int .i64 0), .agg [.lit (.int .u64 0), .lit (.int .u64 0), .lit (.int .u64 0), .lit (.int .u64 0)], .lit (.int .i64 0), .lit (.int .i64 0), .nil], .lit (.string [])], [], [])) (by kernel_rfl) rfl (by kernel_rfl)) ?_
  intro W base args ds gs before hval hW _ hk _
  exact contract H enc W base args ds gs before hval hW hk

theorem over : Rows.expandSameUptoRow.holds Try.pinned (Rows.OpenSpec.upto Rows.expandSameSpec) :=
  OpenClaim.holds_of_cond 4 Try.f4 rfl rfl rfl rfl rfl rfl rfl ⟨rfl, rfl, rfl, rfl, rfl⟩ rfl rfl rfl rfl rfl (by kernel_rfl) Try.func4 (by kernel_rfl)
    (of_decide_eq_true (by kernel_rfl)) (by unfold Func.isWrapper; first | (rw [if_pos (by decide +kernel)]; kernel_rfl) | (rw [if_neg (by decide +kernel)]; exact ⟨rfl, rfl⟩))
    (fun os started H enc _ F => lifted os started H enc F)

theorem proved : Rows.ExpandSameUptoSaid := over
#print axioms proved
end Go.Proofs.Ythcjfgfbeollpaa.ExpandSame
