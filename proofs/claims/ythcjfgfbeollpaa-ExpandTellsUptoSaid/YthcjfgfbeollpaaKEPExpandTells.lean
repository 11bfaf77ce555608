/- ExpandTells: the walk. -/
import Derived.Test.YthcjfgfbeollpaaKE50
import Derived.Test.YthcjfgfbeollpaaKE29
import Derived.Test.YthcjfgfbeollpaaKE27
import Derived.Test.YthcjfgfbeollpaaKE20
import Derived.Test.YthcjfgfbeollpaaKE41
import Derived.Deep.RegionHeld3
import Derived.Test.YthcjfgfbeollpaaKE49
import Derived.Test.YthcjfgfbeollpaaRows
import Derived.JoinedCond
namespace Go.Proofs.Ythcjfgfbeollpaa.P13
open Go.RowKit Go.Proofs.Ythcjfgfbeollpaa.Base Go.Proofs.Ythcjfgfbeollpaa.Bytes Go.Proofs.Ythcjfgfbeollpaa.P07 Go.Proofs.Ythcjfgfbeollpaa.P08 Go.Proofs.Ythcjfgfbeollpaa.P09 Go.Proofs.Ythcjfgfbeollpaa.P10
open Go.Proofs.Ythcjfgfbeollpaa.Sets (ST)

set_option maxRecDepth 100000 in
set_option maxHeartbeats 16000000 in
theorem law_tells (t : T) (a : Option Addr) (c : Nat) (w : World) (hta : Lie w (fun _ => True) a t.subs) (hcl : t.subs.length ≤ c) (ht : cnt t ≤ 1000000000) (hst : SOk t) (bud : Int) :
    Calls Try.prog 3 #[nodeV t a c, .int .i64 bud] w fun e w' => e = .returned (.bool true) ∧ Keep (fun _ => False) w w' := by
  have q := (Keep.refl (fun _ => False) w).alloc (.cells (ncells t a c) 27)
  have H0 := Lib.hid (And.intro q (show Nd _ w.heap.size t a c from ⟨At.new w _ _, hta.keepF q, hcl⟩))
  have HCT := Lib.hid (And.intro ht hst)
  clear q hta hcl ht hst
  go_enter Try.func3, Try.ntmps3
  go_upto_region 1 with fail
  generalize (w.alloc (.cells (ncells t a c) 27)) = W0 at *
  generalize w.heap.size = n1 at *
  go_wp2_with fail
  refine (awake13 W0).mono ?_
  rintro e w1 ⟨rfl, q1⟩
  have H1 := Lib.hid (And.intro (H0.out.1.trans q1) (H0.out.2.keep q1))
  clear q1
  obtain ⟨x0, x1, x2, x3, x4, x5, x6, x7⟩ := (cells8 H1.out.2.cell).1
  go_wp2_with fail
  refine (few_any t HCT.out.1 a c w1 H1.out.2.lie).mono ?_
  rintro e w2 ⟨rfl, q2⟩
  have H2 := Lib.hid (And.intro (H1.out.1.trans q2) (H1.out.2.keep q2))
  clear q2 x0 x1 x2 x3 x4 x5 x6 x7
  obtain ⟨x0, x1, x2, x3, x4, x5, x6, x7⟩ := (cells8 H2.out.2.cell).1
  by_cases h1 : sz t ≤ 200
  case neg =>
    have g1 : decide (sz t ≤ 200) = false := decide_eq_false h1
    rw [g1]
    clear g1 h1
    go_wp2_with fail
    refine (awake13 w2).mono ?_
    rintro e w3 ⟨rfl, q3⟩
    have Q3 := Lib.hid (H2.out.1.trans q3)
    clear q3
    go_wp2_with fail
    go_ret
    exact ⟨rfl, Q3.out⟩
  have g1 : decide (sz t ≤ 200) = true := decide_eq_true h1
  rw [g1]
  have HF1 := Lib.hid (few_cnt h1)
  clear g1 h1
  have HFR := Lib.hid (fun W (hL : Lie W (fun _ => True) a t.subs) => fright_any t HCT.out.1 a c W hL)
  have HPl := Lib.hid (show ∃ (X : T) (er : Int), ((rightB t = false ∧ X = zT ∧ er = 1) ∨ (rightB t = true ∧ X = zT ∧ er = 11 ∧ min bud 400 < wd t) ∨ (rightB t = true ∧ X = plT t ∧ er = 0 ∧ wd t ≤ min bud 400)) ∧ ∀ W, Lie W (fun _ => True) a t.subs → Calls Try.prog 15 #[nodeV t a c, .int .i64 bud] W (GivesE W X er) from by
    cases h3 : rightB t with
    | false => exact ⟨zT, 1, .inl ⟨rfl, rfl, rfl⟩, fun W hL => cplain_no t HCT.out.2 h3 rfl bud 1 (.inl ⟨rfl, rfl⟩) a c W hL⟩
    | true =>
      have hR := (rightB_iff HCT.out.2).1 h3
      by_cases h4 : wd t ≤ min bud 400
      · exact ⟨plT t, 0, .inr (.inr ⟨rfl, rfl, rfl, h4⟩), fun W hL => cplain_yes t hR (by have := HF1.out; omega) rfl bud h4 rfl a c W hL H2.out.2.le⟩
      · exact ⟨zT, 11, .inr (.inl ⟨rfl, rfl, rfl, by omega⟩), fun W hL => cplain_no t HCT.out.2 h3 rfl bud 11 (.inr ⟨rfl, rfl, by omega⟩) a c W hL⟩)
  obtain ⟨X, er, hX, HP⟩ := HPl.out
  have HP := Lib.hid HP
  have HX := Lib.hid hX
  clear HPl hX
  go_wp2_with fail
  refine (HP.out w2 H2.out.2.lie).mono ?_
  rintro e w3 ⟨⟨xa, xc, rfl, hxc, hxl⟩, q3⟩
  have qq := q3.alloc (.cells (ncells X xa xc) 27)
  have H5 := Lib.hid (And.intro (H2.out.1.trans qq) (And.intro (H2.out.2.keep qq) (Nd.new hxc hxl)))
  clear q3 qq x0 x1 x2 x3 x4 x5 x6 x7 hxc hxl
  go_upto_region 4 with fail
  generalize (w3.alloc (.cells (ncells X xa xc) 27)) = W5 at *
  generalize w3.heap.size = n5 at *
  obtain ⟨x0, x1, x2, x3, x4, x5, x6, x7⟩ := (cells8 H5.out.2.1.cell).1
  go_wp2_with fail
  refine (HFR.out W5 H5.out.2.1.lie).mono ?_
  rintro e w6 ⟨rfl, q6⟩
  have H6 := Lib.hid (And.intro (H5.out.1.trans q6) (And.intro (H5.out.2.1.keep q6) (H5.out.2.2.keep q6)))
  clear q6 x0 x1 x2 x3 x4 x5 x6 x7
  obtain ⟨x0, x1, x2, x3, x4, x5, x6, x7⟩ := (cells8 H6.out.2.1.cell).1
  obtain ⟨y0, y1, y2, y3, y4, y5, y6, y7⟩ := (cells8 H6.out.2.2.cell).1
  rcases HX.out with ⟨h3, rfl, rfl⟩ | ⟨h3, rfl, rfl, h4⟩ | ⟨h3, hXe, rfl, h4⟩
  · rw [h3]
    have HSa := Lib.hid (same13 zT xa xc none 0 w6 H6.out.2.2.lie (.nil _))
    clear h3 HX x0 x1 x2 x3 x4 x5 x6 x7
    go_wp2_with fail
    refine HSa.out.mono ?_
    rintro e w7 ⟨rfl, q7⟩
    have Q7 := Lib.hid (H6.out.1.trans q7)
    clear q7
    go_wp2_with fail
    go_ret
    exact ⟨rfl, Q7.out⟩
  · rw [h3]
    have hR := (rightB_iff HCT.out.2).1 h3
    have HW := Lib.hid (fun W (hL : Lie W (fun _ => True) a t.subs) => fwide_any t 12 hR a c W hL)
    obtain ⟨n, hn⟩ : ∃ n, wd t = n := ⟨_, rfl⟩
    rw [hn] at HW h4
    clear hR h3 hn HX
    go_wp2_with fail
    refine (HW.out w6 H6.out.2.1.lie).mono ?_
    rintro e w7 ⟨rfl, q7⟩
    have H7 := Lib.hid (And.intro (H6.out.1.trans q7) (And.intro (H6.out.2.1.keep q7) (H6.out.2.2.keep q7)))
    clear q7 x0 x1 x2 x3 x4 x5 x6 x7 y0 y1 y2 y3 y4 y5 y6 y7
    by_cases h5 : bud < n
    · obtain ⟨y0, y1, y2, y3, y4, y5, y6, y7⟩ := (cells8 H7.out.2.2.cell).1
      have HSa := Lib.hid (same13 zT xa xc none 0 w7 H7.out.2.2.lie (.nil _))
      clear h4
      go_wp2_with fail
      refine HSa.out.mono ?_
      rintro e w8 ⟨rfl, q8⟩
      have Q8 := Lib.hid (H7.out.1.trans q8)
      clear q8
      go_wp2_with fail
      go_ret
      exact ⟨rfl, Q8.out⟩
    · have h6 : 400 < n := by omega
      obtain ⟨x0, x1, x2, x3, x4, x5, x6, x7⟩ := (cells8 H7.out.2.1.cell).1
      clear h4
      go_wp2_with fail
      refine (HW.out w7 H7.out.2.1.lie).mono ?_
      rintro e w8 ⟨rfl, q8⟩
      have H8 := Lib.hid (And.intro (H7.out.1.trans q8) (H7.out.2.2.keep q8))
      clear q8 x0 x1 x2 x3 x4 x5 x6 x7
      obtain ⟨y0, y1, y2, y3, y4, y5, y6, y7⟩ := (cells8 H8.out.2.cell).1
      have HSa := Lib.hid (same13 zT xa xc none 0 w8 H8.out.2.lie (.nil _))
      go_wp2_with fail
      refine HSa.out.mono ?_
      rintro e w9 ⟨rfl, q9⟩
      have Q9 := Lib.hid (H8.out.1.trans q9)
      clear q9
      go_wp2_with fail
      go_ret
      exact ⟨rfl, Q9.out⟩
  · rw [h3]
    have hR := (rightB_iff HCT.out.2).1 h3
    have HW := Lib.hid (fun W (hL : Lie W (fun _ => True) a t.subs) => fwide_any t 12 hR a c W hL)
    have HFq := fun (W : World) (hL : Lie W (fun _ => True) a t.subs) => fplain_any t 12 hR (by have := HF1.out; omega) a c (fun _ => True) W hL H2.out.2.le
    rw [← hXe] at HFq
    have HFq := Lib.hid HFq
    obtain ⟨n, hn⟩ : ∃ n, wd t = n := ⟨_, rfl⟩
    rw [hn] at HW h4
    have h5 : ¬ bud < n := by omega
    have h6 : ¬ 400 < n := by omega
    clear hR h3 hn HX hXe h4
    go_wp2_with fail
    refine (HW.out w6 H6.out.2.1.lie).mono ?_
    rintro e w7 ⟨rfl, q7⟩
    have H7 := Lib.hid (And.intro (H6.out.1.trans q7) (And.intro (H6.out.2.1.keep q7) (H6.out.2.2.keep q7)))
    clear q7 x0 x1 x2 x3 x4 x5 x6 x7 y0 y1 y2 y3 y4 y5 y6 y7
    obtain ⟨x0, x1, x2, x3, x4, x5, x6, x7⟩ := (cells8 H7.out.2.1.cell).1
    go_wp2_with fail
    refine (HW.out w7 H7.out.2.1.lie).mono ?_
    rintro e W8 ⟨rfl, q8⟩
    have H8 := Lib.hid (And.intro (H7.out.1.trans q8) (And.intro (H7.out.2.1.keep q8) (H7.out.2.2.keep q8)))
    clear q8 x0 x1 x2 x3 x4 x5 x6 x7
    have HFP := Lib.hid (fun (W : World) (q : Keep (fun _ => False) W8 W) => HFq.out W (H8.out.2.1.lie.keepF q))
    have HLX := Lib.hid H8.out.2.2.lie
    go_upto_region 8 with fail
    have hs : ∀ W', Keep (fun _ => False) W8 W' → (fun w' => Keep (fun _ => False) W8 w' ∧ w'.cell? ⟨n1, 0, none⟩ = some (.int .i64 t.kind) ∧ w'.cell? ⟨n1, 1, none⟩ = some (.int .u64 t.set.x0) ∧ w'.cell? ⟨n1, 2, none⟩ = some (.int .u64 t.set.x1) ∧ w'.cell? ⟨n1, 3, none⟩ = some (.int .u64 t.set.x2) ∧ w'.cell? ⟨n1, 4, none⟩ = some (.int .u64 t.set.x3) ∧ w'.cell? ⟨n1, 5, none⟩ = some (.int .i64 t.mn) ∧ w'.cell? ⟨n1, 6, none⟩ = some (.int .i64 t.mx) ∧ w'.cell? ⟨n1, 7, none⟩ = some (.slice a t.subs.length c) ∧ w'.cell? ⟨n5, 0, none⟩ = some (.int .i64 X.kind) ∧ w'.cell? ⟨n5, 1, none⟩ = some (.int .u64 X.set.x0) ∧ w'.cell? ⟨n5, 2, none⟩ = some (.int .u64 X.set.x1) ∧ w'.cell? ⟨n5, 3, none⟩ = some (.int .u64 X.set.x2) ∧ w'.cell? ⟨n5, 4, none⟩ = some (.int .u64 X.set.x3) ∧ w'.cell? ⟨n5, 5, none⟩ = some (.int .i64 X.mn) ∧ w'.cell? ⟨n5, 6, none⟩ = some (.int .i64 X.mx) ∧ w'.cell? ⟨n5, 7, none⟩ = some (.slice xa X.subs.length xc)) W' := fun W' q => by
      obtain ⟨x0, x1, x2, x3, x4, x5, x6, x7⟩ := (cells8 (H8.out.2.1.cell.keep q (fun h => h))).1
      obtain ⟨y0, y1, y2, y3, y4, y5, y6, y7⟩ := (cells8 (H8.out.2.2.cell.keep q (fun h => h))).1
      exact ⟨q, x0, x1, x2, x3, x4, x5, x6, x7, y0, y1, y2, y3, y4, y5, y6, y7⟩
    have HS := Lib.hid hs
    clear hs
    · skip
      refine wp_region_noPanic ?_
      refine wp_region_held_drew (S := (fun w' => Keep (fun _ => False) W8 w' ∧ w'.cell? ⟨n1, 0, none⟩ = some (.int .i64 t.kind) ∧ w'.cell? ⟨n1, 1, none⟩ = some (.int .u64 t.set.x0) ∧ w'.cell? ⟨n1, 2, none⟩ = some (.int .u64 t.set.x1) ∧ w'.cell? ⟨n1, 3, none⟩ = some (.int .u64 t.set.x2) ∧ w'.cell? ⟨n1, 4, none⟩ = some (.int .u64 t.set.x3) ∧ w'.cell? ⟨n1, 5, none⟩ = some (.int .i64 t.mn) ∧ w'.cell? ⟨n1, 6, none⟩ = some (.int .i64 t.mx) ∧ w'.cell? ⟨n1, 7, none⟩ = some (.slice a t.subs.length c) ∧ w'.cell? ⟨n5, 0, none⟩ = some (.int .i64 X.kind) ∧ w'.cell? ⟨n5, 1, none⟩ = some (.int .u64 X.set.x0) ∧ w'.cell? ⟨n5, 2, none⟩ = some (.int .u64 X.set.x1) ∧ w'.cell? ⟨n5, 3, none⟩ = some (.int .u64 X.set.x2) ∧ w'.cell? ⟨n5, 4, none⟩ = some (.int .u64 X.set.x3) ∧ w'.cell? ⟨n5, 5, none⟩ = some (.int .i64 X.mn) ∧ w'.cell? ⟨n5, 6, none⟩ = some (.int .i64 X.mx) ∧ w'.cell? ⟨n5, 7, none⟩ = some (.slice xa X.subs.length xc))) (by kernel_rfl) ?_ (fun hHeld => ?_)
      · exact HS.out _ ((Keep.refl _ _).drew)
      refine wpAnyH_take (i := 0) (oi := { dst := some 49, op := Go.Op.move (Go.Operand.tmp 6), type := 30, pos := "law.go:43", after := #[], guard := none }) (v := ?_) rfl (by kernel_rfl) (by kernel_rfl) (by kernel_rfl) (fun _ _ _ h => h) (Or.inl ⟨by rfl, ?_⟩) (by assumption) ?_
      rotate_left 1
      · (intro w hSw; (try dsimp only at hSw); go_simp; first | done | with_reducible rfl)
      try simp only [Act.put, List.setIfInBounds_toArray, List.set_cons_zero, List.set_cons_succ]
      refine wpAnyH_take (i := 1) (oi := { dst := some 50, op := Go.Op.binOp Go.BinOp.eql 30 (Go.Operand.tmp 49) (Go.Operand.const (Go.Value.int Go.IntKind.i64 0)) 30, type := 4, pos := "law.go:43", after := #[{ on := 0, ground := Go.Ground.data }], guard := none }) (v := ?_) rfl (by kernel_rfl) (by kernel_rfl) (by kernel_rfl) (fun _ _ _ h => h) (Or.inl ⟨by rfl, ?_⟩) (by assumption) ?_
      rotate_left 1
      · (intro w hSw; (try dsimp only at hSw); go_simp; first | done | with_reducible rfl)
      try simp only [Act.put, List.setIfInBounds_toArray, List.set_cons_zero, List.set_cons_succ]
      refine wpAnyH_take (i := 2) (oi := { dst := some 51, op := Go.Op.move (Go.Operand.tmp 50), type := 4, pos := "law.go:43", after := #[{ on := 1, ground := Go.Ground.data }], guard := none }) (v := ?_) rfl (by kernel_rfl) (by kernel_rfl) (by kernel_rfl) (fun _ _ _ h => h) (Or.inl ⟨by rfl, ?_⟩) (by assumption) ?_
      rotate_left 1
      · (intro w hSw; (try dsimp only at hSw); go_simp; first | done | with_reducible rfl)
      try simp only [Act.put, List.setIfInBounds_toArray, List.set_cons_zero, List.set_cons_succ]
      refine wpAnyH_take (i := 3) (oi := { dst := some 52, op := Go.Op.load 27 (Go.Operand.tmp 5), type := 27, pos := "law.go:43", after := #[{ on := 2, ground := Go.Ground.guard }], guard := some (2, true) }) (v := ?_) rfl (by kernel_rfl) (by kernel_rfl) (by kernel_rfl) (fun _ _ _ h => h) (Or.inl ⟨by rfl, ?_⟩) (by assumption) ?_
      rotate_left 1
      · (intro w hSw; (try dsimp only at hSw); go_simp; first | done | with_reducible rfl)
      try simp only [Act.put, List.setIfInBounds_toArray, List.set_cons_zero, List.set_cons_succ]
      refine wpAnyH_take (i := 4) (oi := { dst := some 53, op := Go.Op.load 27 (Go.Operand.tmp 2), type := 27, pos := "law.go:43", after := #[{ on := 2, ground := Go.Ground.guard }], guard := some (2, true) }) (v := ?_) rfl (by kernel_rfl) (by kernel_rfl) (by kernel_rfl) (fun _ _ _ h => h) (Or.inl ⟨by rfl, ?_⟩) (by assumption) ?_
      rotate_left 1
      · (intro w hSw; (try dsimp only at hSw); go_simp; first | done | with_reducible rfl)
      try simp only [Act.put, List.setIfInBounds_toArray, List.set_cons_zero, List.set_cons_succ]
      refine wpAnyH_ready (rs := [5]) (by kernel_rfl) (by simp) ?_
      refine AllReadyH.cons (o := { dst := some 54, op := Go.Op.call { callee := Go.Callee.value (Go.Operand.func 19), args := #[Go.Operand.tmp 53], argTypes := #[27] }, type := 27, pos := "law.go:43", after := #[{ on := 4, ground := Go.Ground.data }, { on := 2, ground := Go.Ground.chain }, { on := 2, ground := Go.Ground.guard }], guard := some (2, true) }) rfl (fun K hK => ?_) AllReadyH.nil
      go_simp
      (go_at_call 19; refine (HFP.out _ (And.left hHeld)).mono ?_; rintro e w2 ⟨⟨_, rfl, ya, yc, rfl, hle1, hL1⟩, q⟩)
      refine hK.out _ _ ?_ (fun hHeld' => ?_)
      · exact HS.out _ (Keep.trans (And.left hHeld) q)
      clear hK K hHeld
      have hHeld := hHeld'
      clear hHeld'
      try simp only [Act.put, List.setIfInBounds_toArray, List.set_cons_zero, List.set_cons_succ]
      refine wpAnyH_ready (rs := [6]) (by kernel_rfl) (by simp) ?_
      refine AllReadyH.cons (o := { dst := some 55, op := Go.Op.call { callee := Go.Callee.value (Go.Operand.func 17), args := #[Go.Operand.tmp 52, Go.Operand.tmp 54], argTypes := #[27, 27] }, type := 4, pos := "law.go:43", after := #[{ on := 3, ground := Go.Ground.data }, { on := 5, ground := Go.Ground.data }, { on := 5, ground := Go.Ground.chain }, { on := 2, ground := Go.Ground.guard }], guard := some (2, true) }) rfl (fun K hK => ?_) AllReadyH.nil
      go_simp
      (go_at_call 17; refine (same13 X xa xc _ _ _ (HLX.out.keepF (And.left hHeld)) (hL1.mono fun _ _ => trivial)).mono ?_; rintro e w2 ⟨rfl, q⟩)
      refine hK.out _ _ ?_ (fun hHeld' => ?_)
      · exact HS.out _ (Keep.trans (And.left hHeld) q)
      clear hK K hHeld
      have hHeld := hHeld'
      clear hHeld'
      try simp only [Act.put, List.setIfInBounds_toArray, List.set_cons_zero, List.set_cons_succ]
      refine wpAnyH_take (i := 7) (oi := { dst := some 56, op := Go.Op.pick (Go.Operand.tmp 51) (Go.Operand.tmp 55) (Go.Operand.const (Go.Value.bool false)), type := 4, pos := "law.go:43", after := #[{ on := 2, ground := Go.Ground.data }, { on := 6, ground := Go.Ground.data }], guard := none }) (v := ?_) rfl (by kernel_rfl) (by kernel_rfl) (by kernel_rfl) (fun _ _ _ h => h) (Or.inl ⟨by rfl, ?_⟩) (by assumption) ?_
      rotate_left 1
      · (intro w hSw; (try dsimp only at hSw); go_simp; first | done | with_reducible rfl)
      try simp only [Act.put, List.setIfInBounds_toArray, List.set_cons_zero, List.set_cons_succ]
      refine wpAnyH_take (i := 8) (oi := { dst := some 4, op := Go.Op.assign (Go.Operand.tmp 56), type := 4, pos := "law.go:43", after := #[{ on := 7, ground := Go.Ground.data }, { on := 6, ground := Go.Ground.chain }, { on := 0, ground := Go.Ground.phase }, { on := 1, ground := Go.Ground.phase }, { on := 2, ground := Go.Ground.phase }, { on := 3, ground := Go.Ground.phase }, { on := 4, ground := Go.Ground.phase }, { on := 5, ground := Go.Ground.phase }, { on := 6, ground := Go.Ground.phase }, { on := 7, ground := Go.Ground.phase }], guard := none }) (v := ?_) rfl (by kernel_rfl) (by kernel_rfl) (by kernel_rfl) (fun _ _ _ h => h) (Or.inl ⟨by rfl, ?_⟩) (by assumption) ?_
      rotate_left 1
      · (intro w hSw; (try dsimp only at hSw); go_simp; first | done | with_reducible rfl)
      try simp only [Act.put, List.setIfInBounds_toArray]
      refine wpAnyH_done (by kernel_rfl) ?_ _
      refine NoPanic.normal ?_
      have HZ := Lib.hid (H8.out.1.trans (And.left hHeld))
      clear hHeld
      go_wp2_with fail
      go_ret
      exact ⟨rfl, HZ.out⟩
end Go.Proofs.Ythcjfgfbeollpaa.P13
/- ExpandTells: the arguments opened. -/
namespace Go.Proofs.Ythcjfgfbeollpaa.ExpandTells
open Go.RowKit Go.Proofs.Ythcjfgfbeollpaa.Base Go.Proofs.Ythcjfgfbeollpaa.P08 Go.Proofs.Ythcjfgfbeollpaa.P13
open Go.ChangeShapes Go.WideShapes Go.ChangeAt

set_option maxRecDepth 100000 in
theorem walk {H : Type} {enc : TypeId × Value → H} (v0 v1 : Value) {d0 d1 : DataW H} {p0 p1 : List MemPlace} (W : World)
    (k0 : Value.okWide Try.prog W .any 0 27 v0) (k1 : Value.okWide Try.prog W .any 0 3 v1)
    (h0 : DataW.Trod enc Try.prog W 0 (fun _ => true) true 27 v0 d0 p0) (h1 : DataW.Trod enc Try.prog W 0 (fun _ => true) true 3 v1 d1 p1)
    (hk : Rows.uptoSmall H [d0, d1] = true) :
    Calls Try.prog 3 #[v0, v1] W fun e w' => e = .returned (.bool true) ∧ Below W.heap.size W w' := by
  have hb := of_decide_eq_true hk
  obtain ⟨t0, a0, c0, rfl, hc0, hL0, hn0, hs0⟩ := node_arg k0 h0
  obtain ⟨f1, rfl, -, -⟩ := int_arg Try.underlying3 k1 h1
  simp only [Rows.uptoBulkAll] at hb
  exact (law_tells t0 a0 c0 W hL0 hc0 (by omega) hs0 f1).mono fun e w' ⟨he, q⟩ => ⟨he, q.below (Nat.le_refl _) (fun _ _ h => h)⟩
end Go.Proofs.Ythcjfgfbeollpaa.ExpandTells
/- THE STATEMENT 'ExpandTells' OF LAYER 13, SECOND FORM: for every input that holds no more values than the given bound the law answers true, and each argument reads as it did. The bound: the given 'uptoSmall'. The walk is in XW13Tells. -/
namespace Go.Proofs.Ythcjfgfbeollpaa.ExpandTells
open Go.ChangeShapes Go.WideShapes Go.ChangeAt Go.RowKit
set_option linter.unusedVariables false

theorem own : ownKnob Try.prog.godebug = none := by kernel_rfl
theorem laidOut : laidOutB Try.prog = true := by kernel_rfl

set_option maxRecDepth 100000 in
theorem contract (H : Type) (enc : TypeId × Value → H) (W : World) (base : Nat) (args : Array Value) (ds gs : List (DataW H)) (before : List MemPlace)
    (hval0 : ∀ (j : Nat) t v, Try.f3.params[j]? = some t → args[j]? = some v → Value.okWide Try.prog W .any base t v)
    (hW : DataW.Whole enc Try.prog Try.f3.params.toList Rows.expandTellsSpec.vars false W args.toList ds gs before) (hk : Rows.uptoSmall H (ds ++ gs) = true) :
    Calls Try.prog 3 args W fun e W' => ∃ v, e = .returned v ∧ Rows.expandTellsSpec.post enc Try.prog Try.f3 false true false false W args v W' := by
  have hval : ∀ (j : Nat) t v, Try.f3.params[j]? = some t → args[j]? = some v → Value.okWide Try.prog W .any base t v := hval0
  have hW' := hW
  obtain ⟨p, q, hA0, hV, rfl, hfz, hnd⟩ := hW
  have hA : DataW.TrodAll enc Try.prog W 0 (fun _ => true) true Try.f3.params.toList args.toList ds p := hA0
  rw [Try.params3] at hA hval
  obtain ⟨v0, vs0, d0, ds0, p0, q0, hargs, rfl, rfl, h0, r0⟩ := trodAll_cons hA
  obtain ⟨v1, vs1, d1, ds1, p1, q1, rfl, rfl, rfl, h1, r1⟩ := trodAll_cons r0
  obtain ⟨rfl, rfl, rfl⟩ := trodAll_nil r1
  obtain rfl : args = #[v0, v1] := by cases args; simp_all
  obtain ⟨rfl, rfl⟩ := trodVars_none hV
  have lt0 : ∀ x ∈ p0, x.block < W.heap.size := by obtain ⟨m, hm⟩ := h0; exact DataW.trod_lt m _ _ _ hm
  have lt1 : ∀ x ∈ p1, x.block < W.heap.size := by obtain ⟨m, hm⟩ := h1; exact DataW.trod_lt m _ _ _ hm
  have hk1 : Rows.uptoSmall H [d0, d1] = true := hk
  refine (walk v0 v1 W (hval 0 27 v0 rfl rfl) (hval 1 3 v1 rfl rfl) h0 h1 hk1).mono fun e W' ⟨he, bel⟩ => ?_
  subst he
  exact ⟨_, rfl, _, _, _, [], _, [], hW', trodAll_mk1 (shut_bool Try.underlying4 _), (trodAll_cons_mk (Below.trod laidOut (by kernel_rfl) (of_decide_eq_true (by kernel_rfl)) h0 bel lt0) (trodAll_cons_mk (Below.trod laidOut (by kernel_rfl) (of_decide_eq_true (by kernel_rfl)) h1 bel lt1) trodAll_mk0)), rfl, bel.frame _, fun h => by cases h⟩

set_option maxRecDepth 100000 in
theorem lifted (os : Os) (started : os.Started) (H : Type) (enc : TypeId × Value → H) (F : Stop.Interp) :
    ReturnsInHanded {} Try.checked os 3 .any ((Rows.OpenSpec.upto Rows.expandTellsSpec).pre6 enc Try.prog Try.f3 Rows.expandTellsUptoRow.domain false) (((Rows.OpenSpec.upto Rows.expandTellsSpec).at F).post enc Try.prog Try.f3 false true false false) := by
  refine returnsInHanded_of_cond (C := Try.checked) (s := Rows.OpenSpec.upto Rows.expandTellsSpec) (k := Rows.uptoSmall) rfl own started (by kernel_rfl) Try.func3
    (OpenSpec.witness (enc := enc) (C := Try.checked) (s := Rows.OpenSpec.upto Rows.expandTellsSpec) (k := Rows.uptoSmall) rfl false ⟨#[], #[.agg #[.int .i64 0, .int .u64 0, .int .u64 0, .int .u64 0, .int .u64 0, .int .i64 0, .int .i64 0, .slice none 0 0], .int .i64 0], []⟩ 8 (by kernel_rfl) (by kernel_rfl) (by kernel_rfl)
      (x := ([.agg [.lit (.int .i64 0), .agg [.lit (.int .u64 0), .lit (.int .u64 0), .lit (.int .u64 0), .lit (.int .u64 0)], .lit (.int .i64 0), .lit (.int .i64 0), .nil], .lit (.int .i64 0)], [], [])) (by kernel_rfl) rfl (by kernel_rfl)) ?_
  intro W base args ds gs before hval hW _ hk _
  exact contract H enc W base args ds gs before hval hW hk

theorem over : Rows.expandTellsUptoRow.holds Try.pinned (Rows.OpenSpec.upto Rows.expandTellsSpec) :=
  OpenClaim.holds_of_cond 3 Try.f3 rfl rfl rfl rfl rfl rfl rfl ⟨rfl, rfl, rfl, rfl, rfl⟩ rfl rfl rfl rfl rfl (by kernel_rfl) Try.func3 (by kernel_rfl)
    (of_decide_eq_true (by kernel_rfl)) (by unfold Func.isWrapper; first | (rw [if_pos (by decide +kernel)]; kernel_rfl) | (rw [if_neg (by decide +kernel)]; exact ⟨rfl, rfl⟩))
    (fun os started H enc _ F => lifted os started H enc F)

theorem proved : Rows.ExpandTellsUptoSaid := over
#print axioms proved
end Go.Proofs.Ythcjfgfbeollpaa.ExpandTells
