/- The code's exported measures (layer 9): Size, Wide, Nullable, First, Length, None. -/
import Derived.Test.YtblijgcfelnlmaaKP42
import Derived.Test.YtblijgcfelnlmaaKP27
import Derived.Test.YtblijgcfelnlmaaKP33
import Derived.Test.YtblijgcfelnlmaaKP31
import Derived.Test.YtblijgcfelnlmaaKP14
import Derived.Test.YtblijgcfelnlmaaKP13
import Derived.Test.YtblijgcfelnlmaaKP19
import Derived.Lib.AppendZeros
import Derived.Maps.AppendAt
namespace Go.Proofs.Ytblijgcfelnlmaa.P09
open Go.RowKit Go.Proofs.Ytblijgcfelnlmaa.Base Go.Proofs.Ytblijgcfelnlmaa.Bytes Go.Proofs.Ytblijgcfelnlmaa.P07 Go.Proofs.Ytblijgcfelnlmaa.P08
open Go.Proofs.Ytblijgcfelnlmaa.Sets (ST)

theorem of_any (t : T) (hR : RT 12 t) (hc : cnt t ≤ 200) (bl o : Nat) (a : Option Addr) (c : Nat) (w : World) (hP : NodeP w bl o t a c) (hL : Lie w (fun _ => True) a t.subs) :
    Calls Try.prog 35 #[.pointer (some ⟨bl, o, none⟩)] w fun e w' => e = .returned (xV (txOf t)) ∧ Keep (fun _ => False) w w' :=
  of_all _ t (Nat.lt_succ_self _) 12 hR (by have := bnd_small hc; omega) bl o a c w hP hL
theorem field_first (x : TX) (w : World) : (Instr.field 52 (xV x) 2).run Try.prog w = .ok (val x.first) w := by kernel_rfl
theorem field_none (x : TX) (w : World) : (Instr.field 52 (xV x) 0).run Try.prog w = .ok (.bool x.none) w := by kernel_rfl
theorem of_x (t : T) (hR : RT 12 t) (hc : cnt t ≤ 200) {X : TX} (hX : txOf t = X) (bl o : Nat) (a : Option Addr) (c : Nat) (w : World) (hP : NodeP w bl o t a c) (hL : Lie w (fun _ => True) a t.subs) :
    Calls Try.prog 35 #[.pointer (some ⟨bl, o, none⟩)] w fun e w' => e = .returned (xV X) ∧ Keep (fun _ => False) w w' := by
  subst hX
  exact of_any t hR hc bl o a c w hP hL

set_option maxRecDepth 100000 in
set_option maxHeartbeats 2000000 in
theorem msize_any (t : T) (hs : SOk t) (hc : cnt t ≤ 1000000000) (a : Option Addr) (c : Nat) (w : World) (hL : Lie w (fun _ => True) a t.subs) :
    Calls Try.prog 13 #[nodeV t a c] w fun e w' => e = .returned (if rightB t = true then .int .i64 (cnt t) else .int .i64 0) ∧ Keep (fun _ => False) w w' := by
  have q := (Keep.refl (fun _ => False) w).alloc (.cells (ncells t a c) 27)
  have H0 := Lib.hid (And.intro (Bx.new (c := c) hL) (And.intro q (And.intro hs hc)))
  clear hL q hs hc
  cases hr : rightB t
  all_goals
    have HR := Lib.hid hr
    clear hr
    go_enter Try.func13, Try.ntmps13
    go_upto_region 1 with fail
    generalize (w.alloc (.cells (ncells t a c) 27)) = W at *
    obtain ⟨c0, c1, c2, c3, c4, c5, c6, c7⟩ := H0.out.1.eight
    go_wp2_with fail
    refine (cRight_any t H0.out.2.2.1 a c W H0.out.1.lie).mono ?_
    rintro e w1 ⟨rfl, q1⟩
    rw [HR.out]
    have H1 := Lib.hid (And.intro (H0.out.1.keep q1) (H0.out.2.1.trans q1))
    clear q1 c0 c1 c2 c3 c4 c5 c6 c7
  · go_wp2_with fail
    go_ret
    exact ⟨rfl, H1.out.2⟩
  · have hR := (rightB_iff H0.out.2.2.1).1 HR.out
    have HC := Lib.hid (csize_all _ t (Nat.lt_succ_self _) H0.out.2.2.2 w.heap.size 0 a c w1 (NodeP.of_at H1.out.1.cell) H1.out.1.lie)
    clear hR
    go_wp2_with fail
    refine HC.out.mono ?_
    rintro e w2 ⟨rfl, q2⟩
    have Q2 := Lib.hid (H1.out.2.trans q2)
    clear q2
    go_wp2_with fail
    go_ret
    exact ⟨rfl, Q2.out⟩

set_option maxRecDepth 100000 in
set_option maxHeartbeats 2000000 in
theorem mwide_any (t : T) (hs : SOk t)  (a : Option Addr) (c : Nat) (w : World) (hL : Lie w (fun _ => True) a t.subs) :
    Calls Try.prog 14 #[nodeV t a c] w fun e w' => e = .returned (if rightB t = true then .int .i64 (wd t) else .int .i64 0) ∧ Keep (fun _ => False) w w' := by
  have q := (Keep.refl (fun _ => False) w).alloc (.cells (ncells t a c) 27)
  have H0 := Lib.hid (And.intro (Bx.new (c := c) hL) (And.intro q (And.intro hs trivial)))
  clear hL q hs 
  cases hr : rightB t
  all_goals
    have HR := Lib.hid hr
    clear hr
    go_enter Try.func14, Try.ntmps14
    go_upto_region 1 with fail
    generalize (w.alloc (.cells (ncells t a c) 27)) = W at *
    obtain ⟨c0, c1, c2, c3, c4, c5, c6, c7⟩ := H0.out.1.eight
    go_wp2_with fail
    refine (cRight_any t H0.out.2.2.1 a c W H0.out.1.lie).mono ?_
    rintro e w1 ⟨rfl, q1⟩
    rw [HR.out]
    have H1 := Lib.hid (And.intro (H0.out.1.keep q1) (H0.out.2.1.trans q1))
    clear q1 c0 c1 c2 c3 c4 c5 c6 c7
  · go_wp2_with fail
    go_ret
    exact ⟨rfl, H1.out.2⟩
  · have hR := (rightB_iff H0.out.2.2.1).1 HR.out
    have HC := Lib.hid (cwide_all _ t (Nat.lt_succ_self _) 12 hR w.heap.size 0 a c w1 (NodeP.of_at H1.out.1.cell) H1.out.1.lie)
    clear hR
    go_wp2_with fail
    refine HC.out.mono ?_
    rintro e w2 ⟨rfl, q2⟩
    have Q2 := Lib.hid (H1.out.2.trans q2)
    clear q2
    go_wp2_with fail
    go_ret
    exact ⟨rfl, Q2.out⟩

set_option maxRecDepth 100000 in
set_option maxHeartbeats 2000000 in
theorem mlength_any (t : T) (hs : SOk t) (hc : cnt t ≤ 200) (a : Option Addr) (c : Nat) (w : World) (hL : Lie w (fun _ => True) a t.subs) :
    Calls Try.prog 12 #[nodeV t a c] w fun e w' => e = .returned (if rightB t = true then .tuple #[.int .i64 (txOf t).len.1, .int .i64 (txOf t).len.2] else .tuple #[.int .i64 0, .int .i64 0]) ∧ Keep (fun _ => False) w w' := by
  obtain ⟨X, hX⟩ : ∃ X, txOf t = X := ⟨_, rfl⟩
  rw [hX]
  have HX := Lib.hid hX
  clear hX
  have q := (Keep.refl (fun _ => False) w).alloc (.cells (ncells t a c) 27)
  have H0 := Lib.hid (And.intro (Bx.new (c := c) hL) (And.intro q (And.intro hs hc)))
  clear hL q hs hc
  cases hr : rightB t
  all_goals
    have HR := Lib.hid hr
    clear hr
    go_enter Try.func12, Try.ntmps12
    go_upto_region 1 with fail
    generalize (w.alloc (.cells (ncells t a c) 27)) = W at *
    obtain ⟨c0, c1, c2, c3, c4, c5, c6, c7⟩ := H0.out.1.eight
    go_wp2_with fail
    refine (cRight_any t H0.out.2.2.1 a c W H0.out.1.lie).mono ?_
    rintro e w1 ⟨rfl, q1⟩
    rw [HR.out]
    have H1 := Lib.hid (And.intro (H0.out.1.keep q1) (H0.out.2.1.trans q1))
    clear q1 c0 c1 c2 c3 c4 c5 c6 c7
  · go_wp2_with fail
    exact bodyPost_ret (v := .tuple #[.int .i64 0, .int .i64 0]) (by simp [results, Try.results12, go_sem]) rfl ⟨rfl, H1.out.2⟩
  · have hR := (rightB_iff H0.out.2.2.1).1 HR.out
    have HC := Lib.hid (of_x t hR H0.out.2.2.2 HX.out w.heap.size 0 a c w1 (NodeP.of_at H1.out.1.cell) H1.out.1.lie)
    clear hR
    go_wp2_with fail
    refine HC.out.mono ?_
    rintro e w2 ⟨rfl, q2⟩
    have Q2 := Lib.hid (H1.out.2.trans q2)
    clear q2
    go_wp2_with fail
    refine (length_any X w2).mono ?_
    rintro e w3 ⟨rfl, q3⟩
    have Q3 := Lib.hid (Q2.out.trans q3)
    clear q3
    go_wp2_with fail
    exact bodyPost_ret (v := .tuple #[.int .i64 X.len.1, .int .i64 X.len.2]) (by simp [results, Try.results12, go_sem]) rfl ⟨rfl, Q3.out⟩

set_option maxRecDepth 100000 in
set_option maxHeartbeats 2000000 in
theorem mnone_any (t : T) (hs : SOk t) (hc : cnt t ≤ 200) (a : Option Addr) (c : Nat) (w : World) (hL : Lie w (fun _ => True) a t.subs) :
    Calls Try.prog 17 #[nodeV t a c] w fun e w' => e = .returned (if rightB t = true then .bool (txOf t).none else .bool false) ∧ Keep (fun _ => False) w w' := by
  obtain ⟨X, hX⟩ : ∃ X, txOf t = X := ⟨_, rfl⟩
  rw [hX]
  have HX := Lib.hid hX
  clear hX
  have q := (Keep.refl (fun _ => False) w).alloc (.cells (ncells t a c) 27)
  have H0 := Lib.hid (And.intro (Bx.new (c := c) hL) (And.intro q (And.intro hs hc)))
  clear hL q hs hc
  cases hr : rightB t
  all_goals
    have HR := Lib.hid hr
    clear hr
    go_enter Try.func17, Try.ntmps17
    go_upto_region 1 with fail
    generalize (w.alloc (.cells (ncells t a c) 27)) = W at *
    obtain ⟨c0, c1, c2, c3, c4, c5, c6, c7⟩ := H0.out.1.eight
    go_wp2_with fail
    refine (cRight_any t H0.out.2.2.1 a c W H0.out.1.lie).mono ?_
    rintro e w1 ⟨rfl, q1⟩
    rw [HR.out]
    have H1 := Lib.hid (And.intro (H0.out.1.keep q1) (H0.out.2.1.trans q1))
    clear q1 c0 c1 c2 c3 c4 c5 c6 c7
  · go_wp2_with fail
    go_ret
    exact ⟨rfl, H1.out.2⟩
  · have hR := (rightB_iff H0.out.2.2.1).1 HR.out
    have HC := Lib.hid (of_x t hR H0.out.2.2.2 HX.out w.heap.size 0 a c w1 (NodeP.of_at H1.out.1.cell) H1.out.1.lie)
    clear hR
    go_wp2_with fail
    refine HC.out.mono ?_
    rintro e w2 ⟨rfl, q2⟩
    have Q2 := Lib.hid (H1.out.2.trans q2)
    clear q2
    have hfl := field_none X
    go_wp2_with fail
    go_ret
    exact ⟨rfl, Q2.out⟩

set_option maxRecDepth 100000 in
set_option maxHeartbeats 2000000 in
theorem mnull_any (t : T) (hs : SOk t) (hc : cnt t ≤ 200) (a : Option Addr) (c : Nat) (w : World) (hL : Lie w (fun _ => True) a t.subs) :
    Calls Try.prog 15 #[nodeV t a c] w fun e w' => e = .returned (if rightB t = true then .bool (!(txOf t).none && decide ((txOf t).least = 0)) else .bool false) ∧ Keep (fun _ => False) w w' := by
  obtain ⟨X, hX⟩ : ∃ X, txOf t = X := ⟨_, rfl⟩
  rw [hX]
  have HX := Lib.hid hX
  clear hX
  have q := (Keep.refl (fun _ => False) w).alloc (.cells (ncells t a c) 27)
  have H0 := Lib.hid (And.intro (Bx.new (c := c) hL) (And.intro q (And.intro hs hc)))
  clear hL q hs hc
  cases hr : rightB t
  all_goals
    have HR := Lib.hid hr
    clear hr
    go_enter Try.func15, Try.ntmps15
    go_upto_region 1 with fail
    generalize (w.alloc (.cells (ncells t a c) 27)) = W at *
    obtain ⟨c0, c1, c2, c3, c4, c5, c6, c7⟩ := H0.out.1.eight
    go_wp2_with fail
    refine (cRight_any t H0.out.2.2.1 a c W H0.out.1.lie).mono ?_
    rintro e w1 ⟨rfl, q1⟩
    rw [HR.out]
    have H1 := Lib.hid (And.intro (H0.out.1.keep q1) (H0.out.2.1.trans q1))
    clear q1 c0 c1 c2 c3 c4 c5 c6 c7
  · go_wp2_with fail
    go_ret
    exact ⟨rfl, H1.out.2⟩
  · have hR := (rightB_iff H0.out.2.2.1).1 HR.out
    have HC := Lib.hid (of_x t hR H0.out.2.2.2 HX.out w.heap.size 0 a c w1 (NodeP.of_at H1.out.1.cell) H1.out.1.lie)
    clear hR
    go_wp2_with fail
    refine HC.out.mono ?_
    rintro e w2 ⟨rfl, q2⟩
    have Q2 := Lib.hid (H1.out.2.trans q2)
    clear q2
    have hz : ((X.least == 0) = true ∧ decide (X.least = 0) = true) ∨ ((X.least == 0) = false ∧ decide (X.least = 0) = false) := by
      by_cases h : X.least = 0
      · exact .inl ⟨by simp [h], decide_eq_true h⟩
      · exact .inr ⟨by simp [h], decide_eq_false h⟩
    go_upto_region 4 with fail
    have a := At.new w2 (xcells X) 52
    have q := Q2.out.alloc (.cells (xcells X) 52)
    have HQ := Lib.hid q
    clear q
    generalize (w2.alloc (.cells (xcells X) 52)) = W3 at *
    obtain ⟨⟨k0, k1, k2, k3, k4, k5, k6, k7⟩, -⟩ := cells8 a
    clear a
    cases hn : X.none
    all_goals
      rw [hn] at k0
      have HN := Lib.hid hn
      clear hn
      rcases hz with ⟨z1, z2⟩ | ⟨z1, z2⟩
    all_goals
      have HZ := Lib.hid z2
      clear z2
      go_wp2_with fail
      go_ret
      exact ⟨Bytes.ret_bool (by rw [HN.out, HZ.out]; rfl), HQ.out⟩

set_option maxRecDepth 100000 in
set_option maxHeartbeats 2000000 in
theorem mfirst_any (t : T) (hs : SOk t) (hc : cnt t ≤ 200) (a : Option Addr) (c : Nat) (w : World) (hL : Lie w (fun _ => True) a t.subs) :
    Calls Try.prog 16 #[nodeV t a c] w fun e w' => e = .returned (if rightB t = true then val (txOf t).first else val ST.none) ∧ Keep (fun _ => False) w w' := by
  obtain ⟨X, hX⟩ : ∃ X, txOf t = X := ⟨_, rfl⟩
  rw [hX]
  have HX := Lib.hid hX
  clear hX
  have q := ((Keep.refl (fun _ => False) w).alloc (.cells (ncells t a c) 27)).alloc (.cells Bytes.zeros 24)
  have a1 := At.new (w.alloc (.cells (ncells t a c) 27)) Bytes.zeros 24
  rw [show (w.alloc (.cells (ncells t a c) 27)).heap.size = w.heap.size + 1 from by simp] at a1
  have H0 := Lib.hid (And.intro ((Bx.new (c := c) hL).keep ((Keep.refl (fun _ => False) _).alloc (.cells Bytes.zeros 24))) (And.intro q (And.intro hs (And.intro hc a1))))
  clear hL q hs hc a1
  cases hr : rightB t
  all_goals
    have HR := Lib.hid hr
    clear hr
    go_enter Try.func16, Try.ntmps16
    go_upto_region 1 with fail
    generalize ((w.alloc (.cells (ncells t a c) 27)).alloc (.cells Bytes.zeros 24)) = W at *
    obtain ⟨c0, c1, c2, c3, c4, c5, c6, c7⟩ := H0.out.1.eight
    go_wp2_with fail
    refine (cRight_any t H0.out.2.2.1 a c W H0.out.1.lie).mono ?_
    rintro e w1 ⟨rfl, q1⟩
    rw [HR.out]
    have H1 := Lib.hid (And.intro (H0.out.1.keep q1) (And.intro (H0.out.2.1.trans q1) (H0.out.2.2.2.2.keep q1 (fun h => h))))
    clear q1 c0 c1 c2 c3 c4 c5 c6 c7
  · obtain ⟨⟨d0, d1, d2, d3⟩, f0, f1, f2, f3⟩ := cells4 H1.out.2.2
    go_wp2_with fail
    have a := set4 H1.out.2.2 (.int .u64 ST.none.x0) (.int .u64 ST.none.x1) (.int .u64 ST.none.x2) (.int .u64 ST.none.x3)
    have q := keep4 H1.out.2.1 (b := w.heap.size + 1) (fun h => absurd h (by omega)) (.int .u64 ST.none.x0) (.int .u64 ST.none.x1) (.int .u64 ST.none.x2) (.int .u64 ST.none.x3)
    change bodyPost _ _ _ _ _ ((((w1.setCell ⟨w.heap.size + 1, 0, none⟩ (.int .u64 ST.none.x0)).setCell ⟨w.heap.size + 1, 1, none⟩ (.int .u64 ST.none.x1)).setCell ⟨w.heap.size + 1, 2, none⟩ (.int .u64 ST.none.x2)).setCell ⟨w.heap.size + 1, 3, none⟩ (.int .u64 ST.none.x3))
    generalize World.setCell _ _ _ = W9 at *
    obtain ⟨⟨e0, e1, e2, e3⟩, -⟩ := cells4 a
    exact bodyPost_ret (v := val ST.none) (by simp [results, Try.results16, go_sem, e0, e1, e2, e3]) rfl ⟨rfl, q⟩
  · have hR := (rightB_iff H0.out.2.2.1).1 HR.out
    have HC := Lib.hid (of_x t hR H0.out.2.2.2.1 HX.out w.heap.size 0 a c w1 (NodeP.of_at H1.out.1.cell) H1.out.1.lie)
    clear hR
    go_wp2_with fail
    refine HC.out.mono ?_
    rintro e w2 ⟨rfl, q2⟩
    have H2 := Lib.hid (And.intro (H1.out.2.1.trans q2) (H1.out.2.2.keep q2 (fun h => h)))
    clear q2
    obtain ⟨⟨d0, d1, d2, d3⟩, f0, f1, f2, f3⟩ := cells4 H2.out.2
    have hfl := field_first X
    go_wp2_with fail
    have a := set4 H2.out.2 (.int .u64 X.first.x0) (.int .u64 X.first.x1) (.int .u64 X.first.x2) (.int .u64 X.first.x3)
    have q := keep4 H2.out.1 (b := w.heap.size + 1) (fun h => absurd h (by omega)) (.int .u64 X.first.x0) (.int .u64 X.first.x1) (.int .u64 X.first.x2) (.int .u64 X.first.x3)
    change bodyPost _ _ _ _ _ ((((w2.setCell ⟨w.heap.size + 1, 0, none⟩ (.int .u64 X.first.x0)).setCell ⟨w.heap.size + 1, 1, none⟩ (.int .u64 X.first.x1)).setCell ⟨w.heap.size + 1, 2, none⟩ (.int .u64 X.first.x2)).setCell ⟨w.heap.size + 1, 3, none⟩ (.int .u64 X.first.x3))
    generalize World.setCell _ _ _ = W9 at *
    obtain ⟨⟨e0, e1, e2, e3⟩, -⟩ := cells4 a
    exact bodyPost_ret (v := val X.first) (by simp [results, Try.results16, go_sem, e0, e1, e2, e3]) rfl ⟨rfl, q⟩
end Go.Proofs.Ytblijgcfelnlmaa.P09
/- The document's Nullable and First (layer 9), of right expressions. -/
namespace Go.Proofs.Ytblijgcfelnlmaa.P09
open Go.RowKit Go.Proofs.Ytblijgcfelnlmaa.Base Go.Proofs.Ytblijgcfelnlmaa.Bytes Go.Proofs.Ytblijgcfelnlmaa.P07 Go.Proofs.Ytblijgcfelnlmaa.P08 Go.Proofs.Ytblijgcfelnlmaa.IL
open Go.Proofs.Ytblijgcfelnlmaa.Sets (ST)

set_option maxRecDepth 100000 in
set_option maxHeartbeats 2000000 in
theorem fnull_any (t : T) (d : Nat) (hR : RT d t) (a : Option Addr) (c : Nat) (w : World) (hL : Lie w (fun _ => True) a t.subs) : Calls Try.prog 21 #[nodeV t a c] w fun e w' => e = .returned (.bool (nullB t)) ∧ Keep (fun _ => False) w w' := by
  have q := (Keep.refl (fun _ => False) w).alloc (.cells (ncells t a c) 27)
  have hl := lens_length 0 t
  obtain ⟨x, hx⟩ : ∃ x, lens 0 t = [x] := by
    match lens 0 t, hl with
    | [x], _ => exact ⟨x, rfl⟩
  have hv : nullB t = x := by unfold nullB; rw [hx]; rfl
  have H0 := Lib.hid (And.intro (Bx.new (c := c) hL) (And.intro q (And.intro hR hx)))
  rw [hv]
  clear hL q hR hl hx hv
  go_enter Try.func21, Try.ntmps21
  go_upto_region 1 with fail
  generalize (w.alloc (.cells (ncells t a c) 27)) = W at *
  obtain ⟨c0, c1, c2, c3, c4, c5, c6, c7⟩ := H0.out.1.eight
  have hcall := flens_all _ t (Nat.lt_succ_self _) d H0.out.2.2.1 0 (by decide) a c W H0.out.1.lie
  have HC := Lib.hid hcall
  clear hcall
  go_wp2_with fail
  refine HC.out.mono ?_
  rintro e w1 ⟨g, rfl, hg, hat, q1⟩
  rw [H0.out.2.2.2] at hat
  have k0 := hat.cell (o := 0) (v := .bool x) rfl
  have Q1 := Lib.hid (H0.out.2.1.trans q1)
  clear hat q1 c0 c1 c2 c3 c4 c5 c6 c7
  go_wp2_with fail
  go_ret
  exact ⟨rfl, Q1.out⟩

/-- The bytes of a set, as a list. -/
def lstN (p : Nat → Bool) : Nat → List Nat
  | 0 => []
  | k + 1 => if p k then lstN p k ++ [k] else lstN p k
theorem lstN_ints (p : Nat → Bool) : ∀ k, Bytes.lst p k = ints (lstN p k)
  | 0 => rfl
  | k + 1 => by
    rw [Bytes.lst, lstN]
    split
    · rw [lstN_ints p k]
      unfold ints
      rw [List.map_append]
      rfl
    · exact lstN_ints p k
theorem lstN_mem (p : Nat → Bool) : ∀ k (x : Nat), x ∈ lstN p k ↔ x < k ∧ p x = true
  | 0, x => by simp [lstN]
  | k + 1, x => by
    rw [lstN]
    split
    · rename_i h
      rw [List.mem_append, lstN_mem p k]
      simp only [List.mem_singleton]
      constructor
      · rintro (⟨h1, h2⟩ | h1)
        · exact ⟨by omega, h2⟩
        · subst h1
          exact ⟨by omega, h⟩
      · rintro ⟨h1, h2⟩
        rcases Nat.lt_or_ge x k with h3 | h3
        · exact .inl ⟨h3, h2⟩
        · exact .inr (by omega)
    · rename_i h
      rw [lstN_mem p k]
      constructor
      · rintro ⟨h1, h2⟩
        exact ⟨by omega, h2⟩
      · rintro ⟨h1, h2⟩
        refine ⟨?_, h2⟩
        rcases Nat.lt_or_ge x k with h3 | h3
        · exact h3
        · have : x = k := by omega
          subst this
          exact absurd h2 h
theorem lstN_length (p : Nat → Bool) : ∀ k, (lstN p k).length ≤ k
  | 0 => by simp [lstN]
  | k + 1 => by
    have := lstN_length p k
    rw [lstN]
    split
    · rw [List.length_append, List.length_singleton]
      omega
    · omega
theorem mk_lstN {s : ST} (hs : s.Ok) : mkS (lstN s.has 256) = s := by
  refine ST.ext (mk_ok _ _ rfl) hs (fun b hb => ?_)
  rw [mk_has b hb _ _ rfl, Bool.eq_iff_iff, decide_eq_true_iff, lstN_mem]
  exact ⟨fun h => h.2, fun h => ⟨hb, h⟩⟩

/-- A list of bytes of the program's own, that was not there in the world b, which make the set S. -/
structure Fb (b w : World) (v : Value) (S : ST) (n : Nat) : Prop where
  q : Keep (fun _ => False) b w
  far : ∀ g, v.ownBlock = some g → b.heap.size ≤ g
  il : ∃ L : List Nat, IL w v (ints L) ∧ (∀ x ∈ L, x < 256) ∧ L.length ≤ 256 * n ∧ mkS L = S
theorem Fb.keep {b w w' : World} {v : Value} {S : ST} {n : Nat} (h : Fb b w v S n) (k : Keep (fun _ => False) w w') : Fb b w' v S n := by
  obtain ⟨L, h1, h2⟩ := h.il
  exact ⟨h.q.trans k, h.far, L, h1.keep k (fun _ _ h => h), h2⟩
theorem Fb.nil (b : World) : Fb b b (.slice none 0 0) .none 0 := ⟨Keep.refl _ _, fun g hg => (by cases hg), [], IL.nil b, by simp, by simp, rfl⟩
theorem Fb.append {b w : World} {v : Value} {S : ST} {n : Nat} (h : Fb b w v S n) {s : ST} (hs : s.Ok) (hn : n ≤ 1000) {v2 : Value} (hi : IL w v2 (Bytes.lst s.has 256)) (ty : TypeId) :
    ∃ v' w', (Builtin.append_ #[41, 41] ty #[v, v2]).run Try.prog w = .ok v' w' ∧ Fb b w' v' (S.or s) (n + 1) := by
  obtain ⟨L, h1, h2, h3, h4⟩ := h.il
  obtain ⟨a2, cap2, rfl, hc⟩ := hi.form
  have hlN := lstN_length s.has 256
  have hlen : (Bytes.lst s.has 256).length = (lstN s.has 256).length := by rw [lstN_ints]; unfold ints; rw [List.length_map]
  obtain ⟨v', w', hrun, g1, g2, g3⟩ := h1.append (Bytes.lst s.has 256) a2 cap2 (fun j x hx => by
    obtain ⟨g, -, e, hcell⟩ := hc j x hx
    refine ⟨⟨g, 0, none⟩, e, ?_⟩
    rw [show (⟨g, 0, none⟩ : Addr).add j = ⟨g, j, none⟩ from by
      unfold Addr.add
      split
      · rename_i hz
        rw [hz]
      · simp]
    exact hcell) (by unfold ints; rw [List.length_map, hlen]; omega) ty
  refine ⟨v', w', hrun, h.q.next g2 (fun i hh hi => by have := h.far i hh; omega), fun g hg => ?_, L ++ lstN s.has 256, ?_, ?_, ?_, ?_⟩
  · rcases g3 g hg with h5 | h5
    · exact h.far g h5
    · exact Nat.le_trans h.q.size h5
  · rw [lstN_ints] at g1
    unfold ints at g1 ⊢
    rw [List.map_append]
    exact g1
  · intro x hx
    rcases List.mem_append.1 hx with h5 | h5
    · exact h2 x h5
    · exact ((lstN_mem _ _ _).1 h5).1
  · rw [List.length_append]
    omega
  · rw [mk_append, h4, mk_lstN hs]
theorem Fb.set {b w : World} {v : Value} {S : ST} {n : Nat} (h : Fb b w v S n) (hn : n ≤ 1000) : Calls Try.prog 39 #[v] w fun e w' => e = .returned (val S) ∧ Keep (fun _ => False) w w' := by
  obtain ⟨L, h1, h2, h3, h4⟩ := h.il
  rw [← h4]
  exact set_is L h2 (by omega) v w h1
theorem catF_ok : ∀ (l : List T) (d : Nat) (k : Int), RL d k l → ∀ acc : ST, acc.Ok → (∀ t : T, ∀ d, RT d t → (firstS t).Ok) → (catF acc l).Ok
  | [], d, k, _, acc, h, _ => by rw [catF]; exact h
  | t :: l, d, k, hR, acc, h, hf => by
    obtain ⟨h1, h2⟩ := RL_cons hR
    rw [catF]
    have := ST.or_ok h (hf t d (IS.rt (k := k) h1))
    split
    · exact catF_ok l d k h2 _ this hf
    · exact this
theorem first_ok {t : T} {d : Nat} (hR : RT d t) : (firstS t).Ok := by
  rw [← tx_first t d hR]
  exact (tx_in t d hR).ok
end Go.Proofs.Ytblijgcfelnlmaa.P09
