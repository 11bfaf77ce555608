/- SimplifyOne: the walk. -/
import Derived.Test.YtmohpjpodkbgkaaKK46
import Derived.Test.YtmohpjpodkbgkaaKK45
import Derived.Test.YtmohpjpodkbgkaaKK25
import Derived.Test.YtmohpjpodkbgkaaKK27
namespace Go.Proofs.Ytmohpjpodkbgkaa.P10
open Go.RowKit Go.Proofs.Ytmohpjpodkbgkaa.Base Go.Proofs.Ytmohpjpodkbgkaa.Bytes Go.Proofs.Ytmohpjpodkbgkaa.P07 Go.Proofs.Ytmohpjpodkbgkaa.P08 Go.Proofs.Ytmohpjpodkbgkaa.P09
open Go.Proofs.Ytmohpjpodkbgkaa.Sets (ST)

theorem lnil {S : Nat → Prop} {W W' : World} {ok : Nat → Prop} {a : Option Addr} (_q : Keep S W W') : Lie W' ok a [] := .nil _
set_option maxRecDepth 100000 in
set_option maxHeartbeats 16000000 in
theorem law_one (t : T) (a : Option Addr) (c : Nat) (w : World) (hta : Lie w (fun _ => True) a t.subs) (hcl : t.subs.length ≤ c) (ht : cnt t ≤ 1000000000) (hst : SOk t) :
    Calls Try.prog 6 #[nodeV t a c] w fun e w' => e = .returned (.bool true) ∧ Keep (fun _ => False) w w' := by
  have q := (Keep.refl (fun _ => False) w).alloc (.cells (ncells t a c) 27)
  have H0 := Lib.hid (And.intro q (show Nd _ w.heap.size t a c from ⟨At.new w _ _, hta.keepF q, hcl⟩))
  have HCT := Lib.hid (And.intro ht hst)
  clear q hta hcl ht hst
  go_enter Try.func6, Try.ntmps6
  go_upto_region 1 with fail
  generalize (w.alloc (.cells (ncells t a c) 27)) = W0 at *
  generalize w.heap.size = n1 at *
  go_wp2_with fail
  refine (awake_true W0).mono ?_
  rintro e w1 ⟨rfl, q1⟩
  have H1 := Lib.hid (And.intro (H0.out.1.trans q1) (H0.out.2.keep q1))
  clear q1
  obtain ⟨x0, x1, x2, x3, x4, x5, x6, x7⟩ := (cells8 H1.out.2.cell).1
  go_wp2_with fail
  refine (few_any t HCT.out.1 a c w1 H1.out.2.lie).mono ?_
  rintro e w2 ⟨rfl, q2⟩
  have H2 := Lib.hid (And.intro (H1.out.1.trans q2) (H1.out.2.keep q2))
  clear q2 x0 x1 x2 x3 x4 x5 x6 x7
  by_cases h1 : sz t ≤ 200
  case neg =>
    have g1 : decide (sz t ≤ 200) = false := decide_eq_false h1
    rw [g1]
    clear g1 h1
    go_wp2_with fail
    refine (awake_true w2).mono ?_
    rintro e w3 ⟨rfl, q3⟩
    have Q3 := Lib.hid (H2.out.1.trans q3)
    clear q3
    go_wp2_with fail
    go_ret
    exact ⟨rfl, Q3.out⟩
  have g1 : decide (sz t ≤ 200) = true := decide_eq_true h1
  rw [g1]
  have HF1 := Lib.hid (few_cnt h1)
  clear g1 h1
  have HRi := Lib.hid (fun W hL => fright_any t HCT.out.1 a c W hL)
  obtain ⟨x0, x1, x2, x3, x4, x5, x6, x7⟩ := (cells8 H2.out.2.cell).1
  cases h3 : rightB t with
  | false =>
    rw [h3] at HRi
    clear h3
    go_wp2_with fail
    refine (HRi.out w2 H2.out.2.lie).mono ?_
    rintro e w3 ⟨rfl, q3⟩
    have Q3 := Lib.hid (H2.out.1.trans q3)
    clear q3
    go_wp2_with fail
    refine (awake_true w3).mono ?_
    rintro e w4 ⟨rfl, q4⟩
    have Q4 := Lib.hid (Q3.out.trans q4)
    clear q4
    go_wp2_with fail
    go_ret
    exact ⟨rfl, Q4.out⟩
  | true =>
    have hR : RT 12 t := (rightB_iff HCT.out.2).1 h3
    have hSi := (sim_ok t 12 hR).1
    have HF := Lib.hid (fun W (hL : Lie W (fun _ => True) a t.subs) => fsimple_any t 12 hR (by have := HF1.out; omega) a c (fun _ => True) W hL H2.out.2.le)
    rw [h3] at HRi
    have hcm : cnt (simT t) ≤ 200 := by have := hSi.cnt; have := HF1.out; omega
    generalize simT t = M at *
    have hRM := hSi.rt
    have hSm := hSi.smp
    have hce : cnt epsT = 1 := by kernel_rfl
    have hcn : cnt noT = 1 := by kernel_rfl
    have hRE : RT 12 epsT := epsT_rt 12
    have hRN : RT 12 noT := noT_rt 12
    have two2 : ∀ {x y : T}, RT 12 x → RT 12 y → ∀ u ∈ [x, y], RT 12 u := fun hx hy u hu => by
      simp at hu
      rcases hu with rfl | rfl
      · exact hx
      · exact hy
    have c2 : ∀ {x y : T}, cnt x ≤ 200 → cnt y ≤ 200 → cntL [x, y] ≤ 400000 := fun hx hy => by rw [cntL, cntL, cntL]; omega
    have p1 := fun b cap W hL => xcat_any [epsT, M] b cap (fun _ => True) W hL (c2 (by omega) hcm) (sets_ok (two2 hRE hRM))
    have p2 := fun b cap W hL => xcat_any [M, epsT] b cap (fun _ => True) W hL (c2 hcm (by omega)) (sets_ok (two2 hRM hRE))
    have p3 := fun b cap W hL => xalt_any [noT, M] b cap (fun _ => True) W hL (c2 (by omega) hcm) (sets_ok (two2 hRN hRM))
    have p4 := fun b cap W hL => xalt_any [M, M] b cap (fun _ => True) W hL (c2 hcm hcm) (sets_ok (two2 hRM hRM))
    have p5 := fun b cap W hL => xcat_any [M, noT] b cap (fun _ => True) W hL (c2 hcm (by omega)) (sets_ok (two2 hRM hRN))
    rw [show catT [epsT, M] = M from cat_only hRM hSm [epsT] [] (by simp) (by simp)] at p1
    rw [show catT [M, epsT] = M from cat_only hRM hSm [] [epsT] (by simp) (by simp)] at p2
    rw [alt_no hRM hSm] at p3
    rw [alt_two hRM hSm] at p4
    rw [cat_no hRM] at p5
    clear hce hcn hRE hRN two2 c2
    go_wp2_with fail
    refine (HRi.out w2 H2.out.2.lie).mono ?_
    rintro e w3 ⟨rfl, q3⟩
    have H3 := Lib.hid (And.intro (H2.out.1.trans q3) (H2.out.2.keep q3))
    clear q3 x0 x1 x2 x3 x4 x5 x6 x7
    obtain ⟨x0, x1, x2, x3, x4, x5, x6, x7⟩ := (cells8 H3.out.2.cell).1
    have HP := Lib.hid (And.intro p1 (And.intro p2 (And.intro p3 (And.intro p4 p5))))
    have HRM := Lib.hid (And.intro hRM hcm)
    clear p1 p2 p3 p4 p5 hRM hcm hSm hSi hR h3
    go_wp2_with fail
    refine (HF.out w3 H3.out.2.lie).mono ?_
    rintro e w4 ⟨⟨v, rfl, ma, mc, rfl, hle, hlie⟩, q4⟩
    have p6 := fun W (hL : Lie W (fun _ => True) ma M.subs) => xrep_any M 12 HRM.out.1 1 1 ma mc (fun _ => True) W hL hle (by have := HRM.out.2; omega)
    rw [rep_one1 HRM.out.1] at p6
    have HX := Lib.hid (And.intro HP.out.1 (And.intro HP.out.2.1 (And.intro HP.out.2.2.1 (And.intro HP.out.2.2.2.1 (And.intro HP.out.2.2.2.2 p6)))))
    have qq := q4.alloc (.cells (ncells M ma mc) 27)
    have H4 := Lib.hid (And.intro (H3.out.1.trans qq) (Nd.new hle hlie))
    clear p6 hle hlie q4 qq x0 x1 x2 x3 x4 x5 x6 x7
    go_upto_region 4 with fail
    generalize (w4.alloc (.cells (ncells M ma mc) 27)) = V4 at *
    generalize w4.heap.size = n2 at *
    go_upto_region 5 with fail
    have qa := (Keep.refl (fun _ => False) V4).alloc (.cells #[.int .i64 1, .int .u64 0, .int .u64 0, .int .u64 0, .int .u64 0, .int .i64 0, .int .i64 0, .slice none 0 0] 27)
    have qb := qa.alloc (.cells #[.int .i64 2, .int .u64 0, .int .u64 0, .int .u64 0, .int .u64 0, .int .i64 0, .int .i64 0, .slice none 0 0] 27)
    have b1 := (At.new V4 #[.int .i64 1, .int .u64 0, .int .u64 0, .int .u64 0, .int .u64 0, .int .i64 0, .int .i64 0, .slice none 0 0] 27).alloc (.cells #[.int .i64 2, .int .u64 0, .int .u64 0, .int .u64 0, .int .u64 0, .int .i64 0, .int .i64 0, .slice none 0 0] 27)
    have b2 := At.new (V4.alloc (.cells #[.int .i64 1, .int .u64 0, .int .u64 0, .int .u64 0, .int .u64 0, .int .i64 0, .int .i64 0, .slice none 0 0] 27)) #[.int .i64 2, .int .u64 0, .int .u64 0, .int .u64 0, .int .u64 0, .int .i64 0, .int .i64 0, .slice none 0 0] 27
    rw [show (V4.alloc (.cells #[.int .i64 1, .int .u64 0, .int .u64 0, .int .u64 0, .int .u64 0, .int .i64 0, .int .i64 0, .slice none 0 0] 27)).heap.size = V4.heap.size + 1 from by simp] at b2
    have H5 := Lib.hid (And.intro (H4.out.1.trans qb) (And.intro (H4.out.2.keep qb) (And.intro b1 b2)))
    clear qa qb b1 b2
    generalize ((V4.alloc (.cells #[.int .i64 1, .int .u64 0, .int .u64 0, .int .u64 0, .int .u64 0, .int .i64 0, .int .i64 0, .slice none 0 0] 27)).alloc (.cells #[.int .i64 2, .int .u64 0, .int .u64 0, .int .u64 0, .int .u64 0, .int .i64 0, .int .i64 0, .slice none 0 0] 27)) = W4 at *
    generalize V4.heap.size = n3 at *
    have HL := Lib.hid (And.intro H5.out.2.1.lie H5.out.2.1.le)
    have hs : ∀ W', Keep (fun _ => False) W4 W' → (fun w' => Keep (fun _ => False) W4 w' ∧ w'.cell? ⟨n2, 0, none⟩ = some (.int .i64 M.kind) ∧ w'.cell? ⟨n2, 1, none⟩ = some (.int .u64 M.set.x0) ∧ w'.cell? ⟨n2, 2, none⟩ = some (.int .u64 M.set.x1) ∧ w'.cell? ⟨n2, 3, none⟩ = some (.int .u64 M.set.x2) ∧ w'.cell? ⟨n2, 4, none⟩ = some (.int .u64 M.set.x3) ∧ w'.cell? ⟨n2, 5, none⟩ = some (.int .i64 M.mn) ∧ w'.cell? ⟨n2, 6, none⟩ = some (.int .i64 M.mx) ∧ w'.cell? ⟨n2, 7, none⟩ = some (.slice ma M.subs.length mc) ∧ w'.cell? ⟨n3, 0, none⟩ = some (.int .i64 1) ∧ w'.cell? ⟨n3, 1, none⟩ = some (.int .u64 0) ∧ w'.cell? ⟨n3, 2, none⟩ = some (.int .u64 0) ∧ w'.cell? ⟨n3, 3, none⟩ = some (.int .u64 0) ∧ w'.cell? ⟨n3, 4, none⟩ = some (.int .u64 0) ∧ w'.cell? ⟨n3, 5, none⟩ = some (.int .i64 0) ∧ w'.cell? ⟨n3, 6, none⟩ = some (.int .i64 0) ∧ w'.cell? ⟨n3, 7, none⟩ = some (.slice none 0 0) ∧ w'.cell? ⟨n3 + 1, 0, none⟩ = some (.int .i64 2) ∧ w'.cell? ⟨n3 + 1, 1, none⟩ = some (.int .u64 0) ∧ w'.cell? ⟨n3 + 1, 2, none⟩ = some (.int .u64 0) ∧ w'.cell? ⟨n3 + 1, 3, none⟩ = some (.int .u64 0) ∧ w'.cell? ⟨n3 + 1, 4, none⟩ = some (.int .u64 0) ∧ w'.cell? ⟨n3 + 1, 5, none⟩ = some (.int .i64 0) ∧ w'.cell? ⟨n3 + 1, 6, none⟩ = some (.int .i64 0) ∧ w'.cell? ⟨n3 + 1, 7, none⟩ = some (.slice none 0 0)) W' := fun W' q => by
      obtain ⟨x0, x1, x2, x3, x4, x5, x6, x7⟩ := (cells8 (H5.out.2.1.cell.keep q (fun h => h))).1
      obtain ⟨y0, y1, y2, y3, y4, y5, y6, y7⟩ := (cells8 (H5.out.2.2.1.keep q (fun h => h))).1
      obtain ⟨z0, z1, z2, z3, z4, z5, z6, z7⟩ := (cells8 (H5.out.2.2.2.keep q (fun h => h))).1
      exact ⟨q, x0, x1, x2, x3, x4, x5, x6, x7, y0, y1, y2, y3, y4, y5, y6, y7, z0, z1, z2, z3, z4, z5, z6, z7⟩
    have HS := Lib.hid hs
    clear hs
    refine wp_region_noPanic ?_
    refine wp_region_held_drew (S := (fun w' => Keep (fun _ => False) W4 w' ∧ w'.cell? ⟨n2, 0, none⟩ = some (.int .i64 M.kind) ∧ w'.cell? ⟨n2, 1, none⟩ = some (.int .u64 M.set.x0) ∧ w'.cell? ⟨n2, 2, none⟩ = some (.int .u64 M.set.x1) ∧ w'.cell? ⟨n2, 3, none⟩ = some (.int .u64 M.set.x2) ∧ w'.cell? ⟨n2, 4, none⟩ = some (.int .u64 M.set.x3) ∧ w'.cell? ⟨n2, 5, none⟩ = some (.int .i64 M.mn) ∧ w'.cell? ⟨n2, 6, none⟩ = some (.int .i64 M.mx) ∧ w'.cell? ⟨n2, 7, none⟩ = some (.slice ma M.subs.length mc) ∧ w'.cell? ⟨n3, 0, none⟩ = some (.int .i64 1) ∧ w'.cell? ⟨n3, 1, none⟩ = some (.int .u64 0) ∧ w'.cell? ⟨n3, 2, none⟩ = some (.int .u64 0) ∧ w'.cell? ⟨n3, 3, none⟩ = some (.int .u64 0) ∧ w'.cell? ⟨n3, 4, none⟩ = some (.int .u64 0) ∧ w'.cell? ⟨n3, 5, none⟩ = some (.int .i64 0) ∧ w'.cell? ⟨n3, 6, none⟩ = some (.int .i64 0) ∧ w'.cell? ⟨n3, 7, none⟩ = some (.slice none 0 0) ∧ w'.cell? ⟨n3 + 1, 0, none⟩ = some (.int .i64 2) ∧ w'.cell? ⟨n3 + 1, 1, none⟩ = some (.int .u64 0) ∧ w'.cell? ⟨n3 + 1, 2, none⟩ = some (.int .u64 0) ∧ w'.cell? ⟨n3 + 1, 3, none⟩ = some (.int .u64 0) ∧ w'.cell? ⟨n3 + 1, 4, none⟩ = some (.int .u64 0) ∧ w'.cell? ⟨n3 + 1, 5, none⟩ = some (.int .i64 0) ∧ w'.cell? ⟨n3 + 1, 6, none⟩ = some (.int .i64 0) ∧ w'.cell? ⟨n3 + 1, 7, none⟩ = some (.slice none 0 0))) (by kernel_rfl) ?_ (fun hHeld => ?_)
    · exact HS.out _ ((Keep.refl _ _).drew)
    refine wpAnyH_take (i := 0) (oi := { dst := some 23, op := Go.Op.load 27 (Go.Operand.tmp 4), type := 27, pos := "law.go:101", after := #[], guard := none }) (v := ?_) rfl (by kernel_rfl) (by kernel_rfl) (by kernel_rfl) (fun _ _ _ h => h) (Or.inl ⟨by rfl, ?_⟩) (by assumption) ?_
    rotate_left 1
    · (intro w hSw; (try dsimp only at hSw); go_simp; first | done | with_reducible rfl)
    try simp only [Act.put, List.setIfInBounds_toArray, List.set_cons_zero, List.set_cons_succ]
    refine wpAnyH_take (i := 1) (oi := { dst := some 24, op := Go.Op.load 27 (Go.Operand.tmp 3), type := 27, pos := "law.go:101", after := #[], guard := none }) (v := ?_) rfl (by kernel_rfl) (by kernel_rfl) (by kernel_rfl) (fun _ _ _ h => h) (Or.inl ⟨by rfl, ?_⟩) (by assumption) ?_
    rotate_left 1
    · (intro w hSw; (try dsimp only at hSw); go_simp; first | done | with_reducible rfl)
    try simp only [Act.put, List.setIfInBounds_toArray, List.set_cons_zero, List.set_cons_succ]
    refine wpAnyH_take (i := 4) (oi := { dst := some 27, op := Go.Op.load 27 (Go.Operand.tmp 3), type := 27, pos := "law.go:101", after := #[], guard := none }) (v := ?_) rfl (by kernel_rfl) (by kernel_rfl) (by kernel_rfl) (fun _ _ _ h => h) (Or.inl ⟨by rfl, ?_⟩) (by assumption) ?_
    rotate_left 1
    · (intro w hSw; (try dsimp only at hSw); go_simp; first | done | with_reducible rfl)
    try simp only [Act.put, List.setIfInBounds_toArray, List.set_cons_zero, List.set_cons_succ]
    refine wpAnyH_ready (rs := [2]) (by kernel_rfl) (by simp) ?_
    refine AllReadyH.cons (o := { dst := some 25, op := Go.Op.buildSlice 25 2 #[(0, Go.Operand.tmp 23), (1, Go.Operand.tmp 24)], type := 25, pos := "law.go:101", after := #[{ on := 0, ground := Go.Ground.data }, { on := 1, ground := Go.Ground.data }], guard := none }) rfl (fun K hK => ?_) AllReadyH.nil
    go_simp
    (have hLT := two_lie (t := epsT) (u := M) (a := none) (b := ma) (c := 0) (d := mc) (W := _) (show Lie _ _ _ _ from lnil (And.left hHeld)) (show Lie _ _ _ _ from (HL.out.1.keepF (And.left hHeld))) (Nat.le_refl 0) HL.out.2)
    refine hK.out _ _ ?_ (fun hHeld' => ?_)
    · first | exact HS.out _ ((And.left hHeld).alloc _) | exact HS.out _ (Keep.trans (And.left hHeld) q)
    clear hK K hHeld
    have hHeld := hHeld'
    clear hHeld'
    try simp only [Act.put, List.setIfInBounds_toArray, List.set_cons_zero, List.set_cons_succ]
    refine wpAnyH_ready (rs := [3]) (by kernel_rfl) (by simp) ?_
    refine AllReadyH.cons (o := { dst := some 26, op := Go.Op.call { callee := Go.Callee.value (Go.Operand.func 18), args := #[Go.Operand.tmp 25], argTypes := #[25] }, type := 27, pos := "law.go:101", after := #[{ on := 2, ground := Go.Ground.data }], guard := none }) rfl (fun K hK => ?_) AllReadyH.nil
    go_simp
    (go_at_call 18; refine (HX.out.1 _ _ _ hLT).mono ?_; rintro e w2 ⟨⟨v, rfl, xa, xc, rfl, hle1, hL1⟩, q⟩; clear hLT)
    refine hK.out _ _ ?_ (fun hHeld' => ?_)
    · first | exact HS.out _ ((And.left hHeld).alloc _) | exact HS.out _ (Keep.trans (And.left hHeld) q)
    clear hK K hHeld
    have hHeld := hHeld'
    clear hHeld'
    try simp only [Act.put, List.setIfInBounds_toArray, List.set_cons_zero, List.set_cons_succ]
    refine wpAnyH_ready (rs := [5]) (by kernel_rfl) (by simp) ?_
    refine AllReadyH.cons (o := { dst := some 28, op := Go.Op.call { callee := Go.Callee.value (Go.Operand.func 11), args := #[Go.Operand.tmp 26, Go.Operand.tmp 27], argTypes := #[27, 27] }, type := 4, pos := "law.go:101", after := #[{ on := 3, ground := Go.Ground.data }, { on := 4, ground := Go.Ground.data }, { on := 3, ground := Go.Ground.chain }], guard := none }) rfl (fun K hK => ?_) AllReadyH.nil
    go_simp
    (go_at_call 11; refine (same_yes M _ _ ma mc _ (hL1.mono fun _ _ => trivial) (HL.out.1.keepF (And.left hHeld))).mono ?_; rintro e w2 ⟨rfl, q⟩)
    refine hK.out _ _ ?_ (fun hHeld' => ?_)
    · first | exact HS.out _ ((And.left hHeld).alloc _) | exact HS.out _ (Keep.trans (And.left hHeld) q)
    clear hK K hHeld
    have hHeld := hHeld'
    clear hHeld'
    try simp only [Act.put, List.setIfInBounds_toArray, List.set_cons_zero, List.set_cons_succ]
    refine wpAnyH_take (i := 6) (oi := { dst := some 29, op := Go.Op.move (Go.Operand.tmp 28), type := 4, pos := "law.go:101", after := #[{ on := 5, ground := Go.Ground.data }, { on := 5, ground := Go.Ground.chain }], guard := none }) (v := ?_) rfl (by kernel_rfl) (by kernel_rfl) (by kernel_rfl) (fun _ _ _ h => h) (Or.inl ⟨by rfl, ?_⟩) (by assumption) ?_
    rotate_left 1
    · (intro w hSw; (try dsimp only at hSw); go_simp; first | done | with_reducible rfl)
    try simp only [Act.put, List.setIfInBounds_toArray, List.set_cons_zero, List.set_cons_succ]
    refine wpAnyH_take (i := 7) (oi := { dst := some 30, op := Go.Op.load 27 (Go.Operand.tmp 3), type := 27, pos := "law.go:101", after := #[{ on := 6, ground := Go.Ground.guard }], guard := some (6, true) }) (v := ?_) rfl (by kernel_rfl) (by kernel_rfl) (by kernel_rfl) (fun _ _ _ h => h) (Or.inl ⟨by rfl, ?_⟩) (by assumption) ?_
    rotate_left 1
    · (intro w hSw; (try dsimp only at hSw); go_simp; first | done | with_reducible rfl)
    try simp only [Act.put, List.setIfInBounds_toArray, List.set_cons_zero, List.set_cons_succ]
    refine wpAnyH_take (i := 8) (oi := { dst := some 31, op := Go.Op.load 27 (Go.Operand.tmp 4), type := 27, pos := "law.go:101", after := #[{ on := 6, ground := Go.Ground.guard }], guard := some (6, true) }) (v := ?_) rfl (by kernel_rfl) (by kernel_rfl) (by kernel_rfl) (fun _ _ _ h => h) (Or.inl ⟨by rfl, ?_⟩) (by assumption) ?_
    rotate_left 1
    · (intro w hSw; (try dsimp only at hSw); go_simp; first | done | with_reducible rfl)
    try simp only [Act.put, List.setIfInBounds_toArray, List.set_cons_zero, List.set_cons_succ]
    refine wpAnyH_take (i := 11) (oi := { dst := some 34, op := Go.Op.load 27 (Go.Operand.tmp 3), type := 27, pos := "law.go:101", after := #[{ on := 6, ground := Go.Ground.guard }], guard := some (6, true) }) (v := ?_) rfl (by kernel_rfl) (by kernel_rfl) (by kernel_rfl) (fun _ _ _ h => h) (Or.inl ⟨by rfl, ?_⟩) (by assumption) ?_
    rotate_left 1
    · (intro w hSw; (try dsimp only at hSw); go_simp; first | done | with_reducible rfl)
    try simp only [Act.put, List.setIfInBounds_toArray, List.set_cons_zero, List.set_cons_succ]
    refine wpAnyH_ready (rs := [9]) (by kernel_rfl) (by simp) ?_
    refine AllReadyH.cons (o := { dst := some 32, op := Go.Op.buildSlice 25 2 #[(0, Go.Operand.tmp 30), (1, Go.Operand.tmp 31)], type := 25, pos := "law.go:101", after := #[{ on := 7, ground := Go.Ground.data }, { on := 8, ground := Go.Ground.data }, { on := 6, ground := Go.Ground.guard }], guard := some (6, true) }) rfl (fun K hK => ?_) AllReadyH.nil
    go_simp
    (have hLT := two_lie (t := M) (u := epsT) (a := ma) (b := none) (c := mc) (d := 0) (W := _) (show Lie _ _ _ _ from (HL.out.1.keepF (And.left hHeld))) (show Lie _ _ _ _ from lnil (And.left hHeld)) HL.out.2 (Nat.le_refl 0))
    refine hK.out _ _ ?_ (fun hHeld' => ?_)
    · first | exact HS.out _ ((And.left hHeld).alloc _) | exact HS.out _ (Keep.trans (And.left hHeld) q)
    clear hK K hHeld
    have hHeld := hHeld'
    clear hHeld'
    try simp only [Act.put, List.setIfInBounds_toArray, List.set_cons_zero, List.set_cons_succ]
    refine wpAnyH_ready (rs := [10]) (by kernel_rfl) (by simp) ?_
    refine AllReadyH.cons (o := { dst := some 33, op := Go.Op.call { callee := Go.Callee.value (Go.Operand.func 18), args := #[Go.Operand.tmp 32], argTypes := #[25] }, type := 27, pos := "law.go:101", after := #[{ on := 9, ground := Go.Ground.data }, { on := 6, ground := Go.Ground.chain }, { on := 6, ground := Go.Ground.guard }], guard := some (6, true) }) rfl (fun K hK => ?_) AllReadyH.nil
    go_simp
    (go_at_call 18; refine (HX.out.2.1 _ _ _ hLT).mono ?_; rintro e w2 ⟨⟨v, rfl, xa, xc, rfl, hle1, hL1⟩, q⟩; clear hLT)
    refine hK.out _ _ ?_ (fun hHeld' => ?_)
    · first | exact HS.out _ ((And.left hHeld).alloc _) | exact HS.out _ (Keep.trans (And.left hHeld) q)
    clear hK K hHeld
    have hHeld := hHeld'
    clear hHeld'
    try simp only [Act.put, List.setIfInBounds_toArray, List.set_cons_zero, List.set_cons_succ]
    refine wpAnyH_ready (rs := [12]) (by kernel_rfl) (by simp) ?_
    refine AllReadyH.cons (o := { dst := some 35, op := Go.Op.call { callee := Go.Callee.value (Go.Operand.func 11), args := #[Go.Operand.tmp 33, Go.Operand.tmp 34], argTypes := #[27, 27] }, type := 4, pos := "law.go:101", after := #[{ on := 10, ground := Go.Ground.data }, { on := 11, ground := Go.Ground.data }, { on := 10, ground := Go.Ground.chain }, { on := 6, ground := Go.Ground.guard }], guard := some (6, true) }) rfl (fun K hK => ?_) AllReadyH.nil
    go_simp
    (go_at_call 11; refine (same_yes M _ _ ma mc _ (hL1.mono fun _ _ => trivial) (HL.out.1.keepF (And.left hHeld))).mono ?_; rintro e w2 ⟨rfl, q⟩)
    refine hK.out _ _ ?_ (fun hHeld' => ?_)
    · first | exact HS.out _ ((And.left hHeld).alloc _) | exact HS.out _ (Keep.trans (And.left hHeld) q)
    clear hK K hHeld
    have hHeld := hHeld'
    clear hHeld'
    try simp only [Act.put, List.setIfInBounds_toArray, List.set_cons_zero, List.set_cons_succ]
    refine wpAnyH_take (i := 13) (oi := { dst := some 36, op := Go.Op.pick (Go.Operand.tmp 29) (Go.Operand.tmp 35) (Go.Operand.const (Go.Value.bool false)), type := 4, pos := "law.go:101", after := #[{ on := 6, ground := Go.Ground.data }, { on := 12, ground := Go.Ground.data }], guard := none }) (v := ?_) rfl (by kernel_rfl) (by kernel_rfl) (by kernel_rfl) (fun _ _ _ h => h) (Or.inl ⟨by rfl, ?_⟩) (by assumption) ?_
    rotate_left 1
    · (intro w hSw; (try dsimp only at hSw); go_simp; first | done | with_reducible rfl)
    try simp only [Act.put, List.setIfInBounds_toArray, List.set_cons_zero, List.set_cons_succ]
    refine wpAnyH_take (i := 14) (oi := { dst := some 37, op := Go.Op.move (Go.Operand.tmp 36), type := 4, pos := "law.go:101", after := #[{ on := 13, ground := Go.Ground.data }, { on := 12, ground := Go.Ground.chain }], guard := none }) (v := ?_) rfl (by kernel_rfl) (by kernel_rfl) (by kernel_rfl) (fun _ _ _ h => h) (Or.inl ⟨by rfl, ?_⟩) (by assumption) ?_
    rotate_left 1
    · (intro w hSw; (try dsimp only at hSw); go_simp; first | done | with_reducible rfl)
    try simp only [Act.put, List.setIfInBounds_toArray, List.set_cons_zero, List.set_cons_succ]
    refine wpAnyH_take (i := 15) (oi := { dst := some 38, op := Go.Op.load 27 (Go.Operand.tmp 5), type := 27, pos := "law.go:101", after := #[{ on := 14, ground := Go.Ground.guard }], guard := some (14, true) }) (v := ?_) rfl (by kernel_rfl) (by kernel_rfl) (by kernel_rfl) (fun _ _ _ h => h) (Or.inl ⟨by rfl, ?_⟩) (by assumption) ?_
    rotate_left 1
    · (intro w hSw; (try dsimp only at hSw); go_simp; first | done | with_reducible rfl)
    try simp only [Act.put, List.setIfInBounds_toArray, List.set_cons_zero, List.set_cons_succ]
    refine wpAnyH_take (i := 16) (oi := { dst := some 39, op := Go.Op.load 27 (Go.Operand.tmp 3), type := 27, pos := "law.go:101", after := #[{ on := 14, ground := Go.Ground.guard }], guard := some (14, true) }) (v := ?_) rfl (by kernel_rfl) (by kernel_rfl) (by kernel_rfl) (fun _ _ _ h => h) (Or.inl ⟨by rfl, ?_⟩) (by assumption) ?_
    rotate_left 1
    · (intro w hSw; (try dsimp only at hSw); go_simp; first | done | with_reducible rfl)
    try simp only [Act.put, List.setIfInBounds_toArray, List.set_cons_zero, List.set_cons_succ]
    refine wpAnyH_take (i := 19) (oi := { dst := some 42, op := Go.Op.load 27 (Go.Operand.tmp 3), type := 27, pos := "law.go:101", after := #[{ on := 14, ground := Go.Ground.guard }], guard := some (14, true) }) (v := ?_) rfl (by kernel_rfl) (by kernel_rfl) (by kernel_rfl) (fun _ _ _ h => h) (Or.inl ⟨by rfl, ?_⟩) (by assumption) ?_
    rotate_left 1
    · (intro w hSw; (try dsimp only at hSw); go_simp; first | done | with_reducible rfl)
    try simp only [Act.put, List.setIfInBounds_toArray, List.set_cons_zero, List.set_cons_succ]
    refine wpAnyH_ready (rs := [17]) (by kernel_rfl) (by simp) ?_
    refine AllReadyH.cons (o := { dst := some 40, op := Go.Op.buildSlice 25 2 #[(0, Go.Operand.tmp 38), (1, Go.Operand.tmp 39)], type := 25, pos := "law.go:101", after := #[{ on := 15, ground := Go.Ground.data }, { on := 16, ground := Go.Ground.data }, { on := 14, ground := Go.Ground.guard }], guard := some (14, true) }) rfl (fun K hK => ?_) AllReadyH.nil
    go_simp
    (have hLT := two_lie (t := noT) (u := M) (a := none) (b := ma) (c := 0) (d := mc) (W := _) (show Lie _ _ _ _ from lnil (And.left hHeld)) (show Lie _ _ _ _ from (HL.out.1.keepF (And.left hHeld))) (Nat.le_refl 0) HL.out.2)
    refine hK.out _ _ ?_ (fun hHeld' => ?_)
    · first | exact HS.out _ ((And.left hHeld).alloc _) | exact HS.out _ (Keep.trans (And.left hHeld) q)
    clear hK K hHeld
    have hHeld := hHeld'
    clear hHeld'
    try simp only [Act.put, List.setIfInBounds_toArray, List.set_cons_zero, List.set_cons_succ]
    refine wpAnyH_ready (rs := [18]) (by kernel_rfl) (by simp) ?_
    refine AllReadyH.cons (o := { dst := some 41, op := Go.Op.call { callee := Go.Callee.value (Go.Operand.func 19), args := #[Go.Operand.tmp 40], argTypes := #[25] }, type := 27, pos := "law.go:101", after := #[{ on := 17, ground := Go.Ground.data }, { on := 14, ground := Go.Ground.chain }, { on := 14, ground := Go.Ground.guard }], guard := some (14, true) }) rfl (fun K hK => ?_) AllReadyH.nil
    go_simp
    (go_at_call 19; refine (HX.out.2.2.1 _ _ _ hLT).mono ?_; rintro e w2 ⟨⟨v, rfl, xa, xc, rfl, hle1, hL1⟩, q⟩; clear hLT)
    refine hK.out _ _ ?_ (fun hHeld' => ?_)
    · first | exact HS.out _ ((And.left hHeld).alloc _) | exact HS.out _ (Keep.trans (And.left hHeld) q)
    clear hK K hHeld
    have hHeld := hHeld'
    clear hHeld'
    try simp only [Act.put, List.setIfInBounds_toArray, List.set_cons_zero, List.set_cons_succ]
    refine wpAnyH_ready (rs := [20]) (by kernel_rfl) (by simp) ?_
    refine AllReadyH.cons (o := { dst := some 43, op := Go.Op.call { callee := Go.Callee.value (Go.Operand.func 11), args := #[Go.Operand.tmp 41, Go.Operand.tmp 42], argTypes := #[27, 27] }, type := 4, pos := "law.go:101", after := #[{ on := 18, ground := Go.Ground.data }, { on := 19, ground := Go.Ground.data }, { on := 18, ground := Go.Ground.chain }, { on := 14, ground := Go.Ground.guard }], guard := some (14, true) }) rfl (fun K hK => ?_) AllReadyH.nil
    go_simp
    (go_at_call 11; refine (same_yes M _ _ ma mc _ (hL1.mono fun _ _ => trivial) (HL.out.1.keepF (And.left hHeld))).mono ?_; rintro e w2 ⟨rfl, q⟩)
    refine hK.out _ _ ?_ (fun hHeld' => ?_)
    · first | exact HS.out _ ((And.left hHeld).alloc _) | exact HS.out _ (Keep.trans (And.left hHeld) q)
    clear hK K hHeld
    have hHeld := hHeld'
    clear hHeld'
    try simp only [Act.put, List.setIfInBounds_toArray, List.set_cons_zero, List.set_cons_succ]
    refine wpAnyH_take (i := 21) (oi := { dst := some 44, op := Go.Op.pick (Go.Operand.tmp 37) (Go.Operand.tmp 43) (Go.Operand.const (Go.Value.bool false)), type := 4, pos := "law.go:101", after := #[{ on := 14, ground := Go.Ground.data }, { on := 20, ground := Go.Ground.data }], guard := none }) (v := ?_) rfl (by kernel_rfl) (by kernel_rfl) (by kernel_rfl) (fun _ _ _ h => h) (Or.inl ⟨by rfl, ?_⟩) (by assumption) ?_
    rotate_left 1
    · (intro w hSw; (try dsimp only at hSw); go_simp; first | done | with_reducible rfl)
    try simp only [Act.put, List.setIfInBounds_toArray, List.set_cons_zero, List.set_cons_succ]
    refine wpAnyH_take (i := 22) (oi := { dst := some 45, op := Go.Op.move (Go.Operand.tmp 44), type := 4, pos := "law.go:101", after := #[{ on := 21, ground := Go.Ground.data }, { on := 20, ground := Go.Ground.chain }], guard := none }) (v := ?_) rfl (by kernel_rfl) (by kernel_rfl) (by kernel_rfl) (fun _ _ _ h => h) (Or.inl ⟨by rfl, ?_⟩) (by assumption) ?_
    rotate_left 1
    · (intro w hSw; (try dsimp only at hSw); go_simp; first | done | with_reducible rfl)
    try simp only [Act.put, List.setIfInBounds_toArray, List.set_cons_zero, List.set_cons_succ]
    refine wpAnyH_take (i := 23) (oi := { dst := some 46, op := Go.Op.load 27 (Go.Operand.tmp 3), type := 27, pos := "law.go:101", after := #[{ on := 22, ground := Go.Ground.guard }], guard := some (22, true) }) (v := ?_) rfl (by kernel_rfl) (by kernel_rfl) (by kernel_rfl) (fun _ _ _ h => h) (Or.inl ⟨by rfl, ?_⟩) (by assumption) ?_
    rotate_left 1
    · (intro w hSw; (try dsimp only at hSw); go_simp; first | done | with_reducible rfl)
    try simp only [Act.put, List.setIfInBounds_toArray, List.set_cons_zero, List.set_cons_succ]
    refine wpAnyH_take (i := 24) (oi := { dst := some 47, op := Go.Op.load 27 (Go.Operand.tmp 3), type := 27, pos := "law.go:101", after := #[{ on := 22, ground := Go.Ground.guard }], guard := some (22, true) }) (v := ?_) rfl (by kernel_rfl) (by kernel_rfl) (by kernel_rfl) (fun _ _ _ h => h) (Or.inl ⟨by rfl, ?_⟩) (by assumption) ?_
    rotate_left 1
    · (intro w hSw; (try dsimp only at hSw); go_simp; first | done | with_reducible rfl)
    try simp only [Act.put, List.setIfInBounds_toArray, List.set_cons_zero, List.set_cons_succ]
    refine wpAnyH_take (i := 27) (oi := { dst := some 50, op := Go.Op.load 27 (Go.Operand.tmp 3), type := 27, pos := "law.go:101", after := #[{ on := 22, ground := Go.Ground.guard }], guard := some (22, true) }) (v := ?_) rfl (by kernel_rfl) (by kernel_rfl) (by kernel_rfl) (fun _ _ _ h => h) (Or.inl ⟨by rfl, ?_⟩) (by assumption) ?_
    rotate_left 1
    · (intro w hSw; (try dsimp only at hSw); go_simp; first | done | with_reducible rfl)
    try simp only [Act.put, List.setIfInBounds_toArray, List.set_cons_zero, List.set_cons_succ]
    refine wpAnyH_ready (rs := [25]) (by kernel_rfl) (by simp) ?_
    refine AllReadyH.cons (o := { dst := some 48, op := Go.Op.buildSlice 25 2 #[(0, Go.Operand.tmp 46), (1, Go.Operand.tmp 47)], type := 25, pos := "law.go:101", after := #[{ on := 23, ground := Go.Ground.data }, { on := 24, ground := Go.Ground.data }, { on := 22, ground := Go.Ground.guard }], guard := some (22, true) }) rfl (fun K hK => ?_) AllReadyH.nil
    go_simp
    (have hLT := two_lie (t := M) (u := M) (a := ma) (b := ma) (c := mc) (d := mc) (W := _) (show Lie _ _ _ _ from (HL.out.1.keepF (And.left hHeld))) (show Lie _ _ _ _ from (HL.out.1.keepF (And.left hHeld))) HL.out.2 HL.out.2)
    refine hK.out _ _ ?_ (fun hHeld' => ?_)
    · first | exact HS.out _ ((And.left hHeld).alloc _) | exact HS.out _ (Keep.trans (And.left hHeld) q)
    clear hK K hHeld
    have hHeld := hHeld'
    clear hHeld'
    try simp only [Act.put, List.setIfInBounds_toArray, List.set_cons_zero, List.set_cons_succ]
    refine wpAnyH_ready (rs := [26]) (by kernel_rfl) (by simp) ?_
    refine AllReadyH.cons (o := { dst := some 49, op := Go.Op.call { callee := Go.Callee.value (Go.Operand.func 19), args := #[Go.Operand.tmp 48], argTypes := #[25] }, type := 27, pos := "law.go:101", after := #[{ on := 25, ground := Go.Ground.data }, { on := 22, ground := Go.Ground.chain }, { on := 22, ground := Go.Ground.guard }], guard := some (22, true) }) rfl (fun K hK => ?_) AllReadyH.nil
    go_simp
    (go_at_call 19; refine (HX.out.2.2.2.1 _ _ _ hLT).mono ?_; rintro e w2 ⟨⟨v, rfl, xa, xc, rfl, hle1, hL1⟩, q⟩; clear hLT)
    refine hK.out _ _ ?_ (fun hHeld' => ?_)
    · first | exact HS.out _ ((And.left hHeld).alloc _) | exact HS.out _ (Keep.trans (And.left hHeld) q)
    clear hK K hHeld
    have hHeld := hHeld'
    clear hHeld'
    try simp only [Act.put, List.setIfInBounds_toArray, List.set_cons_zero, List.set_cons_succ]
    refine wpAnyH_ready (rs := [28]) (by kernel_rfl) (by simp) ?_
    refine AllReadyH.cons (o := { dst := some 51, op := Go.Op.call { callee := Go.Callee.value (Go.Operand.func 11), args := #[Go.Operand.tmp 49, Go.Operand.tmp 50], argTypes := #[27, 27] }, type := 4, pos := "law.go:101", after := #[{ on := 26, ground := Go.Ground.data }, { on := 27, ground := Go.Ground.data }, { on := 26, ground := Go.Ground.chain }, { on := 22, ground := Go.Ground.guard }], guard := some (22, true) }) rfl (fun K hK => ?_) AllReadyH.nil
    go_simp
    (go_at_call 11; refine (same_yes M _ _ ma mc _ (hL1.mono fun _ _ => trivial) (HL.out.1.keepF (And.left hHeld))).mono ?_; rintro e w2 ⟨rfl, q⟩)
    refine hK.out _ _ ?_ (fun hHeld' => ?_)
    · first | exact HS.out _ ((And.left hHeld).alloc _) | exact HS.out _ (Keep.trans (And.left hHeld) q)
    clear hK K hHeld
    have hHeld := hHeld'
    clear hHeld'
    try simp only [Act.put, List.setIfInBounds_toArray, List.set_cons_zero, List.set_cons_succ]
    refine wpAnyH_take (i := 29) (oi := { dst := some 52, op := Go.Op.pick (Go.Operand.tmp 45) (Go.Operand.tmp 51) (Go.Operand.const (Go.Value.bool false)), type := 4, pos := "law.go:101", after := #[{ on := 22, ground := Go.Ground.data }, { on := 28, ground := Go.Ground.data }], guard := none }) (v := ?_) rfl (by kernel_rfl) (by kernel_rfl) (by kernel_rfl) (fun _ _ _ h => h) (Or.inl ⟨by rfl, ?_⟩) (by assumption) ?_
    rotate_left 1
    · (intro w hSw; (try dsimp only at hSw); go_simp; first | done | with_reducible rfl)
    try simp only [Act.put, List.setIfInBounds_toArray, List.set_cons_zero, List.set_cons_succ]
    refine wpAnyH_take (i := 30) (oi := { dst := some 53, op := Go.Op.move (Go.Operand.tmp 52), type := 4, pos := "law.go:101", after := #[{ on := 29, ground := Go.Ground.data }, { on := 28, ground := Go.Ground.chain }], guard := none }) (v := ?_) rfl (by kernel_rfl) (by kernel_rfl) (by kernel_rfl) (fun _ _ _ h => h) (Or.inl ⟨by rfl, ?_⟩) (by assumption) ?_
    rotate_left 1
    · (intro w hSw; (try dsimp only at hSw); go_simp; first | done | with_reducible rfl)
    try simp only [Act.put, List.setIfInBounds_toArray, List.set_cons_zero, List.set_cons_succ]
    refine wpAnyH_take (i := 31) (oi := { dst := some 54, op := Go.Op.load 27 (Go.Operand.tmp 3), type := 27, pos := "law.go:101", after := #[{ on := 30, ground := Go.Ground.guard }], guard := some (30, true) }) (v := ?_) rfl (by kernel_rfl) (by kernel_rfl) (by kernel_rfl) (fun _ _ _ h => h) (Or.inl ⟨by rfl, ?_⟩) (by assumption) ?_
    rotate_left 1
    · (intro w hSw; (try dsimp only at hSw); go_simp; first | done | with_reducible rfl)
    try simp only [Act.put, List.setIfInBounds_toArray, List.set_cons_zero, List.set_cons_succ]
    refine wpAnyH_take (i := 32) (oi := { dst := some 55, op := Go.Op.load 27 (Go.Operand.tmp 5), type := 27, pos := "law.go:101", after := #[{ on := 30, ground := Go.Ground.guard }], guard := some (30, true) }) (v := ?_) rfl (by kernel_rfl) (by kernel_rfl) (by kernel_rfl) (fun _ _ _ h => h) (Or.inl ⟨by rfl, ?_⟩) (by assumption) ?_
    rotate_left 1
    · (intro w hSw; (try dsimp only at hSw); go_simp; first | done | with_reducible rfl)
    try simp only [Act.put, List.setIfInBounds_toArray, List.set_cons_zero, List.set_cons_succ]
    refine wpAnyH_take (i := 35) (oi := { dst := some 58, op := Go.Op.load 27 (Go.Operand.tmp 5), type := 27, pos := "law.go:101", after := #[{ on := 30, ground := Go.Ground.guard }], guard := some (30, true) }) (v := ?_) rfl (by kernel_rfl) (by kernel_rfl) (by kernel_rfl) (fun _ _ _ h => h) (Or.inl ⟨by rfl, ?_⟩) (by assumption) ?_
    rotate_left 1
    · (intro w hSw; (try dsimp only at hSw); go_simp; first | done | with_reducible rfl)
    try simp only [Act.put, List.setIfInBounds_toArray, List.set_cons_zero, List.set_cons_succ]
    refine wpAnyH_ready (rs := [33]) (by kernel_rfl) (by simp) ?_
    refine AllReadyH.cons (o := { dst := some 56, op := Go.Op.buildSlice 25 2 #[(0, Go.Operand.tmp 54), (1, Go.Operand.tmp 55)], type := 25, pos := "law.go:101", after := #[{ on := 31, ground := Go.Ground.data }, { on := 32, ground := Go.Ground.data }, { on := 30, ground := Go.Ground.guard }], guard := some (30, true) }) rfl (fun K hK => ?_) AllReadyH.nil
    go_simp
    (have hLT := two_lie (t := M) (u := noT) (a := ma) (b := none) (c := mc) (d := 0) (W := _) (show Lie _ _ _ _ from (HL.out.1.keepF (And.left hHeld))) (show Lie _ _ _ _ from lnil (And.left hHeld)) HL.out.2 (Nat.le_refl 0))
    refine hK.out _ _ ?_ (fun hHeld' => ?_)
    · first | exact HS.out _ ((And.left hHeld).alloc _) | exact HS.out _ (Keep.trans (And.left hHeld) q)
    clear hK K hHeld
    have hHeld := hHeld'
    clear hHeld'
    try simp only [Act.put, List.setIfInBounds_toArray, List.set_cons_zero, List.set_cons_succ]
    refine wpAnyH_ready (rs := [34]) (by kernel_rfl) (by simp) ?_
    refine AllReadyH.cons (o := { dst := some 57, op := Go.Op.call { callee := Go.Callee.value (Go.Operand.func 18), args := #[Go.Operand.tmp 56], argTypes := #[25] }, type := 27, pos := "law.go:101", after := #[{ on := 33, ground := Go.Ground.data }, { on := 30, ground := Go.Ground.chain }, { on := 30, ground := Go.Ground.guard }], guard := some (30, true) }) rfl (fun K hK => ?_) AllReadyH.nil
    go_simp
    (go_at_call 18; refine (HX.out.2.2.2.2.1 _ _ _ hLT).mono ?_; rintro e w2 ⟨⟨v, rfl, xa, xc, rfl, hle1, hL1⟩, q⟩; clear hLT)
    refine hK.out _ _ ?_ (fun hHeld' => ?_)
    · first | exact HS.out _ ((And.left hHeld).alloc _) | exact HS.out _ (Keep.trans (And.left hHeld) q)
    clear hK K hHeld
    have hHeld := hHeld'
    clear hHeld'
    try simp only [Act.put, List.setIfInBounds_toArray, List.set_cons_zero, List.set_cons_succ]
    refine wpAnyH_ready (rs := [36]) (by kernel_rfl) (by simp) ?_
    refine AllReadyH.cons (o := { dst := some 59, op := Go.Op.call { callee := Go.Callee.value (Go.Operand.func 11), args := #[Go.Operand.tmp 57, Go.Operand.tmp 58], argTypes := #[27, 27] }, type := 4, pos := "law.go:101", after := #[{ on := 34, ground := Go.Ground.data }, { on := 35, ground := Go.Ground.data }, { on := 34, ground := Go.Ground.chain }, { on := 30, ground := Go.Ground.guard }], guard := some (30, true) }) rfl (fun K hK => ?_) AllReadyH.nil
    go_simp
    (go_at_call 11; refine (same_yes noT _ _ none 0 _ (hL1.mono fun _ _ => trivial) (.nil _)).mono ?_; rintro e w2 ⟨rfl, q⟩)
    refine hK.out _ _ ?_ (fun hHeld' => ?_)
    · first | exact HS.out _ ((And.left hHeld).alloc _) | exact HS.out _ (Keep.trans (And.left hHeld) q)
    clear hK K hHeld
    have hHeld := hHeld'
    clear hHeld'
    try simp only [Act.put, List.setIfInBounds_toArray, List.set_cons_zero, List.set_cons_succ]
    refine wpAnyH_take (i := 37) (oi := { dst := some 60, op := Go.Op.pick (Go.Operand.tmp 53) (Go.Operand.tmp 59) (Go.Operand.const (Go.Value.bool false)), type := 4, pos := "law.go:101", after := #[{ on := 30, ground := Go.Ground.data }, { on := 36, ground := Go.Ground.data }], guard := none }) (v := ?_) rfl (by kernel_rfl) (by kernel_rfl) (by kernel_rfl) (fun _ _ _ h => h) (Or.inl ⟨by rfl, ?_⟩) (by assumption) ?_
    rotate_left 1
    · (intro w hSw; (try dsimp only at hSw); go_simp; first | done | with_reducible rfl)
    try simp only [Act.put, List.setIfInBounds_toArray, List.set_cons_zero, List.set_cons_succ]
    refine wpAnyH_take (i := 38) (oi := { dst := some 61, op := Go.Op.move (Go.Operand.tmp 60), type := 4, pos := "law.go:101", after := #[{ on := 37, ground := Go.Ground.data }, { on := 36, ground := Go.Ground.chain }], guard := none }) (v := ?_) rfl (by kernel_rfl) (by kernel_rfl) (by kernel_rfl) (fun _ _ _ h => h) (Or.inl ⟨by rfl, ?_⟩) (by assumption) ?_
    rotate_left 1
    · (intro w hSw; (try dsimp only at hSw); go_simp; first | done | with_reducible rfl)
    try simp only [Act.put, List.setIfInBounds_toArray, List.set_cons_zero, List.set_cons_succ]
    refine wpAnyH_take (i := 39) (oi := { dst := some 62, op := Go.Op.load 27 (Go.Operand.tmp 3), type := 27, pos := "law.go:101", after := #[{ on := 38, ground := Go.Ground.guard }], guard := some (38, true) }) (v := ?_) rfl (by kernel_rfl) (by kernel_rfl) (by kernel_rfl) (fun _ _ _ h => h) (Or.inl ⟨by rfl, ?_⟩) (by assumption) ?_
    rotate_left 1
    · (intro w hSw; (try dsimp only at hSw); go_simp; first | done | with_reducible rfl)
    try simp only [Act.put, List.setIfInBounds_toArray, List.set_cons_zero, List.set_cons_succ]
    refine wpAnyH_take (i := 41) (oi := { dst := some 64, op := Go.Op.load 27 (Go.Operand.tmp 3), type := 27, pos := "law.go:101", after := #[{ on := 38, ground := Go.Ground.guard }], guard := some (38, true) }) (v := ?_) rfl (by kernel_rfl) (by kernel_rfl) (by kernel_rfl) (fun _ _ _ h => h) (Or.inl ⟨by rfl, ?_⟩) (by assumption) ?_
    rotate_left 1
    · (intro w hSw; (try dsimp only at hSw); go_simp; first | done | with_reducible rfl)
    try simp only [Act.put, List.setIfInBounds_toArray, List.set_cons_zero, List.set_cons_succ]
    refine wpAnyH_ready (rs := [40]) (by kernel_rfl) (by simp) ?_
    refine AllReadyH.cons (o := { dst := some 63, op := Go.Op.call { callee := Go.Callee.value (Go.Operand.func 20), args := #[Go.Operand.tmp 62, Go.Operand.const (Go.Value.int Go.IntKind.i64 1), Go.Operand.const (Go.Value.int Go.IntKind.i64 1)], argTypes := #[27, 3, 3] }, type := 27, pos := "law.go:101", after := #[{ on := 39, ground := Go.Ground.data }, { on := 38, ground := Go.Ground.chain }, { on := 38, ground := Go.Ground.guard }], guard := some (38, true) }) rfl (fun K hK => ?_) AllReadyH.nil
    go_simp
    (go_at_call 20; refine (HX.out.2.2.2.2.2 _ (HL.out.1.keepF (And.left hHeld))).mono ?_; rintro e w2 ⟨⟨v, rfl, xa, xc, rfl, hle1, hL1⟩, q⟩)
    refine hK.out _ _ ?_ (fun hHeld' => ?_)
    · first | exact HS.out _ ((And.left hHeld).alloc _) | exact HS.out _ (Keep.trans (And.left hHeld) q)
    clear hK K hHeld
    have hHeld := hHeld'
    clear hHeld'
    try simp only [Act.put, List.setIfInBounds_toArray, List.set_cons_zero, List.set_cons_succ]
    refine wpAnyH_ready (rs := [42]) (by kernel_rfl) (by simp) ?_
    refine AllReadyH.cons (o := { dst := some 65, op := Go.Op.call { callee := Go.Callee.value (Go.Operand.func 11), args := #[Go.Operand.tmp 63, Go.Operand.tmp 64], argTypes := #[27, 27] }, type := 4, pos := "law.go:101", after := #[{ on := 40, ground := Go.Ground.data }, { on := 41, ground := Go.Ground.data }, { on := 40, ground := Go.Ground.chain }, { on := 38, ground := Go.Ground.guard }], guard := some (38, true) }) rfl (fun K hK => ?_) AllReadyH.nil
    go_simp
    (go_at_call 11; refine (same_yes M _ _ ma mc _ (hL1.mono fun _ _ => trivial) (HL.out.1.keepF (And.left hHeld))).mono ?_; rintro e w2 ⟨rfl, q⟩)
    refine hK.out _ _ ?_ (fun hHeld' => ?_)
    · first | exact HS.out _ ((And.left hHeld).alloc _) | exact HS.out _ (Keep.trans (And.left hHeld) q)
    clear hK K hHeld
    have hHeld := hHeld'
    clear hHeld'
    try simp only [Act.put, List.setIfInBounds_toArray, List.set_cons_zero, List.set_cons_succ]
    refine wpAnyH_take (i := 43) (oi := { dst := some 66, op := Go.Op.pick (Go.Operand.tmp 61) (Go.Operand.tmp 65) (Go.Operand.const (Go.Value.bool false)), type := 4, pos := "law.go:101", after := #[{ on := 38, ground := Go.Ground.data }, { on := 42, ground := Go.Ground.data }], guard := none }) (v := ?_) rfl (by kernel_rfl) (by kernel_rfl) (by kernel_rfl) (fun _ _ _ h => h) (Or.inl ⟨by rfl, ?_⟩) (by assumption) ?_
    rotate_left 1
    · (intro w hSw; (try dsimp only at hSw); go_simp; first | done | with_reducible rfl)
    try simp only [Act.put, List.setIfInBounds_toArray, List.set_cons_zero, List.set_cons_succ]
    refine wpAnyH_take (i := 44) (oi := { dst := some 2, op := Go.Op.assign (Go.Operand.tmp 66), type := 4, pos := "law.go:101", after := #[{ on := 43, ground := Go.Ground.data }, { on := 42, ground := Go.Ground.chain }, { on := 0, ground := Go.Ground.phase }, { on := 1, ground := Go.Ground.phase }, { on := 2, ground := Go.Ground.phase }, { on := 3, ground := Go.Ground.phase }, { on := 4, ground := Go.Ground.phase }, { on := 5, ground := Go.Ground.phase }, { on := 6, ground := Go.Ground.phase }, { on := 7, ground := Go.Ground.phase }, { on := 8, ground := Go.Ground.phase }, { on := 9, ground := Go.Ground.phase }, { on := 10, ground := Go.Ground.phase }, { on := 11, ground := Go.Ground.phase }, { on := 12, ground := Go.Ground.phase }, { on := 13, ground := Go.Ground.phase }, { on := 14, ground := Go.Ground.phase }, { on := 15, ground := Go.Ground.phase }, { on := 16, ground := Go.Ground.phase }, { on := 17, ground := Go.Ground.phase }, { on := 18, ground := Go.Ground.phase }, { on := 19, ground := Go.Ground.phase }, { on := 20, ground := Go.Ground.phase }, { on := 21, ground := Go.Ground.phase }, { on := 22, ground := Go.Ground.phase }, { on := 23, ground := Go.Ground.phase }, { on := 24, ground := Go.Ground.phase }, { on := 25, ground := Go.Ground.phase }, { on := 26, ground := Go.Ground.phase }, { on := 27, ground := Go.Ground.phase }, { on := 28, ground := Go.Ground.phase }, { on := 29, ground := Go.Ground.phase }, { on := 30, ground := Go.Ground.phase }, { on := 31, ground := Go.Ground.phase }, { on := 32, ground := Go.Ground.phase }, { on := 33, ground := Go.Ground.phase }, { on := 34, ground := Go.Ground.phase }, { on := 35, ground := Go.Ground.phase }, { on := 36, ground := Go.Ground.phase }, { on := 37, ground := Go.Ground.phase }, { on := 38, ground := Go.Ground.phase }, { on := 39, ground := Go.Ground.phase }, { on := 40, ground := Go.Ground.phase }, { on := 41, ground := Go.Ground.phase }, { on := 42, ground := Go.Ground.phase }, { on := 43, ground := Go.Ground.phase }], guard := none }) (v := ?_) rfl (by kernel_rfl) (by kernel_rfl) (by kernel_rfl) (fun _ _ _ h => h) (Or.inl ⟨by rfl, ?_⟩) (by assumption) ?_
    rotate_left 1
    · (intro w hSw; (try dsimp only at hSw); go_simp; first | done | with_reducible rfl)
    try simp only [Act.put, List.setIfInBounds_toArray, List.set_cons_zero, List.set_cons_succ]
    refine wpAnyH_done (by kernel_rfl) ?_ _
    refine NoPanic.normal ?_
    have HZ := Lib.hid (H5.out.1.trans (And.left hHeld))
    clear hHeld
    go_wp2_with fail
    go_ret
    exact ⟨rfl, HZ.out⟩
end Go.Proofs.Ytmohpjpodkbgkaa.P10
