/- RegexSame: the walk. -/
import Derived.Test.YtgjmomiobffmdaaLaw07Round
namespace Go.Proofs.Ytgjmomiobffmdaa.P07
open Go.RowKit Go.Proofs.Ytgjmomiobffmdaa.Base Go.Proofs.Ytgjmomiobffmdaa.IL Go.Proofs.Ytgjmomiobffmdaa.Bytes

set_option maxRecDepth 100000 in
set_option maxHeartbeats 8000000 in
theorem regex_same (t u : T) (a b : Option Addr) (c d : Nat) (w : World) (hta : Lie w (fun _ => True) a t.subs) (hub : Lie w (fun _ => True) b u.subs) (hc : t.subs.length ≤ c) (hd : u.subs.length ≤ d) (ht : cnt t ≤ 1000000000) (hu : cnt u ≤ 1000000000) :
    Calls Try.prog 4 #[nodeV t a c, nodeV u b d] w fun e w' => e = .returned (.bool true) ∧ Keep (fun _ => False) w w' := by
  have a0 := (At.new w (ncells t a c) 28).alloc (.cells (ncells u b d) 28)
  have a1 := At.new (w.alloc (.cells (ncells t a c) 28)) (ncells u b d) 28
  have q := ((Keep.refl (fun _ => False) w).alloc (.cells (ncells t a c) 28)).alloc (.cells (ncells u b d) 28)
  rw [show (w.alloc (.cells (ncells t a c) 28)).heap.size = w.heap.size + 1 from by simp] at a1
  have H0 := Lib.hid (show (Keep (fun _ => False) w _ ∧ Nd _ w.heap.size t a c ∧ Nd _ (w.heap.size + 1) u b d) from ⟨q, ⟨a0, hta.keepF q, hc⟩, ⟨a1, hub.keepF q, hd⟩⟩)
  have HCT := Lib.hid (And.intro ht hu)
  clear a0 a1 q hta hub hc hd ht hu
  go_enter Try.func4, Try.ntmps4
  go_upto_region 1 with fail
  generalize ((w.alloc (.cells (ncells t a c) 28)).alloc (.cells (ncells u b d) 28)) = W0 at *
  go_wp2_with fail
  refine (awake_true W0).mono ?_
  rintro e w1 ⟨rfl, q1⟩
  have H1 := Lib.hid (And.intro (H0.out.1.trans q1) (And.intro (H0.out.2.1.keep q1) (H0.out.2.2.keep q1)))
  clear q1
  obtain ⟨x0, x1, x2, x3, x4, x5, x6, x7⟩ := (cells8 H1.out.2.1.cell).1
  go_wp2_with fail
  refine (few_any t HCT.out.1 a c w1 H1.out.2.1.lie).mono ?_
  rintro e w2 ⟨rfl, q2⟩
  have H2 := Lib.hid (And.intro (H1.out.1.trans q2) (And.intro (H1.out.2.1.keep q2) (H1.out.2.2.keep q2)))
  clear q2 x0 x1 x2 x3 x4 x5 x6 x7
  by_cases h1 : sz t ≤ 200
  case neg =>
    have g1 : decide (sz t ≤ 200) = false := decide_eq_false h1
    rw [g1]
    clear g1 h1
    go_wp2_with fail
    refine (awake_true w2).mono ?_
    rintro e w3 ⟨rfl, q3⟩
    have Q3 := Lib.hid (H2.out.1.trans q3)
    clear q3
    go_wp2_with fail
    go_ret
    exact ⟨rfl, Q3.out⟩
  have g1 : decide (sz t ≤ 200) = true := decide_eq_true h1
  rw [g1]
  have HF1 := Lib.hid (few_cnt h1)
  clear g1 h1
  obtain ⟨y0, y1, y2, y3, y4, y5, y6, y7⟩ := (cells8 H2.out.2.2.cell).1
  go_wp2_with fail
  refine (few_any u HCT.out.2 b d w2 H2.out.2.2.lie).mono ?_
  rintro e w3 ⟨rfl, q3⟩
  have H3 := Lib.hid (And.intro (H2.out.1.trans q3) (And.intro (H2.out.2.1.keep q3) (H2.out.2.2.keep q3)))
  clear q3 y0 y1 y2 y3 y4 y5 y6 y7
  by_cases h2 : sz u ≤ 200
  case neg =>
    have g1 : decide (sz u ≤ 200) = false := decide_eq_false h2
    rw [g1]
    clear g1 h2
    go_wp2_with fail
    refine (awake_true w3).mono ?_
    rintro e w4 ⟨rfl, q4⟩
    have Q4 := Lib.hid (H3.out.1.trans q4)
    clear q4
    go_wp2_with fail
    go_ret
    exact ⟨rfl, Q4.out⟩
  have g1 : decide (sz u ≤ 200) = true := decide_eq_true h2
  rw [g1]
  clear g1 h2
  go_upto_region 3 with fail
  obtain ⟨g, hg⟩ : ∃ g : Bool, (g = true ↔ t = u) := by
    by_cases h : t = u
    · exact ⟨true, fun _ => h, fun _ => rfl⟩
    · exact ⟨false, fun h' => (by cases h'), fun h' => absurd h' h⟩
  have hS : ∀ w', Keep (fun _ => False) w3 w' → Keep (fun _ => False) w3 w' ∧ w'.cell? ⟨w.heap.size, 0, none⟩ = some (.int .i64 t.kind) ∧ w'.cell? ⟨w.heap.size, 1, none⟩ = some (.int .u64 t.set.x0) ∧ w'.cell? ⟨w.heap.size, 2, none⟩ = some (.int .u64 t.set.x1) ∧ w'.cell? ⟨w.heap.size, 3, none⟩ = some (.int .u64 t.set.x2) ∧ w'.cell? ⟨w.heap.size, 4, none⟩ = some (.int .u64 t.set.x3) ∧ w'.cell? ⟨w.heap.size, 5, none⟩ = some (.int .i64 t.mn) ∧ w'.cell? ⟨w.heap.size, 6, none⟩ = some (.int .i64 t.mx) ∧ w'.cell? ⟨w.heap.size, 7, none⟩ = some (.slice a t.subs.length c) ∧ w'.cell? ⟨w.heap.size + 1, 0, none⟩ = some (.int .i64 u.kind) ∧ w'.cell? ⟨w.heap.size + 1, 1, none⟩ = some (.int .u64 u.set.x0) ∧ w'.cell? ⟨w.heap.size + 1, 2, none⟩ = some (.int .u64 u.set.x1) ∧ w'.cell? ⟨w.heap.size + 1, 3, none⟩ = some (.int .u64 u.set.x2) ∧ w'.cell? ⟨w.heap.size + 1, 4, none⟩ = some (.int .u64 u.set.x3) ∧ w'.cell? ⟨w.heap.size + 1, 5, none⟩ = some (.int .i64 u.mn) ∧ w'.cell? ⟨w.heap.size + 1, 6, none⟩ = some (.int .i64 u.mx) ∧ w'.cell? ⟨w.heap.size + 1, 7, none⟩ = some (.slice b u.subs.length d) := fun w' q' => by
    have J1 := H3.out.2.1.keep q'
    have J2 := H3.out.2.2.keep q'
    exact ⟨q', (J1.cell.cell (o := 0) (v := .int .i64 t.kind) rfl), (J1.cell.cell (o := 1) (v := .int .u64 t.set.x0) rfl), (J1.cell.cell (o := 2) (v := .int .u64 t.set.x1) rfl), (J1.cell.cell (o := 3) (v := .int .u64 t.set.x2) rfl), (J1.cell.cell (o := 4) (v := .int .u64 t.set.x3) rfl), (J1.cell.cell (o := 5) (v := .int .i64 t.mn) rfl), (J1.cell.cell (o := 6) (v := .int .i64 t.mx) rfl), (J1.cell.cell (o := 7) (v := .slice a t.subs.length c) rfl), (J2.cell.cell (o := 0) (v := .int .i64 u.kind) rfl), (J2.cell.cell (o := 1) (v := .int .u64 u.set.x0) rfl), (J2.cell.cell (o := 2) (v := .int .u64 u.set.x1) rfl), (J2.cell.cell (o := 3) (v := .int .u64 u.set.x2) rfl), (J2.cell.cell (o := 4) (v := .int .u64 u.set.x3) rfl), (J2.cell.cell (o := 5) (v := .int .i64 u.mn) rfl), (J2.cell.cell (o := 6) (v := .int .i64 u.mx) rfl), (J2.cell.cell (o := 7) (v := .slice b u.subs.length d) rfl)⟩
  have hab : ∀ w', Keep (fun _ => False) w3 w' → Calls Try.prog 10 #[nodeV t a c, nodeV u b d] w' fun e w'' => e = .returned (.bool g) ∧ Keep (fun _ => False) w' w'' := fun w' q' => (rsame_any t u a c b d w' (H3.out.2.1.keep q').lie (H3.out.2.2.keep q').lie H3.out.2.1.le H3.out.2.2.le (by have := HF1.out; omega)).mono (by
    rintro e w'' ⟨v, rfl, hv, q⟩
    exact ⟨by rw [Bool.eq_iff_iff.2 (hv.trans hg.symm)], q⟩)
  have haa : ∀ w', Keep (fun _ => False) w3 w' → Calls Try.prog 10 #[nodeV t a c, nodeV t a c] w' fun e w'' => e = .returned (.bool true) ∧ Keep (fun _ => False) w' w'' := fun w' q' => (rsame_any t t a c a c w' (H3.out.2.1.keep q').lie (H3.out.2.1.keep q').lie H3.out.2.1.le H3.out.2.1.le (by have := HF1.out; omega)).mono (by
    rintro e w'' ⟨v, rfl, hv, q⟩
    exact ⟨by rw [hv.2 rfl], q⟩)
  have hrab : ∀ w', Keep (fun _ => False) w3 w' → Calls Try.prog 11 #[nodeV t a c, nodeV u b d] w' fun e w'' => e = .returned (.bool g) ∧ Keep (fun _ => False) w' w'' := fun w' q' => (same_any t u a c b d w' (H3.out.2.1.keep q').lie (H3.out.2.2.keep q').lie).mono (by
    rintro e w'' ⟨v, rfl, hv, q⟩
    exact ⟨by rw [Bool.eq_iff_iff.2 (hv.trans hg.symm)], q⟩)
  have hdp : ∀ w', Keep (fun _ => False) w3 w' → Calls Try.prog 12 #[nodeV t a c] w' fun e w'' => e = .returned (.int .i64 (dep t)) ∧ Keep (fun _ => False) w' w'' := fun w' q' => rdepth_any t a c w' (H3.out.2.1.keep q').lie H3.out.2.1.le (by have := HF1.out; omega)
  have hrd : ∀ w', Keep (fun _ => False) w3 w' → Calls Try.prog 13 #[nodeV t a c] w' fun e w'' => e = .returned (.int .i64 (dep t)) ∧ Keep (fun _ => False) w' w'' := fun w' q' => depth_all _ t (Nat.lt_succ_self _) (by have := HF1.out; omega) a c w' (H3.out.2.1.keep q').lie
  have HS := Lib.hid (And.intro hS (And.intro hab (And.intro haa (And.intro hrab (And.intro hdp hrd)))))
  clear hS hab haa hrab hdp hrd hg
  have hgg : (g == g) = true := by simp
  generalize dep t = D at *
  refine wp_region_noPanic ?_
  refine wp_region_held_drew (S := (fun w' => Keep (fun _ => False) w3 w' ∧ w'.cell? ⟨w.heap.size, 0, none⟩ = some (.int .i64 t.kind) ∧ w'.cell? ⟨w.heap.size, 1, none⟩ = some (.int .u64 t.set.x0) ∧ w'.cell? ⟨w.heap.size, 2, none⟩ = some (.int .u64 t.set.x1) ∧ w'.cell? ⟨w.heap.size, 3, none⟩ = some (.int .u64 t.set.x2) ∧ w'.cell? ⟨w.heap.size, 4, none⟩ = some (.int .u64 t.set.x3) ∧ w'.cell? ⟨w.heap.size, 5, none⟩ = some (.int .i64 t.mn) ∧ w'.cell? ⟨w.heap.size, 6, none⟩ = some (.int .i64 t.mx) ∧ w'.cell? ⟨w.heap.size, 7, none⟩ = some (.slice a t.subs.length c) ∧ w'.cell? ⟨w.heap.size + 1, 0, none⟩ = some (.int .i64 u.kind) ∧ w'.cell? ⟨w.heap.size + 1, 1, none⟩ = some (.int .u64 u.set.x0) ∧ w'.cell? ⟨w.heap.size + 1, 2, none⟩ = some (.int .u64 u.set.x1) ∧ w'.cell? ⟨w.heap.size + 1, 3, none⟩ = some (.int .u64 u.set.x2) ∧ w'.cell? ⟨w.heap.size + 1, 4, none⟩ = some (.int .u64 u.set.x3) ∧ w'.cell? ⟨w.heap.size + 1, 5, none⟩ = some (.int .i64 u.mn) ∧ w'.cell? ⟨w.heap.size + 1, 6, none⟩ = some (.int .i64 u.mx) ∧ w'.cell? ⟨w.heap.size + 1, 7, none⟩ = some (.slice b u.subs.length d))) (by kernel_rfl) ?_ (fun hHeld => ?_)
  · exact HS.out.1 _ ((Keep.refl _ _).drew)
  refine wpAnyH_take (i := 0) (oi := { dst := some 18, op := Go.Op.load 28 (Go.Operand.tmp 2), type := 28, pos := "law.go:52", after := #[], guard := none }) (v := ?_) rfl (by kernel_rfl) (by kernel_rfl) (by kernel_rfl) (fun _ _ _ h => h) (Or.inl ⟨by rfl, ?_⟩) (by assumption) ?_
  rotate_left 1
  · (intro w hSw; (try dsimp only at hSw); go_simp; first | done | with_reducible rfl)
  try simp only [Act.put, List.setIfInBounds_toArray, List.set_cons_zero, List.set_cons_succ]
  refine wpAnyH_take (i := 1) (oi := { dst := some 19, op := Go.Op.load 28 (Go.Operand.tmp 3), type := 28, pos := "law.go:52", after := #[], guard := none }) (v := ?_) rfl (by kernel_rfl) (by kernel_rfl) (by kernel_rfl) (fun _ _ _ h => h) (Or.inl ⟨by rfl, ?_⟩) (by assumption) ?_
  rotate_left 1
  · (intro w hSw; (try dsimp only at hSw); go_simp; first | done | with_reducible rfl)
  try simp only [Act.put, List.setIfInBounds_toArray, List.set_cons_zero, List.set_cons_succ]
  refine wpAnyH_take (i := 3) (oi := { dst := some 21, op := Go.Op.load 28 (Go.Operand.tmp 2), type := 28, pos := "law.go:52", after := #[], guard := none }) (v := ?_) rfl (by kernel_rfl) (by kernel_rfl) (by kernel_rfl) (fun _ _ _ h => h) (Or.inl ⟨by rfl, ?_⟩) (by assumption) ?_
  rotate_left 1
  · (intro w hSw; (try dsimp only at hSw); go_simp; first | done | with_reducible rfl)
  try simp only [Act.put, List.setIfInBounds_toArray, List.set_cons_zero, List.set_cons_succ]
  refine wpAnyH_take (i := 4) (oi := { dst := some 22, op := Go.Op.load 28 (Go.Operand.tmp 3), type := 28, pos := "law.go:52", after := #[], guard := none }) (v := ?_) rfl (by kernel_rfl) (by kernel_rfl) (by kernel_rfl) (fun _ _ _ h => h) (Or.inl ⟨by rfl, ?_⟩) (by assumption) ?_
  rotate_left 1
  · (intro w hSw; (try dsimp only at hSw); go_simp; first | done | with_reducible rfl)
  try simp only [Act.put, List.setIfInBounds_toArray, List.set_cons_zero, List.set_cons_succ]
  refine wpAnyH_ready (rs := [2]) (by kernel_rfl) (by simp) ?_
  refine AllReadyH.cons (o := { dst := some 20, op := Go.Op.call { callee := Go.Callee.value (Go.Operand.func 10), args := #[Go.Operand.tmp 18, Go.Operand.tmp 19], argTypes := #[28, 28] }, type := 4, pos := "law.go:52", after := #[{ on := 0, ground := Go.Ground.data }, { on := 1, ground := Go.Ground.data }], guard := none }) rfl (fun K hK => ?_) AllReadyH.nil
  go_simp
  (go_at_call 10; refine (HS.out.2.1 _ (And.left hHeld)).mono ?_; rintro e w4 ⟨rfl, q⟩)
  refine hK.out _ _ ?_ (fun hHeld' => ?_)
  · exact HS.out.1 _ (Keep.trans (And.left hHeld) q)
  clear hK K hHeld
  have hHeld := hHeld'
  clear hHeld'
  try simp only [Act.put, List.setIfInBounds_toArray, List.set_cons_zero, List.set_cons_succ]
  refine wpAnyH_ready (rs := [5]) (by kernel_rfl) (by simp) ?_
  refine AllReadyH.cons (o := { dst := some 23, op := Go.Op.call { callee := Go.Callee.value (Go.Operand.func 11), args := #[Go.Operand.tmp 21, Go.Operand.tmp 22], argTypes := #[28, 28] }, type := 4, pos := "law.go:52", after := #[{ on := 3, ground := Go.Ground.data }, { on := 4, ground := Go.Ground.data }, { on := 2, ground := Go.Ground.chain }], guard := none }) rfl (fun K hK => ?_) AllReadyH.nil
  go_simp
  (go_at_call 11; refine (HS.out.2.2.2.1 _ (And.left hHeld)).mono ?_; rintro e w4 ⟨rfl, q⟩)
  refine hK.out _ _ ?_ (fun hHeld' => ?_)
  · exact HS.out.1 _ (Keep.trans (And.left hHeld) q)
  clear hK K hHeld
  have hHeld := hHeld'
  clear hHeld'
  try simp only [Act.put, List.setIfInBounds_toArray, List.set_cons_zero, List.set_cons_succ]
  refine wpAnyH_take (i := 6) (oi := { dst := some 24, op := Go.Op.binOp Go.BinOp.eql 4 (Go.Operand.tmp 20) (Go.Operand.tmp 23) 4, type := 4, pos := "law.go:52", after := #[{ on := 2, ground := Go.Ground.data }, { on := 5, ground := Go.Ground.data }], guard := none }) (v := ?_) rfl (by kernel_rfl) (by kernel_rfl) (by kernel_rfl) (fun _ _ _ h => h) (Or.inl ⟨by rfl, ?_⟩) (by assumption) ?_
  rotate_left 1
  · (intro w hSw; (try dsimp only at hSw); go_simp; first | done | with_reducible rfl)
  try simp only [Act.put, List.setIfInBounds_toArray, List.set_cons_zero, List.set_cons_succ]
  refine wpAnyH_take (i := 7) (oi := { dst := some 25, op := Go.Op.move (Go.Operand.tmp 24), type := 4, pos := "law.go:52", after := #[{ on := 6, ground := Go.Ground.data }, { on := 5, ground := Go.Ground.chain }], guard := none }) (v := ?_) rfl (by kernel_rfl) (by kernel_rfl) (by kernel_rfl) (fun _ _ _ h => h) (Or.inl ⟨by rfl, ?_⟩) (by assumption) ?_
  rotate_left 1
  · (intro w hSw; (try dsimp only at hSw); go_simp; first | done | with_reducible rfl)
  try simp only [Act.put, List.setIfInBounds_toArray, List.set_cons_zero, List.set_cons_succ]
  refine wpAnyH_take (i := 8) (oi := { dst := some 26, op := Go.Op.load 28 (Go.Operand.tmp 2), type := 28, pos := "law.go:52", after := #[{ on := 7, ground := Go.Ground.guard }], guard := some (7, true) }) (v := ?_) rfl (by kernel_rfl) (by kernel_rfl) (by kernel_rfl) (fun _ _ _ h => h) (Or.inl ⟨by rfl, ?_⟩) (by assumption) ?_
  rotate_left 1
  · (intro w hSw; (try dsimp only at hSw); go_simp; first | done | with_reducible rfl)
  try simp only [Act.put, List.setIfInBounds_toArray, List.set_cons_zero, List.set_cons_succ]
  refine wpAnyH_take (i := 9) (oi := { dst := some 27, op := Go.Op.load 28 (Go.Operand.tmp 2), type := 28, pos := "law.go:52", after := #[{ on := 7, ground := Go.Ground.guard }], guard := some (7, true) }) (v := ?_) rfl (by kernel_rfl) (by kernel_rfl) (by kernel_rfl) (fun _ _ _ h => h) (Or.inl ⟨by rfl, ?_⟩) (by assumption) ?_
  rotate_left 1
  · (intro w hSw; (try dsimp only at hSw); go_simp; first | done | with_reducible rfl)
  try simp only [Act.put, List.setIfInBounds_toArray, List.set_cons_zero, List.set_cons_succ]
  refine wpAnyH_ready (rs := [10]) (by kernel_rfl) (by simp) ?_
  refine AllReadyH.cons (o := { dst := some 28, op := Go.Op.call { callee := Go.Callee.value (Go.Operand.func 10), args := #[Go.Operand.tmp 26, Go.Operand.tmp 27], argTypes := #[28, 28] }, type := 4, pos := "law.go:52", after := #[{ on := 8, ground := Go.Ground.data }, { on := 9, ground := Go.Ground.data }, { on := 7, ground := Go.Ground.chain }, { on := 7, ground := Go.Ground.guard }], guard := some (7, true) }) rfl (fun K hK => ?_) AllReadyH.nil
  go_simp
  (go_at_call 10; refine (HS.out.2.2.1 _ (And.left hHeld)).mono ?_; rintro e w4 ⟨rfl, q⟩)
  refine hK.out _ _ ?_ (fun hHeld' => ?_)
  · exact HS.out.1 _ (Keep.trans (And.left hHeld) q)
  clear hK K hHeld
  have hHeld := hHeld'
  clear hHeld'
  try simp only [Act.put, List.setIfInBounds_toArray, List.set_cons_zero, List.set_cons_succ]
  refine wpAnyH_take (i := 11) (oi := { dst := some 29, op := Go.Op.pick (Go.Operand.tmp 25) (Go.Operand.tmp 28) (Go.Operand.const (Go.Value.bool false)), type := 4, pos := "law.go:52", after := #[{ on := 7, ground := Go.Ground.data }, { on := 10, ground := Go.Ground.data }], guard := none }) (v := ?_) rfl (by kernel_rfl) (by kernel_rfl) (by kernel_rfl) (fun _ _ _ h => h) (Or.inl ⟨by rfl, ?_⟩) (by assumption) ?_
  rotate_left 1
  · (intro w hSw; (try dsimp only at hSw); go_simp; first | done | with_reducible rfl)
  try simp only [Act.put, List.setIfInBounds_toArray, List.set_cons_zero, List.set_cons_succ]
  refine wpAnyH_take (i := 12) (oi := { dst := some 30, op := Go.Op.move (Go.Operand.tmp 29), type := 4, pos := "law.go:52", after := #[{ on := 11, ground := Go.Ground.data }, { on := 10, ground := Go.Ground.chain }], guard := none }) (v := ?_) rfl (by kernel_rfl) (by kernel_rfl) (by kernel_rfl) (fun _ _ _ h => h) (Or.inl ⟨by rfl, ?_⟩) (by assumption) ?_
  rotate_left 1
  · (intro w hSw; (try dsimp only at hSw); go_simp; first | done | with_reducible rfl)
  try simp only [Act.put, List.setIfInBounds_toArray, List.set_cons_zero, List.set_cons_succ]
  refine wpAnyH_take (i := 13) (oi := { dst := some 31, op := Go.Op.load 28 (Go.Operand.tmp 2), type := 28, pos := "law.go:52", after := #[{ on := 12, ground := Go.Ground.guard }], guard := some (12, true) }) (v := ?_) rfl (by kernel_rfl) (by kernel_rfl) (by kernel_rfl) (fun _ _ _ h => h) (Or.inl ⟨by rfl, ?_⟩) (by assumption) ?_
  rotate_left 1
  · (intro w hSw; (try dsimp only at hSw); go_simp; first | done | with_reducible rfl)
  try simp only [Act.put, List.setIfInBounds_toArray, List.set_cons_zero, List.set_cons_succ]
  refine wpAnyH_take (i := 15) (oi := { dst := some 33, op := Go.Op.load 28 (Go.Operand.tmp 2), type := 28, pos := "law.go:52", after := #[{ on := 12, ground := Go.Ground.guard }], guard := some (12, true) }) (v := ?_) rfl (by kernel_rfl) (by kernel_rfl) (by kernel_rfl) (fun _ _ _ h => h) (Or.inl ⟨by rfl, ?_⟩) (by assumption) ?_
  rotate_left 1
  · (intro w hSw; (try dsimp only at hSw); go_simp; first | done | with_reducible rfl)
  try simp only [Act.put, List.setIfInBounds_toArray, List.set_cons_zero, List.set_cons_succ]
  refine wpAnyH_ready (rs := [14]) (by kernel_rfl) (by simp) ?_
  refine AllReadyH.cons (o := { dst := some 32, op := Go.Op.call { callee := Go.Callee.value (Go.Operand.func 12), args := #[Go.Operand.tmp 31], argTypes := #[28] }, type := 3, pos := "law.go:52", after := #[{ on := 13, ground := Go.Ground.data }, { on := 12, ground := Go.Ground.chain }, { on := 12, ground := Go.Ground.guard }], guard := some (12, true) }) rfl (fun K hK => ?_) AllReadyH.nil
  go_simp
  (go_at_call 12; refine (HS.out.2.2.2.2.1 _ (And.left hHeld)).mono ?_; rintro e w4 ⟨rfl, q⟩)
  refine hK.out _ _ ?_ (fun hHeld' => ?_)
  · exact HS.out.1 _ (Keep.trans (And.left hHeld) q)
  clear hK K hHeld
  have hHeld := hHeld'
  clear hHeld'
  try simp only [Act.put, List.setIfInBounds_toArray, List.set_cons_zero, List.set_cons_succ]
  refine wpAnyH_ready (rs := [16]) (by kernel_rfl) (by simp) ?_
  refine AllReadyH.cons (o := { dst := some 34, op := Go.Op.call { callee := Go.Callee.value (Go.Operand.func 13), args := #[Go.Operand.tmp 33], argTypes := #[28] }, type := 3, pos := "law.go:52", after := #[{ on := 15, ground := Go.Ground.data }, { on := 14, ground := Go.Ground.chain }, { on := 12, ground := Go.Ground.guard }], guard := some (12, true) }) rfl (fun K hK => ?_) AllReadyH.nil
  go_simp
  (go_at_call 13; refine (HS.out.2.2.2.2.2 _ (And.left hHeld)).mono ?_; rintro e w4 ⟨rfl, q⟩)
  refine hK.out _ _ ?_ (fun hHeld' => ?_)
  · exact HS.out.1 _ (Keep.trans (And.left hHeld) q)
  clear hK K hHeld
  have hHeld := hHeld'
  clear hHeld'
  try simp only [Act.put, List.setIfInBounds_toArray, List.set_cons_zero, List.set_cons_succ]
  refine wpAnyH_take (i := 17) (oi := { dst := some 35, op := Go.Op.binOp Go.BinOp.eql 3 (Go.Operand.tmp 32) (Go.Operand.tmp 34) 3, type := 4, pos := "law.go:52", after := #[{ on := 14, ground := Go.Ground.data }, { on := 16, ground := Go.Ground.data }, { on := 12, ground := Go.Ground.guard }], guard := some (12, true) }) (v := ?_) rfl (by kernel_rfl) (by kernel_rfl) (by kernel_rfl) (fun _ _ _ h => h) (Or.inl ⟨by rfl, ?_⟩) (by assumption) ?_
  rotate_left 1
  · (intro w hSw; (try dsimp only at hSw); go_simp; first | done | with_reducible rfl)
  try simp only [Act.put, List.setIfInBounds_toArray, List.set_cons_zero, List.set_cons_succ]
  refine wpAnyH_take (i := 18) (oi := { dst := some 36, op := Go.Op.pick (Go.Operand.tmp 30) (Go.Operand.tmp 35) (Go.Operand.const (Go.Value.bool false)), type := 4, pos := "law.go:52", after := #[{ on := 12, ground := Go.Ground.data }, { on := 17, ground := Go.Ground.data }], guard := none }) (v := ?_) rfl (by kernel_rfl) (by kernel_rfl) (by kernel_rfl) (fun _ _ _ h => h) (Or.inl ⟨by rfl, ?_⟩) (by assumption) ?_
  rotate_left 1
  · (intro w hSw; (try dsimp only at hSw); go_simp; first | done | with_reducible rfl)
  try simp only [Act.put, List.setIfInBounds_toArray, List.set_cons_zero, List.set_cons_succ]
  refine wpAnyH_take (i := 19) (oi := { dst := some 4, op := Go.Op.assign (Go.Operand.tmp 36), type := 4, pos := "law.go:52", after := #[{ on := 18, ground := Go.Ground.data }, { on := 16, ground := Go.Ground.chain }, { on := 0, ground := Go.Ground.phase }, { on := 1, ground := Go.Ground.phase }, { on := 2, ground := Go.Ground.phase }, { on := 3, ground := Go.Ground.phase }, { on := 4, ground := Go.Ground.phase }, { on := 5, ground := Go.Ground.phase }, { on := 6, ground := Go.Ground.phase }, { on := 7, ground := Go.Ground.phase }, { on := 8, ground := Go.Ground.phase }, { on := 9, ground := Go.Ground.phase }, { on := 10, ground := Go.Ground.phase }, { on := 11, ground := Go.Ground.phase }, { on := 12, ground := Go.Ground.phase }, { on := 13, ground := Go.Ground.phase }, { on := 14, ground := Go.Ground.phase }, { on := 15, ground := Go.Ground.phase }, { on := 16, ground := Go.Ground.phase }, { on := 17, ground := Go.Ground.phase }, { on := 18, ground := Go.Ground.phase }], guard := none }) (v := ?_) rfl (by kernel_rfl) (by kernel_rfl) (by kernel_rfl) (fun _ _ _ h => h) (Or.inl ⟨by rfl, ?_⟩) (by assumption) ?_
  rotate_left 1
  · (intro w hSw; (try dsimp only at hSw); go_simp; first | done | with_reducible rfl)
  try simp only [Act.put, List.setIfInBounds_toArray, List.set_cons_zero, List.set_cons_succ]
  refine wpAnyH_done (by kernel_rfl) ?_ _
  refine NoPanic.normal ?_
  have HK := Lib.hid (H3.out.1.trans hHeld.1)
  clear hHeld
  go_wp2_with fail
  go_ret
  exact ⟨rfl, HK.out⟩
end Go.Proofs.Ytgjmomiobffmdaa.P07
