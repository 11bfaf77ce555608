/- The walk of MeterParts: two takings go just if one of both together does. -/
import Derived.Test.YthnjohjibohflaaLaw01Awake
namespace Go.Proofs.Ythnjohjibohflaa.MeterParts
open Go.ChangeShapes Go.WideShapes Go.RowKit Go.Proofs.Ythnjohjibohflaa.Base Go.Proofs.Ythnjohjibohflaa.Meter Go.Proofs.Ythnjohjibohflaa.Law01

theorem small (x : Int) : 0 ≤ wrap64 ((IntKind.u64.wrap x).tmod 2097152) ∧ wrap64 ((IntKind.u64.wrap x).tmod 2097152) ≤ 2097151 := by
  have h : 0 ≤ IntKind.u64.wrap x := by rw [IntKind.wrap_u64]; omega
  generalize IntKind.u64.wrap x = u at *
  rw [Int.tmod_eq_emod_of_nonneg h, IntWalk.wrap64_in]
  · omega
  · omega

/-- Both, one behind the other, on one meter: as both together on another one. -/
theorem both (c s a b : Int) (a0 : 0 ≤ a) (b0 : 0 ≤ b) :
    ((MS.new c s).take a).1 = true ∧ (((MS.new c s).take a).2.take b).1 = ((MS.new c s).take (a + b)).1 ∨ ((MS.new c s).take a).1 = false ∧ ((MS.new c s).take (a + b)).1 = false := by
  unfold MS.take MS.new
  simp only
  by_cases h : clip c 1048576 - 0 < a
  · right
    rw [if_neg (by omega), if_pos h, if_neg (by omega), if_pos (by omega)]
    exact ⟨rfl, rfl⟩
  · left
    rw [if_neg (by omega : ¬ a < 0), if_neg h, if_neg (by omega : ¬ a + b < 0)]
    refine ⟨rfl, ?_⟩
    simp only
    rw [if_neg (by omega : ¬ b < 0)]
    by_cases k : clip c 1048576 - 0 < a + b
    · rw [if_pos (by omega), if_pos k]
    · rw [if_neg (by omega), if_neg k]

theorem bothS (m n : MS) (h0 : m.done = 0) (h1 : n.done = 0) (hs : m.steps = n.steps) (a b : Int) (a0 : 0 ≤ a) (b0 : 0 ≤ b) :
    (m.step a).1 = true ∧ ((m.step a).2.step b).1 = (n.step (a + b)).1 ∨ (m.step a).1 = false ∧ (n.step (a + b)).1 = false := by
  unfold MS.step
  by_cases h : m.steps - m.done < a
  · right
    rw [if_neg (by omega), if_pos h, if_neg (by omega), if_pos (by omega)]
    exact ⟨rfl, rfl⟩
  · left
    rw [if_neg (by omega : ¬ a < 0), if_neg h, if_neg (by omega : ¬ a + b < 0)]
    refine ⟨rfl, ?_⟩
    simp only
    rw [if_neg (by omega : ¬ b < 0)]
    by_cases k : n.steps - n.done < a + b
    · rw [if_pos (by omega), if_pos k]
    · rw [if_neg (by omega), if_neg k]

set_option maxHeartbeats 1000000 in
set_option maxRecDepth 100000 in
theorem walk {H : Type} {enc : TypeId × Value → H} (v0 v1 v2 v3 : Value) {d0 d1 d2 d3 : DataW H} {p0 p1 p2 p3 : List MemPlace} (W : World)
    (k0 : Value.okWide Try.prog W .any 0 3 v0) (k1 : Value.okWide Try.prog W .any 0 3 v1) (k2 : Value.okWide Try.prog W .any 0 3 v2) (k3 : Value.okWide Try.prog W .any 0 3 v3)
    (h0 : DataW.Trod enc Try.prog W 0 (fun _ => true) true 3 v0 d0 p0) (h1 : DataW.Trod enc Try.prog W 0 (fun _ => true) true 3 v1 d1 p1) (h2 : DataW.Trod enc Try.prog W 0 (fun _ => true) true 3 v2 d2 p2) (h3 : DataW.Trod enc Try.prog W 0 (fun _ => true) true 3 v3 d3 p3) :
    Calls Try.prog 7 #[v0, v1, v2, v3] W fun e w' => e = .returned (.bool true) ∧ Below W.heap.size W w' := by
  obtain ⟨c, rfl, -, -⟩ := int_arg Try.underlying3 k0 h0
  obtain ⟨s, rfl, -, -⟩ := int_arg Try.underlying3 k1 h1
  obtain ⟨x, rfl, x0, x1⟩ := int_arg Try.underlying3 k2 h2
  obtain ⟨y, rfl, y0, y1⟩ := int_arg Try.underlying3 k3 h3
  clear k0 k1 k2 k3 h0 h1 h2 h3
  obtain ⟨a0, a1⟩ := small x
  obtain ⟨b0, b1⟩ := small y
  have H1 := both c s _ _ a0 b0
  have o0 := MS.new_ok c s
  have d0 : (MS.new c s).done = 0 := rfl
  have s0 : (MS.new c s).steps = clip s 1073741824 := rfl
  go_enter Try.func7, Try.ntmps7
  go_wp2_with fail
  generalize wrap64 ((IntKind.u64.wrap x).tmod 2097152) = a at *
  generalize wrap64 ((IntKind.u64.wrap y).tmod 2097152) = b at *
  refine (new_any _ _ _).mono ?_
  rintro e w1 ⟨g, rfl, hg, h0, q0⟩
  have D0 := Lib.hid d0
  have S0 := Lib.hid s0
  have HH := Lib.hid H1
  clear H1 d0 s0
  obtain ⟨m0, M0⟩ : ∃ m, Hid (m = MS.new c s) := ⟨_, rfl⟩
  rw [← M0.out] at D0 S0 HH h0 o0
  go_wp2_with fail
  refine (new_any _ _ _).mono ?_
  rintro e w2 ⟨j, rfl, hj, i0, q1⟩
  have hy0 : At w2 j 44 m0.vals := by rw [M0.out]; exact i0
  have hx0 := h0.keep (S := fun _ => False) q1 (fun h => h)
  have r0 := q0.trans q1
  have hgj : g < j := Nat.lt_of_lt_of_le h0.lt hj
  clear i0 q0 q1 h0
  have n1 : ¬ j = g := by omega
  have n2 : ¬ g = j := by omega
  have N1 := Lib.hid n1
  have N2 := Lib.hid n2
  clear n1 n2
  have k1 : ∀ (a c : World), Keep (fun _ => False) W a → Keep (· = g) a c → Keep (fun _ => False) W c := fun _ _ x y => x.next y (fun i hi hl => by omega)
  have k2 : ∀ (a c : World), Keep (fun _ => False) W a → Keep (· = j) a c → Keep (fun _ => False) W c := fun _ _ x y => x.next y (fun i hi hl => by omega)
  have K1 := Lib.hid k1
  have K2 := Lib.hid k2
  clear k1 k2
  rcases HH.out with ⟨t, u⟩ | ⟨t, u⟩
  · have TT := Lib.hid t
    have UU := Lib.hid u
    clear t u
    go_wp2_with fail
    refine (take_is g m0 (a) _ true (MS.take m0 (a)).2 (Prod.ext TT.out rfl) o0 hx0 (by omega) (by omega)).mono ?_
    rintro e u1 ⟨rfl, h1, q1, -⟩
    have g1 := hy0.keep q1 N1.out
    have r1 := K1.out _ _ r0 q1
    have o1 := MS.take_ok o0 (a)
    clear hx0 hy0 r0 q1
    obtain ⟨z, Z⟩ : ∃ z, Hid (z = (m0.take (a + b)).1) := ⟨_, rfl⟩
    go_wp2_with fail
    refine (take_is g (m0.take a).2 (b) _ z (MS.take (m0.take a).2 (b)).2 (Prod.ext (UU.out.trans Z.out.symm) rfl) o1 h1 (by omega) (by omega)).mono ?_
    rintro e u2 ⟨rfl, h2, q2, -⟩
    have g2 := g1.keep q2 N1.out
    have r2 := K1.out _ _ r1 q2
    have o2 := MS.take_ok o1 (b)
    clear h1 g1 r1 q2
    go_wp2_with fail
    refine (take_is j m0 (a + b) _ z (MS.take m0 (a + b)).2 (Prod.ext Z.out.symm rfl) o0 g2 (by omega) (by omega)).mono ?_
    rintro e u3 ⟨rfl, h3, q3, -⟩
    have g3 := h2.keep q3 N2.out
    have r3 := K2.out _ _ r2 q3
    have o3 := MS.take_ok o0 (a + b)
    clear g2 h2 r2 q3
    clear TT UU Z HH
    have E1 : Hid ((((m0.take a).2.take b).2).done = 0 ∧ ((m0.take (a + b)).2).done = 0 ∧ (((m0.take a).2.take b).2).steps = ((m0.take (a + b)).2).steps) := by
      have d := D0.out
      refine ⟨?_, ?_, ?_⟩ <;> simp only [MS.take_ds, d]
    generalize ((m0.take a).2.take b).2 = mx at *
    generalize (m0.take (a + b)).2 = my at *
    rcases bothS mx my E1.out.1 E1.out.2.1 E1.out.2.2 a b a0 b0 with ⟨t, u⟩ | ⟨t, u⟩
    · have TT := Lib.hid t
      have UU := Lib.hid u
      clear t u
      go_wp2_with fail
      refine (step_is g mx (a) _ true (MS.step mx (a)).2 (Prod.ext TT.out rfl) o2 g3 (by omega) (by omega)).mono ?_
      rintro e u4 ⟨rfl, h4, q4, -⟩
      have g4 := h3.keep q4 N1.out
      have r4 := K1.out _ _ r3 q4
      have o4 := MS.step_ok o2 (a)
      clear g3 h3 r3 q4
      obtain ⟨z, Z⟩ : ∃ z, Hid (z = (my.step (a + b)).1) := ⟨_, rfl⟩
      go_wp2_with fail
      refine (step_is g (mx.step a).2 (b) _ z (MS.step (mx.step a).2 (b)).2 (Prod.ext (UU.out.trans Z.out.symm) rfl) o4 h4 (by omega) (by omega)).mono ?_
      rintro e u5 ⟨rfl, h5, q5, -⟩
      have g5 := g4.keep q5 N1.out
      have r5 := K1.out _ _ r4 q5
      have o5 := MS.step_ok o4 (b)
      clear h4 g4 r4 q5
      go_wp2_with fail
      refine (step_is j my (a + b) _ z (MS.step my (a + b)).2 (Prod.ext Z.out.symm rfl) o3 g5 (by omega) (by omega)).mono ?_
      rintro e u6 ⟨rfl, h6, q6, -⟩
      have g6 := h5.keep q6 N2.out
      have r6 := K2.out _ _ r5 q6
      have o6 := MS.step_ok o3 (a + b)
      clear g5 h5 r5 q6
      go_wp2_with fail
      refine (awake_any _).mono ?_
      rintro e uf ⟨rfl, qf⟩
      have rf := r6.trans qf
      clear r6
      go_wp2
      go_ret
      exact ⟨rfl, rf.below (Nat.le_refl _) (fun _ _ h => h)⟩
    · have TT := Lib.hid t
      have UU := Lib.hid u
      clear t u
      go_wp2_with fail
      refine (step_is g mx (a) _ false (MS.step mx (a)).2 (Prod.ext TT.out rfl) o2 g3 (by omega) (by omega)).mono ?_
      rintro e u7 ⟨rfl, h7, q7, -⟩
      have g7 := h3.keep q7 N1.out
      have r7 := K1.out _ _ r3 q7
      have o7 := MS.step_ok o2 (a)
      clear g3 h3 r3 q7
      go_wp2_with fail
      refine (step_is j my (a + b) _ false (MS.step my (a + b)).2 (Prod.ext UU.out rfl) o3 g7 (by omega) (by omega)).mono ?_
      rintro e u8 ⟨rfl, h8, q8, -⟩
      have g8 := h7.keep q8 N2.out
      have r8 := K2.out _ _ r7 q8
      have o8 := MS.step_ok o3 (a + b)
      clear g7 h7 r7 q8
      go_wp2_with fail
      refine (awake_any _).mono ?_
      rintro e uf ⟨rfl, qf⟩
      have rf := r8.trans qf
      clear r8
      go_wp2
      go_ret
      exact ⟨rfl, rf.below (Nat.le_refl _) (fun _ _ h => h)⟩
  · have TT := Lib.hid t
    have UU := Lib.hid u
    clear t u
    go_wp2_with fail
    refine (take_is g m0 (a) _ false (MS.take m0 (a)).2 (Prod.ext TT.out rfl) o0 hx0 (by omega) (by omega)).mono ?_
    rintro e u9 ⟨rfl, h9, q9, -⟩
    have g9 := hy0.keep q9 N1.out
    have r9 := K1.out _ _ r0 q9
    have o9 := MS.take_ok o0 (a)
    clear hx0 hy0 r0 q9
    go_wp2_with fail
    refine (take_is j m0 (a + b) _ false (MS.take m0 (a + b)).2 (Prod.ext UU.out rfl) o0 g9 (by omega) (by omega)).mono ?_
    rintro e u10 ⟨rfl, h10, q10, -⟩
    have g10 := h9.keep q10 N2.out
    have r10 := K2.out _ _ r9 q10
    have o10 := MS.take_ok o0 (a + b)
    clear g9 h9 r9 q10
    clear TT UU HH
    have E1 : Hid (((m0.take a).2).done = 0 ∧ ((m0.take (a + b)).2).done = 0 ∧ ((m0.take a).2).steps = ((m0.take (a + b)).2).steps) := by
      have d := D0.out
      refine ⟨?_, ?_, ?_⟩ <;> simp only [MS.take_ds, d]
    generalize (m0.take a).2 = mx at *
    generalize (m0.take (a + b)).2 = my at *
    rcases bothS mx my E1.out.1 E1.out.2.1 E1.out.2.2 a b a0 b0 with ⟨t, u⟩ | ⟨t, u⟩
    · have TT := Lib.hid t
      have UU := Lib.hid u
      clear t u
      go_wp2_with fail
      refine (step_is g mx (a) _ true (MS.step mx (a)).2 (Prod.ext TT.out rfl) o9 g10 (by omega) (by omega)).mono ?_
      rintro e u11 ⟨rfl, h11, q11, -⟩
      have g11 := h10.keep q11 N1.out
      have r11 := K1.out _ _ r10 q11
      have o11 := MS.step_ok o9 (a)
      clear g10 h10 r10 q11
      obtain ⟨z, Z⟩ : ∃ z, Hid (z = (my.step (a + b)).1) := ⟨_, rfl⟩
      go_wp2_with fail
      refine (step_is g (mx.step a).2 (b) _ z (MS.step (mx.step a).2 (b)).2 (Prod.ext (UU.out.trans Z.out.symm) rfl) o11 h11 (by omega) (by omega)).mono ?_
      rintro e u12 ⟨rfl, h12, q12, -⟩
      have g12 := g11.keep q12 N1.out
      have r12 := K1.out _ _ r11 q12
      have o12 := MS.step_ok o11 (b)
      clear h11 g11 r11 q12
      go_wp2_with fail
      refine (step_is j my (a + b) _ z (MS.step my (a + b)).2 (Prod.ext Z.out.symm rfl) o10 g12 (by omega) (by omega)).mono ?_
      rintro e u13 ⟨rfl, h13, q13, -⟩
      have g13 := h12.keep q13 N2.out
      have r13 := K2.out _ _ r12 q13
      have o13 := MS.step_ok o10 (a + b)
      clear g12 h12 r12 q13
      go_wp2_with fail
      refine (awake_any _).mono ?_
      rintro e uf ⟨rfl, qf⟩
      have rf := r13.trans qf
      clear r13
      go_wp2
      go_ret
      exact ⟨rfl, rf.below (Nat.le_refl _) (fun _ _ h => h)⟩
    · have TT := Lib.hid t
      have UU := Lib.hid u
      clear t u
      go_wp2_with fail
      refine (step_is g mx (a) _ false (MS.step mx (a)).2 (Prod.ext TT.out rfl) o9 g10 (by omega) (by omega)).mono ?_
      rintro e u14 ⟨rfl, h14, q14, -⟩
      have g14 := h10.keep q14 N1.out
      have r14 := K1.out _ _ r10 q14
      have o14 := MS.step_ok o9 (a)
      clear g10 h10 r10 q14
      go_wp2_with fail
      refine (step_is j my (a + b) _ false (MS.step my (a + b)).2 (Prod.ext UU.out rfl) o10 g14 (by omega) (by omega)).mono ?_
      rintro e u15 ⟨rfl, h15, q15, -⟩
      have g15 := h14.keep q15 N2.out
      have r15 := K2.out _ _ r14 q15
      have o15 := MS.step_ok o10 (a + b)
      clear g14 h14 r14 q15
      go_wp2_with fail
      refine (awake_any _).mono ?_
      rintro e uf ⟨rfl, qf⟩
      have rf := r15.trans qf
      clear r15
      go_wp2
      go_ret
      exact ⟨rfl, rf.below (Nat.le_refl _) (fun _ _ h => h)⟩

end Go.Proofs.Ythnjohjibohflaa.MeterParts
