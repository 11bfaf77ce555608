/- The walks of layer 1's laws over plain numbers: MeterNil, MeterRoom, MeterParts. -/
import Derived.Test.YthnjohjibohflaaLaw01Awake
namespace Go.Proofs.Ythnjohjibohflaa.MeterNil
open Go.ChangeShapes Go.WideShapes Go.RowKit Go.Proofs.Ythnjohjibohflaa.Base Go.Proofs.Ythnjohjibohflaa.Meter Go.Proofs.Ythnjohjibohflaa.Law01

theorem walk {H : Type} {enc : TypeId × Value → H} (v0 : Value) {d0 : DataW H} {p0 : List MemPlace} (W : World)
    (k0 : Value.okWide Try.prog W .any 0 3 v0)
    (h0 : DataW.Trod enc Try.prog W 0 (fun _ => true) true 3 v0 d0 p0) :
    Calls Try.prog 5 #[v0] W fun e w' => e = .returned (.bool true) ∧ Below W.heap.size W w' := by
  obtain ⟨n, rfl, n0, n1⟩ := int_arg Try.underlying3 k0 h0
  go_enter Try.func5, Try.ntmps5
  go_wp2_with fail
  refine (begin_nil _ _).mono ?_
  rintro e w1 ⟨rfl, rfl⟩
  go_wp2_with fail
  refine (cells_nil _).mono ?_
  rintro e w1 ⟨rfl, rfl⟩
  go_wp2_with fail
  refine (steps_nil _).mono ?_
  rintro e w1 ⟨rfl, rfl⟩
  go_wp2_with fail
  refine (awake_any _).mono ?_
  rintro e w1 ⟨rfl, q⟩
  go_wp2_with fail
  refine (take_nil _ _).mono ?_
  rintro e w2 ⟨rfl, rfl⟩
  go_wp2_with fail
  refine (give_nil _ _).mono ?_
  rintro e w2 ⟨rfl, rfl⟩
  go_wp2_with fail
  refine (step_nil _ _).mono ?_
  rintro e w2 ⟨rfl, rfl⟩
  go_wp2_with fail
  refine (err_nil _).mono ?_
  rintro e w2 ⟨rfl, rfl⟩
  go_wp2
  go_ret
  exact ⟨rfl, q.below (Nat.le_refl _) (fun _ _ h => h)⟩

end Go.Proofs.Ythnjohjibohflaa.MeterNil
namespace Go.Proofs.Ythnjohjibohflaa.MeterRoom
open Go.ChangeShapes Go.WideShapes Go.RowKit Go.Proofs.Ythnjohjibohflaa.Base Go.Proofs.Ythnjohjibohflaa.Meter Go.Proofs.Ythnjohjibohflaa.Law01

theorem take_no {b : Nat} {m : MS} {n : Int} {w : World} (hm : m.Ok) (h : At w b 44 m.vals) (n0 : 0 ≤ n) (n1 : n ≤ 9223372036854775807) (hr : m.cells - m.used < n) :
    Calls Try.prog 11 #[ptr b, .int .i64 n] w fun e w' => ∃ m', m.Same m' ∧ m'.Ok ∧ Turns b w (.bool false) m' e w' :=
  (take_is b m n w false (m.note 3) (by unfold MS.take; rw [if_neg (by omega), if_pos hr]) hm h (by omega) n1).mono fun _ _ t => ⟨_, MS.note_same m 3, MS.note_ok hm 3, t⟩

theorem step_no {b : Nat} {m : MS} {n : Int} {w : World} (hm : m.Ok) (h : At w b 44 m.vals) (n0 : 0 ≤ n) (n1 : n ≤ 9223372036854775807) (hr : m.steps - m.done < n) :
    Calls Try.prog 15 #[ptr b, .int .i64 n] w fun e w' => ∃ m', m.Same m' ∧ m'.Ok ∧ Turns b w (.bool false) m' e w' :=
  (step_is b m n w false (m.note 4) (by unfold MS.step; rw [if_neg (by omega), if_pos hr]) hm h (by omega) n1).mono fun _ _ t => ⟨_, MS.note_same m 4, MS.note_ok hm 4, t⟩

/-- m' is m with n cells more, or n steps more. -/
structure More (c d : Int) (m m' : MS) : Prop where
  used : m'.used = m.used + c
  cells : m'.cells = m.cells
  done : m'.done = m.done + d
  steps : m'.steps = m.steps

theorem take_yes {b : Nat} {m : MS} {n : Int} {w : World} (hm : m.Ok) (h : At w b 44 m.vals) (n0 : 0 ≤ n) (hr : n ≤ m.cells - m.used) :
    Calls Try.prog 11 #[ptr b, .int .i64 n] w fun e w' => ∃ m', More n 0 m m' ∧ m'.Ok ∧ Turns b w (.bool true) m' e w' := by
  have hv : m.take n = (true, { m with used := m.used + n, most := max m.most (m.used + n) }) := by unfold MS.take; rw [if_neg (by omega), if_neg (by omega)]
  have := hm.u0; have := hm.c1
  have o := MS.take_ok hm n
  rw [hv] at o
  exact (take_is b m n w true _ hv hm h (by omega) (by omega)).mono fun _ _ t => ⟨{ m with used := m.used + n, most := max m.most (m.used + n) }, ⟨rfl, rfl, by simp, rfl⟩, o, t⟩

theorem step_yes {b : Nat} {m : MS} {n : Int} {w : World} (hm : m.Ok) (h : At w b 44 m.vals) (n0 : 0 ≤ n) (hr : n ≤ m.steps - m.done) :
    Calls Try.prog 15 #[ptr b, .int .i64 n] w fun e w' => ∃ m', More 0 n m m' ∧ m'.Ok ∧ Turns b w (.bool true) m' e w' := by
  have hv : m.step n = (true, { m with done := m.done + n }) := by unfold MS.step; rw [if_neg (by omega), if_neg (by omega)]
  have := hm.d0; have := hm.s1
  have o := MS.step_ok hm n
  rw [hv] at o
  exact (step_is b m n w true _ hv hm h (by omega) (by omega)).mono fun _ _ t => ⟨{ m with done := m.done + n }, ⟨by simp, rfl, rfl, rfl⟩, o, t⟩

set_option maxHeartbeats 1000000 in
set_option maxRecDepth 100000 in
theorem walk {H : Type} {enc : TypeId × Value → H} (v0 v1 v2 v3 : Value) {d0 d1 d2 d3 : DataW H} {p0 p1 p2 p3 : List MemPlace} (W : World)
    (k0 : Value.okWide Try.prog W .any 0 3 v0) (k1 : Value.okWide Try.prog W .any 0 3 v1) (k2 : Value.okWide Try.prog W .any 0 3 v2) (k3 : Value.okWide Try.prog W .any 0 3 v3)
    (h0 : DataW.Trod enc Try.prog W 0 (fun _ => true) true 3 v0 d0 p0) (h1 : DataW.Trod enc Try.prog W 0 (fun _ => true) true 3 v1 d1 p1) (h2 : DataW.Trod enc Try.prog W 0 (fun _ => true) true 3 v2 d2 p2) (h3 : DataW.Trod enc Try.prog W 0 (fun _ => true) true 3 v3 d3 p3) :
    Calls Try.prog 6 #[v0, v1, v2, v3] W fun e w' => e = .returned (.bool true) ∧ Below W.heap.size W w' := by
  obtain ⟨c, rfl, -, -⟩ := int_arg Try.underlying3 k0 h0
  obtain ⟨s, rfl, -, -⟩ := int_arg Try.underlying3 k1 h1
  obtain ⟨x, rfl, x0, x1⟩ := int_arg Try.underlying3 k2 h2
  obtain ⟨y, rfl, y0, y1⟩ := int_arg Try.underlying3 k3 h3
  clear k0 k1 k2 k3 h0 h1 h2 h3
  go_enter Try.func6, Try.ntmps6
  go_wp2_with fail
  refine (new_any _ _ _).mono ?_
  rintro e w1 ⟨b, rfl, hb, h0, q0⟩
  have k : ∀ (a c : World), Keep (fun _ => False) W a → Keep (· = b) a c → Keep (fun _ => False) W c := fun _ _ x y => x.next y (fun i hi hl => by omega)
  have K := Lib.hid k
  clear k
  have o0 := MS.new_ok c s
  generalize MS.new c s = m0 at *
  go_wp2_with fail
  refine (take_any b m0 x _ o0 h0 x0 x1).mono ?_
  rintro e w2 ⟨rfl, h1, q1, -⟩
  have r1 := K.out _ _ q0 q1
  have o1 := MS.take_ok o0 x
  generalize (m0.take x).2 = m1 at *
  generalize (m0.take x).1 = t1 at *
  clear h0 q0 q1 o0
  go_wp2_with fail
  refine (step_any b m1 y _ o1 h1 y0 y1).mono ?_
  rintro e w3 ⟨rfl, h2, q2, -⟩
  have r2 := K.out _ _ r1 q2
  have o2 := MS.step_ok o1 y
  generalize (m1.step y).2 = m2 at *
  generalize (m1.step y).1 = t2 at *
  clear h1 r1 q2 o1
  go_wp2_with fail
  refine (cells_any b m2 _ h2).mono ?_
  rintro e w4 ⟨rfl, d1⟩
  have h3 := h2.drawn d1
  have r3 := r2.trans (d1.keep _)
  clear h2 r2
  go_wp2_with fail
  refine (steps_any b m2 _ h3).mono ?_
  rintro e w5 ⟨rfl, d2⟩
  have h4 := h3.drawn d2
  have r4 := r3.trans (d2.keep _)
  clear h3 r3
  go_wp2_with fail
  refine (awake_any _).mono ?_
  rintro e w6 ⟨rfl, q5⟩
  have h2 := h4.keep (S := fun _ => False) q5 (fun h => h)
  have r2 := r4.trans q5
  clear h4 r4 q5
  have a1 := o2.u0; have a2 := o2.um; have a3 := o2.mc; have a4 := o2.c1; have a5 := o2.d0; have a6 := o2.ds; have a7 := o2.s1
  go_wp2_with fail
  refine (take_no (n := m2.cells - m2.used + 1) o2 h2 (by  omega) (by  omega) (by  omega)).mono ?_
  rintro e u3 ⟨m3, s3, o3, rfl, h3, q3, -⟩
  have r3 := K.out _ _ r2 q3
  clear h2 q3 r2
  go_wp2_with fail
  refine (step_no (n := m2.steps - m2.done + 1) o3 h3 (by have := s3.used; have := s3.cells; have := s3.done; have := s3.steps; omega) (by have := s3.used; have := s3.cells; have := s3.done; have := s3.steps; omega) (by have := s3.used; have := s3.cells; have := s3.done; have := s3.steps; omega)).mono ?_
  rintro e u4 ⟨m4, s4, o4, rfl, h4, q4, -⟩
  have r4 := K.out _ _ r3 q4
  clear h3 q4 r3
  go_wp2_with fail
  refine (take_yes (n := m2.cells - m2.used) o4 h4 (by have := s3.used; have := s3.cells; have := s3.done; have := s3.steps; have := s4.used; have := s4.cells; have := s4.done; have := s4.steps; omega) (by have := s3.used; have := s3.cells; have := s3.done; have := s3.steps; have := s4.used; have := s4.cells; have := s4.done; have := s4.steps; omega)).mono ?_
  rintro e u5 ⟨m5, s5, o5, rfl, h5, q5, -⟩
  have r5 := K.out _ _ r4 q5
  clear h4 q5 r4
  go_wp2_with fail
  refine (step_yes (n := m2.steps - m2.done) o5 h5 (by have := s3.used; have := s3.cells; have := s3.done; have := s3.steps; have := s4.used; have := s4.cells; have := s4.done; have := s4.steps; have := s5.used; have := s5.cells; have := s5.done; have := s5.steps; omega) (by have := s3.used; have := s3.cells; have := s3.done; have := s3.steps; have := s4.used; have := s4.cells; have := s4.done; have := s4.steps; have := s5.used; have := s5.cells; have := s5.done; have := s5.steps; omega)).mono ?_
  rintro e u6 ⟨m6, s6, o6, rfl, h6, q6, -⟩
  have r6 := K.out _ _ r5 q6
  clear h5 q6 r5
  go_wp2_with fail
  refine (take_no (n := 1) o6 h6 (by have := s3.used; have := s3.cells; have := s3.done; have := s3.steps; have := s4.used; have := s4.cells; have := s4.done; have := s4.steps; have := s5.used; have := s5.cells; have := s5.done; have := s5.steps; have := s6.used; have := s6.cells; have := s6.done; have := s6.steps; omega) (by have := s3.used; have := s3.cells; have := s3.done; have := s3.steps; have := s4.used; have := s4.cells; have := s4.done; have := s4.steps; have := s5.used; have := s5.cells; have := s5.done; have := s5.steps; have := s6.used; have := s6.cells; have := s6.done; have := s6.steps; omega) (by have := s3.used; have := s3.cells; have := s3.done; have := s3.steps; have := s4.used; have := s4.cells; have := s4.done; have := s4.steps; have := s5.used; have := s5.cells; have := s5.done; have := s5.steps; have := s6.used; have := s6.cells; have := s6.done; have := s6.steps; omega)).mono ?_
  rintro e u7 ⟨m7, s7, o7, rfl, h7, q7, -⟩
  have r7 := K.out _ _ r6 q7
  clear h6 q7 r6
  go_wp2_with fail
  refine (step_no (n := 1) o7 h7 (by have := s3.used; have := s3.cells; have := s3.done; have := s3.steps; have := s4.used; have := s4.cells; have := s4.done; have := s4.steps; have := s5.used; have := s5.cells; have := s5.done; have := s5.steps; have := s6.used; have := s6.cells; have := s6.done; have := s6.steps; have := s7.used; have := s7.cells; have := s7.done; have := s7.steps; omega) (by have := s3.used; have := s3.cells; have := s3.done; have := s3.steps; have := s4.used; have := s4.cells; have := s4.done; have := s4.steps; have := s5.used; have := s5.cells; have := s5.done; have := s5.steps; have := s6.used; have := s6.cells; have := s6.done; have := s6.steps; have := s7.used; have := s7.cells; have := s7.done; have := s7.steps; omega) (by have := s3.used; have := s3.cells; have := s3.done; have := s3.steps; have := s4.used; have := s4.cells; have := s4.done; have := s4.steps; have := s5.used; have := s5.cells; have := s5.done; have := s5.steps; have := s6.used; have := s6.cells; have := s6.done; have := s6.steps; have := s7.used; have := s7.cells; have := s7.done; have := s7.steps; omega)).mono ?_
  rintro e u8 ⟨m8, s8, o8, rfl, h8, q8, -⟩
  have r8 := K.out _ _ r7 q8
  clear h7 q8 r7
  go_wp2_with fail
  refine (take_yes (n := 0) o8 h8 (by have := s3.used; have := s3.cells; have := s3.done; have := s3.steps; have := s4.used; have := s4.cells; have := s4.done; have := s4.steps; have := s5.used; have := s5.cells; have := s5.done; have := s5.steps; have := s6.used; have := s6.cells; have := s6.done; have := s6.steps; have := s7.used; have := s7.cells; have := s7.done; have := s7.steps; have := s8.used; have := s8.cells; have := s8.done; have := s8.steps; omega) (by have := s3.used; have := s3.cells; have := s3.done; have := s3.steps; have := s4.used; have := s4.cells; have := s4.done; have := s4.steps; have := s5.used; have := s5.cells; have := s5.done; have := s5.steps; have := s6.used; have := s6.cells; have := s6.done; have := s6.steps; have := s7.used; have := s7.cells; have := s7.done; have := s7.steps; have := s8.used; have := s8.cells; have := s8.done; have := s8.steps; omega)).mono ?_
  rintro e u9 ⟨m9, s9, o9, rfl, h9, q9, -⟩
  have r9 := K.out _ _ r8 q9
  clear h8 q9 r8
  go_wp2_with fail
  refine (step_yes (n := 0) o9 h9 (by have := s3.used; have := s3.cells; have := s3.done; have := s3.steps; have := s4.used; have := s4.cells; have := s4.done; have := s4.steps; have := s5.used; have := s5.cells; have := s5.done; have := s5.steps; have := s6.used; have := s6.cells; have := s6.done; have := s6.steps; have := s7.used; have := s7.cells; have := s7.done; have := s7.steps; have := s8.used; have := s8.cells; have := s8.done; have := s8.steps; have := s9.used; have := s9.cells; have := s9.done; have := s9.steps; omega) (by have := s3.used; have := s3.cells; have := s3.done; have := s3.steps; have := s4.used; have := s4.cells; have := s4.done; have := s4.steps; have := s5.used; have := s5.cells; have := s5.done; have := s5.steps; have := s6.used; have := s6.cells; have := s6.done; have := s6.steps; have := s7.used; have := s7.cells; have := s7.done; have := s7.steps; have := s8.used; have := s8.cells; have := s8.done; have := s8.steps; have := s9.used; have := s9.cells; have := s9.done; have := s9.steps; omega)).mono ?_
  rintro e u10 ⟨m10, s10, o10, rfl, h10, q10, -⟩
  have r10 := K.out _ _ r9 q10
  clear h9 q10 r9
  go_wp2
  go_ret
  exact ⟨rfl, r10.below (Nat.le_refl _) (fun _ _ h => h)⟩

end Go.Proofs.Ythnjohjibohflaa.MeterRoom
