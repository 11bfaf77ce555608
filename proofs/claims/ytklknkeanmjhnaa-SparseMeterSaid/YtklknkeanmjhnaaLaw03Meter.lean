/- SparseMeter, walked: a set's cells are taken when it is made, or refused, and given back once. -/
import Derived.Test.YtklknkeanmjhnaaLaw03Awake
namespace Go.Proofs.Ytklknkeanmjhnaa.SparseMeter
open Go.RowKit Go.Proofs.Ytklknkeanmjhnaa.Base Go.Proofs.Ytklknkeanmjhnaa.Lists Go.Proofs.Ytklknkeanmjhnaa.Sparse Go.Proofs.Ytklknkeanmjhnaa.Law03 Go.Proofs.Ytklknkeanmjhnaa.Meter

/-- The set and the meter, which came after w0. -/
structure SM (w0 : World) (b g n : Nat) (L : List Nat) (mb : Nat) (m : MS) (w : World) : Prop where
  o : Ow w0 b g n L w
  at_ : At w mb 76 m.vals
  ok : m.Ok
  hm : w0.heap.size ≤ mb
  ne : mb ≠ b ∧ mb ≠ g

theorem SM.quiet {w0 w w' : World} {b g n : Nat} {L : List Nat} {mb : Nat} {m : MS} (h : SM w0 b g n L mb m w) (q : Keep (fun _ => False) w w') : SM w0 b g n L mb m w' :=
  ⟨h.o.quiet q, h.at_.keep q (fun h => h), h.ok, h.hm, h.ne⟩

theorem sm_add {w0 w : World} {b g n : Nat} {L : List Nat} {mb : Nat} {m : MS} (x : Int) (v : Bool) (L' : List Nat) (hv : addV n L x = (L', v)) (h : SM w0 b g n L mb m w) :
    Calls Try.prog 34 #[ptr b, .int .i64 x] w fun e w' => e = .returned (.bool v) ∧ SM w0 b g n L' mb m w' :=
  (own_add x v L' hv h.o).mono fun _ _ r => ⟨r.1, r.2.1, h.at_.keep r.2.2 (fun e => by have := h.ne; omega), h.ok, h.hm, h.ne⟩

theorem sm_drop {w0 w : World} {b g n : Nat} {L : List Nat} {mb : Nat} {m : MS} (m' : MS) (hv : (m.give (2 * n)).2 = m') (h : SM w0 b g n L mb m w) :
    Calls Try.prog 44 #[ptr b, ptr mb] w fun e w' => e = .returned (.tuple #[]) ∧ SM w0 b g 0 [] mb m' w' := by
  have h1 := h.ne
  have h2 := h.hm
  have h3 := h.o.hb
  refine (drop_any b g n L mb m w h.o.st h.ok h.at_ h.ne.1).mono fun e w' r => ?_
  obtain ⟨rfl, r1, r2, r3⟩ := r
  rw [hv] at r2
  exact ⟨rfl, ⟨r1, h.o.hb, h.o.hg, Nat.lt_of_lt_of_le h.o.b1 r3.size, Nat.lt_of_lt_of_le h.o.g1 r3.size, h.o.q.next r3 (fun i hi hl => by omega)⟩, r2, hv ▸ MS.give_ok h.ok _, h.hm, h.ne⟩

/-- The meter behind New, and behind the first Drop. -/
theorem give_all {m : MS} (h0 : m.used = 0) (n : Nat) (h : 2 * (n : Int) ≤ m.cells) : ((m.take (2 * n)).2.give (2 * n)).2.used = 0 ∧ (m.take (2 * n)).2.used = 2 * n := by
  have e : (m.take (2 * n)).2 = { m with used := m.used + 2 * n, most := max m.most (m.used + 2 * n) } := by
    unfold MS.take; rw [if_neg (by omega), if_neg (by omega)]
  rw [e]
  unfold MS.give
  rw [if_neg (by simp only; omega)]
  exact ⟨by simp only; omega, by simp only; omega⟩

set_option maxRecDepth 100000 in
set_option maxHeartbeats 2000000 in
theorem walk {H : Type} {enc : TypeId × Value → H} (v0 v1 : Value) {d0 d1 : DataW H} {p0 p1 : List MemPlace} (W : World) (k0 : Value.okWide Try.prog W .any 0 3 v0) (k1 : Value.okWide Try.prog W .any 0 3 v1)
    (h0 : DataW.Trod enc Try.prog W 0 (fun _ => true) true 3 v0 d0 p0) (h1 : DataW.Trod enc Try.prog W 0 (fun _ => true) true 3 v1 d1 p1) :
    Calls Try.prog 10 #[v0, v1] W fun e w' => e = .returned (.bool true) ∧ Below W.heap.size W w' := by
  obtain ⟨c, rfl, i1, i2⟩ := int_arg Try.underlying3 k0 h0
  obtain ⟨n, rfl, j1, j2⟩ := int_arg Try.underlying3 k1 h1
  clear k0 k1 h0 h1
  by_cases hn : 65536 < n
  · go_enter Try.func10, Try.ntmps10
    go_wp2_with fail
    refine (awake_any _).mono ?_
    rintro e w1 ⟨rfl, q1⟩
    have r1 := Lib.hid q1
    clear q1
    go_wp2_with fail
    refine (awake_any _).mono ?_
    rintro e w2 ⟨rfl, q2⟩
    have r2 := Lib.hid (r1.out.trans q2)
    clear q2 r1
    go_wp2
    go_ret
    exact ⟨rfl, r2.out.below (Nat.le_refl _) (fun _ _ h => h)⟩
  · have hn' : decide (65536 < n) = false := by simpa using hn
    go_enter Try.func10, Try.ntmps10
    go_wp2_with fail
    refine (awake_any _).mono ?_
    rintro e w1 ⟨rfl, q1⟩
    go_wp2_with fail
    refine (new_any c 0 _).mono ?_
    rintro e w2 ⟨mb, rfl, hb, h0, q0⟩
    have o0 := MS.new_ok c 0
    have u0 : (MS.new c 0).used = 0 := rfl
    generalize MS.new c 0 = m0 at *
    have hq := o0.c1
    have hq0 := o0.mc
    have hq1 := o0.um
    go_wp2_with fail
    refine (cells_any mb m0 _ h0).mono ?_
    rintro e w3 ⟨rfl, d1⟩
    have h1 := h0.drawn d1
    have r1 := q1.trans (q0.trans (d1.keep _))
    have hb1 : W.heap.size ≤ mb := by have := q1.size; omega
    clear d1 h0 q1 q0 hb
    by_cases hneg : n < 0
    · have R1 := Lib.hid r1
      clear r1
      go_wp2_with fail
      refine (new_bad _ n _ (.inl hneg)).mono ?_
      rintro e w4 ⟨rfl, rfl⟩
      go_wp2_with fail
      refine (cells_any mb m0 _ h1).mono ?_
      rintro e w5 ⟨rfl, d2⟩
      have R2 := Lib.hid (R1.out.trans (d2.keep _))
      clear d2 R1 h1
      have hu : (m0.used == 0) = true := by simp [u0]
      go_wp2
      go_ret
      exact ⟨rfl, R2.out.below (Nat.le_refl _) (fun _ _ h => h)⟩
    · obtain ⟨k, rfl⟩ : ∃ k : Nat, n = k := ⟨n.toNat, by omega⟩
      have hk : k ≤ 65536 := by omega
      have hkn : decide ((k : Int) < 0) = false := by simp
      have hw : IntKind.i64.wrap (2 * (k : Int)) = 2 * k := IntWalk.i64_in _ (by omega)
      by_cases hqt : m0.cells < 2 * k
      · have R1 := Lib.hid r1
        clear r1
        go_wp2_with fail
        refine (new_refused k hk mb m0 _ o0 h1 (by omega)).mono ?_
        rintro e w4 ⟨rfl, a1, p1⟩
        have us := (MS.note_same m0 3).used
        have R2 := Lib.hid (R1.out.next p1 (fun i hi hl => by omega))
        clear R1 p1 h1
        generalize m0.note 3 = m1 at *
        go_wp2_with fail
        refine (cells_any mb m1 _ a1).mono ?_
        rintro e w5 ⟨rfl, d2⟩
        have R3 := Lib.hid (R2.out.trans (d2.keep _))
        clear d2 R2 a1
        have hu : (m1.used == 0) = true := by simp [us, u0]
        go_wp2
        go_ret
        exact ⟨rfl, R3.out.below (Nat.le_refl _) (fun _ _ h => h)⟩
      · have hqt' : decide (m0.cells < 2 * k) = false := by simpa using hqt
        have hlt := h1.lt
        obtain ⟨g1, g2⟩ := give_all u0 k (by omega)
        have ok1 := MS.take_ok o0 (2 * k)
        go_wp2_with fail
        refine (new_taken k hk mb m0 _ o0 h1 (by omega)).mono ?_
        rintro e w4 ⟨⟨b, g, rfl, x1, x2, x3, x4, x5, hs⟩, a1, p1⟩
        have S1 : SM W b g k [] mb (m0.take (2 * k)).2 w4 := ⟨⟨hs, by have := r1.size; omega, by have := r1.size; omega, x3, x4, r1.next p1 (fun i hi hl => by omega)⟩, a1, ok1, hb1, by omega, by omega⟩
        clear hs a1 p1 h1 r1
        generalize (m0.take (2 * k)).2 = m1 at *
        go_wp2_with fail
        refine (cells_any mb m1 _ S1.at_).mono ?_
        rintro e w5 ⟨rfl, d2⟩
        have S2 := S1.quiet (d2.keep _)
        clear d2 S1
        go_wp2_with fail
        refine (sm_add 0 _ _ rfl S2).mono ?_
        rintro e w6 ⟨rfl, S3⟩
        clear S2
        generalize (addV k [] 0).1 = L1 at *
        generalize (addV k [] 0).2 = t1 at *
        go_wp2_with fail
        refine (sm_drop _ rfl S3).mono ?_
        rintro e w7 ⟨rfl, S4⟩
        clear S3
        have g3 : ((m1.give (2 * k)).2.give (2 * ((0 : Nat) : Int))).2.used = 0 := by
          unfold MS.give at *
          split <;> simp_all
        generalize (m1.give (2 * k)).2 = m2 at *
        go_wp2_with fail
        refine (sm_drop _ rfl S4).mono ?_
        rintro e w8 ⟨rfl, S5⟩
        clear S4
        generalize (m2.give (2 * ((0 : Nat) : Int))).2 = m3 at *
        go_wp2_with fail
        refine (cells_any mb m3 _ S5.at_).mono ?_
        rintro e w9 ⟨rfl, d3⟩
        have S6 := S5.quiet (d3.keep _)
        clear d3 S5
        have hu1 : (m1.used == 2 * k) = true := by simp [g2]
        have hu3 : (m3.used == 0) = true := by simp [g3]
        have S7 := Lib.hid S6
        clear S6 g1 g2 g3 ok1 o0
        go_wp2_with fail
        refine (own_len 0 rfl S7.out.o).mono ?_
        rintro e w10 ⟨rfl, rfl⟩
        go_wp2_with fail
        refine (sm_add 0 false [] rfl S7.out).mono ?_
        rintro e w11 ⟨rfl, S8⟩
        have S9 := Lib.hid S8
        clear S8
        go_wp2_with fail
        refine (own_has 0 false rfl S9.out.o).mono ?_
        rintro e w12 ⟨rfl, rfl⟩
        go_wp2
        go_ret
        exact ⟨rfl, S9.out.o.q.below (Nat.le_refl _) (fun _ _ h => h)⟩

end Go.Proofs.Ytklknkeanmjhnaa.SparseMeter
