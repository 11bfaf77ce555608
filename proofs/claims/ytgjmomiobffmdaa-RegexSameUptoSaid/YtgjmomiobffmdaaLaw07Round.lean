/- RegexRound: the walk. -/
import Derived.Test.YtgjmomiobffmdaaLaw07Deep
namespace Go.Proofs.Ytgjmomiobffmdaa.P07
open Go.RowKit Go.Proofs.Ytgjmomiobffmdaa.Base Go.Proofs.Ytgjmomiobffmdaa.IL Go.Proofs.Ytgjmomiobffmdaa.Bytes

/-- An expression in block n. -/
structure Nd (W : World) (n : Nat) (t : T) (a : Option Addr) (c : Nat) : Prop where
  cell : At W n 28 (ncells t a c)
  lie : Lie W (fun _ => True) a t.subs
  le : t.subs.length ≤ c
theorem Nd.keep {W W' : World} {n : Nat} {t : T} {a : Option Addr} {c : Nat} (h : Nd W n t a c) (q : Keep (fun _ => False) W W') : Nd W' n t a c := ⟨h.cell.keep q (fun h => h), h.lie.keepF q, h.le⟩
theorem Nd.new {W : World} {t : T} {a : Option Addr} {c : Nat} {ok : Nat → Prop} (hle : t.subs.length ≤ c) (hL : Lie W ok a t.subs) : Nd (W.alloc (.cells (ncells t a c) 28)) W.heap.size t a c :=
  ⟨At.new W _ _, (hL.mono (fun _ _ => trivial)).keepF ((Keep.refl (fun _ => False) W).alloc _), hle⟩
theorem lie_two {W : World} {t u : T} {a b : Option Addr} {c d : Nat} (ht : Lie W (fun _ => True) a t.subs) (hu : Lie W (fun _ => True) b u.subs) (hc : t.subs.length ≤ c) (hd : u.subs.length ≤ d) :
    Lie (W.alloc (.cells (ncells t a c ++ ncells u b d) 28)) (fun _ => True) (some ⟨W.heap.size, 0, none⟩) [t, u] := by
  have q := (Keep.refl (fun _ => False) W).alloc (.cells (ncells t a c ++ ncells u b d) 28)
  have h := At.new W (ncells t a c ++ ncells u b d) 28
  refine .cons W.heap.size 0 [t, u] (fun i => if i = 0 then a else b) (fun i => if i = 0 then c else d) (by simp) h.lt trivial (fun i s hs => ?_) (fun i s hs j v hv => ?_) (fun i s hs => ?_)
  · match i, hs with
    | 0, hs => simp at hs; subst hs; exact hc
    | 1, hs => simp at hs; subst hs; exact hd
    | i + 2, hs => simp at hs
  · match i, hs with
    | 0, hs =>
      simp at hs
      subst hs
      have hj : j < 8 := (Array.getElem?_eq_some_iff.1 hv).1
      have := h.cell (o := j) (v := v) (by rw [Array.getElem?_append_left (by simpa using hj)]; exact hv)
      simpa using this
    | 1, hs =>
      simp at hs
      subst hs
      have hj : j < 8 := (Array.getElem?_eq_some_iff.1 hv).1
      have := h.cell (o := 8 + j) (v := v) (by rw [Array.getElem?_append_right (by simp)]; simpa using hv)
      simpa using this
    | i + 2, hs => simp at hs
  · match i, hs with
    | 0, hs => simp at hs; subst hs; exact ht.keepF q
    | 1, hs => simp at hs; subst hs; exact hu.keepF q
    | i + 2, hs => simp at hs

set_option maxRecDepth 100000 in
set_option maxHeartbeats 8000000 in
theorem regex_round (l m : List UInt8) (hbl : l.length ≤ 140737488355328) (hbm : m.length ≤ 140737488355328) (w : World) : Calls Try.prog 6 #[str l, str m] w fun e w' => e = .returned (.bool true) ∧ Keep (fun _ => False) w w' := by
  have hs := size_str l
  have hs2 := size_str m
  have hw : IntKind.i64.wrap ((l.length : Int) + m.length) = (l.length : Int) + m.length := by rw [IntKind.wrap_i64]; omega
  have hstr : str l = .string ⟨l.toArray⟩ := rfl
  have hstr2 : str m = .string ⟨m.toArray⟩ := rfl
  unfold str
  obtain ⟨B, hB⟩ : ∃ B : ByteArray, (⟨l.toArray⟩ : ByteArray) = B := ⟨_, rfl⟩
  obtain ⟨D, hD⟩ : ∃ B : ByteArray, (⟨m.toArray⟩ : ByteArray) = B := ⟨_, rfl⟩
  rw [hB] at hs hstr ⊢
  rw [hD] at hs2 hstr2 ⊢
  have HSTR := Lib.hid (And.intro hstr (And.intro hstr2 (And.intro hB hD)))
  clear hB hD hstr hstr2
  go_enter Try.func6, Try.ntmps6
  by_cases hl : 1000 < l.length + m.length
  · have hl' : (1000 : Int) < (l.length : Int) + m.length := by omega
    go_wp2_with fail
    refine (awake_true w).mono ?_
    rintro e w1 ⟨rfl, q1⟩
    have Q1 := Lib.hid q1
    clear q1
    go_wp2_with fail
    refine (awake_true w1).mono ?_
    rintro e w2 ⟨rfl, q2⟩
    have Q2 := Lib.hid (Q1.out.trans q2)
    clear q2
    go_wp2_with fail
    go_ret
    exact ⟨rfl, Q2.out⟩
  have hl' : ¬ (1000 : Int) < (l.length : Int) + m.length := by omega
  go_wp2_with fail
  refine (awake_true w).mono ?_
  rintro e w1 ⟨rfl, q1⟩
  have Q1 := Lib.hid q1
  clear q1
  go_wp2_with fail
  obtain ⟨F, hF⟩ : ∃ F, l.length + m.length + 100 = F := ⟨_, rfl⟩
  obtain ⟨R, hR⟩ : ∃ R, parse F l = R := ⟨_, rfl⟩
  obtain ⟨R', hR'⟩ : ∃ R, parse F m = R := ⟨_, rfl⟩
  cases R with
  | inl p =>
    have hp := fun W => ref_wrong hR (by omega) (by omega) W
    rw [HSTR.out.1] at hp
    have HP := Lib.hid hp
    clear hp hR
    have hp0 : (0 : Int) ≤ (p : Int) := by omega
    cases R' with
    | inl p' =>
      have hp := fun W => ref_wrong hR' (by omega) (by omega) W
      rw [HSTR.out.2.1] at hp
      have HP' := Lib.hid hp
      clear hp hR'
      refine (HP.out w1).mono ?_
      rintro e w2 ⟨rfl, q2⟩
      have Q2 := Lib.hid ((Q1.out.trans q2).alloc (.cells nzeros 28))
      clear q2
      go_wp2_with fail
      generalize (w2.alloc (.cells nzeros 28)) = W2 at *
      refine (HP'.out W2).mono ?_
      rintro e w3 ⟨rfl, q3⟩
      have Q3 := Lib.hid ((Q2.out.trans q3).alloc (.cells nzeros 28))
      clear q3
      go_wp2_with fail
      go_ret
      exact ⟨rfl, Q3.out⟩
    | inr u =>
      have hp := fun W => ref_right hR' (by omega) (by omega) W
      rw [HSTR.out.2.1] at hp
      have HP' := Lib.hid hp
      clear hp hR'
      refine (HP.out w1).mono ?_
      rintro e w2 ⟨rfl, q2⟩
      have Q2 := Lib.hid ((Q1.out.trans q2).alloc (.cells nzeros 28))
      clear q2
      go_wp2_with fail
      generalize (w2.alloc (.cells nzeros 28)) = W2 at *
      refine (HP'.out W2).mono ?_
      rintro e w3 ⟨b, d, rfl, -, -, q3⟩
      have Q3 := Lib.hid ((Q2.out.trans q3).alloc (.cells (ncells u b d) 28))
      clear q3
      go_wp2_with fail
      go_ret
      exact ⟨rfl, Q3.out⟩
  | inr t =>
    have hp := fun W => ref_right hR (by omega) (by omega) W
    rw [HSTR.out.1] at hp
    have HP := Lib.hid hp
    clear hp
    refine (HP.out w1).mono ?_
    rintro e w2 ⟨a, c, rfl, hle, hL, q2⟩
    have Q2 := Lib.hid (And.intro ((Q1.out.trans q2).alloc (.cells (ncells t a c) 28)) (Nd.new hle hL))
    clear q2 hle hL
    go_wp2_with fail
    generalize (w2.alloc (.cells (ncells t a c) 28)) = W2 at *
    generalize w2.heap.size = n2 at *
    cases R' with
    | inl p' =>
      have hp := fun W => ref_wrong hR' (by omega) (by omega) W
      rw [HSTR.out.2.1] at hp
      have HP' := Lib.hid hp
      clear hp hR' hR
      have hp0 : (0 : Int) ≤ (p' : Int) := by omega
      refine (HP'.out W2).mono ?_
      rintro e w3 ⟨rfl, q3⟩
      have Q3 := Lib.hid ((Q2.out.1.trans q3).alloc (.cells nzeros 28))
      clear q3
      go_wp2_with fail
      go_ret
      exact ⟨rfl, Q3.out⟩
    | inr u =>
      have hp := fun W => ref_right hR' (by omega) (by omega) W
      rw [HSTR.out.2.1] at hp
      have HP' := Lib.hid hp
      clear hp
      refine (HP'.out W2).mono ?_
      rintro e w3 ⟨b, d, rfl, hle, hL, q3⟩
      have Q3 := Lib.hid (And.intro ((Q2.out.1.trans q3).alloc (.cells (ncells u b d) 28)) (And.intro ((Q2.out.2.keep q3).keep ((Keep.refl (fun _ => False) w3).alloc (.cells (ncells u b d) 28))) (Nd.new hle hL)))
      clear q3 hle hL
      have h1 := round1 (F := F) (by omega) hR
      have h2 := round2 (F := F) (by omega) hR hR'
      -- the texts
      have ha1 := str_append [40] l
      have ha2 := str_append ([40] ++ l) [41]
      have ha3 := str_append ([40] ++ l) [41, 124, 40]
      have ha4 := str_append ([40] ++ l ++ [41, 124, 40]) m
      have ha5 := str_append ([40] ++ l ++ [41, 124, 40] ++ m) [41]
      have z1 := size_str ([40] ++ l)
      have z3 := size_str ([40] ++ l ++ [41, 124, 40])
      have z4 := size_str ([40] ++ l ++ [41, 124, 40] ++ m)
      rw [show ([40] ++ l ++ [41] : List UInt8) = [40] ++ (l ++ [41]) from by simp] at ha2
      rw [show ([40] ++ l ++ [41, 124, 40] ++ m ++ [41] : List UInt8) = [40] ++ (l ++ ([41, 124, 40] ++ (m ++ [41]))) from by simp] at ha5
      have l1 : ([40] ++ (l ++ [41]) : List UInt8).length = l.length + 2 := by simp
      have l2 : ([40] ++ (l ++ ([41, 124, 40] ++ (m ++ [41]))) : List UInt8).length = l.length + m.length + 5 := by simp; omega
      have e1 : ([40] ++ l : List UInt8).length = l.length + 1 := by simp
      have e3 : ([40] ++ l ++ [41, 124, 40] : List UInt8).length = l.length + 4 := by simp
      have e4 : ([40] ++ l ++ [41, 124, 40] ++ m : List UInt8).length = l.length + m.length + 4 := by simp; omega
      rw [e1] at z1
      rw [e3] at z3
      rw [e4] at z4
      obtain ⟨L1, hL1⟩ : ∃ L : List UInt8, [40] ++ (l ++ [41]) = L := ⟨_, rfl⟩
      obtain ⟨L2, hL2⟩ : ∃ L : List UInt8, [40] ++ (l ++ ([41, 124, 40] ++ (m ++ [41]))) = L := ⟨_, rfl⟩
      rw [hL1] at ha2 l1 h1
      rw [hL2] at ha5 l2 h2
      rw [HSTR.out.2.2.1] at ha1
      rw [HSTR.out.2.2.2] at ha4
      obtain ⟨B1, hB1⟩ : ∃ B : ByteArray, (⟨([40] ++ l).toArray⟩ : ByteArray) = B := ⟨_, rfl⟩
      obtain ⟨B2, hB2⟩ : ∃ B : ByteArray, (⟨L1.toArray⟩ : ByteArray) = B := ⟨_, rfl⟩
      obtain ⟨B3, hB3⟩ : ∃ B : ByteArray, (⟨([40] ++ l ++ [41, 124, 40]).toArray⟩ : ByteArray) = B := ⟨_, rfl⟩
      obtain ⟨B4, hB4⟩ : ∃ B : ByteArray, (⟨([40] ++ l ++ [41, 124, 40] ++ m).toArray⟩ : ByteArray) = B := ⟨_, rfl⟩
      obtain ⟨B5, hB5⟩ : ∃ B : ByteArray, (⟨L2.toArray⟩ : ByteArray) = B := ⟨_, rfl⟩
      rw [hB1] at ha1 ha2 ha3 z1
      rw [hB2] at ha2
      rw [hB3] at ha3 ha4 z3
      rw [hB4] at ha4 ha5 z4
      rw [hB5] at ha5
      have s1 : str L1 = .string B2 := by unfold str; rw [hB2]
      have s2 : str L2 = .string B5 := by unfold str; rw [hB5]
      have c1 : (⟨#[40]⟩ : ByteArray) ++ B = B1 := ha1
      have c2 : B1 ++ ⟨#[41]⟩ = B2 := ha2
      have c3 : B1 ++ ⟨#[41, 124, 40]⟩ = B3 := ha3
      have c4 : B3 ++ D = B4 := ha4
      have c5 : B4 ++ ⟨#[41]⟩ = B5 := ha5
      have n1 : ¬ 9223372036854775807 < 1 + l.length := by omega
      have n2' : ¬ 9223372036854775807 < l.length + 1 + 1 := by omega
      have n3 : ¬ 9223372036854775807 < l.length + 1 + 3 := by omega
      have n4 : ¬ 9223372036854775807 < l.length + 4 + m.length := by omega
      have n5 : ¬ 9223372036854775807 < l.length + m.length + 4 + 1 := by omega
      clear ha1 ha2 ha3 ha4 ha5 hB1 hB2 hB3 hB4 hB5 e1 e3 e4 hL1 hL2 hR hR'
      go_upto_region 7 with fail
      generalize (w3.alloc (.cells (ncells u b d) 28)) = W3 at *
      generalize w3.heap.size = n3b at *
      rcases h1 with h1 | ⟨pb, h1⟩
      case inr =>
        have hp1 := fun W => parse_wrong h1 (by omega) (by omega) W
        have hp2 := fun W => ref_wrong h1 (by omega) (by omega) W
        rw [s1] at hp1 hp2
        have HX := Lib.hid (And.intro hp1 hp2)
        have hpb0 : (0 : Int) ≤ (pb : Int) := by omega
        clear hp1 hp2 h1 h2
        go_wp2_with fail
        refine (HX.out.1 W3).mono ?_
        rintro e w4 ⟨rfl, q4⟩
        have Q4 := Lib.hid ((Q3.out.1.trans q4).alloc (.cells nzeros 28))
        clear q4
        go_wp2_with fail
        generalize (w4.alloc (.cells nzeros 28)) = W4 at *
        refine (HX.out.2 W4).mono ?_
        rintro e w5 ⟨rfl, q5⟩
        have Q5 := Lib.hid ((Q4.out.trans q5).alloc (.cells nzeros 28))
        clear q5
        go_wp2_with fail
        go_ret
        exact ⟨rfl, Q5.out⟩
      have hp1 := fun W => parse_right h1 (by omega) (by omega) W
      have hp2 := fun W => ref_right h1 (by omega) (by omega) W
      rw [s1] at hp1 hp2
      have HX := Lib.hid (And.intro hp1 hp2)
      clear hp1 hp2 h1
      go_wp2_with fail
      refine (HX.out.1 W3).mono ?_
      rintro e w4 ⟨a4, c4', rfl, hle, hL, q4⟩
      have Q4 := Lib.hid (show (Keep (fun _ => False) w (w4.alloc (.cells (ncells t a4 c4') 28)) ∧ Nd (w4.alloc (.cells (ncells t a4 c4') 28)) n2 t a c ∧ Nd (w4.alloc (.cells (ncells t a4 c4') 28)) n3b u b d ∧ Nd (w4.alloc (.cells (ncells t a4 c4') 28)) w4.heap.size t a4 c4') from by
        have qa := q4.alloc (.cells (ncells t a4 c4') 28)
        exact ⟨Q3.out.1.trans qa, Q3.out.2.1.keep qa, Q3.out.2.2.keep qa, Nd.new hle hL⟩)
      clear q4 hle hL
      go_wp2_with fail
      generalize (w4.alloc (.cells (ncells t a4 c4') 28)) = W4 at *
      generalize w4.heap.size = n4b at *
      refine (HX.out.2 W4).mono ?_
      rintro e w5 ⟨a5, c5', rfl, -, -, q5⟩
      have Q5 := Lib.hid (show (Keep (fun _ => False) w (w5.alloc (.cells (ncells t a5 c5') 28)) ∧ Nd (w5.alloc (.cells (ncells t a5 c5') 28)) n2 t a c ∧ Nd (w5.alloc (.cells (ncells t a5 c5') 28)) n3b u b d ∧ Nd (w5.alloc (.cells (ncells t a5 c5') 28)) n4b t a4 c4') from by
        have qa := q5.alloc (.cells (ncells t a5 c5') 28)
        exact ⟨Q4.out.1.trans qa, Q4.out.2.1.keep qa, Q4.out.2.2.1.keep qa, Q4.out.2.2.2.keep qa⟩)
      clear q5
      go_upto_region 11 with fail
      generalize (w5.alloc (.cells (ncells t a5 c5') 28)) = W5 at *
      rcases h2 with h2 | ⟨pb, h2⟩
      case inr =>
        have hp1 := fun W => parse_wrong h2 (by omega) (by omega) W
        have hp2 := fun W => ref_wrong h2 (by omega) (by omega) W
        rw [s2] at hp1 hp2
        have HY := Lib.hid (And.intro hp1 hp2)
        have hpb0 : (0 : Int) ≤ (pb : Int) := by omega
        clear hp1 hp2 h2
        go_wp2_with fail
        refine (HY.out.1 W5).mono ?_
        rintro e w6 ⟨rfl, q6⟩
        have Q6 := Lib.hid ((Q5.out.1.trans q6).alloc (.cells nzeros 28))
        clear q6
        go_wp2_with fail
        generalize (w6.alloc (.cells nzeros 28)) = W6 at *
        refine (HY.out.2 W6).mono ?_
        rintro e w7 ⟨rfl, q7⟩
        have Q7 := Lib.hid ((Q6.out.trans q7).alloc (.cells nzeros 28))
        clear q7
        go_wp2_with fail
        go_ret
        exact ⟨rfl, Q7.out⟩
      have hp1 := fun W => parse_right h2 (by omega) (by omega) W
      have hp2 := fun W => ref_right h2 (by omega) (by omega) W
      rw [s2] at hp1 hp2
      obtain ⟨V, hV⟩ : ∃ V, T.nd 4 zS 0 0 [t, u] = V := ⟨_, rfl⟩
      rw [hV] at hp1 hp2
      have HY := Lib.hid (And.intro hp1 (And.intro hp2 hV))
      clear hp1 hp2 h2 hV
      go_wp2_with fail
      refine (HY.out.1 W5).mono ?_
      rintro e w6 ⟨a6, c6, rfl, hle, hL, q6⟩
      have Q6 := Lib.hid (show (Keep (fun _ => False) w (w6.alloc (.cells (ncells V a6 c6) 28)) ∧ Nd (w6.alloc (.cells (ncells V a6 c6) 28)) n2 t a c ∧ Nd (w6.alloc (.cells (ncells V a6 c6) 28)) n3b u b d ∧ Nd (w6.alloc (.cells (ncells V a6 c6) 28)) n4b t a4 c4' ∧ Nd (w6.alloc (.cells (ncells V a6 c6) 28)) w6.heap.size V a6 c6) from by
        have qa := q6.alloc (.cells (ncells V a6 c6) 28)
        exact ⟨Q5.out.1.trans qa, Q5.out.2.1.keep qa, Q5.out.2.2.1.keep qa, Q5.out.2.2.2.keep qa, Nd.new hle hL⟩)
      clear q6 hle hL
      go_wp2_with fail
      generalize (w6.alloc (.cells (ncells V a6 c6) 28)) = W6 at *
      generalize w6.heap.size = n6b at *
      refine (HY.out.2.1 W6).mono ?_
      rintro e w7 ⟨a7, c7, rfl, -, -, q7⟩
      have Q7 := Lib.hid (show (Keep (fun _ => False) w (w7.alloc (.cells (ncells V a7 c7) 28)) ∧ Nd (w7.alloc (.cells (ncells V a7 c7) 28)) n2 t a c ∧ Nd (w7.alloc (.cells (ncells V a7 c7) 28)) n3b u b d ∧ Nd (w7.alloc (.cells (ncells V a7 c7) 28)) n4b t a4 c4' ∧ Nd (w7.alloc (.cells (ncells V a7 c7) 28)) n6b V a6 c6) from by
        have qa := q7.alloc (.cells (ncells V a7 c7) 28)
        exact ⟨Q6.out.1.trans qa, Q6.out.2.1.keep qa, Q6.out.2.2.1.keep qa, Q6.out.2.2.2.1.keep qa, Q6.out.2.2.2.2.keep qa⟩)
      clear q7
      go_upto_region 15 with fail
      generalize (w7.alloc (.cells (ncells V a7 c7) 28)) = W7 at *
      obtain ⟨x0, x1, x2, x3, x4, x5, x6, x7⟩ := (cells8 Q7.out.2.1.cell).1
      obtain ⟨y0, y1, y2, y3, y4, y5, y6, y7⟩ := (cells8 Q7.out.2.2.2.1.cell).1
      go_wp2_with fail
      refine (same_any t t a4 c4' a c W7 Q7.out.2.2.2.1.lie Q7.out.2.1.lie).mono ?_
      rintro e w8 ⟨v, rfl, hv, q8⟩
      obtain rfl : v = true := hv.2 rfl
      have Q8 := Lib.hid (And.intro (Q7.out.1.trans q8) (And.intro (Q7.out.2.1.keep q8) (And.intro (Q7.out.2.2.1.keep q8) (Q7.out.2.2.2.2.keep q8))))
      clear x0 x1 x2 x3 x4 x5 x6 x7 y0 y1 y2 y3 y4 y5 y6 y7 q8 hv
      obtain ⟨x0, x1, x2, x3, x4, x5, x6, x7⟩ := (cells8 Q8.out.2.1.cell).1
      obtain ⟨y0, y1, y2, y3, y4, y5, y6, y7⟩ := (cells8 Q8.out.2.2.1.cell).1
      obtain ⟨u0, u1, u2, u3, u4, u5, u6, u7⟩ := (cells8 Q8.out.2.2.2.cell).1
      go_wp2_with fail
      have hsm := same_any V (.nd 4 zS 0 0 [t, u]) a6 c6 (some ⟨w8.heap.size, 0, none⟩) 2 (w8.alloc (.cells (ncells t a c ++ ncells u b d) 28)) (Q8.out.2.2.2.lie.keepF ((Keep.refl (fun _ => False) w8).alloc _)) (lie_two Q8.out.2.1.lie Q8.out.2.2.1.lie Q8.out.2.1.le Q8.out.2.2.1.le)
      refine Calls.mono hsm ?_
      rintro e w9 ⟨v, rfl, hv, q9⟩
      obtain rfl : v = true := hv.2 HY.out.2.2.symm
      have Q9 := Lib.hid (Q8.out.1.trans (Keep.trans ((Keep.refl (fun _ => False) w8).alloc _) q9))
      clear q9 hv hsm
      go_wp2_with fail
      go_ret
      exact ⟨rfl, Q9.out⟩
end Go.Proofs.Ytgjmomiobffmdaa.P07
