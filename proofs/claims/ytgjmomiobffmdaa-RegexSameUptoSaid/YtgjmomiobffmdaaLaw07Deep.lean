/- RegexDeep: the walk. -/
import Derived.Test.YtgjmomiobffmdaaLaw07First
import Derived.Test.YtgjmomiobffmdaaParse07
namespace Go.Proofs.Ytgjmomiobffmdaa.P07
open Go.RowKit Go.Proofs.Ytgjmomiobffmdaa.Base Go.Proofs.Ytgjmomiobffmdaa.IL Go.Proofs.Ytgjmomiobffmdaa.Bytes

/-- The document's Parse of a text that is right. -/
theorem ref_right {F : Nat} {l : List UInt8} {t : T} (h : parse F l = .inr t) (hF : l.length + 2 ≤ F) (hl : l.length ≤ 3000) (w : World) :
    Calls Try.prog 14 #[str l] w fun e w' => ∃ a c, e = .returned (.tuple #[nodeV t a c, .int .i64 (-1)]) ∧ t.subs.length ≤ c ∧ Lie w' (fun k => w.heap.size ≤ k) a t.subs ∧ Keep (fun _ => False) w w' := by
  refine (parse_any F l hF hl w).mono ?_
  rintro e w' ⟨hP, q⟩
  rw [h] at hP
  obtain ⟨v, rfl, a, c, rfl, hle, hL⟩ := hP
  exact ⟨a, c, rfl, hle, hL, q⟩
/-- .. that is wrong. -/
theorem ref_wrong {F : Nat} {l : List UInt8} {p : Nat} (h : parse F l = .inl p) (hF : l.length + 2 ≤ F) (hl : l.length ≤ 3000) (w : World) :
    Calls Try.prog 14 #[str l] w fun e w' => e = .returned (.tuple #[.agg nzeros, .int .i64 p]) ∧ Keep (fun _ => False) w w' := by
  refine (parse_any F l hF hl w).mono ?_
  rintro e w' ⟨hP, q⟩
  rw [h] at hP
  exact ⟨hP, q⟩

theorem mod16 (n : Int) : ∃ N : Nat, N < 16 ∧ (IntKind.u64.wrap n).tmod 16 = N := by
  have h : 0 ≤ IntKind.u64.wrap n := by rw [IntKind.wrap_u64]; omega
  generalize IntKind.u64.wrap n = m at *
  rw [Int.tmod_eq_emod_of_nonneg h]
  exact ⟨(m % 16).toNat, by omega, by omega⟩

set_option maxRecDepth 100000 in
set_option maxHeartbeats 8000000 in
theorem regex_deep (n : Int) (l : List UInt8) (hbl : l.length ≤ 9223372036854775807) (w : World) : Calls Try.prog 5 #[.int .i64 n, str l] w fun e w' => e = .returned (.bool true) ∧ Keep (fun _ => False) w w' := by
  obtain ⟨N, hN, hmod⟩ := mod16 n
  have hs := size_str l
  have hstr : str l = .string ⟨l.toArray⟩ := rfl
  have HI := Lib.hid (index_run l)
  unfold str
  obtain ⟨B, hB⟩ : ∃ B : ByteArray, (⟨l.toArray⟩ : ByteArray) = B := ⟨_, rfl⟩
  rw [hB] at hs hstr ⊢
  have HSTR := Lib.hid (And.intro hstr hB)
  clear hB hstr
  go_enter Try.func5, Try.ntmps5
  go_upto_region 2 with fail
  by_cases hl : 300 < l.length
  · have hl' : (300 : Int) < l.length := by omega
    go_wp2_with fail
    refine (awake_true w).mono ?_
    rintro e w1 ⟨rfl, q1⟩
    have Q1 := Lib.hid q1
    clear q1
    go_wp2_with fail
    refine (awake_true w1).mono ?_
    rintro e w2 ⟨rfl, q2⟩
    have Q2 := Lib.hid (Q1.out.trans q2)
    clear q2
    go_wp2_with fail
    go_ret
    exact ⟨rfl, Q2.out⟩
  have hl' : ¬ (300 : Int) < l.length := by omega
  go_wp2_with fail
  refine (awake_true w).mono ?_
  rintro e w1 ⟨rfl, q1⟩
  have Q1 := Lib.hid q1
  clear q1
  go_wp2_with fail
  obtain ⟨R, hR⟩ : ∃ R, parse (l.length + 100) l = R := ⟨_, rfl⟩
  cases R with
  | inl p =>
    have hp := ref_wrong hR (by omega) (by omega) w1
    rw [HSTR.out.1] at hp
    have HP := Lib.hid hp
    clear hp hR
    refine HP.out.mono ?_
    rintro e w2 ⟨rfl, q2⟩
    have Q2 := Lib.hid (Q1.out.trans q2)
    clear q2
    have hp0 : (0 : Int) ≤ (p : Int) := by omega
    go_wp2_with fail
    go_ret
    exact ⟨rfl, Q2.out.alloc _⟩
  | inr t =>
    have hp := fun W => ref_right hR (by omega) (by omega) W
    rw [HSTR.out.1] at hp
    have HP := Lib.hid (And.intro hp hR)
    clear hp hR
    refine (HP.out.1 w1).mono ?_
    rintro e w2 ⟨a0, c0, rfl, -, -, q2⟩
    have Q2 := Lib.hid ((Q1.out.trans q2).alloc (.cells (ncells t a0 c0) 28))
    clear q2
    go_upto_region 5 with fail
    generalize (w2.alloc (.cells (ncells t a0 c0) 28)) = W2 at *
    have i1 := HI.out 0
    rw [HSTR.out.1] at i1
    by_cases h0 : 0 < l.length ∧ byteAt l 0 = 40
    · have i1 := i1 h0.1
      rw [h0.2] at i1
      have i2 : ∀ w, (Instr.index 9 (.string B) (.int .i64 0)).run Try.prog w = .ok (.int .u8 40) w := i1
      have h01 : (0 : Int) < l.length := by omega
      clear i1
      go_wp2_with fail
      go_ret
      exact ⟨rfl, Q2.out⟩
    have HN0 := Lib.hid h0
    clear h0
    go_cut [43] (fun x43 wx => x43 = .bool false ∧ wx = W2)
    case first =>
      by_cases hz : l.length = 0
      · have h01 : ¬ (0 : Int) < l.length := by omega
        clear i1
        go_wp2_with fail
        go_meet
        case rel => exact ⟨rfl, rfl⟩
      · have h01 : (0 : Int) < l.length := by omega
        have i1 := i1 (by omega)
        have hb : ((byteAt l 0 : Int) == 40) = false := by
          have := HN0.out
          simp
          omega
        generalize byteAt l 0 = u at *
        have i2 : ∀ w, (Instr.index 9 (.string B) (.int .i64 0)).run Try.prog w = .ok (.int .u8 u) w := i1
        clear i1
        go_wp2_with fail
        go_meet
        case rel => exact ⟨rfl, rfl⟩
    case rest =>
      obtain ⟨rfl, rfl⟩ := hcut
      clear i1
      go_wp2_with fail
      go_loopg [46] l.length (fun gg i wr => ∃ k : Nat, i = .int .i64 k ∧ k + gg = l.length ∧ (∀ j, j < k → byteAt l j ≠ 40) ∧ wr = wc)
      case atStart => exact ⟨0, rfl, by omega, fun j hj => absurd hj (Nat.not_lt_zero _), rfl⟩
      case round =>
        obtain ⟨k, rfl, hk, hno, rfl⟩ := hrel
        have HNO := Lib.hid hno
        clear hno
        by_cases hlt : k < l.length
        · have hlt' : (k : Int) < l.length := by omega
          have hi := HI.out k hlt
          rw [HSTR.out.1] at hi
          by_cases h40 : byteAt l k = 40
          · rw [h40] at hi
            go_wp2_with fail
            go_ret
            exact ⟨rfl, Q2.out⟩
          · have hb : ((byteAt l k : Int) == 40) = false := by simp; omega
            have H40 := Lib.hid h40
            clear h40
            obtain ⟨u, hu⟩ : ∃ u, byteAt l k = u := ⟨_, rfl⟩
            have HU := Lib.hid hu
            rw [hu] at hi hb
            clear hu
            go_wp2_with fail
            go_roundg (l.length - (k + 1))
            case measure => omega
            case rel =>
              refine ⟨k + 1, by go_num, by omega, fun j hj => ?_, rfl⟩
              by_cases e : j = k
              · rw [e]
                exact H40.out
              · exact HNO.out j (by omega)
        · have hke : k = l.length := by omega
          have HNO2 := Lib.hid (show ∀ j, j < l.length → byteAt l j ≠ 40 from by rw [← hke]; exact HNO.out)
          clear hke HNO
          go_wp2_with fail
          go_loopg [8, 9, 55] N (fun gg x y i wv => ∃ k : Nat, i = .int .i64 k ∧ k + gg = N ∧ x = str (List.replicate k 40) ∧ y = str (List.replicate k 41) ∧ wv = wr)
          case atStart => exact ⟨0, rfl, by omega, rfl, rfl, rfl⟩
          case round =>
            obtain ⟨k2, rfl, hk2, rfl, rfl, rfl⟩ := hrel
            by_cases hlt2 : k2 < N
            · have hlt2' : (k2 : Int) < N := by omega
              have hs1 := size_str (List.replicate k2 40)
              have hs2 := size_str (List.replicate k2 41)
              have ha1 := str_append (List.replicate k2 40) [40]
              have ha2 := str_append (List.replicate k2 41) [41]
              rw [List.length_replicate] at hs1 hs2
              rw [← List.replicate_succ'] at ha1 ha2
              unfold str
              obtain ⟨B1, hB1⟩ : ∃ B : ByteArray, (⟨(List.replicate k2 40).toArray⟩ : ByteArray) = B := ⟨_, rfl⟩
              obtain ⟨B2, hB2⟩ : ∃ B : ByteArray, (⟨(List.replicate k2 41).toArray⟩ : ByteArray) = B := ⟨_, rfl⟩
              rw [hB1] at hs1 ha1 ⊢
              rw [hB2] at hs2 ha2 ⊢
              have ha1' : B1 ++ ⟨#[40]⟩ = ⟨(List.replicate (k2 + 1) 40).toArray⟩ := ha1
              have ha2' : B2 ++ ⟨#[41]⟩ = ⟨(List.replicate (k2 + 1) 41).toArray⟩ := ha2
              have HA := Lib.hid (And.intro ha1' ha2')
              have hb1 : B1.size + 1 ≤ 9223372036854775807 := by omega
              have hb2 : B2.size + 1 ≤ 9223372036854775807 := by omega
              have hb1' : ¬ 9223372036854775807 < k2 + 1 := by omega
              clear ha1 ha2 hB1 hB2 ha1' ha2'
              go_wp2_with fail
              go_roundg (N - (k2 + 1))
              case measure => omega
              case rel => exact ⟨k2 + 1, by go_num, by omega, congrArg Value.string HA.out.1, congrArg Value.string HA.out.2, rfl⟩
            · have hke : k2 = N := by omega
              subst hke
              obtain ⟨L, hL⟩ : ∃ L, List.replicate k2 40 ++ (l ++ List.replicate k2 41) = L := ⟨_, rfl⟩
              have hLl : L.length = k2 + l.length + k2 := by rw [← hL]; simp; omega
              have hs1 := size_str (List.replicate k2 40)
              have hs2 := size_str (List.replicate k2 41)
              have ha1 := str_append (List.replicate k2 40) l
              have ha2 := str_append (List.replicate k2 40 ++ l) (List.replicate k2 41)
              have hsz3 := size_str (List.replicate k2 40 ++ l)
              rw [List.length_append, List.length_replicate] at hsz3
              rw [List.length_replicate] at hs1 hs2
              rw [List.append_assoc, hL] at ha2
              unfold str
              have hBl : (⟨l.toArray⟩ : ByteArray) = B := HSTR.out.2
              rw [hBl] at ha1
              obtain ⟨B1, hB1⟩ : ∃ B : ByteArray, (⟨(List.replicate k2 40).toArray⟩ : ByteArray) = B := ⟨_, rfl⟩
              obtain ⟨B2, hB2⟩ : ∃ B : ByteArray, (⟨(List.replicate k2 41).toArray⟩ : ByteArray) = B := ⟨_, rfl⟩
              obtain ⟨B3, hB3⟩ : ∃ B : ByteArray, (⟨(List.replicate k2 40 ++ l).toArray⟩ : ByteArray) = B := ⟨_, rfl⟩
              obtain ⟨B4, hB4⟩ : ∃ B : ByteArray, (⟨L.toArray⟩ : ByteArray) = B := ⟨_, rfl⟩
              rw [hB1] at hs1 ha1 ⊢
              rw [hB2] at hs2 ha2 ⊢
              rw [hB3] at ha1 ha2 hsz3
              rw [hB4] at ha2
              have h4 : str L = .string B4 := by unfold str; rw [hB4]
              have hb1 : B1.size + B.size ≤ 9223372036854775807 := by omega
              have hb2 : B3.size + B2.size ≤ 9223372036854775807 := by omega
              have hn1 : ¬ 9223372036854775807 < k2 + l.length := by omega
              have hn2 : ¬ 9223372036854775807 < k2 + l.length + k2 := by omega
              have hpL : if 12 < k2 then parse (l.length + 100) L = .inl 12 else parse (l.length + 100) L = .inr t := by
                split
                · rename_i h12
                  refine deep_wrong (by omega) L (by omega) (fun j hj => ?_)
                  rw [← hL, byteAt_left (by simpa using (by omega : j < k2)), reps_at (by omega)]
                  rfl
                · rw [← hL]
                  exact deep_in (by omega) HP.out.2 HNO2.out k2 (by omega)
              clear hB1 hB2 hB3 hB4 hL hBl
              by_cases h12 : 12 < k2
              · rw [if_pos h12] at hpL
                have hp := fun W => parse_wrong hpL (by omega) (by omega) W
                rw [h4] at hp
                have HPL := Lib.hid hp
                have h12' : (12 : Int) < k2 := by omega
                clear hp hpL h4 hLl
                go_wp2_with fail
                refine (HPL.out wr).mono ?_
                rintro e w3 ⟨rfl, q3⟩
                have Q3 := Lib.hid ((Q2.out.trans q3).alloc (.cells nzeros 28))
                clear q3
                go_wp2_with fail
                generalize (w3.alloc (.cells nzeros 28)) = W3 at *
                refine (HP.out.1 W3).mono ?_
                rintro e w4 ⟨a2, c2, rfl, -, -, q4⟩
                have Q4 := Lib.hid ((Q3.out.trans q4).alloc (.cells (ncells t a2 c2) 28))
                clear q4
                go_wp2_with fail
                go_ret
                exact ⟨rfl, Q4.out⟩
              · rw [if_neg h12] at hpL
                have hp := fun W => parse_right hpL (by omega) (by omega) W
                rw [h4] at hp
                have HPL := Lib.hid hp
                have h12' : ¬ (12 : Int) < k2 := by omega
                clear hp hpL h4 hLl
                go_wp2_with fail
                refine (HPL.out wr).mono ?_
                rintro e w3 ⟨a3, c3, rfl, hle3, hL3, q3⟩
                have J3 := Lib.hid (show Aw1 w w3.heap.size t a3 c3 (w3.alloc (.cells (ncells t a3 c3) 28)) from
                  ⟨At.new w3 _ _, (hL3.mono (ok' := fun _ => True) (fun _ _ => trivial)).keepF ((Keep.refl (fun _ => False) w3).alloc _), (Q2.out.trans q3).alloc _, hle3⟩)
                clear q3 hle3 hL3
                go_wp2_with fail
                generalize (w3.alloc (.cells (ncells t a3 c3) 28)) = W3 at *
                generalize w3.heap.size = n3 at *
                refine (HP.out.1 W3).mono ?_
                rintro e w4 ⟨a2, c2, rfl, hle4, hL4, q4⟩
                have J4 := Lib.hid (show Aw w n3 w4.heap.size t t a3 a2 c3 c2 (w4.alloc (.cells (ncells t a2 c2) 28)) from by
                  have K := J3.out.quiet q4
                  have qa := (Keep.refl (fun _ => False) w4).alloc (.cells (ncells t a2 c2) 28)
                  exact ⟨K.nt.alloc _, At.new w4 _ _, K.lt.keepF qa, (hL4.mono (ok' := fun _ => True) (fun _ _ => trivial)).keepF qa, K.keep.alloc _, K.le, hle4⟩)
                clear q4 hle4 hL4
                go_upto_region 21 with fail
                generalize (w4.alloc (.cells (ncells t a2 c2) 28)) = W4 at *
                generalize w4.heap.size = n4 at *
                obtain ⟨x0, x1, x2, x3, x4, x5, x6, x7⟩ := (cells8 J4.out.nt).1
                obtain ⟨y0, y1, y2, y3, y4, y5, y6, y7⟩ := (cells8 J4.out.mt).1
                go_wp2_with fail
                refine (same_any t t a3 c3 a2 c2 W4 J4.out.lt J4.out.lu).mono ?_
                rintro e w5 ⟨v, rfl, hv, q5⟩
                obtain rfl : v = true := hv.2 rfl
                have Q5 := Lib.hid (J4.out.keep.trans q5)
                clear q5 hv
                go_wp2_with fail
                go_ret
                exact ⟨rfl, Q5.out⟩
end Go.Proofs.Ytgjmomiobffmdaa.P07
