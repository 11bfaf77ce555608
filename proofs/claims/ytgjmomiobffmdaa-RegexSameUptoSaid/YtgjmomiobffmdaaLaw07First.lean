/- RegexFirst: the walk. -/
import Derived.Test.YtgjmomiobffmdaaLaw07Awake
namespace Go.Proofs.Ytgjmomiobffmdaa.P07
open Go.RowKit Go.Proofs.Ytgjmomiobffmdaa.Base Go.Proofs.Ytgjmomiobffmdaa.IL Go.Proofs.Ytgjmomiobffmdaa.Bytes

theorem slice_to (l : List UInt8) (hi : Nat) (h2 : hi ≤ l.length) (w : World) : (Instr.slice 9 (str l) none (some (.int .i64 hi)) none).run Try.prog w = .ok (str (l.take hi)) w := by
  have hs := size_str l
  have e := sub_cut l 0 hi
  rw [List.drop_zero] at e
  have a3 : (0 : Int) ≤ hi := by omega
  simp [Instr.slice, Instr.sliceBounds, Instr.sliceBound, run_underlying (P := Try.prog) Try.underlying9, asIntOf, hs, e, h2, a3, go_sem]

set_option maxRecDepth 100000 in
set_option maxHeartbeats 4000000 in
theorem first_law (l : List UInt8) (hbl : l.length ≤ 9223372036854775807) (w : World) : Calls Try.prog 3 #[str l] w fun e w' => e = .returned (.bool true) ∧ Keep (fun _ => False) w w' := by
  have hs := size_str l
  by_cases hl : 1500 < l.length
  · have hl' : (1500 : Int) < l.length := by omega
    unfold str
    obtain ⟨B, hB⟩ : ∃ B : ByteArray, (⟨l.toArray⟩ : ByteArray) = B := ⟨_, rfl⟩
    rw [hB] at hs ⊢
    clear hB
    go_enter Try.func3, Try.ntmps3
    go_wp2_with fail
    refine (awake_true w).mono ?_
    rintro e w1 ⟨rfl, q1⟩
    have Q1 := Lib.hid q1
    clear q1
    go_wp2_with fail
    refine (awake_true w1).mono ?_
    rintro e w2 ⟨rfl, q2⟩
    have Q2 := Lib.hid (Q1.out.trans q2)
    clear q2
    go_wp2_with fail
    go_ret
    exact ⟨rfl, Q2.out⟩
  · have hl' : ¬ (1500 : Int) < l.length := by omega
    obtain ⟨R, hR⟩ : ∃ R, parse (l.length + 2) l = R := ⟨_, rfl⟩
    cases R with
    | inr t =>
      have HP := Lib.hid (fun W => parse_right hR (Nat.le_refl _) (by omega) W)
      have hstr : str l = .string ⟨l.toArray⟩ := rfl
      unfold str
      obtain ⟨B, hB⟩ : ∃ B : ByteArray, (⟨l.toArray⟩ : ByteArray) = B := ⟨_, rfl⟩
      rw [hB] at hs hstr ⊢
      rw [hstr] at HP
      clear hB hR hstr
      go_enter Try.func3, Try.ntmps3
      go_wp2_with fail
      refine (awake_true w).mono ?_
      rintro e w1 ⟨rfl, q1⟩
      have Q1 := Lib.hid q1
      clear q1
      go_wp2_with fail
      refine (HP.out w1).mono ?_
      rintro e w2 ⟨a, c, rfl, hle, hL, q2⟩
      have Q2 := Lib.hid (Q1.out.trans q2)
      clear q2 hle hL
      go_wp2_with fail
      go_ret
      exact ⟨rfl, Q2.out.alloc _⟩
    | inl p =>
      have hp := wrong_in hR
      have hst := slice_to l p hp
      have hf := first_wrong hR
      have HP := Lib.hid (fun W => parse_wrong hR (Nat.le_refl _) (by omega) W)
      have htk : (l.take p).length + 2 ≤ l.length + 2 := by rw [List.length_take]; omega
      have htl : (l.take p).length ≤ 100000000 := by rw [List.length_take]; omega
      have hs2 := size_str (l.take p)
      have hstr : str l = .string ⟨l.toArray⟩ := rfl
      have hstr2 : str (l.take p) = .string ⟨(l.take p).toArray⟩ := rfl
      unfold str
      obtain ⟨B, hB⟩ : ∃ B : ByteArray, (⟨l.toArray⟩ : ByteArray) = B := ⟨_, rfl⟩
      obtain ⟨D, hD⟩ : ∃ D : ByteArray, (⟨(l.take p).toArray⟩ : ByteArray) = D := ⟨_, rfl⟩
      rw [hB] at hs hstr ⊢
      rw [hD] at hs2 hstr2
      rw [hstr, hstr2] at hst
      rw [hstr] at HP
      rcases hf with ⟨t, hf⟩ | hf
      · have HQ := Lib.hid (fun W => parse_right hf htk htl W)
        rw [hstr2] at HQ
        clear hB hD hR hstr hstr2 hf htk htl
        go_enter Try.func3, Try.ntmps3
        go_wp2_with fail
        refine (awake_true w).mono ?_
        rintro e w1 ⟨rfl, q1⟩
        have Q1 := Lib.hid q1
        clear q1
        go_wp2_with fail
        refine (HP.out w1).mono ?_
        rintro e w2 ⟨rfl, q2⟩
        have Q2 := Lib.hid (Q1.out.trans (q2.alloc (.cells nzeros 28)))
        clear q2
        go_wp2_with fail
        generalize (w2.alloc (.cells nzeros 28)) = W2 at *
        refine (HQ.out W2).mono ?_
        rintro e w3 ⟨a, c, rfl, hle, hL, q3⟩
        have Q3 := Lib.hid (Q2.out.trans q3)
        clear q3 hle hL
        go_wp2_with fail
        go_ret
        exact ⟨rfl, Q3.out.alloc _⟩
      · have HQ := Lib.hid (fun W => parse_wrong hf htk htl W)
        rw [hstr2] at HQ
        clear hB hD hR hstr hstr2 hf htk htl
        go_enter Try.func3, Try.ntmps3
        go_wp2_with fail
        refine (awake_true w).mono ?_
        rintro e w1 ⟨rfl, q1⟩
        have Q1 := Lib.hid q1
        clear q1
        go_wp2_with fail
        refine (HP.out w1).mono ?_
        rintro e w2 ⟨rfl, q2⟩
        have Q2 := Lib.hid (Q1.out.trans (q2.alloc (.cells nzeros 28)))
        clear q2
        go_wp2_with fail
        generalize (w2.alloc (.cells nzeros 28)) = W2 at *
        refine (HQ.out W2).mono ?_
        rintro e w3 ⟨rfl, q3⟩
        have Q3 := Lib.hid (Q2.out.trans q3)
        clear q3
        go_wp2_with fail
        go_ret
        exact ⟨rfl, Q3.out.alloc _⟩
end Go.Proofs.Ytgjmomiobffmdaa.P07
