/- The document's fixed answers of layer 1 hold: 'awake' answers true and turns nothing that was there. -/
import Derived.Test.YthnjohjibohflaaMeter
namespace Go.Proofs.Ythnjohjibohflaa.Law01
open Go.RowKit Go.Proofs.Ythnjohjibohflaa.Base Go.Proofs.Ythnjohjibohflaa.Meter

theorem ok0 : MS.Ok ⟨0, 0, 10, 0, 5, 0⟩ := by constructor <;> decide
theorem ok1 : MS.Ok ⟨7, 7, 10, 0, 5, 0⟩ := by constructor <;> decide
theorem ok2 : MS.Ok ⟨7, 7, 10, 0, 5, 3⟩ := by constructor <;> decide
theorem ok3 : MS.Ok ⟨0, 7, 10, 0, 5, 3⟩ := by constructor <;> decide
theorem ok4 : MS.Ok ⟨4, 7, 10, 0, 5, 3⟩ := by constructor <;> decide
theorem ok5 : MS.Ok ⟨4, 7, 10, 5, 5, 3⟩ := by constructor <;> decide
theorem ok6 : MS.Ok ⟨4, 7, 10, 0, 9, 0⟩ := by constructor <;> decide

set_option maxRecDepth 100000 in
set_option maxHeartbeats 1000000 in
theorem awake_any (w : World) : Calls Try.prog 8 #[] w fun e w' => e = .returned (.bool true) ∧ Keep (fun _ => False) w w' := by
  go_enter Try.func8, Try.ntmps8
  go_wp2_with fail
  refine (new_any _ _ _).mono ?_
  rintro e w1 ⟨b, rfl, hb, h0, q0⟩
  have k : ∀ (a c : World), Keep (fun _ => False) w a → Keep (· = b) a c → Keep (fun _ => False) w c := fun _ _ x y => x.next y (fun i hi hl => by omega)
  have K := Lib.hid k
  clear k
  go_wp2_with fail
  refine (take_is b ⟨0, 0, 10, 0, 5, 0⟩ 7 _ true ⟨7, 7, 10, 0, 5, 0⟩ rfl ok0 h0 (by decide) (by decide)).mono ?_
  rintro e w2 ⟨rfl, h1, q1, -⟩
  have r1 := K.out _ _ q0 q1
  clear h0 q0 q1
  go_wp2_with fail
  refine (take_is b ⟨7, 7, 10, 0, 5, 0⟩ 4 _ false ⟨7, 7, 10, 0, 5, 3⟩ rfl ok1 h1 (by decide) (by decide)).mono ?_
  rintro e w3 ⟨rfl, h2, q2, -⟩
  have r2 := K.out _ _ r1 q2
  clear h1 r1 q2
  go_wp2_with fail
  refine (err_any b ⟨7, 7, 10, 0, 5, 3⟩ _ h2).mono ?_
  rintro e w3' ⟨rfl, rfl⟩
  go_wp2_with fail
  refine (give_is b ⟨7, 7, 10, 0, 5, 3⟩ 7 _ true ⟨0, 7, 10, 0, 5, 3⟩ rfl ok2 h2 (by decide) (by decide)).mono ?_
  rintro e w4 ⟨rfl, h3, q3, -⟩
  have r3 := K.out _ _ r2 q3
  clear h2 r2 q3
  go_wp2_with fail
  refine (take_is b ⟨0, 7, 10, 0, 5, 3⟩ 4 _ true ⟨4, 7, 10, 0, 5, 3⟩ rfl ok3 h3 (by decide) (by decide)).mono ?_
  rintro e w5 ⟨rfl, h4, q4, -⟩
  have r4 := K.out _ _ r3 q4
  clear h3 r3 q4
  go_wp2_with fail
  refine (cells_any b ⟨4, 7, 10, 0, 5, 3⟩ _ h4).mono ?_
  rintro e w6 ⟨rfl, d1⟩
  have h5 := h4.drawn d1
  have r5 := r4.trans (d1.keep _)
  clear h4 r4
  go_wp2_with fail
  refine (step_is b ⟨4, 7, 10, 0, 5, 3⟩ 5 _ true ⟨4, 7, 10, 5, 5, 3⟩ rfl ok4 h5 (by decide) (by decide)).mono ?_
  rintro e w7 ⟨rfl, h6, q6, -⟩
  have r6 := K.out _ _ r5 q6
  clear h5 r5 q6
  go_wp2_with fail
  refine (step_is b ⟨4, 7, 10, 5, 5, 3⟩ 1 _ false ⟨4, 7, 10, 5, 5, 3⟩ rfl ok5 h6 (by decide) (by decide)).mono ?_
  rintro e w8 ⟨rfl, h7, q7, -⟩
  have r7 := K.out _ _ r6 q7
  clear h6 r6 q7
  go_wp2_with fail
  refine (steps_any b ⟨4, 7, 10, 5, 5, 3⟩ _ h7).mono ?_
  rintro e w9 ⟨rfl, d2⟩
  have h8 := h7.drawn d2
  have r8 := r7.trans (d2.keep _)
  clear h7 r7
  go_wp2_with fail
  refine (begin_any b ⟨4, 7, 10, 5, 5, 3⟩ 9 _ h8).mono ?_
  rintro e w10 ⟨rfl, h9, q9, -⟩
  have h10 : At w10 b 44 (MS.vals ⟨4, 7, 10, 0, 9, 0⟩) := h9
  have r10 := K.out _ _ r8 q9
  clear h8 r8 q9 h9
  go_wp2_with fail
  refine (err_any b ⟨4, 7, 10, 0, 9, 0⟩ _ h10).mono ?_
  rintro e w11 ⟨rfl, rfl⟩
  go_wp2_with fail
  refine (step_is b ⟨4, 7, 10, 0, 9, 0⟩ 9 _ true ⟨4, 7, 10, 9, 9, 0⟩ rfl ok6 h10 (by decide) (by decide)).mono ?_
  rintro e w12 ⟨rfl, h11, q11, -⟩
  have r11 := K.out _ _ r10 q11
  clear h10 r10 q11 h11
  go_wp2
  go_ret
  exact ⟨rfl, r11⟩

end Go.Proofs.Ythnjohjibohflaa.Law01
