/- ArenaNil, walked: an arena that is none hands nothing out. -/
import Derived.Test.YtcjlljioilacpaaLaw02Awake
namespace Go.Proofs.Ytcjlljioilacpaa.ArenaNil
open Go.RowKit Go.Proofs.Ytcjlljioilacpaa.Base Go.Proofs.Ytcjlljioilacpaa.Arena

theorem wipe_nil (w : World) : Calls Try.prog 21 #[.pointer none] w fun e w' => e = .returned (.tuple #[]) ∧ w = w' := by
  go_enter Try.func21, Try.ntmps21
  go_wp2
  refine bodyPost_ret (results_none rfl _ _ _) rfl ?_
  exact ⟨rfl, rfl⟩

set_option maxRecDepth 100000 in
set_option maxHeartbeats 1000000 in
theorem walk {H : Type} {enc : TypeId × Value → H} (v0 v1 : Value) {d0 d1 : DataW H} {p0 p1 : List MemPlace} (W : World) (k0 : Value.okWide Try.prog W .any 0 3 v0) (k1 : Value.okWide Try.prog W .any 0 3 v1)
    (h0 : DataW.Trod enc Try.prog W 0 (fun _ => true) true 3 v0 d0 p0) (h1 : DataW.Trod enc Try.prog W 0 (fun _ => true) true 3 v1 d1 p1) :
    Calls Try.prog 5 #[v0, v1] W fun e w' => e = .returned (.bool true) ∧ Below W.heap.size W w' := by
  obtain ⟨id, rfl, i1, i2⟩ := int_arg Try.underlying3 k0 h0
  obtain ⟨i, rfl, j1, j2⟩ := int_arg Try.underlying3 k1 h1
  clear k0 k1 h0 h1
  go_enter Try.func5, Try.ntmps5
  go_wp2_with fail
  refine (wipe_nil _).mono ?_
  rintro e w1 ⟨rfl, rfl⟩
  go_wp2_with fail
  refine (alloc_nil _ _).mono ?_
  rintro e w2 ⟨rfl, rfl⟩
  go_wp2_with fail
  refine (get_nil _ _ _).mono ?_
  rintro e w3 ⟨rfl, q3⟩
  have r3 := Lib.hid q3
  clear q3
  go_wp2_with fail
  refine (Law02.awake_any _).mono ?_
  rintro e w4 ⟨rfl, q4⟩
  have r4 := Lib.hid (r3.out.trans q4)
  clear q4 r3
  go_wp2_with fail
  refine (free_nil _ _).mono ?_
  rintro e w5 ⟨rfl, q5⟩
  have r5 := Lib.hid (r4.out.trans q5)
  clear q5 r4
  go_wp2_with fail
  refine (set_nil _ _ _ _).mono ?_
  rintro e w6 ⟨rfl, q6⟩
  have r6 := Lib.hid (r5.out.trans q6)
  clear q6 r5
  go_wp2_with fail
  refine (len_nil _ _).mono ?_
  rintro e w7 ⟨rfl, q7⟩
  have r7 := Lib.hid (r6.out.trans q7)
  clear q7 r6
  go_wp2_with fail
  refine (base_nil _ _).mono ?_
  rintro e w8 ⟨rfl, q8⟩
  have r8 := Lib.hid (r7.out.trans q8)
  clear q8 r7
  go_wp2_with fail
  refine (left_nil _).mono ?_
  rintro e w9 ⟨rfl, rfl⟩
  go_wp2_with fail
  refine (clean_nil _).mono ?_
  rintro e w10 ⟨rfl, q10⟩
  have r10 := Lib.hid (r8.out.trans q10)
  clear q10 r8
  go_wp2
  go_ret
  exact ⟨rfl, r10.out.below (Nat.le_refl _) (fun _ _ h => h)⟩

end Go.Proofs.Ytcjlljioilacpaa.ArenaNil
