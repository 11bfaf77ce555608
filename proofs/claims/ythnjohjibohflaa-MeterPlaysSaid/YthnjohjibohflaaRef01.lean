/- What each call of the document's own meter (package sieveref01) does: the same plain model. -/
import Derived.Test.YthnjohjibohflaaMeter
namespace Go.Proofs.Ythnjohjibohflaa.Ref01
open Go.RowKit Go.Proofs.Ythnjohjibohflaa.Base Go.Proofs.Ythnjohjibohflaa.Meter

def RTurns (b : Nat) (w : World) (v : Value) (m : MS) (e : Ending) (w' : World) : Prop :=
  e = .returned v ∧ At w' b 27 m.vals ∧ Keep (· = b) w w' ∧ w'.heap.size = w.heap.size

theorem cut_any (q l : Int) (w : World) (hl : 0 ≤ l) : Calls Try.prog 23 #[.int .i64 q, .int .i64 l] w fun e w' => e = .returned (.int .i64 (clip q l)) ∧ w = w' := by
  by_cases h0 : q < 0
  · go_enter Try.func23, Try.ntmps23
    go_wp2
    go_ret
    exact ⟨ret_i (by unfold clip; omega), rfl⟩
  · by_cases h1 : l < q
    · go_enter Try.func23, Try.ntmps23
      go_wp2
      go_ret
      exact ⟨ret_i (by unfold clip; omega), rfl⟩
    · go_enter Try.func23, Try.ntmps23
      go_wp2
      go_ret
      exact ⟨ret_i (by unfold clip; omega), rfl⟩

theorem note_any (b : Nat) (m : MS) (k : Int) (w : World) (h : At w b 27 m.vals) :
    Calls Try.prog 26 #[ptr b, .int .i64 k] w (RTurns b w (.bool false) (m.note k)) := by
  obtain ⟨used, most, cells, done, steps, err⟩ := m
  have hc : w.cell? ⟨b, 5, none⟩ = some (.int .i64 err) := h.cell rfl
  have hf := h.frozen 5
  by_cases he : err = 0
  · subst he
    go_enter Try.func26, Try.ntmps26
    go_wp2
    go_ret
    exact ⟨rfl, h.set 5 _, (Keep.refl (· = b) w).setCell (fun _ => rfl) _, by simp⟩
  · have he' : (err == 0) = false := by simpa using he
    rw [show MS.note ⟨used, most, cells, done, steps, err⟩ k = ⟨used, most, cells, done, steps, err⟩ from by simp [MS.note, he]]
    go_enter Try.func26, Try.ntmps26
    go_wp2
    go_ret
    exact ⟨rfl, h, Keep.refl _ _, rfl⟩

set_option maxHeartbeats 400000 in
theorem take_any (b : Nat) (m : MS) (n : Int) (w : World) (hm : m.Ok) (h : At w b 27 m.vals) (n0 : -9223372036854775808 ≤ n) (n1 : n ≤ 9223372036854775807) :
    Calls Try.prog 12 #[ptr b, .int .i64 n] w (RTurns b w (.bool (m.take n).1) (m.take n).2) := by
  obtain ⟨used, most, cells, done, steps, err⟩ := m
  obtain ⟨u0, um, mc, c1, d0, ds, s1⟩ := hm
  simp only at u0 um mc c1 d0 ds s1
  have k0 : w.cell? ⟨b, 0, none⟩ = some (.int .i64 used) := h.cell rfl
  have k1 : w.cell? ⟨b, 1, none⟩ = some (.int .i64 most) := h.cell rfl
  have k2 : w.cell? ⟨b, 2, none⟩ = some (.int .i64 cells) := h.cell rfl
  have f0 := h.frozen 0
  have f1 := h.frozen 1
  by_cases hn : n < 0
  · rw [show MS.take ⟨used, most, cells, done, steps, err⟩ n = (false, ⟨used, most, cells, done, steps, err⟩) from by simp [MS.take, hn]]
    go_enter Try.func12, Try.ntmps12
    go_wp2
    go_ret
    exact ⟨rfl, h, Keep.refl _ _, rfl⟩
  · by_cases hr : cells - used < n
    · rw [show MS.take ⟨used, most, cells, done, steps, err⟩ n = (false, MS.note ⟨used, most, cells, done, steps, err⟩ 3) from by simp [MS.take, hn, hr]]
      go_enter Try.func12, Try.ntmps12
      go_wp2_with fail
      go_quiet (fail)
      go_wp2_with fail
      refine (note_any b ⟨used, most, cells, done, steps, err⟩ 3 _ (h.drewN _)).mono ?_
      rintro e w1 ⟨rfl, h1, q1, z1⟩
      go_wp2
      go_ret
      exact ⟨rfl, h1, ((Keep.refl (· = b) w).drewN nq).trans q1, z1⟩
    · by_cases hx : most < used + n
      · rw [show MS.take ⟨used, most, cells, done, steps, err⟩ n = (true, ⟨used + n, used + n, cells, done, steps, err⟩) from by simp only [MS.take, if_neg hn, if_neg hr]; rw [show max most (used + n) = used + n from by omega]]
        go_enter Try.func12, Try.ntmps12
        go_wp2_with fail
        go_quiet (fail)
        go_wp2_with fail
        have h1 := (h.drewN nq).set 0 (.int .i64 (used + n))
        have q1 : Keep (· = b) w ((w.drewN nq).setCell ⟨b, 0, none⟩ (.int .i64 (used + n))) := ((Keep.refl (· = b) w).drewN nq).setCell (fun _ => rfl) _
        have z1 : ((w.drewN nq).setCell ⟨b, 0, none⟩ (.int .i64 (used + n))).heap.size = w.heap.size := by simp
        clear h k0 k1 k2 f0 f1
        generalize (w.drewN nq).setCell ⟨b, 0, none⟩ (.int .i64 (used + n)) = W at *
        have k0 : W.cell? ⟨b, 0, none⟩ = some (.int .i64 (used + n)) := h1.cell rfl
        have k1 : W.cell? ⟨b, 1, none⟩ = some (.int .i64 most) := h1.cell rfl
        have f1 := h1.frozen 1
        have Z1 := Lib.hid z1
        clear z1
        go_quiet (fail)
        go_wp2
        go_ret
        exact ⟨rfl, (h1.drewN _).set 1 _, (q1.drewN _).setCell (fun _ => rfl) _, by simpa using Z1.out⟩
      · rw [show MS.take ⟨used, most, cells, done, steps, err⟩ n = (true, ⟨used + n, most, cells, done, steps, err⟩) from by simp only [MS.take, if_neg hn, if_neg hr]; rw [show max most (used + n) = most from by omega]]
        go_enter Try.func12, Try.ntmps12
        go_wp2_with fail
        go_quiet (fail)
        go_wp2_with fail
        have h1 := (h.drewN nq).set 0 (.int .i64 (used + n))
        have q1 : Keep (· = b) w ((w.drewN nq).setCell ⟨b, 0, none⟩ (.int .i64 (used + n))) := ((Keep.refl (· = b) w).drewN nq).setCell (fun _ => rfl) _
        have z1 : ((w.drewN nq).setCell ⟨b, 0, none⟩ (.int .i64 (used + n))).heap.size = w.heap.size := by simp
        clear h k0 k1 k2 f0 f1
        generalize (w.drewN nq).setCell ⟨b, 0, none⟩ (.int .i64 (used + n)) = W at *
        have k0 : W.cell? ⟨b, 0, none⟩ = some (.int .i64 (used + n)) := h1.cell rfl
        have k1 : W.cell? ⟨b, 1, none⟩ = some (.int .i64 most) := h1.cell rfl
        have f1 := h1.frozen 1
        have Z1 := Lib.hid z1
        clear z1
        go_quiet (fail)
        go_wp2
        go_ret
        exact ⟨rfl, h1.drewN _, q1.drewN _, by simpa using Z1.out⟩

set_option maxHeartbeats 400000 in
theorem give_any (b : Nat) (m : MS) (n : Int) (w : World) (hm : m.Ok) (h : At w b 27 m.vals) (n0 : -9223372036854775808 ≤ n) (n1 : n ≤ 9223372036854775807) :
    Calls Try.prog 14 #[ptr b, .int .i64 n] w (RTurns b w (.bool (m.give n).1) (m.give n).2) := by
  obtain ⟨used, most, cells, done, steps, err⟩ := m
  obtain ⟨u0, um, mc, c1, d0, ds, s1⟩ := hm
  simp only at u0 um mc c1 d0 ds s1
  have k0 : w.cell? ⟨b, 0, none⟩ = some (.int .i64 used) := h.cell rfl
  have f0 := h.frozen 0
  by_cases hn : n < 0
  · rw [show MS.give ⟨used, most, cells, done, steps, err⟩ n = (false, ⟨used, most, cells, done, steps, err⟩) from by simp [MS.give, hn]]
    go_enter Try.func14, Try.ntmps14
    go_wp2
    go_ret
    exact ⟨rfl, h, Keep.refl _ _, rfl⟩
  · by_cases hr : used < n
    · rw [show MS.give ⟨used, most, cells, done, steps, err⟩ n = (false, ⟨used, most, cells, done, steps, err⟩) from by simp [MS.give, hr]]
      go_enter Try.func14, Try.ntmps14
      go_wp2
      go_ret
      exact ⟨rfl, h, Keep.refl _ _, rfl⟩
    · rw [show MS.give ⟨used, most, cells, done, steps, err⟩ n = (true, ⟨used - n, most, cells, done, steps, err⟩) from by simp [MS.give, hn, hr]]
      go_enter Try.func14, Try.ntmps14
      go_wp2
      go_ret
      exact ⟨rfl, h.set 0 _, (Keep.refl (· = b) w).setCell (fun _ => rfl) _, by simp⟩

set_option maxHeartbeats 400000 in
theorem step_any (b : Nat) (m : MS) (n : Int) (w : World) (hm : m.Ok) (h : At w b 27 m.vals) (n0 : -9223372036854775808 ≤ n) (n1 : n ≤ 9223372036854775807) :
    Calls Try.prog 16 #[ptr b, .int .i64 n] w (RTurns b w (.bool (m.step n).1) (m.step n).2) := by
  obtain ⟨used, most, cells, done, steps, err⟩ := m
  obtain ⟨u0, um, mc, c1, d0, ds, s1⟩ := hm
  simp only at u0 um mc c1 d0 ds s1
  have k3 : w.cell? ⟨b, 3, none⟩ = some (.int .i64 done) := h.cell rfl
  have k4 : w.cell? ⟨b, 4, none⟩ = some (.int .i64 steps) := h.cell rfl
  have f3 := h.frozen 3
  by_cases hn : n < 0
  · rw [show MS.step ⟨used, most, cells, done, steps, err⟩ n = (false, ⟨used, most, cells, done, steps, err⟩) from by simp [MS.step, hn]]
    go_enter Try.func16, Try.ntmps16
    go_wp2
    go_ret
    exact ⟨rfl, h, Keep.refl _ _, rfl⟩
  · by_cases hr : steps - done < n
    · rw [show MS.step ⟨used, most, cells, done, steps, err⟩ n = (false, MS.note ⟨used, most, cells, done, steps, err⟩ 4) from by simp [MS.step, hn, hr]]
      go_enter Try.func16, Try.ntmps16
      go_wp2_with fail
      go_quiet (fail)
      go_wp2_with fail
      refine (note_any b ⟨used, most, cells, done, steps, err⟩ 4 _ (h.drewN _)).mono ?_
      rintro e w1 ⟨rfl, h1, q1, z1⟩
      go_wp2
      go_ret
      exact ⟨rfl, h1, ((Keep.refl (· = b) w).drewN nq).trans q1, z1⟩
    · rw [show MS.step ⟨used, most, cells, done, steps, err⟩ n = (true, ⟨used, most, cells, done + n, steps, err⟩) from by simp [MS.step, hn, hr]]
      go_enter Try.func16, Try.ntmps16
      go_wp2_with fail
      go_quiet (fail)
      go_wp2
      go_ret
      exact ⟨rfl, (h.drewN nq).set 3 _, ((Keep.refl (· = b) w).drewN nq).setCell (fun _ => rfl) _, by simp⟩

theorem begin_any (b : Nat) (m : MS) (n : Int) (w : World) (h : At w b 27 m.vals) :
    Calls Try.prog 18 #[ptr b, .int .i64 n] w (RTurns b w (.tuple #[]) (m.begin n)) := by
  obtain ⟨used, most, cells, done, steps, err⟩ := m
  have k3 : w.cell? ⟨b, 3, none⟩ = some (.int .i64 done) := h.cell rfl
  have k4 : w.cell? ⟨b, 4, none⟩ = some (.int .i64 steps) := h.cell rfl
  have k5 : w.cell? ⟨b, 5, none⟩ = some (.int .i64 err) := h.cell rfl
  have f3 := h.frozen 3
  have f4 := h.frozen 4
  have f5 := h.frozen 5
  go_enter Try.func18, Try.ntmps18
  go_wp2_with (go_at_call 23; refine (cut_any _ _ _ (by omega)).mono ?_; rintro e w1 ⟨rfl, rfl⟩)
  go_end0
  exact ⟨rfl, ((h.set 4 _).set 3 _).set 5 _, (((Keep.refl (· = b) w).setCell (fun _ => rfl) _).setCell (fun _ => rfl) _).setCell (fun _ => rfl) _, by simp⟩

theorem new_any (c s : Int) (w : World) : Calls Try.prog 10 #[.int .i64 c, .int .i64 s] w fun e w' => e = .returned (.agg #[.int .i64 0, .int .i64 0, .int .i64 (clip c 1048576), .int .i64 0, .int .i64 (clip s 1073741824), .int .i64 0]) ∧ Keep (fun _ => False) w w' := by
  go_enter Try.func10, Try.ntmps10
  go_wp2_with fail
  refine (cut_any _ _ _ (by omega)).mono ?_
  rintro e w1 ⟨rfl, rfl⟩
  go_wp2_with fail
  refine (cut_any _ _ _ (by omega)).mono ?_
  rintro e w1 ⟨rfl, rfl⟩
  go_wp2_with fail
  exact bodyPost_ret (v := .agg #[.int .i64 0, .int .i64 0, .int .i64 (clip c 1048576), .int .i64 0, .int .i64 (clip s 1073741824), .int .i64 0]) (by simp [results, Try.results10, go_sem]) rfl ⟨rfl, (Keep.refl _ _).alloc _⟩

end Go.Proofs.Ythnjohjibohflaa.Ref01
