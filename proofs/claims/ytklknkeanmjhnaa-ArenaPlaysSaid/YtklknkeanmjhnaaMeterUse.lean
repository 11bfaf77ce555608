/- A plain model of a meter, and a contract for each call of package meter that other packages make. -/
import Derived.Test.YtklknkeanmjhnaaBase
import Derived.Test.YtklknkeanmjhnaaChecked
namespace Go.Proofs.Ytklknkeanmjhnaa.Meter
open Go.RowKit Go.Proofs.Ytklknkeanmjhnaa.Base

/-- A meter: used, most, cells; done, steps; what was refused first. -/
structure MS where
  used : Int
  most : Int
  cells : Int
  done : Int
  steps : Int
  err : Int

def MS.vals (m : MS) : Array Value := #[.int .i64 m.used, .int .i64 m.most, .int .i64 m.cells, .int .i64 m.done, .int .i64 m.steps, .int .i64 m.err]

structure MS.Ok (m : MS) : Prop where
  u0 : 0 ≤ m.used
  um : m.used ≤ m.most
  mc : m.most ≤ m.cells
  c1 : m.cells ≤ 1048576
  d0 : 0 ≤ m.done
  ds : m.done ≤ m.steps
  s1 : m.steps ≤ 1073741824

def MS.note (m : MS) (e : Int) : MS := if m.err = 0 then { m with err := e } else m

def MS.take (m : MS) (n : Int) : Bool × MS :=
  if n < 0 then (false, m) else if m.cells - m.used < n then (false, m.note 3) else (true, { m with used := m.used + n, most := max m.most (m.used + n) })

def MS.give (m : MS) (n : Int) : Bool × MS :=
  if n < 0 ∨ m.used < n then (false, m) else (true, { m with used := m.used - n })

def MS.step (m : MS) (n : Int) : Bool × MS :=
  if n < 0 then (false, m) else if m.steps - m.done < n then (false, m.note 4) else (true, { m with done := m.done + n })

def clip (q l : Int) : Int := min (max q 0) l

def MS.begin (m : MS) (n : Int) : MS := { m with steps := clip n 1073741824, done := 0, err := 0 }

def MS.new (c s : Int) : MS := { used := 0, most := 0, cells := clip c 1048576, done := 0, steps := clip s 1073741824, err := 0 }

theorem MS.note_ok {m : MS} (h : m.Ok) (e : Int) : (m.note e).Ok := by
  unfold MS.note
  split
  · exact ⟨h.u0, h.um, h.mc, h.c1, h.d0, h.ds, h.s1⟩
  · exact h

theorem MS.take_ok {m : MS} (h : m.Ok) (n : Int) : (m.take n).2.Ok := by
  unfold MS.take
  have := h.u0; have := h.um; have := h.mc; have := h.c1
  split
  · exact h
  · split
    · exact MS.note_ok h _
    · exact ⟨by simp only; omega, by simp only; omega, by simp only; omega, h.c1, h.d0, h.ds, h.s1⟩

theorem MS.give_ok {m : MS} (h : m.Ok) (n : Int) : (m.give n).2.Ok := by
  unfold MS.give
  have := h.u0; have := h.um
  split
  · exact h
  · exact ⟨by simp only; omega, by simp only; omega, h.mc, h.c1, h.d0, h.ds, h.s1⟩

theorem MS.step_ok {m : MS} (h : m.Ok) (n : Int) : (m.step n).2.Ok := by
  unfold MS.step
  have := h.d0; have := h.ds
  split
  · exact h
  · split
    · exact MS.note_ok h _
    · exact ⟨h.u0, h.um, h.mc, h.c1, by simp only; omega, by simp only; omega, h.s1⟩

theorem MS.begin_ok {m : MS} (h : m.Ok) (n : Int) : (m.begin n).Ok := by
  unfold MS.begin clip
  exact ⟨h.u0, h.um, h.mc, h.c1, by simp only; omega, by simp only; omega, by simp only; omega⟩

theorem MS.new_ok (c s : Int) : (MS.new c s).Ok := by
  unfold MS.new clip
  exact ⟨by simp only; omega, by simp only; omega, by simp only; omega, by simp only; omega, by simp only; omega, by simp only; omega, by simp only; omega⟩

/-- The pointer to block b's head. -/
abbrev ptr (b : Nat) : Value := .pointer (some ⟨b, 0, none⟩)

theorem ret_i {a b : Int} (h : a = b) : Ending.returned (.int .i64 a) = .returned (.int .i64 b) := by rw [h]

theorem within_any (q l : Int) (w : World) : Calls Try.prog 45 #[.int .i64 q, .int .i64 l] w fun e w' => e = .returned (.int .i64 (clip q l)) ∧ w = w' := by
  go_enter Try.func45, Try.ntmps45
  go_wp2
  all_goals go_ret
  all_goals exact ⟨ret_i (by unfold clip; split at * <;> omega), rfl⟩

def fitsB (had n quota : Int) : Bool := decide (n ≤ quota - had)

theorem fits_any (had n quota : Int) (w : World) (h1 : -4611686018427387904 ≤ quota - had) (h2 : quota - had ≤ 4611686018427387904) :
    Calls Try.prog 69 #[.int .i64 had, .int .i64 n, .int .i64 quota] w fun e w' => e = .returned (.bool (fitsB had n quota)) ∧ w = w' := by
  go_enter Try.func69, Try.ntmps69
  go_wp2
  go_ret
  exact ⟨rfl, rfl⟩

theorem fits_is (had n quota : Int) (w : World) (h1 : -4611686018427387904 ≤ quota - had) (h2 : quota - had ≤ 4611686018427387904) (v : Bool) (hv : fitsB had n quota = v) :
    Calls Try.prog 69 #[.int .i64 had, .int .i64 n, .int .i64 quota] w fun e w' => e = .returned (.bool v) ∧ w = w' := by
  subst hv
  exact fits_any had n quota w h1 h2

/-- What a call that turns one meter says: its answer, the meter behind it, and that no other block has turned. -/
def Turns (b : Nat) (w : World) (v : Value) (m : MS) (e : Ending) (w' : World) : Prop :=
  e = .returned v ∧ At w' b 76 m.vals ∧ Keep (· = b) w w' ∧ w'.heap.size = w.heap.size

theorem note_any (b : Nat) (m : MS) (k : Int) (w : World) (h : At w b 76 m.vals) :
    Calls Try.prog 70 #[ptr b, .int .i64 k] w (Turns b w (.tuple #[]) (m.note k)) := by
  obtain ⟨used, most, cells, done, steps, err⟩ := m
  have hc : w.cell? ⟨b, 5, none⟩ = some (.int .i64 err) := h.cell rfl
  have hf := h.frozen 5
  by_cases he : err = 0
  · subst he
    go_enter Try.func70, Try.ntmps70
    go_wp2
    go_end0
    exact ⟨rfl, h.set 5 _, (Keep.refl (· = b) w).setCell (fun _ => rfl) _, by simp⟩
  · have he' : (err == 0) = false := by simpa using he
    go_enter Try.func70, Try.ntmps70
    go_wp2
    go_end0
    exact ⟨rfl, by simpa [MS.note, he] using h, Keep.refl _ _, rfl⟩

set_option maxHeartbeats 400000 in
theorem take_any (b : Nat) (m : MS) (n : Int) (w : World) (hm : m.Ok) (h : At w b 76 m.vals) (n0 : -9223372036854775808 ≤ n) (n1 : n ≤ 9223372036854775807) :
    Calls Try.prog 61 #[ptr b, .int .i64 n] w (Turns b w (.bool (m.take n).1) (m.take n).2) := by
  obtain ⟨used, most, cells, done, steps, err⟩ := m
  obtain ⟨u0, um, mc, c1, d0, ds, s1⟩ := hm
  simp only at u0 um mc c1 d0 ds s1
  have k0 : w.cell? ⟨b, 0, none⟩ = some (.int .i64 used) := h.cell rfl
  have k1 : w.cell? ⟨b, 1, none⟩ = some (.int .i64 most) := h.cell rfl
  have k2 : w.cell? ⟨b, 2, none⟩ = some (.int .i64 cells) := h.cell rfl
  have f0 := h.frozen 0
  have f1 := h.frozen 1
  by_cases hn : n < 0
  · rw [show MS.take ⟨used, most, cells, done, steps, err⟩ n = (false, ⟨used, most, cells, done, steps, err⟩) from by simp [MS.take, hn]]
    go_enter Try.func61, Try.ntmps61
    go_wp2
    go_ret
    exact ⟨rfl, h, Keep.refl _ _, rfl⟩
  · by_cases hr : cells - used < n
    · have hB : fitsB used n cells = false := by unfold fitsB; simp; omega
      rw [show MS.take ⟨used, most, cells, done, steps, err⟩ n = (false, MS.note ⟨used, most, cells, done, steps, err⟩ 3) from by simp [MS.take, hn, hr]]
      have HB := Lib.hid hB
      clear hB
      go_enter Try.func61, Try.ntmps61
      go_wp2_with fail
      go_quiet ((go_at_call 69; exact quiet_same (fits_is used n cells _ (by omega) (by omega) _ HB.out)))
      go_wp2_with fail
      refine (note_any b ⟨used, most, cells, done, steps, err⟩ 3 _ (h.drewN _)).mono ?_
      rintro e w1 ⟨rfl, h1, q1, z1⟩
      go_wp2
      go_ret
      exact ⟨rfl, h1, ((Keep.refl (· = b) w).drewN nq).trans q1, z1⟩
    · have hB : fitsB used n cells = true := by unfold fitsB; simp; omega
      rw [show MS.take ⟨used, most, cells, done, steps, err⟩ n = (true, ⟨used + n, max most (used + n), cells, done, steps, err⟩) from by simp [MS.take, hn, hr]]
      have HB := Lib.hid hB
      clear hB
      go_enter Try.func61, Try.ntmps61
      go_wp2_with fail
      go_quiet ((go_at_call 69; exact quiet_same (fits_is used n cells _ (by omega) (by omega) _ HB.out)))
      go_wp2_with fail
      have h1 := (h.drewN nq).set 0 (.int .i64 (used + n))
      have q1 : Keep (· = b) w ((w.drewN nq).setCell ⟨b, 0, none⟩ (.int .i64 (used + n))) := ((Keep.refl (· = b) w).drewN nq).setCell (fun _ => rfl) _
      have z1 : ((w.drewN nq).setCell ⟨b, 0, none⟩ (.int .i64 (used + n))).heap.size = w.heap.size := by simp
      clear h k0 k1 k2 f0 f1
      generalize (w.drewN nq).setCell ⟨b, 0, none⟩ (.int .i64 (used + n)) = W at *
      have k0 : W.cell? ⟨b, 0, none⟩ = some (.int .i64 (used + n)) := h1.cell rfl
      have k1 : W.cell? ⟨b, 1, none⟩ = some (.int .i64 most) := h1.cell rfl
      have f1 := h1.frozen 1
      have Z1 := Lib.hid z1
      clear z1
      by_cases hx : most < used + n
      · have hy : max most (used + n) = used + n := by omega
        have HY := Lib.hid hy
        clear hy
        go_region
        go_wp2
        go_ret
        exact ⟨rfl, by rw [HY.out]; exact (h1.set 1 _).drew, (q1.setCell (fun _ => rfl) _).drew, by simpa using Z1.out⟩
      · have hy : max most (used + n) = most := by omega
        have HY := Lib.hid hy
        clear hy
        go_region
        go_wp2
        go_ret
        exact ⟨rfl, by rw [HY.out]; exact (h1.set 1 _).drew, (q1.setCell (fun _ => rfl) _).drew, by simpa using Z1.out⟩

set_option maxHeartbeats 400000 in
theorem give_any (b : Nat) (m : MS) (n : Int) (w : World) (hm : m.Ok) (h : At w b 76 m.vals) (n0 : -9223372036854775808 ≤ n) (n1 : n ≤ 9223372036854775807) :
    Calls Try.prog 53 #[ptr b, .int .i64 n] w (Turns b w (.bool (m.give n).1) (m.give n).2) := by
  obtain ⟨used, most, cells, done, steps, err⟩ := m
  obtain ⟨u0, um, mc, c1, d0, ds, s1⟩ := hm
  simp only at u0 um mc c1 d0 ds s1
  have k0 : w.cell? ⟨b, 0, none⟩ = some (.int .i64 used) := h.cell rfl
  have f0 := h.frozen 0
  by_cases hn : n < 0
  · rw [show MS.give ⟨used, most, cells, done, steps, err⟩ n = (false, ⟨used, most, cells, done, steps, err⟩) from by simp [MS.give, hn]]
    go_enter Try.func53, Try.ntmps53
    go_wp2
    go_ret
    exact ⟨rfl, h, Keep.refl _ _, rfl⟩
  · by_cases hr : used < n
    · rw [show MS.give ⟨used, most, cells, done, steps, err⟩ n = (false, ⟨used, most, cells, done, steps, err⟩) from by simp [MS.give, hr]]
      go_enter Try.func53, Try.ntmps53
      go_wp2
      go_ret
      exact ⟨rfl, h, Keep.refl _ _, rfl⟩
    · rw [show MS.give ⟨used, most, cells, done, steps, err⟩ n = (true, ⟨used - n, most, cells, done, steps, err⟩) from by simp [MS.give, hn, hr]]
      go_enter Try.func53, Try.ntmps53
      go_wp2
      go_ret
      exact ⟨rfl, h.set 0 _, (Keep.refl (· = b) w).setCell (fun _ => rfl) _, by simp⟩

theorem cells_any (b : Nat) (m : MS) (w : World) (h : At w b 76 m.vals) :
    Calls Try.prog 16 #[ptr b] w fun e w' => e = .returned (.tuple #[.int .i64 m.used, .int .i64 m.most, .int .i64 m.cells]) ∧ Drawn w w' := by
  obtain ⟨used, most, cells, done, steps, err⟩ := m
  have k0 : w.cell? ⟨b, 0, none⟩ = some (.int .i64 used) := h.cell rfl
  have k1 : w.cell? ⟨b, 1, none⟩ = some (.int .i64 most) := h.cell rfl
  have k2 : w.cell? ⟨b, 2, none⟩ = some (.int .i64 cells) := h.cell rfl
  go_enter Try.func16, Try.ntmps16
  go_wp2_with fail
  go_quiet (fail)
  go_wp2
  go_ret3
  exact ⟨rfl, nq, rfl⟩

/-- What a call that makes a meter says: a new block, and nothing else has turned. -/
def Makes (w : World) (m : MS) (e : Ending) (w' : World) : Prop :=
  ∃ b, e = .returned (ptr b) ∧ w.heap.size ≤ b ∧ At w' b 76 m.vals ∧ Keep (fun _ => False) w w'

theorem new_any (c s : Int) (w : World) : Calls Try.prog 15 #[.int .i64 c, .int .i64 s] w (Makes w (.new c s)) := by
  go_enter Try.func15, Try.ntmps15
  go_wp2_with fail
  refine (within_any _ _ _).mono ?_
  rintro e w1 ⟨rfl, rfl⟩
  go_wp2_with fail
  refine (within_any _ _ _).mono ?_
  rintro e w1 ⟨rfl, rfl⟩
  go_wp2
  go_ret
  exact ⟨_, rfl, Nat.le_refl _, At.new _ _ _, (Keep.refl _ _).alloc _⟩

theorem take_nil (n : Int) (w : World) : Calls Try.prog 61 #[.pointer none, .int .i64 n] w fun e w' => e = .returned (.bool false) ∧ w = w' := by
  go_enter Try.func61, Try.ntmps61
  go_wp2
  go_ret
  exact ⟨rfl, rfl⟩

theorem give_nil (n : Int) (w : World) : Calls Try.prog 53 #[.pointer none, .int .i64 n] w fun e w' => e = .returned (.bool false) ∧ w = w' := by
  go_enter Try.func53, Try.ntmps53
  go_wp2
  go_ret
  exact ⟨rfl, rfl⟩

theorem cells_nil (w : World) : Calls Try.prog 16 #[.pointer none] w fun e w' => e = .returned (.tuple #[.int .i64 0, .int .i64 0, .int .i64 0]) ∧ w = w' := by
  go_enter Try.func16, Try.ntmps16
  go_wp2
  go_ret3
  exact ⟨rfl, rfl⟩

theorem take_is (b : Nat) (m : MS) (n : Int) (w : World) (v : Bool) (m' : MS) (hv : m.take n = (v, m')) (hm : m.Ok) (h : At w b 76 m.vals) (n0 : -9223372036854775808 ≤ n) (n1 : n ≤ 9223372036854775807) :
    Calls Try.prog 61 #[ptr b, .int .i64 n] w (Turns b w (.bool v) m') := by
  have := take_any b m n w hm h n0 n1
  rw [hv] at this
  exact this

theorem give_is (b : Nat) (m : MS) (n : Int) (w : World) (v : Bool) (m' : MS) (hv : m.give n = (v, m')) (hm : m.Ok) (h : At w b 76 m.vals) (n0 : -9223372036854775808 ≤ n) (n1 : n ≤ 9223372036854775807) :
    Calls Try.prog 53 #[ptr b, .int .i64 n] w (Turns b w (.bool v) m') := by
  have := give_any b m n w hm h n0 n1
  rw [hv] at this
  exact this

/-- m' counts as m does (it may have noted more). -/
structure MS.Same (m m' : MS) : Prop where
  used : m'.used = m.used
  cells : m'.cells = m.cells
  done : m'.done = m.done
  steps : m'.steps = m.steps

theorem MS.note_same (m : MS) (e : Int) : m.Same (m.note e) := by
  unfold MS.note
  split <;> exact ⟨rfl, rfl, rfl, rfl⟩

theorem MS.take_ds (m : MS) (n : Int) : (m.take n).2.done = m.done ∧ (m.take n).2.steps = m.steps := by
  unfold MS.take MS.note
  split
  · exact ⟨rfl, rfl⟩
  · split
    · split <;> exact ⟨rfl, rfl⟩
    · exact ⟨rfl, rfl⟩

theorem MS.take_true {m : MS} {n : Int} (h : (m.take n).1 = true) : 0 ≤ n ∧ n ≤ m.cells - m.used ∧ (m.take n).2.used = m.used + n ∧ (m.take n).2.done = m.done ∧ (m.take n).2.most = max m.most (m.used + n) := by
  unfold MS.take at *
  split at h
  · cases h
  · split at h
    · cases h
    · rw [if_neg (by omega), if_neg (by omega)]
      exact ⟨by omega, by omega, rfl, rfl, rfl⟩

theorem MS.take_false {m : MS} {n : Int} (h : (m.take n).1 = false) : (m.take n).2.used = m.used ∧ (m.take n).2.done = m.done ∧ (m.take n).2.most = m.most := by
  unfold MS.take MS.note at *
  split at h
  · rw [if_pos (by omega)]
    exact ⟨rfl, rfl, rfl⟩
  · split at h
    · rw [if_neg (by omega), if_pos (by omega)]
      simp only
      split <;> exact ⟨rfl, rfl, rfl⟩
    · cases h

theorem MS.give_true {m : MS} {n : Int} (h : (m.give n).1 = true) : 0 ≤ n ∧ n ≤ m.used ∧ (m.give n).2.used = m.used - n ∧ (m.give n).2.done = m.done ∧ (m.give n).2.most = m.most := by
  unfold MS.give at *
  split at h
  · cases h
  · rw [if_neg (by omega)]
    exact ⟨by omega, by omega, rfl, rfl, rfl⟩

theorem MS.give_false {m : MS} {n : Int} (h : (m.give n).1 = false) : (m.give n).2.used = m.used ∧ (m.give n).2.done = m.done ∧ (m.give n).2.most = m.most := by
  unfold MS.give at *
  split at h
  · rw [if_pos (by omega)]
    exact ⟨rfl, rfl, rfl⟩
  · cases h

theorem MS.step_true {m : MS} {n : Int} (h : (m.step n).1 = true) : 0 ≤ n ∧ n ≤ m.steps - m.done ∧ (m.step n).2.used = m.used ∧ (m.step n).2.done = m.done + n ∧ (m.step n).2.most = m.most := by
  unfold MS.step at *
  split at h
  · cases h
  · split at h
    · cases h
    · rw [if_neg (by omega), if_neg (by omega)]
      exact ⟨by omega, by omega, rfl, rfl, rfl⟩

theorem MS.step_false {m : MS} {n : Int} (h : (m.step n).1 = false) : (m.step n).2.used = m.used ∧ (m.step n).2.done = m.done ∧ (m.step n).2.most = m.most := by
  unfold MS.step MS.note at *
  split at h
  · rw [if_pos (by omega)]
    exact ⟨rfl, rfl, rfl⟩
  · split at h
    · rw [if_neg (by omega), if_pos (by omega)]
      simp only
      split <;> exact ⟨rfl, rfl, rfl⟩
    · cases h

end Go.Proofs.Ytklknkeanmjhnaa.Meter
