/- New of package sparse. -/
import Derived.Test.YtklknkeanmjhnaaSparse
import Derived.Laws.MakeOwn
namespace Go.Proofs.Ytklknkeanmjhnaa.Sparse
open Go.RowKit Go.Proofs.Ytklknkeanmjhnaa.Base Go.Proofs.Ytklknkeanmjhnaa.Meter

theorem new_bad (mp : Option Addr) (n : Int) (w : World) (h : n < 0 ∨ 65536 < n) : Calls Try.prog 32 #[.pointer mp, .int .i64 n] w fun e w' => e = .returned (.tuple #[.pointer none, .int .i64 1]) ∧ w = w' := by
  by_cases h0 : n < 0
  · go_enter Try.func32, Try.ntmps32
    go_wp2
    go_ret2
    exact ⟨rfl, rfl⟩
  · have h0' : decide (n < 0) = false := by simpa using h0
    have h1 : 65536 < n := by omega
    go_enter Try.func32, Try.ntmps32
    go_wp2
    go_ret2
    exact ⟨rfl, rfl⟩

theorem infoN : (Try.prog.info? 3).map (fun i => (i.zero, i.size, i.bytes)) = some (some (.int .i64 0), 1, 8) := by kernel_rfl

theorem make_run (n : Nat) (hn : n ≤ 65536) (w : World) : ∃ cs : Array Value, cs.size = 2 * n ∧ (∀ j, j < 2 * n → cs[j]? = some (.int .i64 0)) ∧
    (Instr.makeSlice 32 (.int .i64 (2 * (n : Int))) (.int .i64 (2 * (n : Int)))).run Try.prog w = .ok (.slice (some ⟨w.heap.size, 0, none⟩) (2 * n) (2 * n)) (w.alloc (.cells cs 3)) := by
  obtain ⟨i0, hi0, hz0, hz1, hz2⟩ := info_parts infoN
  have hr := run_make (P := Try.prog) w 32 3 i0 (.int .i64 0) Try.underlying32 hi0 hz0 .i64 .i64 (2 * (n : Int)) (2 * (n : Int)) (by omega) (Int.le_refl _) (by rw [hz2]; omega) (by omega)
  have e : (2 * (n : Int)).toNat = 2 * n := by omega
  rw [e, hz1, Nat.mul_one] at hr
  refine ⟨_, ?_, ?_, hr⟩
  · simp [madeCells]
  · intro j hj
    simp [madeCells, Value.cells, Nat.mod_one, hj]

/-- The set that New makes. -/
theorem st_new {W : World} {g n : Nat} {cs : Array Value} (hn : n ≤ 65536) (a1 : At W g 3 cs) (c1 : cs.size = 2 * n) (c2 : ∀ j, j < 2 * n → cs[j]? = some (.int .i64 0)) (p : Option Addr) (hp : p = if 2 * n = n then some ⟨g, 0, none⟩ else some ⟨g, n, none⟩) :
    St (W.alloc (.cells #[.slice (some ⟨g, 0, none⟩) 0 n, .slice p (2 * n - n) (2 * n - n)] 101)).drew W.heap.size g n [] := by
  have e : 2 * n - n = n := by omega
  refine ⟨by simp, by simp, hn, some ⟨g, 0, none⟩, p, n, n, ?_, fun h => ⟨rfl, by rw [hp, if_neg (by omega)], rfl, rfl, ?_, cs, (a1.alloc _).drew, c1, fun j hj => ⟨0, c2 j hj⟩, by simp⟩⟩
  · rw [e]
    exact (At.new W _ _).drew
  · have := a1.lt
    omega

/-- What a New that goes answers. -/
def NewSet (n : Nat) (w : World) (e : Ending) (w' : World) : Prop :=
  ∃ b g, e = .returned (.tuple #[ptr b, .int .i64 0]) ∧ w.heap.size ≤ b ∧ w.heap.size ≤ g ∧ b < w'.heap.size ∧ g < w'.heap.size ∧ b ≠ g ∧ St w' b g n []

set_option maxRecDepth 100000 in
theorem new_none (n : Nat) (hn : n ≤ 65536) (w : World) : Calls Try.prog 32 #[.pointer none, .int .i64 n] w fun e w' => NewSet n w e w' ∧ Keep (fun _ => False) w w' := by
  have h0 : ¬ ((n : Int) < 0) := by omega
  have h1 : (n : Int) ≤ 65536 := by omega
  have h2 : n ≤ 2 * n := by omega
  obtain ⟨cs, c1, c2, hmk⟩ := make_run n hn w
  have HC := Lib.hid (And.intro c1 c2)
  clear c1 c2
  go_enter Try.func32, Try.ntmps32
  go_wp2_with fail
  have a1 := At.new w cs 3
  have q1 := (Keep.refl (fun _ => False) w).alloc (.cells cs 3)
  have z1 : (w.alloc (.cells cs 3)).heap.size = w.heap.size + 1 := by simp
  have Z1 := Lib.hid (And.intro a1 (And.intro q1 z1))
  clear a1 q1 z1 hmk
  generalize (w.alloc (.cells cs 3)) = W at *
  generalize hgs : w.heap.size = g at *
  go_region
  generalize hp : (if 2 * n = n then some (⟨g, 0, none⟩ : Addr) else some ⟨g, n, none⟩) = p
  have hS := st_new hn Z1.out.1 HC.out.1 HC.out.2 p hp.symm
  have q2 := (Z1.out.2.1.alloc (.cells #[.slice (some ⟨g, 0, none⟩) 0 n, .slice p (2 * n - n) (2 * n - n)] 101)).drew
  have HS := Lib.hid (And.intro hS q2)
  clear hS q2 hp
  go_wp2
  go_ret2
  refine ⟨⟨_, g, rfl, ?_, Nat.le_of_eq hgs, ?_, ?_, ?_, HS.out.1⟩, HS.out.2⟩
  · have := Z1.out.2.2; omega
  · simp
  · have := Z1.out.2.2; simp; omega
  · have := Z1.out.2.2; omega

/-- .. of a meter that refuses. -/
theorem new_refused (n : Nat) (hn : n ≤ 65536) (mb : Nat) (m : MS) (w : World) (hm : m.Ok) (ha : At w mb 76 m.vals) (h : m.cells - m.used < 2 * n) :
    Calls Try.prog 32 #[ptr mb, .int .i64 n] w fun e w' => e = .returned (.tuple #[.pointer none, .int .i64 3]) ∧ At w' mb 76 (m.note 3).vals ∧ Keep (· = mb) w w' := by
  have h0 : ¬ ((n : Int) < 0) := by omega
  have h1 : (n : Int) ≤ 65536 := by omega
  have ht := take_is mb m (2 * n) w false (m.note 3) (by unfold MS.take; rw [if_neg (by omega), if_pos (by omega)]) hm ha (by omega) (by omega)
  clear ha hm h
  have HT := Lib.hid ht
  clear ht
  go_enter Try.func32, Try.ntmps32
  go_wp2_with fail
  refine HT.out.mono ?_
  rintro e w1 ⟨rfl, a1, q1, -⟩
  go_wp2
  go_ret2
  exact ⟨rfl, a1, q1⟩

set_option maxRecDepth 100000 in
theorem new_taken (n : Nat) (hn : n ≤ 65536) (mb : Nat) (m : MS) (w : World) (hm : m.Ok) (ha : At w mb 76 m.vals) (h : 2 * n ≤ m.cells - m.used) :
    Calls Try.prog 32 #[ptr mb, .int .i64 n] w fun e w' => NewSet n w e w' ∧ At w' mb 76 (m.take (2 * n)).2.vals ∧ Keep (· = mb) w w' := by
  have h0 : ¬ ((n : Int) < 0) := by omega
  have h1 : (n : Int) ≤ 65536 := by omega
  have h2 : n ≤ 2 * n := by omega
  have ht := take_is mb m (2 * n) w true (m.take (2 * n)).2 (by unfold MS.take; rw [if_neg (by omega), if_neg (by omega)]) hm ha (by omega) (by omega)
  generalize (m.take (2 * n)).2 = m' at *
  clear ha hm h
  have HT := Lib.hid ht
  clear ht
  go_enter Try.func32, Try.ntmps32
  go_wp2_with fail
  refine HT.out.mono ?_
  rintro e w1 ⟨rfl, am, qm, zm⟩
  obtain ⟨cs, c1, c2, hmk⟩ := make_run n hn w1
  have HC := Lib.hid (And.intro c1 c2)
  have AM := Lib.hid (And.intro am (And.intro qm zm))
  clear c1 c2 am qm zm
  go_wp2_with fail
  have a1 := At.new w1 cs 3
  have q1 := AM.out.2.1.alloc (.cells cs 3)
  have b1 := AM.out.1.alloc (.cells cs 3)
  have z1 : (w1.alloc (.cells cs 3)).heap.size = w1.heap.size + 1 := by simp
  have Z1 := Lib.hid (And.intro a1 (And.intro q1 (And.intro z1 (And.intro b1 AM.out.2.2))))
  clear a1 q1 z1 b1 AM hmk
  generalize (w1.alloc (.cells cs 3)) = W at *
  generalize w1.heap.size = g at *
  go_region
  generalize hp : (if 2 * n = n then some (⟨g, 0, none⟩ : Addr) else some ⟨g, n, none⟩) = p
  have hS := st_new hn Z1.out.1 HC.out.1 HC.out.2 p hp.symm
  have q2 := (Z1.out.2.1.alloc (.cells #[.slice (some ⟨g, 0, none⟩) 0 n, .slice p (2 * n - n) (2 * n - n)] 101)).drew
  have b2 := (Z1.out.2.2.2.1.alloc (.cells #[.slice (some ⟨g, 0, none⟩) 0 n, .slice p (2 * n - n) (2 * n - n)] 101)).drew
  have HS := Lib.hid (And.intro hS (And.intro b2 q2))
  clear hS q2 hp b2
  go_wp2
  go_ret2
  refine ⟨⟨_, g, rfl, ?_, ?_, ?_, ?_, ?_, HS.out.1⟩, HS.out.2⟩
  · have := Z1.out.2.2.1; have := Z1.out.2.2.2.2; omega
  · have := Z1.out.2.2.2.2; omega
  · simp
  · have := Z1.out.2.2.1; simp; omega
  · have := Z1.out.2.2.1; omega

end Go.Proofs.Ytklknkeanmjhnaa.Sparse
