/- '==' between sets. -/
import Derived.Test.YtidfjeliofgpmaaDoorFrom
import Derived.Laws.StructEq
import Derived.Laws.Tables
namespace Go.Proofs.YtidfjeliofgpmaaDoor.Bytes
open Go.RowKit Go.Proofs.YtidfjeliofgpmaaDoor.Base Go.Proofs.YtidfjeliofgpmaaDoor.Sets

theorem eq_set4 (a0 a1 a2 a3 b0 b1 b2 b3 : Int) (w : World) : (Op.equalIn 10000 35 (.agg #[.int .u64 a0, .int .u64 a1, .int .u64 a2, .int .u64 a3]) (.agg #[.int .u64 b0, .int .u64 b1, .int .u64 b2, .int .u64 b3])).run Tryd.prog w = .ok (a0 == b0 && (a1 == b1 && (a2 == b2 && a3 == b3))) w := by
  have u3 := Tryd.underlying33
  have a3' := Tryd.isAgg33
  have z3 := Tryd.sizeOf33
  rw [show (10000 : Nat) = 9999 + 1 from rfl, Op.equalIn]
  simp only [Sem.run_bind, run_underlying Tryd.underlying35, Result.andThen_ok]
  simp only [Std.Legacy.Range.forIn_eq_forIn_range', Std.Legacy.Range.size, Nat.sub_zero, Nat.add_sub_cancel, Nat.div_one, List.range'_succ, List.range'_zero, List.forIn_cons, List.forIn_nil]
  go_simp
  by_cases h1 : a0 = b0 <;> by_cases h2 : a1 = b1 <;> by_cases h3 : a2 = b2 <;> by_cases h4 : a3 = b3 <;> simp [h1, h2, h3, h4]

/-- Are two sets one? -/
def eqB (s t : ST) : Bool := (s.x0 : Int) == t.x0 && ((s.x1 : Int) == t.x1 && ((s.x2 : Int) == t.x2 && (s.x3 : Int) == t.x3))

theorem eqB_iff {s t : ST} : eqB s t = true ↔ s = t := by
  obtain ⟨a0, a1, a2, a3⟩ := s
  obtain ⟨b0, b1, b2, b3⟩ := t
  unfold eqB
  simp only [Bool.and_eq_true, beq_iff_eq, ST.mk.injEq]
  omega

theorem eqB_refl (s : ST) : eqB s s = true := eqB_iff.2 rfl
theorem eqB_ne {s t : ST} (h : s ≠ t) : eqB s t = false := by
  cases e : eqB s t
  · rfl
  · exact absurd (eqB_iff.1 e) h

theorem eq_set (s t : ST) (w : World) : (Op.equalIn 10000 35 (val s) (val t)).run Tryd.prog w = .ok (eqB s t) w := eq_set4 _ _ _ _ _ _ _ _ w
theorem eq_yes {s t : ST} (h : s = t) (w : World) : (Op.equalIn 10000 35 (val s) (val t)).run Tryd.prog w = .ok true w := by
  rw [eq_set, eqB_iff.2 h]
theorem eq_no {s t : ST} (h : s ≠ t) (w : World) : (Op.equalIn 10000 35 (val s) (val t)).run Tryd.prog w = .ok false w := by
  rw [eq_set, eqB_ne h]
end Go.Proofs.YtidfjeliofgpmaaDoor.Bytes
