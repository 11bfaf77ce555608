/- '==' of two arrays of ints of one cell each, of any length. -/
import Derived.Test.YtidfjeliofgpmaaDoorBase
import Derived.Laws.StructEq
import Derived.Laws.Tables
namespace Go.Proofs.YtidfjeliofgpmaaDoor.Base
open Go.RowKit

theorem run_eq_arr {P : Program} (d n : Nat) (t e : TypeId) (k : IntKind) (f g : Nat → Int) (xs ys : Array Value) (w : World) (ht : P.underlying t = some (.array n e)) (he : P.underlying e = some (.int k))
    (ha : ∀ w, (isAgg e).run P w = .ok false w) (hz : ∀ w, (sizeOf e).run P w = .ok 1 w) (hx : ∀ i, i < n → xs[i]? = some (.int k (f i))) (hy : ∀ i, i < n → ys[i]? = some (.int k (g i))) :
    (Op.equalIn (d + 2) t (.agg xs) (.agg ys)).run P w = .ok (decide (∀ i, i < n → f i = g i)) w := by
  rw [Op.equalIn]
  simp only [Sem.run_bind, run_underlying ht, Result.andThen_ok, hz, Std.Legacy.Range.forIn_eq_forIn_range', Std.Legacy.Range.size, Nat.sub_zero, Nat.add_sub_cancel, Nat.div_one]
  have key : ∀ m s, s + m = n → Sem.run P (forIn (List.range' s m) ((none : Option Bool), ()) fun i __s => do
        let a ← part e xs (i * 1)
        let b ← part e ys (i * 1)
        let r ← Op.equalIn (d + 1) e a b
        if (!r) = true then pure (ForInStep.done (some false, ())) else pure (ForInStep.yield (none, ()))) w = .ok (if ∀ j, j < m → f (s + j) = g (s + j) then ((none : Option Bool), ()) else (some false, ())) w := by
    intro m
    induction m with
    | zero =>
      intro s hs
      rw [if_pos (fun i h1 => by omega)]
      simp [List.range']
    | succ m ih =>
      intro s hs
      have hpx : (part e xs (s * 1)).run P w = .ok (.int k (f s)) w := by
        unfold part
        simp only [Sem.run_bind, ha, Result.andThen_ok, Bool.false_eq_true, if_false, Nat.mul_one, hx s (by omega), Sem.run_pure]
      have hpy : (part e ys (s * 1)).run P w = .ok (.int k (g s)) w := by
        unfold part
        simp only [Sem.run_bind, ha, Result.andThen_ok, Bool.false_eq_true, if_false, Nat.mul_one, hy s (by omega), Sem.run_pure]
      have he' : (Op.equalIn (d + 1) e (.int k (f s)) (.int k (g s))).run P w = .ok (f s == g s) w := run_equalIn_int w d e k k (f s) (g s) he
      simp only [List.range'_succ, List.forIn_cons, Sem.run_bind, hpx, hpy, he', Result.andThen_ok]
      by_cases hfg : f s = g s
      · have e1 : (f s == g s) = true := by simp [hfg]
        rw [e1]
        simp only [Bool.not_true, Bool.false_eq_true, if_false, Sem.run_pure, Result.andThen_ok]
        rw [ih (s + 1) (by omega)]
        congr 1
        by_cases hall : ∀ j, j < m → f (s + 1 + j) = g (s + 1 + j)
        · rw [if_pos hall, if_pos]
          intro j hj
          cases j with
          | zero => exact hfg
          | succ j => rw [show s + (j + 1) = s + 1 + j from by omega]; exact hall j (by omega)
        · rw [if_neg hall, if_neg]
          intro h
          exact hall fun j hj => by rw [show s + 1 + j = s + (j + 1) from by omega]; exact h (j + 1) (by omega)
      · have e1 : (f s == g s) = false := by simp [hfg]
        rw [e1]
        simp only [Bool.not_false, if_true, Sem.run_pure, Result.andThen_ok]
        rw [if_neg]
        intro h
        exact hfg (h 0 (by omega))
  rw [key n 0 (by omega)]
  by_cases hall : ∀ i, i < n → f i = g i
  · rw [if_pos (fun j hj => by rw [Nat.zero_add]; exact hall j hj), decide_eq_true hall]
    simp
  · rw [if_neg (fun h => hall fun i hi => by have := h i hi; rwa [Nat.zero_add] at this), decide_eq_false hall]
    simp

/-- Are they alike below n? -/
def sameTo (n : Nat) (f g : Nat → Int) : Bool := decide (∀ i, i < n → f i = g i)
theorem sameTo_iff (n : Nat) (f g : Nat → Int) : sameTo n f g = true ↔ ∀ i, i < n → f i = g i := decide_eq_true_iff
end Go.Proofs.YtidfjeliofgpmaaDoor.Base
