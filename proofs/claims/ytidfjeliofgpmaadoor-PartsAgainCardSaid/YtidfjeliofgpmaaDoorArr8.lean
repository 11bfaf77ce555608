/- 256 bytes in a row. -/
import Derived.Test.YtidfjeliofgpmaaDoorParts
import Derived.Test.YtidfjeliofgpmaaDoorEqArr
namespace Go.Proofs.YtidfjeliofgpmaaDoor.Parts
open Go.RowKit Go.Proofs.YtidfjeliofgpmaaDoor.Base Go.Proofs.YtidfjeliofgpmaaDoor.Sets Go.Proofs.YtidfjeliofgpmaaDoor.Bytes Go.Proofs.YtidfjeliofgpmaaDoor.SetL Go.Proofs.YtidfjeliofgpmaaDoor.OL Go.Proofs.YtidfjeliofgpmaaDoor.Cls Go.Proofs.YtidfjeliofgpmaaDoor.IL

theorem arr8_at (f : Nat → Int) (i : Nat) (h : i < 256) : (arr8 f)[i]? = some (.int .u8 (f i)) := by simp [arr8, h]
theorem arr8_size (f : Nat → Int) : (arr8 f).size = 256 := by simp [arr8]
theorem arr8_one (f : Nat → Int) : (arr8 f).all (·.oneCell') = true := by
  simp [arr8, Value.oneCell']
theorem size8 : (Tryd.prog.info? 29).map (·.size) = some 256 := by kernel_rfl
theorem eq_arr8 (f g : Nat → Int) (w : World) : (Op.equalIn 10000 29 (.agg (arr8 f)) (.agg (arr8 g))).run Tryd.prog w = .ok (sameTo 256 f g) w := by
  have u := fun w => Tryd.isAgg5 w
  have z := fun w => Tryd.sizeOf5 w
  have ht := Tryd.underlying29
  have hx := arr8_at f
  have hy := arr8_at g
  generalize arr8 f = xs at *
  generalize arr8 g = ys at *
  generalize (256 : Nat) = n at *
  exact run_eq_arr 9998 n 29 5 .u8 f g xs ys w ht Tryd.underlying5 u z hx hy

theorem zero8 : (Tryd.prog.info? 29).map (fun i => (i.zero, i.size)) = some (some (.agg (arr8 fun _ => 0)), 256) := by kernel_rfl
theorem run_zero8 (w : World) : (zeroValue 29).run Tryd.prog w = .ok (.agg (arr8 fun _ => 0)) w := by
  cases h : Tryd.prog.info? 29 with
  | none =>
    have hz := zero8
    rw [h] at hz
    simp at hz
  | some i =>
    have hz := zero8
    rw [h] at hz
    simp only [Option.map_some] at hz
    injection hz with hz
    injection hz with hz _
    simp [zeroValue, typeInfo, h, hz, Sem.run_bind]

theorem arr8_set (f : Nat → Int) (i : Nat) (h : i < 256) (v : Int) : (arr8 f).setIfInBounds i (.int .u8 v) = arr8 (fun j => if j = i then v else f j) := by
  apply Array.ext_getElem?
  intro j
  by_cases hj : j < 256
  · rw [Array.getElem?_setIfInBounds, arr8_at _ _ hj, arr8_at _ _ hj, arr8_size]
    by_cases e : i = j
    · subst e
      simp [h]
    · have e' : ¬ j = i := fun x => e x.symm
      simp [e, e']
  · rw [Array.getElem?_eq_none (by simp [arr8_size]; omega), Array.getElem?_eq_none (by rw [arr8_size]; omega)]
theorem arr8_congr {f g : Nat → Int} (h : ∀ i, i < 256 → f i = g i) : arr8 f = arr8 g := by
  unfold arr8
  congr 1
  exact List.map_congr_left fun i hi => by rw [h i (List.mem_range.1 hi)]
end Go.Proofs.YtidfjeliofgpmaaDoor.Parts
