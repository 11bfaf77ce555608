/- SparseNil, walked: in a set that is none there is nothing. -/
import Derived.Test.YtklknkeanmjhnaaLaw03Awake
namespace Go.Proofs.Ytklknkeanmjhnaa.SparseNil
open Go.RowKit Go.Proofs.Ytklknkeanmjhnaa.Base Go.Proofs.Ytklknkeanmjhnaa.Lists Go.Proofs.Ytklknkeanmjhnaa.Sparse Go.Proofs.Ytklknkeanmjhnaa.Law03

theorem nil_list {v : Value} {w : World} (h : IL w v []) : ∃ a c, v = .slice a 0 c := by
  obtain ⟨a, c, e, -⟩ := h.form
  exact ⟨a, c, e⟩

set_option maxRecDepth 100000 in
set_option maxHeartbeats 1000000 in
theorem walk {H : Type} {enc : TypeId × Value → H} (v0 : Value) {d0 : DataW H} {p0 : List MemPlace} (W : World) (k0 : Value.okWide Try.prog W .any 0 3 v0)
    (h0 : DataW.Trod enc Try.prog W 0 (fun _ => true) true 3 v0 d0 p0) :
    Calls Try.prog 11 #[v0] W fun e w' => e = .returned (.bool true) ∧ Below W.heap.size W w' := by
  obtain ⟨x, rfl, i1, i2⟩ := int_arg Try.underlying3 k0 h0
  clear k0 h0
  go_enter Try.func11, Try.ntmps11
  go_wp2_with fail
  refine (clear_nil _).mono ?_
  rintro e w1 ⟨rfl, rfl⟩
  go_wp2_with fail
  refine (drop_nil _ _).mono ?_
  rintro e w2 ⟨rfl, rfl⟩
  go_wp2_with fail
  refine (awake_any _).mono ?_
  rintro e w3 ⟨rfl, q3⟩
  have r3 := Lib.hid q3
  clear q3
  go_wp2_with fail
  refine (add_nil _ _).mono ?_
  rintro e w4 ⟨rfl, rfl⟩
  go_wp2_with fail
  refine (has_nil _ _).mono ?_
  rintro e w5 ⟨rfl, rfl⟩
  go_wp2_with fail
  refine (len_nil _).mono ?_
  rintro e w6 ⟨rfl, rfl⟩
  go_wp2_with fail
  refine (at_nil _ _).mono ?_
  rintro e w7 ⟨rfl, rfl⟩
  go_wp2_with fail
  refine (list_nil _).mono ?_
  rintro e w8 ⟨v, rfl, l8, -, q8⟩
  obtain ⟨a, c, rfl⟩ := nil_list l8
  have r8 := Lib.hid (r3.out.trans q8)
  clear q8 l8 r3
  go_wp2_with fail
  refine (sorted_nil _).mono ?_
  rintro e w9 ⟨v, rfl, l9, -, q9⟩
  obtain ⟨a, c, rfl⟩ := nil_list l9
  have r9 := Lib.hid (r8.out.trans q9)
  clear q9 l9 r8
  go_wp2
  go_ret
  exact ⟨rfl, r9.out.below (Nat.le_refl _) (fun _ _ h => h)⟩

end Go.Proofs.Ytklknkeanmjhnaa.SparseNil
