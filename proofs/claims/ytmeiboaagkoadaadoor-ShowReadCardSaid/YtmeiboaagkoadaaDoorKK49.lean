/- ShowRead: the argument opened. -/
import Derived.Test.YtmeiboaagkoadaaDoorKK48
import Derived.SizedLaws
namespace Go.Proofs.YtmeiboaagkoadaaDoor.P08
open Go.ChangeShapes Go.WideShapes Go.ChangeAt Go.RowKit Go.Proofs.YtmeiboaagkoadaaDoor.Base
open Go.ChangeMaps (open_string)

set_option maxRecDepth 100000 in
theorem str_arg {H : Type} {enc : TypeId × Value → H} {W : World} {r : Reach} {sp : Nat → Bool} {v : Value} {d : DataW H} {p : List MemPlace}
    (k : Value.okWide Tryd.prog W r 0 9 v) (h : DataW.Trod enc Tryd.prog W 0 sp true 9 v d p) :
    ∃ l : List UInt8, v = Bytes.str l ∧ d = .lit (.string l) ∧ l.length ≤ 9223372036854775807 := by
  obtain ⟨s, rfl, rfl, -, hmax⟩ := open_string Tryd.underlying9 k h
  refine ⟨s.data.toList, ?_, rfl, ?_⟩
  · show Value.string s = Value.string ⟨s.data.toList.toArray⟩
    rw [Array.toArray_toList]
  · rw [Array.length_toList]
    unfold maxLen at hmax
    exact hmax
end Go.Proofs.YtmeiboaagkoadaaDoor.P08
namespace Go.Proofs.YtmeiboaagkoadaaDoor.ShowRead
open Go.RowKit Go.Proofs.YtmeiboaagkoadaaDoor.Base Go.Proofs.YtmeiboaagkoadaaDoor.P08
open Go.Proofs.YtmeiboaagkoadaaDoor.Bytes (Tab)

set_option maxRecDepth 100000 in
theorem walk {H : Type} {enc : TypeId × Value → H} (v0 : Value) {d0 : DataW H} {p0 : List MemPlace} (W : World) (hT : Tab W)
    (k0 : Value.okWide Tryd.prog W .any 0 9 v0) (h0 : DataW.Trod enc Tryd.prog W 0 (fun _ => true) true 9 v0 d0 p0) :
    Calls Tryd.prog 3 #[v0] W fun e w' => e = .returned (.bool true) ∧ Below W.heap.size W w' := by
  obtain ⟨l, rfl, -, hl⟩ := str_arg k0 h0
  exact (show_read l hl W hT).mono fun e w' ⟨he, q⟩ => ⟨he, q.below (Nat.le_refl _) (fun _ _ h => h)⟩
end Go.Proofs.YtmeiboaagkoadaaDoor.ShowRead
