/- A list of ints in a slice of its own: what append makes of it (XLists without the sort). -/
import Derived.Test.YtmeiboaagkoadaaDoorKK03
import Derived.Test.YtmeiboaagkoadaaDoorChecked
import Derived.Maps.AppendAt
import Derived.Lib.AppendZeros
namespace Go.Proofs.YtmeiboaagkoadaaDoor.IL
open Go.RowKit Go.Proofs.YtmeiboaagkoadaaDoor.Base

/-- The slice v holds the numbers L, from its block's head. -/
def IL (w : World) (v : Value) (L : List Int) : Prop := w.ownsRow 0 3 1 v L.length (L.map (Value.int .i64))

theorem IL.nil (w : World) : IL w (.slice none 0 0) [] := ⟨rfl, .inl ⟨rfl, rfl⟩⟩

theorem IL.keep {S : Nat → Prop} {w w' : World} {v : Value} {L : List Int} (h : IL w v L) (q : Keep S w w') (hn : ∀ g, v.ownBlock = some g → ¬ S g) : IL w' v L := by
  refine ⟨h.1, ?_⟩
  rcases h.2 with h | ⟨g, cap, cur, rfl, hb, hg, r⟩
  · exact .inl h
  · refine .inr ⟨g, cap, cur, rfl, hb, ?_, r⟩
    have : At w g 3 cur := hg
    exact this.keep q (hn g rfl)

theorem IL.lt {w : World} {v : Value} {L : List Int} (h : IL w v L) {g : Nat} (hg : v.ownBlock = some g) : g < w.heap.size := by
  rcases h.2 with ⟨rfl, _⟩ | ⟨g', cap, cur, rfl, _, h1, _⟩
  · cases hg
  · cases hg
    exact (Array.getElem?_eq_some_iff.1 h1).1

/-- The slice's form, and its cells. -/
theorem IL.form {w : World} {v : Value} {L : List Int} (h : IL w v L) : ∃ a cap, v = .slice a L.length cap ∧ ∀ (i : Nat) (x : Int), L[i]? = some x → ∃ g, v.ownBlock = some g ∧ a = some ⟨g, 0, none⟩ ∧ w.cell? ⟨g, i, none⟩ = some (.int .i64 x) := by
  rcases h.2 with ⟨rfl, h0⟩ | ⟨g, cap, cur, rfl, _, hg, h1, h2, h3, h4⟩
  · refine ⟨none, 0, by rw [h0], fun i x hx => ?_⟩
    rw [List.eq_nil_of_length_eq_zero h0] at hx
    simp at hx
  · refine ⟨_, cap, rfl, fun i x hx => ⟨g, rfl, rfl, ?_⟩⟩
    have hi : i < L.length := (List.getElem?_eq_some_iff.1 hx).1
    have ha : At w g 3 cur := hg
    refine ha.cell ?_
    have h5 : (cur.toList.take (L.length * 1))[i]? = (L.map (Value.int .i64))[i]? := by rw [h4]
    rw [List.getElem?_take_of_lt (by omega), List.getElem?_map, hx] at h5
    simpa using h5

theorem infoI : (Tryd.prog.info? 3).map (fun i => (i.zero, i.size, i.bytes)) = some (some (.int .i64 0), 1, 8) := by kernel_rfl

theorem Keep.of_grown {w w' : World} {r : Option Nat} (h : w.grownBy w' r) : Keep (fun b => r = some b) w w' :=
  ⟨h.os, h.tape, h.output, h.size, fun k hk hn => h.block k hk (fun e => hn e.symm)⟩

end Go.Proofs.YtmeiboaagkoadaaDoor.IL
