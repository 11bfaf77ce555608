/- A map from ints to bools that the call has made: which ints are in it; and an argument that is a slice of ints, opened. -/
import Derived.Test.YtmohpjpodkbgkaaKK03
import Derived.Test.YtmohpjpodkbgkaaChecked
import Derived.Maps.OwnSet
import Derived.Maps.OwnOps
import Derived.ChangeSlices
import Derived.Deep.Slices
namespace Go.Proofs.Ytmohpjpodkbgkaa.Seen
open Go.RowKit Go.Maps Go.ChangeMaps Go.MapKept Go.ChangeShapes Go.WideShapes Go.Proofs.Ytmohpjpodkbgkaa.Base

theorem law : Keyed Try.prog 3 := int_keyed Try.underlying3
theorem keyOf_id {id : Int} (h1 : -9223372036854775808 ≤ id) (h2 : id ≤ 9223372036854775807) : keyOf Try.prog 3 (.int .i64 id) = some (.int .i64 id) := keyOf_int_mk Try.underlying3 (WalkArith.wf_i64 ⟨h1, h2⟩)
theorem zeroB (w : World) : (zeroValue 4).run Try.prog w = .ok (.bool false) w := by kernel_rfl

def boolR : Value → Option (DataW Unit × List MemPlace)
  | .bool b => some (.lit (.bool b), [])
  | _ => none

theorem boolR_inv {v : Value} {b : Bool} {ps : List MemPlace} (h : boolR v = some (.lit (.bool b), ps)) : v = .bool b := by
  cases v with
  | bool x => simp [boolR] at h; rw [h.1]
  | _ => simp [boolR] at h

/-- Block m holds a map in which just the numbers of M are, each with true. -/
def Has (w : World) (m : Nat) (M : List Int) : Prop :=
  ∃ n D, n = M.length ∧ w.ownsMap Try.prog 3 boolR m n D ∧ (∀ x : Int, D.atKey (.int .i64 x) (.lit (.bool false)) = .lit (.bool (decide (x ∈ M)))) ∧ (∀ x : Int, Maps.has D (.int .i64 x) = decide (x ∈ M)) ∧ Maps.size D = M.length

theorem Has.keep {S : Nat → Prop} {w w' : World} {m : Nat} {M : List Int} (h : Has w m M) (q : Keep S w w') (hn : ¬ S m) : Has w' m M := by
  obtain ⟨n, D, h1, h2, r⟩ := h
  refine ⟨n, D, h1, ?_, r⟩
  have hlt := World.ownsMap.lt h2
  obtain ⟨es, clock, hb, r⟩ := h2
  exact ⟨es, clock, (q.block m hlt hn).trans hb, r⟩

theorem Has.lt {w : World} {m : Nat} {M : List Int} (h : Has w m M) : m < w.heap.size := by
  obtain ⟨n, D, h1, h2, r⟩ := h
  exact World.ownsMap.lt h2

theorem Has.ne {w : World} {m c : Nat} {M : List Int} {t : TypeId} {vs : Array Value} (h : Has w m M) (k : At w c t vs) : m ≠ c := by
  rintro rfl
  obtain ⟨n, D, h1, ⟨es, clock, hb, _⟩, r⟩ := h
  rw [show w.heap[m]? = _ from k] at hb
  cases hb

theorem Has.new (w : World) : Has (w.alloc (.map #[] 0)) w.heap.size [] :=
  ⟨0, .map [], rfl, World.ownsMap_made w _ _ _, fun _ => rfl, fun _ => rfl, rfl⟩

theorem keep_grown {w w' : World} {b : Nat} (h : w.grownBy w' (some b)) : Keep (· = b) w w' :=
  ⟨h.os, h.tape, h.output, h.size, fun k hk hn => h.block k hk (by simpa using hn)⟩

set_option maxRecDepth 100000 in
/-- An argument that is a slice of ints. -/
theorem ints_arg {H : Type} {enc : TypeId × Value → H} {v : Value} {d : DataW H} {p : List MemPlace} {W : World} (k : Value.okWide Try.prog W .any 0 47 v) (h : DataW.Trod enc Try.prog W 0 (fun _ => true) true 47 v d p) :
    ∃ (la : Option Addr) (cap bl off : Nat) (Z : List Int), v = .slice la Z.length cap ∧ Z.length ≤ 9223372036854775807 ∧ (0 < Z.length → la = some ⟨bl, off, none⟩ ∧ bl < W.heap.size) ∧
      ∀ (i : Nat) (x : Int), Z[i]? = some x → W.cell? ⟨bl, off + i, none⟩ = some (.int .i64 x) ∧ -9223372036854775808 ≤ x ∧ x ≤ 9223372036854775807 := by
  obtain ⟨a, len, cap, rfl⟩ := okWide_slice Try.underlying47 k
  obtain ⟨fuel, hf⟩ := h
  rcases open_ints Try.underlying47 Try.underlying3 (by kernel_rfl) hf with ⟨hcs, -⟩ | ⟨x, l, c, zs, hcs, -, hl, hm, hz, -, hi, hwf⟩
  · simp [Value.cells] at hcs
    obtain ⟨rfl, rfl, rfl⟩ := hcs
    exact ⟨none, 0, 0, 0, [], rfl, by simp, fun h => absurd h (by simp), fun i x hx => by simp at hx⟩
  · simp [Value.cells] at hcs
    obtain ⟨rfl, rfl, rfl⟩ := hcs
    have hml : len ≤ zs.length := by rw [hz]; split <;> omega
    have e : (zs.take len).length = len := by simp [hml]
    have hat : ∀ (i : Nat) (y : Int), (zs.take len)[i]? = some y → W.cell? (x.add i) = some (.int .i64 y) ∧ -9223372036854775808 ≤ y ∧ y ≤ 9223372036854775807 := fun i y hy => by
      have hil : i < len := by
        have := (List.getElem?_eq_some_iff.1 hy).1
        omega
      rw [List.getElem?_take_of_lt hil] at hy
      have h1 := hi i (by omega)
      rw [List.getD_eq_getElem?_getD, hy] at h1
      exact ⟨h1, bounds_i64 (hwf y (List.mem_of_getElem? hy))⟩
    rcases Nat.eq_zero_or_pos len with h0 | h0
    · exact ⟨_, cap, 0, 0, zs.take len, by rw [e], by rw [e]; unfold maxLen at hm; omega, fun h => by omega, fun i y hy => by have := (List.getElem?_eq_some_iff.1 hy).1; omega⟩
    · obtain ⟨q0, hq0⟩ : ∃ y, (zs.take len)[0]? = some y := ⟨_, List.getElem?_eq_getElem (by omega)⟩
      have h2 := (hat 0 q0 hq0).1
      obtain ⟨bl, off, spot⟩ := x
      have hs : spot = none := by simpa [Addr.add] using World.cell?_spot h2
      subst hs
      refine ⟨_, cap, bl, off, zs.take len, by rw [e], by rw [e]; unfold maxLen at hm; omega, fun _ => ⟨rfl, ?_⟩, fun i y hy => ?_⟩
      · have := World.block_lt_of_cell? W _ h2
        simpa [Addr.add] using this
      · have := hat i y hy
        rw [Addr.add_lit] at this
        exact this

end Go.Proofs.Ytmohpjpodkbgkaa.Seen
