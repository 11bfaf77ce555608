/- An argument that is a slice of sets, opened to its words. -/
import Derived.Test.YtidfjeliofgpmaaDoorSetArg
import Derived.Test.YtidfjeliofgpmaaDoorSetL
import Derived.Deep.Slices
namespace Go.Proofs.YtidfjeliofgpmaaDoor.Tied
open Go.ChangeShapes Go.WideShapes Go.ChangeAt Go.RowKit Go.Proofs.YtidfjeliofgpmaaDoor.Base Go.Proofs.YtidfjeliofgpmaaDoor.Sets Go.Proofs.YtidfjeliofgpmaaDoor.Bytes Go.Proofs.YtidfjeliofgpmaaDoor.SetL

/-- The set whose four words lie at an address. -/
def wordAt (w : World) (a : Addr) : Nat := match w.cell? a with | some (.int _ n) => n.toNat | _ => 0
def setAt (w : World) (bl o : Nat) : ST := ⟨wordAt w ⟨bl, o, none⟩, wordAt w ⟨bl, o + 1, none⟩, wordAt w ⟨bl, o + 2, none⟩, wordAt w ⟨bl, o + 3, none⟩⟩

theorem wordAt_of {w : World} {a : Addr} {k : IntKind} {n : Nat} (h : w.cell? a = some (.int k n)) : wordAt w a = n := by
  unfold wordAt
  rw [h]
  rfl

theorem add_eq (bl off n : Nat) : (⟨bl, off, none⟩ : Addr).add n = ⟨bl, off + n, none⟩ := by
  unfold Addr.add
  split
  · rename_i hz
    rw [hz, Nat.add_zero]
  · rfl

theorem sets_arg {H : Type} {enc : TypeId × Value → H} {W : World} {r : Reach} {sp : Nat → Bool} {v : Value} {d : DataW H} {p : List MemPlace}
    (k : Value.okWide Tryd.prog W r 0 22 v) (h : DataW.Trod enc Tryd.prog W 0 sp true 22 v d p) :
    ∃ (a : Option Addr) (cap : Nat) (L : List ST), v = .slice a L.length cap ∧ L.length ≤ 9223372036854775807 ∧ SL W a L ∧ ∀ s ∈ L, s.Ok := by
  obtain ⟨a, len, cap, rfl⟩ := okWide_slice Tryd.underlying22 k
  obtain ⟨fuel, hf⟩ := h
  rcases Go.Deep.open_slice Tryd.underlying22 hf with ⟨hcs, -⟩ | ⟨x, l, c, m, n, D, Pl, hcs, -, hl, hm, hmm, -, hi⟩
  · simp [Value.cells] at hcs
    obtain ⟨-, rfl, -⟩ := hcs
    exact ⟨a, cap, [], rfl, by simp, .inl rfl, by simp⟩
  · simp [Value.cells] at hcs
    obtain ⟨rfl, rfl, rfl⟩ := hcs
    have hml : len ≤ m := by rw [hmm]; split <;> omega
    have hat : ∀ i, i < len → ∃ s : ST, s.Ok ∧ ∀ j, j < 4 → W.cell? ((x.add (i * 4)).add j) = some (.int .u64 (s.w j)) := by
      intro i hi'
      obtain ⟨cs', hc, ht'⟩ := hi i (by omega)
      rw [c24] at hc
      obtain ⟨-, hcl, hcc⟩ := World.cells?_some hc
      obtain ⟨s, rfl, ok⟩ := set_trod hcl ht'
      refine ⟨s, ok, fun j hj => ?_⟩
      rw [hcc j hj, Array.getElem?_toList]
      exact cells_at s j hj
    rcases Nat.eq_zero_or_pos len with h0 | hp
    · subst h0
      exact ⟨some x, cap, [], rfl, by simp, .inl rfl, by simp⟩
    · obtain ⟨q0, -, hq0⟩ := hat 0 hp
      have hq0 := hq0 0 (by omega)
      obtain ⟨bl, off, spot⟩ := x
      have hs : spot = none := by simpa [Addr.add] using World.cell?_spot hq0
      subst hs
      have hb : bl < W.heap.size := by
        have := World.block_lt_of_cell? W _ hq0
        simpa [Addr.add] using this
      have hst : ∀ i, i < len → ∃ s : ST, s.Ok ∧ setAt W bl (off + i * 4) = s ∧ ∀ j, j < 4 → W.cell? ⟨bl, off + (i * 4 + j), none⟩ = some (.int .u64 (s.w j)) := by
        intro i hi'
        obtain ⟨s, ok, hc⟩ := hat i hi'
        have hc' : ∀ j, j < 4 → W.cell? ⟨bl, off + (i * 4 + j), none⟩ = some (.int .u64 (s.w j)) := fun j hj => by
          have := hc j hj
          rw [add_eq, add_eq] at this
          rw [← Nat.add_assoc]
          exact this
        refine ⟨s, ok, ?_, hc'⟩
        unfold setAt
        have e0 : wordAt W ⟨bl, off + i * 4, none⟩ = s.w 0 := wordAt_of (hc' 0 (by omega))
        have e1 : wordAt W ⟨bl, off + i * 4 + 1, none⟩ = s.w 1 := wordAt_of (hc' 1 (by omega))
        have e2 : wordAt W ⟨bl, off + i * 4 + 2, none⟩ = s.w 2 := wordAt_of (hc' 2 (by omega))
        have e3 : wordAt W ⟨bl, off + i * 4 + 3, none⟩ = s.w 3 := wordAt_of (hc' 3 (by omega))
        rw [e0, e1, e2, e3]
        rfl
      refine ⟨_, cap, (List.range len).map (fun i => setAt W bl (off + i * 4)), by simp, by simp; unfold maxLen at hm; omega, .inr ⟨bl, off, rfl, hb, fun i s hs j hj => ?_⟩, fun s hs => ?_⟩
      · rw [List.getElem?_map] at hs
        obtain ⟨i', h1, rfl⟩ := Option.map_eq_some_iff.1 hs
        obtain ⟨hi', rfl⟩ := List.getElem?_eq_some_iff.1 h1
        rw [List.length_range] at hi'
        rw [List.getElem_range]
        obtain ⟨s', -, e, hc⟩ := hst i hi'
        rw [e]
        exact hc j hj
      · simp at hs
        obtain ⟨i, hi', rfl⟩ := hs
        obtain ⟨s', ok, e, -⟩ := hst i hi'
        rw [e]
        exact ok

end Go.Proofs.YtidfjeliofgpmaaDoor.Tied
