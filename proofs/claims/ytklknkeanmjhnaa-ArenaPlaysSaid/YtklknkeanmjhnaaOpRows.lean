/- An argument that is a slice of structs of ints, opened to its numbers. -/
import Derived.Test.YtklknkeanmjhnaaBase
import Derived.Deep.Slices
import Derived.Deep.Fields
namespace Go.Proofs.Ytklknkeanmjhnaa.Base
open Go.RowKit Go.ChangeShapes Go.WideShapes

/-- The int in a cell. -/
def intAt (w : World) (a : Addr) : Int := match w.cell? a with | some (.int _ n) => n | _ => 0

theorem intAt_of {w : World} {a : Addr} {k : IntKind} {n : Int} (h : w.cell? a = some (.int k n)) : intAt w a = n := by
  unfold intAt
  rw [h]

theorem rows_arg {H : Type} {enc : TypeId × Value → H} {P : Program} {W : World} {sp : Nat → Bool} {r : Reach} {t e : TypeId} {fs : Array Field} {v : Value} {d : DataW H} {p : List MemPlace}
    (ht : P.underlying t = some (.slice e)) (he : P.underlying e = some (.struct fs)) (hone : Go.Deep.oneCellFields P fs = true) (hC : P.cellsOf e = fs.size)
    (hint : ∀ (j : Nat) (f : Field), fs[j]? = some f → P.underlying f.type = some (.int .i64)) (hpos : 0 < fs.size)
    (k : Value.okWide P W r 0 t v) (h : DataW.Trod enc P W 0 sp true t v d p) :
    ∃ (a : Option Addr) (len cap : Nat), v = .slice a len cap ∧ len ≤ 9223372036854775807 ∧ (len = 0 ∨ ∃ bl off : Nat, a = some ⟨bl, off, none⟩ ∧ bl < W.heap.size ∧
      ∀ i j, i < len → j < fs.size → W.cell? ⟨bl, off + (i * fs.size + j), none⟩ = some (.int .i64 (intAt W ⟨bl, off + (i * fs.size + j), none⟩)) ∧
        -9223372036854775808 ≤ intAt W ⟨bl, off + (i * fs.size + j), none⟩ ∧ intAt W ⟨bl, off + (i * fs.size + j), none⟩ ≤ 9223372036854775807) := by
  obtain ⟨a, len, cap, rfl⟩ := okWide_slice ht k
  obtain ⟨fuel, hf⟩ := h
  refine ⟨a, len, cap, rfl, ?_⟩
  rcases Go.Deep.open_slice ht hf with ⟨hcs, -⟩ | ⟨x, l, c, m, n, D, Pl, hcs, -, hl, hm, hmm, -, hi⟩
  · simp [Value.cells] at hcs
    obtain ⟨-, rfl, -⟩ := hcs
    exact ⟨by omega, .inl rfl⟩
  · simp [Value.cells] at hcs
    obtain ⟨rfl, rfl, rfl⟩ := hcs
    have hml : len ≤ m := by rw [hmm]; split <;> omega
    have hat : ∀ i j, i < len → j < fs.size → ∃ q : Int, W.cell? (x.add (i * fs.size + j)) = some (.int .i64 q) ∧ (Lit.int .i64 q).wf = true := by
      intro i j hi' hj
      obtain ⟨cs', hc, ht'⟩ := hi i (by omega)
      rw [hC] at hc
      obtain ⟨xs, n', -, -, hlen, hxl, hg⟩ := DataW.trod_struct he ht'
      obtain ⟨-, hcl, hcc⟩ := World.cells?_some hc
      obtain ⟨ho, hk⟩ := Go.Deep.hone_of hone j fs[j] (by simp [hj])
      have h1 := hg j fs[j] (by simp [hj])
      rw [ho, hk, List.getElem?_eq_getElem (by omega)] at h1
      obtain ⟨q, hq, -, wq⟩ := DataW.trod_int (hint j fs[j] (by simp [hj])) h1
      refine ⟨q, ?_, wq⟩
      rw [← Go.Deep.add_add, hcc j hj]
      have := congrArg List.head? hq
      simpa [List.head?_take, List.head?_drop] using this
    refine ⟨by unfold maxLen at hm; omega, ?_⟩
    rcases Nat.eq_zero_or_pos len with h0 | hp
    · exact .inl h0
    · right
      obtain ⟨q0, hq0, -⟩ := hat 0 0 hp hpos
      obtain ⟨bl, off, spot⟩ := x
      have hs : spot = none := by simpa [Addr.add] using World.cell?_spot hq0
      subst hs
      refine ⟨bl, off, rfl, ?_, fun i j hi' hj => ?_⟩
      · have := World.block_lt_of_cell? W _ hq0
        simpa [Addr.add] using this
      · obtain ⟨q, hq, wq⟩ := hat i j hi' hj
        have hq' : W.cell? ⟨bl, off + (i * fs.size + j), none⟩ = some (.int .i64 q) := by
          rw [← hq]
          congr 1
          unfold Addr.add
          split
          · rename_i hz
            rw [hz, Nat.add_zero]
          · rfl
        rw [intAt_of hq']
        exact ⟨hq', bounds_i64 wq⟩

/-- .. of two ints each. -/
theorem rows_arg2 {H : Type} {enc : TypeId × Value → H} {P : Program} {W : World} {sp : Nat → Bool} {r : Reach} {t e : TypeId} {f0 f1 : Field} {v : Value} {d : DataW H} {p : List MemPlace}
    (ht : P.underlying t = some (.slice e)) (he : P.underlying e = some (.struct #[f0, f1])) (hone : Go.Deep.oneCellFields P #[f0, f1] = true) (hC : P.cellsOf e = 2)
    (h0 : P.underlying f0.type = some (.int .i64)) (h1 : P.underlying f1.type = some (.int .i64))
    (k : Value.okWide P W r 0 t v) (h : DataW.Trod enc P W 0 sp true t v d p) :
    ∃ (a : Option Addr) (len cap : Nat), v = .slice a len cap ∧ len ≤ 9223372036854775807 ∧ (len = 0 ∨ ∃ bl off : Nat, a = some ⟨bl, off, none⟩ ∧ bl < W.heap.size ∧
      ∀ i j, i < len → j < 2 → W.cell? ⟨bl, off + (i * 2 + j), none⟩ = some (.int .i64 (intAt W ⟨bl, off + (i * 2 + j), none⟩)) ∧
        -9223372036854775808 ≤ intAt W ⟨bl, off + (i * 2 + j), none⟩ ∧ intAt W ⟨bl, off + (i * 2 + j), none⟩ ≤ 9223372036854775807) := by
  refine rows_arg ht he hone hC (fun j f hj => ?_) (by simp) k h
  match j, hj with
  | 0, hj => cases hj; exact h0
  | 1, hj => cases hj; exact h1
  | j + 2, hj => simp at hj

end Go.Proofs.Ytklknkeanmjhnaa.Base
