/- A range over a method value, whose body reads only, and always goes on. -/
import Derived.Test.YtklknkeanmjhnaaBase
import Derived.RangeFuncNested
import Derived.RangeFuncBound
import Derived.RangeFuncCalls
import Derived.RangeFuncLeaves
namespace Go.Proofs.Ytklknkeanmjhnaa.Base
open Go.RowKit

/-- Nothing that lay in w has turned; and the loop's two blocks lie as they must between two rounds. -/
def Between (w : World) (rec : Loop) (W : World) : Prop :=
  Keep (fun _ => False) w W ∧ W.heap[w.heap.size + 1]? = some (.loop rec) ∧ W.heap[w.heap.size]? = some (.deferred (some []))

theorem Keep.putObj {S : Nat → Prop} {a w : World} (h : Keep S a w) {l : Nat} (hl : a.heap.size ≤ l) (o : Obj) : Keep S a (w.putObj l o) :=
  ⟨h.os, h.tape, h.output, by simpa [World.putObj] using h.size, fun i hi hn => (World.putObj_heap_other (by omega)).trans (h.block i hi hn)⟩

/-- A block that is set and set back. -/
theorem putObj_back {W : World} {l : Nat} {o : Obj} (h : W.heap[l]? = some o) (o' : Obj) (j : Nat) : ((W.putObj l o').drewN j).putObj l o = W.drewN j := by
  obtain ⟨hlt, he⟩ := Array.getElem?_eq_some_iff.1 h
  simp only [World.putObj, World.drewN]
  congr 1
  apply Array.ext_getElem?
  intro i
  by_cases hi : i = l
  · subst hi
    simp [hlt, he]
  · have : ¬ l = i := fun e => hi e.symm
    simp [this]

theorem range_method {α : Type} {F : Fence} {n : Nat} {P : Program} {g : Operand} {ps : Array Tmp} {assign body : Code} {Q : Exit → Act → World → Prop} {a : Act} {w : World}
    (hro : F.round = none) (h1 : 1 ≤ n) {gf : Nat} {rv : Value} (hg : a.eval g = .func (.func gf) #[rv] #[]) (hFg : F.fn gf) (eg : ∀ args w, (callFunc gf args).run P w = .ok (.enter gf args) w)
    {encs : α → Array Value} (hps : ∀ x, (encs x).size = ps.size)
    (hseq : ∀ (l : Nat) (W1 : World), Keep (fun _ => False) w W1 → (∀ x W, Drawn W1 W → YieldAt F (n - 1 - 1) P l (encs x) W fun e W' => e = .returned (.bool true) ∧ Drawn W W') →
      CallsIn F (n - 1) P gf #[rv, .func (.yield l) #[] #[]] W1 fun e W' => (∃ v, e = .returned v) ∧ Drawn W1 W')
    (a₁ : α → Act)
    (hassign : ∀ (l : Nat) (x : α) (W : World) (K : Act → World → Prop), K (a₁ x) W →
      assign.wpIn (F.inRound l) (n - 1 - 1) P (Exit.then K (fun _ _ _ => False)) { tmps := (ps.zip (encs x)).foldl (fun t (p, v) => t.setIfInBounds p v) a.tmps, defers := [] } W)
    (hbody : ∀ (l : Nat) (x : α) (W : World), Keep (fun _ => False) w W → body.wpIn (F.inRound l) (n - 1 - 1) P (fun e _ W' => e = .normal ∧ Drawn W W') (a₁ x) W)
    (hdone : ∀ (D : Nat) (W : World), w.heap.size ≤ D → Keep (fun _ => False) w W → W.heap[D]? = some (.deferred (some [])) → Q .normal { a with defers := { target := .collected D, args := #[] } :: a.defers } W) :
    (Code.rangeFunc g ps assign body).wpIn F n P Q a w := by
  refine wpIn_rangeFunc ?_
  intro fn hfn
  rw [hro]
  obtain ⟨rec, hrec⟩ : ∃ rec : LoopState → Loop, rec = fun st => { state := st, pending := none, fn, tmps := a.tmps, params := ps, assign, body, defers := w.heap.size } := ⟨_, rfl⟩
  obtain ⟨W1, hW1⟩ : ∃ W1, (w.alloc (.deferred (some []))).alloc (.loop (rec .ready)) = W1 := ⟨_, rfl⟩
  have hB1 : Between w (rec .ready) W1 := by
    rw [← hW1]
    refine ⟨((Keep.refl _ w).alloc _).alloc _, ?_, ?_⟩
    · have := World.alloc_heap_new (w.alloc (.deferred (some []))) (.loop (rec .ready))
      rwa [World.size_alloc] at this
    · exact (Below.heap_alloc _ _ _ (by simp)).trans (World.alloc_heap_new w _)
  refine ⟨w.heap.size + 1, [{ target := .collected w.heap.size, args := #[] }], W1, { target := .fn (.func gf) #[], args := #[rv, .func (.yield (w.heap.size + 1)) #[] #[]] }, W1, gf,
    #[rv, .func (.yield (w.heap.size + 1)) #[] #[]], W1, ?_, ?_, ?_, ?_, fun _ => h1, ?_⟩
  · rw [← hW1, hrec]
    exact run_enterLoop_outer _ _ _ _ _
  · simp only [resolve, hg]
    simp [go_sem]
  · intro f' hf'
    simp [Target.leads] at hf'
    subst hf'
    exact hFg
  · simp [invoke, go_sem, eg]
  · refine (hseq (w.heap.size + 1) W1 hB1.1 ?_).mono ?_
    · rintro x W d
      have hl : W.heap[w.heap.size + 1]? = some (.loop (rec .ready)) := by rw [d.heap]; exact hB1.2.1
      have hk : Keep (fun _ => False) w W := hB1.1.trans (d.keep _)
      have hlt : w.heap.size + 1 < W.heap.size := (Array.getElem?_eq_some_iff.1 hl).1
      have hy := run_yield (P := P) (args := encs x) hl (by rw [hrec]; exact hps x)
      rw [hrec] at hy
      refine ⟨fn, _, assign, body, hy, roundIn_of_wpIn hfn (hassign _ x W _ ⟨_, run_beginRound hl (by rw [hrec]), ?_⟩)⟩
      refine wpIn_mono (hbody _ x _ (hk.putObj (by omega) _)) ?_
      rintro e a3 W3 ⟨rfl, j, hj⟩
      have hl3 : W3.heap[w.heap.size + 1]? = some (.loop { rec .ready with state := .busy }) := by rw [hj]; exact World.putObj_heap_same hlt
      have hr := run_endRound (P := P) none hl3
      have he : W3.putObj (w.heap.size + 1) (.loop (rec .ready)) = W.drewN j := by rw [hj]; exact putObj_back hl _ j
      rw [hrec] at hr he
      exact ⟨_, _, hr, rfl, j, he⟩
    · rintro e W2 ⟨⟨v, rfl⟩, d⟩
      have hl : W2.heap[w.heap.size + 1]? = some (.loop (rec .ready)) := by rw [d.heap]; exact hB1.2.1
      have hd : W2.heap[w.heap.size]? = some (.deferred (some [])) := by rw [d.heap]; exact hB1.2.2
      have hk : Keep (fun _ => False) w W2 := hB1.1.trans (d.keep _)
      have he := run_endLoop (P := P) hl (by rw [hrec]; simp)
      rw [hrec] at he
      exact ⟨none, _, he, hdone _ _ (Nat.le_refl _) (hk.putObj (by omega) _) ((World.putObj_heap_other (by omega)).trans hd)⟩

end Go.Proofs.Ytklknkeanmjhnaa.Base
