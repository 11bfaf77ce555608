/- Alloc of an arena, walked. -/
import Derived.Test.YtklknkeanmjhnaaArenaAlloc
namespace Go.Proofs.Ytklknkeanmjhnaa.Arena
open Go.RowKit Go.Proofs.Ytklknkeanmjhnaa.Base Go.Proofs.Ytklknkeanmjhnaa.Stretch Go.Proofs.Ytklknkeanmjhnaa.Regs Go.Proofs.Ytklknkeanmjhnaa.Row Go.Proofs.Ytklknkeanmjhnaa.Meter

/-- The least base from which on n places are free. -/
def AS.fit (s : AS) (n : Nat) : Option Nat := (List.range (s.size + 1)).find? fun x => (List.range n).all fun i => s.fr (x + i)

theorem fit_run {s : AS} {n x : Nat} : ((List.range n).all fun i => s.fr (x + i)) = true ↔ Run s.fr x n := by
  simp only [List.all_eq_true, List.mem_range, Run]
  constructor
  · intro h i h1 h2
    have := h (i - x) (by omega)
    rwa [show x + (i - x) = i from by omega] at this
  · intro h i hi
    exact h (x + i) (by omega) (by omega)

theorem fit_some {s : AS} {n x : Nat} (hx : x ≤ s.size) (h : Run s.fr x n) (hl : ∀ y, y < x → ¬ Run s.fr y n) : s.fit n = some x := by
  unfold AS.fit
  rw [List.find?_range_eq_some]
  refine ⟨fit_run.2 h, by simp; omega, fun y hy => ?_⟩
  have := hl y hy
  rw [← fit_run] at this
  simpa using this

theorem fit_none {s : AS} {n : Nat} (h : ∀ y, ¬ Run s.fr y n) : s.fit n = none := by
  unfold AS.fit
  rw [List.find?_eq_none]
  intro x _ hx
  exact h x (fit_run.1 hx)

theorem fit_tree {s : AS} {t : TR} {n : Nat} (ok : t.Ok) (sz : t.size = s.size) (fr : ∀ p, t.free p = s.fr p) (h1 : 1 ≤ n) : s.fit n = if n ≤ t.mo then some (t.first n) else none := by
  have e : t.free = s.fr := funext fr
  by_cases h : n ≤ t.mo
  · rw [if_pos h]
    obtain ⟨a1, a2, a3⟩ := TR.first_ok ok n h1 h
    rw [e] at a1 a3
    exact fit_some (by omega) a1 a3
  · rw [if_neg h]
    exact fit_none fun y hy => h (TR.mo_le ok y n h1 (e ▸ hy))

/-- A region more, at x. -/
def AS.add (s : AS) (x n : Nat) : AS := { s with L := s.L ++ [⟨s.last + 1, x, n⟩], last := s.last + 1 }

theorem AS.add_fr (s : AS) (x n p : Nat) : (s.add x n).fr p = if x ≤ p ∧ p < x + n then false else s.fr p := by
  simp only [AS.fr, AS.add, List.all_append, List.all_cons, List.all_nil, Bool.and_true, Reg.has]
  by_cases h : x ≤ p ∧ p < x + n
  · simp [h]
  · rw [if_neg h]
    have : (!(decide (x ≤ p) && decide (p < x + n))) = true := by
      simp only [Bool.not_eq_true', Bool.and_eq_false_iff, decide_eq_false_iff_not]
      omega
    rw [this, Bool.and_true]
    rfl

theorem AS.add_used (s : AS) (x n : Nat) : (s.add x n).used = s.used + n := by simp [AS.used, AS.add]

theorem AS.add_ok {s : AS} (h : s.Ok) {x n : Nat} (h1 : 1 ≤ n) (hr : Run s.fr x n) (hz : x + n ≤ s.size) (hl : s.last < 4611686018427387904) : (s.add x n).Ok := by
  refine ⟨h.sz, by simp only [AS.add]; omega, ?_, ?_, ?_, ?_, ?_⟩
  · simp only [AS.add, List.pairwise_append, List.pairwise_cons, List.not_mem_nil, false_implies, implies_true, List.Pairwise.nil, and_true, true_and, List.mem_singleton, forall_eq]
    exact ⟨h.ids, fun a ha => by have := (h.idr a ha).2; omega⟩
  · intro r hr
    simp only [AS.add, List.mem_append, List.mem_singleton] at hr ⊢
    rcases hr with hr | rfl
    · have := h.idr r hr
      omega
    · simp
  · intro r hr
    simp only [AS.add, List.mem_append, List.mem_singleton] at hr ⊢
    rcases hr with hr | rfl
    · exact h.reg r hr
    · exact ⟨h1, hz⟩
  · simp only [AS.add, List.pairwise_append, List.pairwise_cons, List.not_mem_nil, false_implies, implies_true, List.Pairwise.nil, and_true, true_and, List.mem_singleton, forall_eq]
    refine ⟨h.apart, fun a ha => ?_⟩
    have hn := (h.reg a ha).1
    apply Classical.byContradiction
    intro hc
    have hp : x ≤ max x a.base ∧ max x a.base < x + n ∧ a.base ≤ max x a.base ∧ max x a.base < a.base + a.n := by omega
    have := hr (max x a.base) hp.1 hp.2.1
    simp only [AS.fr, Bool.and_eq_true, List.all_eq_true] at this
    have := this.2 a ha
    simp [Reg.has] at this
    omega
  · intro p hp
    rw [AS.add_fr] at hp
    split at hp
    · cases hp
    · exact h.zero p hp

theorem eleven {vs : Array Value} {a0 a1 a2 a3 a4 a5 a6 a7 a8 a9 a10 : Value} (hs : vs.size = 11) (h0 : vs[0]? = some a0) (h1 : vs[1]? = some a1) (h2 : vs[2]? = some a2) (h3 : vs[3]? = some a3) (h4 : vs[4]? = some a4) (h5 : vs[5]? = some a5)
    (h6 : vs[6]? = some a6) (h7 : vs[7]? = some a7) (h8 : vs[8]? = some a8) (h9 : vs[9]? = some a9) (h10 : vs[10]? = some a10) : vs = #[a0, a1, a2, a3, a4, a5, a6, a7, a8, a9, a10] := by
  apply Array.ext_getElem?
  intro i
  by_cases hi : i < 11
  · rcases (show i = 0 ∨ i = 1 ∨ i = 2 ∨ i = 3 ∨ i = 4 ∨ i = 5 ∨ i = 6 ∨ i = 7 ∨ i = 8 ∨ i = 9 ∨ i = 10 from by omega) with rfl | rfl | rfl | rfl | rfl | rfl | rfl | rfl | rfl | rfl | rfl <;> first | (rw [h0]; rfl) | (rw [h1]; rfl) | (rw [h2]; rfl) | (rw [h3]; rfl) | (rw [h4]; rfl) | (rw [h5]; rfl) | (rw [h6]; rfl) | (rw [h7]; rfl) | (rw [h8]; rfl) | (rw [h9]; rfl) | (rw [h10]; rfl)
  · rw [Array.getElem?_eq_none (by omega), Array.getElem?_eq_none (by simp; omega)]

theorem At.uniq {w : World} {b : Nat} {t t' : TypeId} {vs vs' : Array Value} (h : At w b t vs) (h' : At w b t' vs') : vs = vs' := by
  unfold At at h h'
  rw [h] at h'
  injection h' with h'
  injection h' with h' _

/-- The arena's block, when its tree has turned. -/
theorem block_mark {w w' : World} {b : Nat} {T : TypeId} {a0 a1 a2 a3 a4 a5 a6 a7 a8 a9 a10 : Value} {s : NV} (h : At w b T #[a0, a1, a2, a3, a4, a5, a6, a7, a8, a9, a10]) (hs : Sub b 2 w w') (hn : Nd w' b 2 s) :
    At w' b T #[a0, a1, .int .i64 s.size, .int .i64 s.front, .int .i64 s.back, .int .i64 s.most, kid s.left, kid s.right, a8, a9, a10] := by
  obtain ⟨vs, h1, h2, h3⟩ := hs _ _ h
  obtain ⟨t', vs', g1, g2, g3, g4, g5, g6, g7⟩ := hn
  obtain rfl := At.uniq h1 g1
  have e := eleven (vs := vs) (by simpa using h2) (by simpa using h3 0 (by omega)) (by simpa using h3 1 (by omega)) g2 g3 g4 g5 g6 g7 (by simpa using h3 8 (by omega)) (by simpa using h3 9 (by omega)) (by simpa using h3 10 (by omega))
  rw [e] at h1
  exact h1

/-- A tree keeps, where of its top's block other cells than its own turn. -/
theorem Tr.set {w : World} {b : Nat} {t : TR} (h : Tr w b 2 t) (hd : b ∉ t.fp) {j : Nat} (hj : 8 ≤ j) (u : Value) : Tr (w.setCell ⟨b, j, none⟩ u) b 2 t := by
  have q : Keep (· = b) w (w.setCell ⟨b, j, none⟩ u) := (Keep.refl (· = b) w).setCell (fun _ => rfl) _
  cases t with
  | leaf n f =>
    obtain ⟨t', vs, e1, e2⟩ := h
    refine ⟨t', _, e1.set j _, ?_⟩
    simp only [NV.at] at e2 ⊢
    rw [Array.getElem?_setIfInBounds_ne (by omega), Array.getElem?_setIfInBounds_ne (by omega), Array.getElem?_setIfInBounds_ne (by omega), Array.getElem?_setIfInBounds_ne (by omega), Array.getElem?_setIfInBounds_ne (by omega), Array.getElem?_setIfInBounds_ne (by omega)]
    exact e2
  | node bl l br r =>
    obtain ⟨⟨t', vs, e1, e2⟩, e3, e4⟩ := h
    simp only [TR.fp, List.mem_cons, List.mem_append, not_or] at hd
    refine ⟨⟨t', _, e1.set j _, ?_⟩, Tr.keep q e3 (fun e => hd.1 e.symm) (fun k hk e => hd.2.2.1 (e ▸ hk)), Tr.keep q e4 (fun e => hd.2.1 e.symm) (fun k hk e => hd.2.2.2 (e ▸ hk))⟩
    simp only [NV.at] at e2 ⊢
    rw [Array.getElem?_setIfInBounds_ne (by omega), Array.getElem?_setIfInBounds_ne (by omega), Array.getElem?_setIfInBounds_ne (by omega), Array.getElem?_setIfInBounds_ne (by omega), Array.getElem?_setIfInBounds_ne (by omega), Array.getElem?_setIfInBounds_ne (by omega)]
    exact e2

/-- What the world holds behind mark: all but the numbers of what is left, of the last region, and the map. -/
structure ArM (w : World) (b : Nat) (mp : Option Nat) (s : AS) (C : Nat → Int) (t : TR) (cv : Value) (cn rb : Nat) (l a : Int) (L : List Reg) : Prop where
  at_ : At w b 83 #[kid mp, cv, .int .i64 t.size, .int .i64 t.fr, .int .i64 t.bk, .int .i64 t.mo, kid t.kidL, kid t.kidR, .int .i64 l, .int .i64 a, .map (some rb)]
  tr : Tr w b 2 t
  ok : t.Ok
  sz : t.size = s.size
  row : Row w cv cn C
  rm : RM w rb L
  dup : (b :: rb :: (t.fp ++ cv.ownBlock.toList)).Nodup

theorem ArB.mid {w : World} {b : Nat} {mp : Option Nat} {s : AS} {t : TR} {cv : Value} {cn rb : Nat} (h : ArB w b mp s t cv cn rb) : ArM w b mp s s.C t cv cn rb (s.size - s.used) s.last s.L :=
  ⟨h.at_, h.tr, h.ok, h.sz, h.row, h.rm, h.dup⟩

section
variable {w w' : World} {b : Nat} {mp : Option Nat} {s : AS} {C : Nat → Int} {t : TR} {cv : Value} {cn rb : Nat} {l a : Int} {L : List Reg}

theorem ArM.parts (h : ArM w b mp s C t cv cn rb l a L) : b ≠ rb ∧ b ∉ t.fp ∧ (¬ cv.ownBlock = some b) ∧ rb ∉ t.fp ∧ (¬ cv.ownBlock = some rb) ∧ t.fp.Nodup ∧ ∀ k ∈ t.fp, ¬ cv.ownBlock = some k := by
  have hd := h.dup
  simp only [List.nodup_cons, List.mem_cons, List.mem_append, not_or, List.nodup_append, Option.mem_toList] at hd
  obtain ⟨⟨d1, d2, d3⟩, ⟨d4, d5⟩, d6, d8, d7⟩ := hd
  exact ⟨d1, d2, d3, d4, d5, d6, fun k hk e => d7 k hk k e rfl⟩

theorem ArM.mark {p q : Int} {f : Bool} (h : ArM w b mp s C t cv cn rb l a L) (m : MkR b 2 t p q f w w') :
    ∃ t', Marked t p q f t' ∧ ArM w' b mp s C t' cv cn rb l a L ∧ (∀ k ∈ t'.fp, k ∈ t.fp ∨ w.heap.size ≤ k) ∧ Keep (fun k => k = b ∨ k ∈ t.fp) w w' := by
  obtain ⟨d1, d2, d3, d4, d5, d6, d7⟩ := h.parts
  obtain ⟨a1, a2, a3, a4, a5, a6, a7⟩ := h
  obtain ⟨t', ⟨m1, m2, m3⟩, m4, m5, m6, m7, m8⟩ := m
  simp only [List.nodup_cons] at m5
  have hcb : ∀ g, cv.ownBlock = some g → g < w.heap.size := fun g hg => a5.lt hg
  have hrb := a6.lt
  have out : ∀ k, k < w.heap.size → k ∉ t.fp → k ∉ t'.fp := fun k h1 h2 h3 => by
    rcases m6 k h3 with h4 | h4
    · exact h2 h4
    · omega
  refine ⟨t', ⟨m1, m2, m3⟩, ⟨block_mark a1 m7 m4.nd, m4, m1, m2.trans a4, a5.keep m8 ?_, a6.keep m8 ?_, ?_⟩, m6, m8⟩
  · rintro g hg (e | e)
    · exact d3 (e ▸ hg)
    · exact d7 g e hg
  · rintro (e | e)
    · exact d1 e.symm
    · exact d4 e
  · simp only [List.nodup_cons, List.mem_cons, List.mem_append, not_or, List.nodup_append, Option.mem_toList]
    refine ⟨⟨d1, m5.1, d3⟩, ⟨out rb hrb d4, d5⟩, m5.2, by cases cv.ownBlock <;> simp, fun k hk k' hk' e => ?_⟩
    subst e
    exact out k (hcb k hk') (fun e => d7 k e hk') hk

theorem ArM.left (h : ArM w b mp s C t cv cn rb l a L) (u : Int) : ArM (w.setCell ⟨b, 8, none⟩ (.int .i64 u)) b mp s C t cv cn rb u a L ∧ Keep (· = b) w (w.setCell ⟨b, 8, none⟩ (.int .i64 u)) := by
  obtain ⟨d1, d2, d3, d4, d5, d6, d7⟩ := h.parts
  have q : Keep (· = b) w (w.setCell ⟨b, 8, none⟩ (.int .i64 u)) := (Keep.refl (· = b) w).setCell (fun _ => rfl) _
  exact ⟨⟨h.at_.set 8 _, Tr.set h.tr d2 (by omega) _, h.ok, h.sz, h.row.keep q (fun g hg e => d3 (e ▸ hg)), h.rm.keep q (fun e => d1 e.symm), h.dup⟩, q⟩

theorem ArM.last (h : ArM w b mp s C t cv cn rb l a L) (u : Int) : ArM (w.setCell ⟨b, 9, none⟩ (.int .i64 u)) b mp s C t cv cn rb l u L ∧ Keep (· = b) w (w.setCell ⟨b, 9, none⟩ (.int .i64 u)) := by
  obtain ⟨d1, d2, d3, d4, d5, d6, d7⟩ := h.parts
  have q : Keep (· = b) w (w.setCell ⟨b, 9, none⟩ (.int .i64 u)) := (Keep.refl (· = b) w).setCell (fun _ => rfl) _
  exact ⟨⟨h.at_.set 9 _, Tr.set h.tr d2 (by omega) _, h.ok, h.sz, h.row.keep q (fun g hg e => d3 (e ▸ hg)), h.rm.keep q (fun e => d1 e.symm), h.dup⟩, q⟩

theorem ArM.map {L' : List Reg} (h : ArM w b mp s C t cv cn rb l a L) (hm : RM w' rb L') (q : Keep (· = rb) w w') : ArM w' b mp s C t cv cn rb l a L' := by
  obtain ⟨d1, d2, d3, d4, d5, d6, d7⟩ := h.parts
  exact ⟨h.at_.keep q d1, Tr.keep q h.tr d1 (fun k hk e => d4 (e ▸ hk)), h.ok, h.sz, h.row.keep q (fun g hg e => d5 (e ▸ hg)), hm, h.dup⟩

theorem ArM.none (h : ArM w b mp s C t cv cn rb l a L) (q : Keep (fun _ => False) w w') : ArM w' b mp s C t cv cn rb l a L :=
  ⟨h.at_.keep q id, Tr.keep q h.tr id (fun _ _ => id), h.ok, h.sz, h.row.keep q (fun _ _ => id), h.rm.keep q id, h.dup⟩
end

end Go.Proofs.Ytklknkeanmjhnaa.Arena
