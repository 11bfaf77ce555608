/- Rows of nodes that the document's Plain makes (layer 13): what lay below n, and what is new. -/
import Derived.Test.YthcjfgfbeollpaaKE32
import Derived.Test.YthcjfgfbeollpaaKE23
import Derived.Test.YthcjfgfbeollpaaKE35
import Derived.Test.YthcjfgfbeollpaaKE36
namespace Go.Proofs.Ythcjfgfbeollpaa.P13
open Go.RowKit Go.Proofs.Ythcjfgfbeollpaa.Base Go.Proofs.Ythcjfgfbeollpaa.IL Go.Proofs.Ythcjfgfbeollpaa.Bytes Go.Proofs.Ythcjfgfbeollpaa.P07 Go.Proofs.Ythcjfgfbeollpaa.P08 Go.Proofs.Ythcjfgfbeollpaa.P10
open Go.Proofs.Ythcjfgfbeollpaa.Sets (ST)

theorem lie_twoD {W : World} {E : Nat → Prop} {t u : T} {a b : Option Addr} {c d : Nat} (ht : Lie W E a t.subs) (hu : Lie W E b u.subs) (hc : t.subs.length ≤ c) (hd : u.subs.length ≤ d) :
    Lie (W.alloc (.cells (ncells t a c ++ ncells u b d) 27)) (fun k => E k ∨ W.heap.size ≤ k) (some ⟨W.heap.size, 0, none⟩) [t, u] := by
  have q := (Keep.refl (fun _ => False) W).alloc (.cells (ncells t a c ++ ncells u b d) 27)
  have h := At.new W (ncells t a c ++ ncells u b d) 27
  refine .cons W.heap.size 0 [t, u] (fun i => if i = 0 then a else b) (fun i => if i = 0 then c else d) (by simp) h.lt (.inr (Nat.le_refl _)) (fun i s hs => ?_) (fun i s hs j v hv => ?_) (fun i s hs => ?_)
  · match i, hs with
    | 0, hs => simp at hs; subst hs; exact hc
    | 1, hs => simp at hs; subst hs; exact hd
    | i + 2, hs => simp at hs
  · match i, hs with
    | 0, hs =>
      simp at hs
      subst hs
      have hj : j < 8 := (Array.getElem?_eq_some_iff.1 hv).1
      have := h.cell (o := j) (v := v) (by rw [Array.getElem?_append_left (by simpa using hj)]; exact hv)
      simpa using this
    | 1, hs =>
      simp at hs
      subst hs
      have hj : j < 8 := (Array.getElem?_eq_some_iff.1 hv).1
      have := h.cell (o := 8 + j) (v := v) (by rw [Array.getElem?_append_right (by simp)]; simpa using hv)
      simpa using this
    | i + 2, hs => simp at hs
  · match i, hs with
    | 0, hs => simp at hs; subst hs; exact (ht.keepF q).mono fun k h => .inl h
    | 1, hs => simp at hs; subst hs; exact (hu.keepF q).mono fun k h => .inl h
    | i + 2, hs => simp at hs
/-- A row as it grows, since w. -/
structure Gq (w : World) (E : Nat → Prop) (u : Value) (L : List T) (W : World) : Prop where
  row : OT W (fun k => (E k ∧ k < w.heap.size) ∨ w.heap.size ≤ k) u L
  own : Own w.heap.size u
  keep : Keep (fun _ => False) w W
theorem Gq.start (w : World) (E : Nat → Prop) : Gq w E (.slice none 0 0) [] w := ⟨OT.nil _ _, Own.nil _, Keep.refl _ _⟩
theorem Gq.next {w : World} {E : Nat → Prop} {u : Value} {L : List T} {W W' : World} (h : Gq w E u L W) (q : Keep (fun _ => False) W W') : Gq w E u L W' := ⟨h.row.keep q (fun _ _ h => h), h.own, h.keep.trans q⟩
theorem ot_lt {w : World} {ok : Nat → Prop} {v : Value} {L : List T} (h : OT w ok v L) {g : Nat} (hg : v.ownBlock = some g) : g < w.heap.size := by
  obtain ⟨X, ⟨h1, -⟩, -⟩ := h
  rcases h1.2 with ⟨rfl, -⟩ | ⟨g', cap, cur, rfl, _, hc, -⟩
  · cases hg
  · injection hg with hg
    have e : g' = g := hg
    rw [e] at hc
    exact (show At w g 27 cur from hc).lt
/-- One node more, whose lists lie below or have come since W1. -/
theorem Gq.push {w : World} {E : Nat → Prop} {u : Value} {L : List T} {W1 W : World} (h : Gq w E u L W1) (q : Keep (fun _ => False) W1 W) (t : T) (a : Option Addr) (c : Nat) (hc : t.subs.length ≤ c) (hl : Lie W (fun k => (E k ∧ k < w.heap.size) ∨ W1.heap.size ≤ k) a t.subs) (hlen : L.length ≤ 1000000) (ty : TypeId) :
    ∃ v' w', (Builtin.append_ #[25, 25] ty #[u, .slice (some ⟨W.heap.size, 0, none⟩) 1 1]).run Try.prog (W.alloc (.cells (ncells t a c) 27)) = .ok v' w' ∧ Gq w E v' (L ++ [t]) w' ∧ Keep (fun b => w.heap.size ≤ b) W1 w' := by
  have hs := h.keep.size
  have hs1 := q.size
  have hlt : ∀ k, u.ownBlock = some k → k < W1.heap.size := fun k hk => ot_lt h.row hk
  have h1 := h.next q
  obtain ⟨v', w', hrun, g1, g2, g3⟩ := h1.row.push t a c hc (hl.mono fun k hk => by
    rcases hk with hk | hk
    · exact ⟨.inl hk, fun e => by have := h.own k e; omega⟩
    · exact ⟨.inr (by omega), fun e => by have := hlt k e; omega⟩) (by omega) (fun g hg => .inr (by omega)) ty
  exact ⟨v', w', hrun, ⟨g1, h.own.next (by omega) g3, h1.keep.next g2 (fun i hi hl => by have := h1.own i hi; omega)⟩, (q.mono fun _ h => h.elim).trans (g2.mono fun b hb => h.own b hb)⟩
theorem Gq.star {w : World} {E : Nat → Prop} {u : Value} {L : List T} {W1 W : World} (h : Gq w E u L W1) (q : Keep (fun _ => False) W1 W) (s : T) (a : Option Addr) (c : Nat) (hc : s.subs.length ≤ c) (hl : Lie W (fun k => (E k ∧ k < w.heap.size) ∨ W1.heap.size ≤ k) a s.subs) (hlen : L.length ≤ 1000000) (ty : TypeId) :
    ∃ v' w', (Builtin.append_ #[25, 25] ty #[u, .slice (some ⟨W.heap.size + 1, 0, none⟩) 1 1]).run Try.prog ((W.alloc (.cells (ncells s a c) 27)).alloc (.cells (ncells (starP s) (some ⟨W.heap.size, 0, none⟩) 1) 27)) = .ok v' w' ∧ Gq w E v' (L ++ [starP s]) w' ∧ Keep (fun b => w.heap.size ≤ b) W1 w' := by
  have qa := (Keep.refl (fun _ => False) W).alloc (.cells (ncells s a c) 27)
  have h1 := lie_one (ok := fun k => (E k ∧ k < w.heap.size) ∨ W1.heap.size ≤ k) (At.new W (ncells s a c) 27) (.inr q.size) hc (hl.keepF qa)
  have h2 := h.push (q.trans qa) (starP s) (some ⟨W.heap.size, 0, none⟩) 1 (Nat.le_refl 1) h1 hlen ty
  rw [show (W.alloc (.cells (ncells s a c) 27)).heap.size = W.heap.size + 1 from by simp] at h2
  exact h2
theorem Gq.opt {w : World} {E : Nat → Prop} {u : Value} {L : List T} {W1 W : World} (h : Gq w E u L W1) (q : Keep (fun _ => False) W1 W) (s : T) (a : Option Addr) (c : Nat) (hc : s.subs.length ≤ c) (hl : Lie W (fun k => (E k ∧ k < w.heap.size) ∨ W1.heap.size ≤ k) a s.subs) (hlen : L.length ≤ 1000000) (ty : TypeId) :
    ∃ v' w', (Builtin.append_ #[25, 25] ty #[u, .slice (some ⟨W.heap.size + 1, 0, none⟩) 1 1]).run Try.prog ((W.alloc (.cells (ncells s a c ++ ncells epsT none 0) 27)).alloc (.cells (ncells (optP s) (some ⟨W.heap.size, 0, none⟩) 2) 27)) = .ok v' w' ∧ Gq w E v' (L ++ [optP s]) w' ∧ Keep (fun b => w.heap.size ≤ b) W1 w' := by
  have qa := (Keep.refl (fun _ => False) W).alloc (.cells (ncells s a c ++ ncells epsT none 0) 27)
  have h1 := (lie_twoD (u := epsT) (b := none) (d := 0) hl (.nil _) hc (Nat.le_refl 0)).mono (ok' := fun k => (E k ∧ k < w.heap.size) ∨ W1.heap.size ≤ k) fun k hk => by
    rcases hk with h0 | h0
    · exact h0
    · exact .inr (by have := q.size; omega)
  have h2 := h.push (q.trans qa) (optP s) (some ⟨W.heap.size, 0, none⟩) 2 (Nat.le_refl 2) h1 hlen ty
  rw [show (W.alloc (.cells (ncells s a c ++ ncells epsT none 0) 27)).heap.size = W.heap.size + 1 from by simp] at h2
  exact h2
end Go.Proofs.Ythcjfgfbeollpaa.P13
