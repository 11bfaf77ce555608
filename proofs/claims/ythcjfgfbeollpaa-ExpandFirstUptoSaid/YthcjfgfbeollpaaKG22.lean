/- The document's parser (layer 7): atom. -/
import Derived.Test.YthcjfgfbeollpaaKG21
import Derived.Test.YthcjfgfbeollpaaKG02
import Derived.Test.YthcjfgfbeollpaaKG03
namespace Go.Proofs.Ythcjfgfbeollpaa.P07
open Go.RowKit Go.Proofs.Ythcjfgfbeollpaa.Base Go.Proofs.Ythcjfgfbeollpaa.IL Go.Proofs.Ythcjfgfbeollpaa.Bytes Go.Proofs.Ythcjfgfbeollpaa.RSet
open Go.Proofs.Ythcjfgfbeollpaa.Sets (ST)

theorem zs_zero : zS.x0 = 0 ∧ zS.x1 = 0 ∧ zS.x2 = 0 ∧ zS.x3 = 0 := by decide

end Go.Proofs.Ythcjfgfbeollpaa.P07
/- The document's parser (layer 7): item. -/
namespace Go.Proofs.Ythcjfgfbeollpaa.P07
open Go.RowKit Go.Proofs.Ythcjfgfbeollpaa.Base Go.Proofs.Ythcjfgfbeollpaa.IL Go.Proofs.Ythcjfgfbeollpaa.Bytes
open Go.Proofs.Ythcjfgfbeollpaa.Sets (ST)

theorem Lie.under {w : World} {ok : Nat → Prop} {a : Option Addr} {M : List T} (h : Lie w ok a M) : Lie w (fun k => ok k ∧ k < w.heap.size) a M := by
  induction h with
  | nil a => exact .nil a
  | cons bl off L A C hL hb hok hC hc _ ih => exact .cons bl off L A C hL hb ⟨hok, hb⟩ hC hc ih

end Go.Proofs.Ythcjfgfbeollpaa.P07
/- The document's parser (layer 7): cat. -/
namespace Go.Proofs.Ythcjfgfbeollpaa.P07
open Go.RowKit Go.Proofs.Ythcjfgfbeollpaa.Base Go.Proofs.Ythcjfgfbeollpaa.IL Go.Proofs.Ythcjfgfbeollpaa.Bytes
open Go.Proofs.Ythcjfgfbeollpaa.Sets (ST)

theorem OT.lt {w : World} {ok : Nat → Prop} {v : Value} {L : List T} (h : OT w ok v L) {g : Nat} (hg : v.ownBlock = some g) : g < w.heap.size ∧ ok g := by
  obtain ⟨X, ⟨h1, h2, _⟩, _⟩ := h
  refine ⟨?_, h2 g hg⟩
  rcases h1.2 with ⟨rfl, _⟩ | ⟨g', cap, cur, rfl, _, h3, _⟩
  · cases hg
  · cases hg
    exact (Array.getElem?_eq_some_iff.1 h3).1

end Go.Proofs.Ythcjfgfbeollpaa.P07
/- The document's parser (layer 7): alt. -/
namespace Go.Proofs.Ythcjfgfbeollpaa.P07
open Go.RowKit Go.Proofs.Ythcjfgfbeollpaa.Base Go.Proofs.Ythcjfgfbeollpaa.IL Go.Proofs.Ythcjfgfbeollpaa.Bytes
open Go.Proofs.Ythcjfgfbeollpaa.Sets (ST)

theorem OT.one (w : World) (ok : Nat → Prop) (t : T) (a : Option Addr) (c : Nat) (hc : t.subs.length ≤ c) (hl : Lie w ok a t.subs) (hok : ok w.heap.size) :
    OT (w.alloc (.cells (ncells t a c) 27)) ok (.slice (some ⟨w.heap.size, 0, none⟩) 1 1) [t] := by
  refine ⟨[(t, a, c)], ⟨⟨rfl, .inr ⟨w.heap.size, 1, ncells t a c, rfl, ?_, At.new w _ _, ?_, ?_, ?_, ?_⟩⟩, fun g hg => ?_, fun x hx => ?_⟩, rfl⟩
  · simp
  · simp
  · simp [maxLen]
  · simp
  · simp
  · injection hg with hg
    rw [← hg]
    exact hok
  · rw [List.mem_singleton.1 hx]
    refine ⟨hc, ((hl.under).keepF ((Keep.refl (fun _ => False) w).alloc (.cells (ncells t a c) 27))).mono (fun k hk => ⟨hk.1, fun e => ?_⟩)⟩
    have e' : some w.heap.size = some k := e
    injection e' with e'
    have : k < w.heap.size := hk.2
    omega

end Go.Proofs.Ythcjfgfbeollpaa.P07
