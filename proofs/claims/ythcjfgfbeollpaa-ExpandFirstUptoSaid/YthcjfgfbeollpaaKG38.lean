/- The document's nothing and of (layer 10). -/
import Derived.Test.YthcjfgfbeollpaaKG23
import Derived.Test.YthcjfgfbeollpaaKG33
namespace Go.Proofs.Ythcjfgfbeollpaa.P10
open Go.RowKit Go.Proofs.Ythcjfgfbeollpaa.Base Go.Proofs.Ythcjfgfbeollpaa.Bytes Go.Proofs.Ythcjfgfbeollpaa.P07 Go.Proofs.Ythcjfgfbeollpaa.P08
open Go.Proofs.Ythcjfgfbeollpaa.Sets (ST)

/-- Whatever is handed back as a node: its parts lie where those of the arguments lie, or in new blocks. -/
def Gives (w : World) (ok : Nat → Prop) (t : T) (e : Ending) (w' : World) : Prop := (∃ v, e = .returned v ∧ NodeV w' (fun k => ok k ∨ w.heap.size ≤ k) v t) ∧ Keep (fun _ => False) w w'
/-- The result's block, the argument's box beside it. -/
structure Rb (w : World) (n : Nat) (W : World) : Prop where
  out : At W n 27 nzeros
  keep : Keep (fun _ => False) w W
  lt : w.heap.size ≤ n
theorem Rb.next {w : World} {n : Nat} {W W' : World} (h : Rb w n W) (q : Keep (fun _ => False) W W') : Rb w n W' := ⟨h.out.keep q (fun h => h), h.keep.trans q, h.lt⟩
/-- The node that is stored there is handed back. -/
theorem Rb.put {w : World} {n : Nat} {W : World} (h : Rb w n W) (t : T) (a : Option Addr) (c : Nat) : At (putNd W n 0 t a c) n 27 (ncells t a c) ∧ Keep (fun _ => False) w (putNd W n 0 t a c) ∧ Keep (fun b => b = n) W (putNd W n 0 t a c) := by
  have k := set8 h.out (.int .i64 t.kind) (.int .u64 t.set.x0) (.int .u64 t.set.x1) (.int .u64 t.set.x2) (.int .u64 t.set.x3) (.int .i64 t.mn) (.int .i64 t.mx) (.slice a t.subs.length c)
  exact ⟨k, keep8 h.keep (b := n) (fun h1 => absurd h1 (by have := h.lt; omega)) (.int .i64 t.kind) (.int .u64 t.set.x0) (.int .u64 t.set.x1) (.int .u64 t.set.x2) (.int .u64 t.set.x3) (.int .i64 t.mn) (.int .i64 t.mx) (.slice a t.subs.length c), putNd_keep W n 0 t a c⟩
theorem Rb.gives {w : World} {n : Nat} {W : World} (h : Rb w n W) {ok : Nat → Prop} {t : T} {a : Option Addr} {c : Nat} (hc : t.subs.length ≤ c) (hl : Lie W (fun k => (ok k ∨ w.heap.size ≤ k) ∧ k ≠ n) a t.subs) : Gives w ok t (.returned (nodeV t a c)) (putNd W n 0 t a c) := by
  have k := h.put t a c
  exact ⟨⟨_, rfl, a, c, rfl, hc, (hl.keep k.2.2 (fun k hk e => hk.2 e)).mono fun k hk => hk.1⟩, k.2.1⟩
end Go.Proofs.Ythcjfgfbeollpaa.P10
