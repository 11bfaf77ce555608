/- Plain facts on worlds and blocks that the proofs of all stages share. Nothing here names a function of the program. -/
import Derived.WalkKit
import Derived.ProofKit
import Derived.OpenShut
import Derived.ChangeOld
import Derived.Below
import Derived.Lib.Hide
import Derived.Deep.QuietTactic
import Derived.BigQuiet
namespace Go.Proofs.Ythcjfgfbeollpaa.Base
open Go.RowKit

/-- Block b holds the cells vs, none of them frozen. -/
def At (w : World) (b : Nat) (t : TypeId) (vs : Array Value) : Prop := w.heap[b]? = some (.cells vs t (0, 0))

/-- Of the blocks that were there only those of S may have turned; new ones may have come. -/
structure Keep (S : Nat → Prop) (w w' : World) : Prop where
  os : w'.os = w.os
  tape : w'.tape = w.tape
  output : w'.output = w.output
  size : w.heap.size ≤ w'.heap.size
  block : ∀ k, k < w.heap.size → ¬ S k → w'.heap[k]? = w.heap[k]?

theorem Keep.refl (S : Nat → Prop) (w : World) : Keep S w w := ⟨rfl, rfl, rfl, Nat.le_refl _, fun _ _ _ => rfl⟩

theorem Keep.trans {S : Nat → Prop} {a b c : World} (h : Keep S a b) (k : Keep S b c) : Keep S a c :=
  ⟨k.os.trans h.os, k.tape.trans h.tape, k.output.trans h.output, Nat.le_trans h.size k.size,
    fun i hi hn => (k.block i (Nat.lt_of_lt_of_le hi h.size) hn).trans (h.block i hi hn)⟩

/-- The second step may turn what was not there at the first one's beginning. -/
theorem Keep.next {S T : Nat → Prop} {a b c : World} (h : Keep S a b) (k : Keep T b c) (hT : ∀ i, T i → i < a.heap.size → S i) : Keep S a c :=
  ⟨k.os.trans h.os, k.tape.trans h.tape, k.output.trans h.output, Nat.le_trans h.size k.size,
    fun i hi hn => (k.block i (Nat.lt_of_lt_of_le hi h.size) (fun t => hn (hT i t hi))).trans (h.block i hi hn)⟩

theorem Keep.mono {S T : Nat → Prop} {a b : World} (h : Keep S a b) (hT : ∀ i, S i → T i) : Keep T a b :=
  ⟨h.os, h.tape, h.output, h.size, fun i hi hn => h.block i hi (fun s => hn (hT i s))⟩

theorem Keep.drew {S : Nat → Prop} {a w : World} (h : Keep S a w) : Keep S a w.drew := ⟨h.os, h.tape, h.output, h.size, h.block⟩
theorem Keep.drewN {S : Nat → Prop} {a w : World} (h : Keep S a w) (n : Nat) : Keep S a (w.drewN n) := ⟨h.os, h.tape, h.output, h.size, h.block⟩

theorem Keep.alloc {S : Nat → Prop} {a w : World} (h : Keep S a w) (o : Obj) : Keep S a (w.alloc o) :=
  ⟨h.os, h.tape, h.output, Nat.le_trans h.size (by simp), fun i hi hn => (Below.heap_alloc w o i (Nat.lt_of_lt_of_le hi h.size)).trans (h.block i hi hn)⟩

theorem Keep.setCell {S : Nat → Prop} {a w : World} (h : Keep S a w) {p : Addr} (hp : p.block < a.heap.size → S p.block) (u : Value) : Keep S a (w.setCell p u) :=
  ⟨h.os, h.tape, h.output, by simpa [World.setCell] using h.size,
    fun i hi hn => (Below.heap_setCell w p u i (fun e => by subst e; exact hn (hp hi))).trans (h.block i hi hn)⟩

theorem Keep.below {S : Nat → Prop} {a w : World} (h : Keep S a w) {B : Nat} (hB : B ≤ a.heap.size) (hS : ∀ i, i < B → ¬ S i) : Below B a w :=
  ⟨h.os, h.tape, h.output, h.size, fun k hk => h.block k (Nat.lt_of_lt_of_le hk hB) (hS k hk)⟩

theorem Keep.cell {S : Nat → Prop} {w w' : World} (h : Keep S w w') {a : Addr} (hb : a.block < w.heap.size) (hn : ¬ S a.block) : w'.cell? a = w.cell? a :=
  World.cell?_of_block (w := w) (h.block a.block hb hn)

theorem At.keep {S : Nat → Prop} {w w' : World} {b : Nat} {t : TypeId} {vs : Array Value} (h : At w b t vs) (k : Keep S w w') (hn : ¬ S b) : At w' b t vs := by
  have hb : b < w.heap.size := by
    unfold At at h
    exact (Array.getElem?_eq_some_iff.1 h).1
  exact (k.block b hb hn).trans h

theorem At.lt {w : World} {b : Nat} {t : TypeId} {vs : Array Value} (h : At w b t vs) : b < w.heap.size := (Array.getElem?_eq_some_iff.1 h).1

theorem At.drew {w : World} {b : Nat} {t : TypeId} {vs : Array Value} (h : At w b t vs) : At w.drew b t vs := h
theorem At.drewN {w : World} {b : Nat} {t : TypeId} {vs : Array Value} (h : At w b t vs) (n : Nat) : At (w.drewN n) b t vs := h

theorem At.alloc {w : World} {b : Nat} {t : TypeId} {vs : Array Value} (h : At w b t vs) (o : Obj) : At (w.alloc o) b t vs :=
  (Below.heap_alloc w o b h.lt).trans h

theorem At.new (w : World) (vs : Array Value) (t : TypeId) : At (w.alloc (.cells vs t)) w.heap.size t vs := by
  unfold At
  exact (MapKept.heap_alloc w _).1

theorem At.setOther {w : World} {b : Nat} {t : TypeId} {vs : Array Value} (h : At w b t vs) {p : Addr} (hp : b ≠ p.block) (u : Value) : At (w.setCell p u) b t vs :=
  (Below.heap_setCell w p u b hp).trans h

theorem At.set {w : World} {b : Nat} {t : TypeId} {vs : Array Value} (h : At w b t vs) (o : Nat) (u : Value) : At (w.setCell ⟨b, o, none⟩ u) b t (vs.setIfInBounds o u) := by
  unfold At at *
  simp [World.setCell, Array.getElem?_modify, h]

theorem At.cell {w : World} {b : Nat} {t : TypeId} {vs : Array Value} (h : At w b t vs) {o : Nat} {v : Value} (hv : vs[o]? = some v) : w.cell? ⟨b, o, none⟩ = some v := by
  unfold At at h
  simp [World.cell?, h, hv]

theorem At.frozen {w : World} {b : Nat} {t : TypeId} {vs : Array Value} (h : At w b t vs) (o : Nat) : w.frozen? ⟨b, o, none⟩ = false := by
  unfold At at h
  simp [World.frozen?, h]

/-- A callee that turns nothing, met inside a region that draws its order. -/
theorem quiet_same {P : Program} {f : FuncId} {args : Array Value} {w : World} {n : Nat} {v : Value}
    (h : Calls P f args (w.drewN n) fun e w' => e = .returned v ∧ w.drewN n = w') : Calls P f args (w.drewN n) fun e w'' => e = .returned v ∧ ∃ m, w'' = w.drewN m :=
  h.mono fun _ _ r => ⟨r.1, n, r.2.symm⟩

/-- .. behind another such region. -/
theorem quiet_same2 {P : Program} {f : FuncId} {args : Array Value} {w : World} {a n : Nat} {v : Value}
    (h : Calls P f args (w.drewN (a + n)) fun e w' => e = .returned v ∧ w.drewN (a + n) = w') : Calls P f args (w.drewN (a + n)) fun e w'' => e = .returned v ∧ ∃ m, w'' = w.drewN (a + m) :=
  h.mono fun _ _ r => ⟨r.1, n, r.2.symm⟩

/-- w' is w, but that choices may have been drawn. -/
def Drawn (w w' : World) : Prop := ∃ k, w' = w.drewN k

theorem Drawn.heap {w w' : World} (h : Drawn w w') : w'.heap = w.heap := by
  obtain ⟨k, rfl⟩ := h
  rfl

theorem Drawn.keep {w w' : World} (h : Drawn w w') (S : Nat → Prop) : Keep S w w' := by
  obtain ⟨k, rfl⟩ := h
  exact (Keep.refl S w).drewN k

theorem At.drawn {w w' : World} {b : Nat} {t : TypeId} {vs : Array Value} (h : At w b t vs) (d : Drawn w w') : At w' b t vs := by
  unfold At at *
  rw [d.heap]
  exact h

end Go.Proofs.Ythcjfgfbeollpaa.Base
/- Eight stores in one block. -/
namespace Go.Proofs.Ythcjfgfbeollpaa.P07
open Go.RowKit Go.Proofs.Ythcjfgfbeollpaa.Base

theorem cells8 {w : World} {b : Nat} {t : TypeId} {y0 y1 y2 y3 y4 y5 y6 y7 : Value} (h : At w b t #[y0, y1, y2, y3, y4, y5, y6, y7]) :
    (w.cell? ⟨b, 0, none⟩ = some y0 ∧ w.cell? ⟨b, 1, none⟩ = some y1 ∧ w.cell? ⟨b, 2, none⟩ = some y2 ∧ w.cell? ⟨b, 3, none⟩ = some y3 ∧ w.cell? ⟨b, 4, none⟩ = some y4 ∧ w.cell? ⟨b, 5, none⟩ = some y5 ∧ w.cell? ⟨b, 6, none⟩ = some y6 ∧ w.cell? ⟨b, 7, none⟩ = some y7) ∧
    (w.frozen? ⟨b, 0, none⟩ = false ∧ w.frozen? ⟨b, 1, none⟩ = false ∧ w.frozen? ⟨b, 2, none⟩ = false ∧ w.frozen? ⟨b, 3, none⟩ = false ∧ w.frozen? ⟨b, 4, none⟩ = false ∧ w.frozen? ⟨b, 5, none⟩ = false ∧ w.frozen? ⟨b, 6, none⟩ = false ∧ w.frozen? ⟨b, 7, none⟩ = false) :=
  ⟨⟨h.cell rfl, h.cell rfl, h.cell rfl, h.cell rfl, h.cell rfl, h.cell rfl, h.cell rfl, h.cell rfl⟩, h.frozen 0, h.frozen 1, h.frozen 2, h.frozen 3, h.frozen 4, h.frozen 5, h.frozen 6, h.frozen 7⟩

def put8 (w : World) (b : Nat) (v0 v1 v2 v3 v4 v5 v6 v7 : Value) : World :=
  ((((((((w.setCell ⟨b, 0, none⟩ v0).setCell ⟨b, 1, none⟩ v1).setCell ⟨b, 2, none⟩ v2).setCell ⟨b, 3, none⟩ v3).setCell ⟨b, 4, none⟩ v4).setCell ⟨b, 5, none⟩ v5).setCell ⟨b, 6, none⟩ v6).setCell ⟨b, 7, none⟩ v7)

theorem set8 {w : World} {b : Nat} {t : TypeId} {y0 y1 y2 y3 y4 y5 y6 y7 : Value} (h : At w b t #[y0, y1, y2, y3, y4, y5, y6, y7]) (v0 v1 v2 v3 v4 v5 v6 v7 : Value) :
    At (put8 w b v0 v1 v2 v3 v4 v5 v6 v7) b t #[v0, v1, v2, v3, v4, v5, v6, v7] := by
  have h0 : At (w.setCell ⟨b, 0, none⟩ v0) b t #[v0, y1, y2, y3, y4, y5, y6, y7] := h.set 0 v0
  have h1 : At ((w.setCell ⟨b, 0, none⟩ v0).setCell ⟨b, 1, none⟩ v1) b t #[v0, v1, y2, y3, y4, y5, y6, y7] := h0.set 1 v1
  have h2 : At (((w.setCell ⟨b, 0, none⟩ v0).setCell ⟨b, 1, none⟩ v1).setCell ⟨b, 2, none⟩ v2) b t #[v0, v1, v2, y3, y4, y5, y6, y7] := h1.set 2 v2
  have h3 : At ((((w.setCell ⟨b, 0, none⟩ v0).setCell ⟨b, 1, none⟩ v1).setCell ⟨b, 2, none⟩ v2).setCell ⟨b, 3, none⟩ v3) b t #[v0, v1, v2, v3, y4, y5, y6, y7] := h2.set 3 v3
  have h4 : At (((((w.setCell ⟨b, 0, none⟩ v0).setCell ⟨b, 1, none⟩ v1).setCell ⟨b, 2, none⟩ v2).setCell ⟨b, 3, none⟩ v3).setCell ⟨b, 4, none⟩ v4) b t #[v0, v1, v2, v3, v4, y5, y6, y7] := h3.set 4 v4
  have h5 : At ((((((w.setCell ⟨b, 0, none⟩ v0).setCell ⟨b, 1, none⟩ v1).setCell ⟨b, 2, none⟩ v2).setCell ⟨b, 3, none⟩ v3).setCell ⟨b, 4, none⟩ v4).setCell ⟨b, 5, none⟩ v5) b t #[v0, v1, v2, v3, v4, v5, y6, y7] := h4.set 5 v5
  have h6 : At (((((((w.setCell ⟨b, 0, none⟩ v0).setCell ⟨b, 1, none⟩ v1).setCell ⟨b, 2, none⟩ v2).setCell ⟨b, 3, none⟩ v3).setCell ⟨b, 4, none⟩ v4).setCell ⟨b, 5, none⟩ v5).setCell ⟨b, 6, none⟩ v6) b t #[v0, v1, v2, v3, v4, v5, v6, y7] := h5.set 6 v6
  have h7 : At ((((((((w.setCell ⟨b, 0, none⟩ v0).setCell ⟨b, 1, none⟩ v1).setCell ⟨b, 2, none⟩ v2).setCell ⟨b, 3, none⟩ v3).setCell ⟨b, 4, none⟩ v4).setCell ⟨b, 5, none⟩ v5).setCell ⟨b, 6, none⟩ v6).setCell ⟨b, 7, none⟩ v7) b t #[v0, v1, v2, v3, v4, v5, v6, v7] := h6.set 7 v7
  exact h7

theorem keep8 {S : Nat → Prop} {a w : World} (h : Keep S a w) {b : Nat} (hp : b < a.heap.size → S b) (v0 v1 v2 v3 v4 v5 v6 v7 : Value) :
    Keep S a (put8 w b v0 v1 v2 v3 v4 v5 v6 v7) :=
  (((((((h.setCell (p := ⟨b, 0, none⟩) hp v0).setCell (p := ⟨b, 1, none⟩) hp v1).setCell (p := ⟨b, 2, none⟩) hp v2).setCell (p := ⟨b, 3, none⟩) hp v3).setCell (p := ⟨b, 4, none⟩) hp v4).setCell (p := ⟨b, 5, none⟩) hp v5).setCell (p := ⟨b, 6, none⟩) hp v6).setCell (p := ⟨b, 7, none⟩) hp v7

theorem other8 {w : World} {a b : Nat} {t : TypeId} {vs : Array Value} (h : At w a t vs) (hb : a ≠ b) (v0 v1 v2 v3 v4 v5 v6 v7 : Value) :
    At (put8 w b v0 v1 v2 v3 v4 v5 v6 v7) a t vs :=
  (((((((h.setOther (p := ⟨b, 0, none⟩) hb v0).setOther (p := ⟨b, 1, none⟩) hb v1).setOther (p := ⟨b, 2, none⟩) hb v2).setOther (p := ⟨b, 3, none⟩) hb v3).setOther (p := ⟨b, 4, none⟩) hb v4).setOther (p := ⟨b, 5, none⟩) hb v5).setOther (p := ⟨b, 6, none⟩) hb v6).setOther (p := ⟨b, 7, none⟩) hb v7
end Go.Proofs.Ythcjfgfbeollpaa.P07
