/- A map from numbers to lists of nodes, as the code keeps what stood ahead (layer 10). -/
import Derived.Test.YtfpijkcaceoboaaDoorKK36
import Derived.Test.YtfpijkcaceoboaaDoorKK11
namespace Go.Proofs.YtfpijkcaceoboaaDoor.P10
open Go.RowKit Go.Maps Go.ChangeMaps Go.MapKept Go.Proofs.YtfpijkcaceoboaaDoor.Base Go.Proofs.YtfpijkcaceoboaaDoor.Bytes Go.Proofs.YtfpijkcaceoboaaDoor.P07 Go.Proofs.YtfpijkcaceoboaaDoor.P08
open Go.Proofs.YtfpijkcaceoboaaDoor.Sets (ST)

def encE : Option (Nat × Nat × Nat) → DataW Unit
  | none => .lit (.int .i64 (-1))
  | some (g, n, c) => .agg [.lit (.int .i64 g), .lit (.int .i64 n), .lit (.int .i64 c)]
def sliceR : Value → Option (DataW Unit × List MemPlace)
  | .slice none 0 0 => some (.lit (.int .i64 (-1)), [])
  | .slice (some ⟨g, 0, none⟩) n c => some (.agg [.lit (.int .i64 g), .lit (.int .i64 n), .lit (.int .i64 c)], [])
  | _ => none
/-- Block b holds a map: at each number a slice; it was written k times at most. -/
def KM (w : World) (b k : Nat) (E : Int → Option (Nat × Nat × Nat)) : Prop := ∃ D : DataW Unit, w.ownsMap Tryd.prog 22 sliceR b k D ∧ ∀ x : Int, D.atKey (.int .u64 x) (.lit (.int .i64 (-1))) = encE (E x)
theorem KM.keep {S : Nat → Prop} {w w' : World} {b k : Nat} {E : Int → Option (Nat × Nat × Nat)} (h : KM w b k E) (q : Keep S w w') (hn : ¬ S b) : KM w' b k E := by
  obtain ⟨D, h2, r⟩ := h
  refine ⟨D, ?_, r⟩
  have hlt := World.ownsMap.lt h2
  obtain ⟨es, clock, hb, r⟩ := h2
  exact ⟨es, clock, (q.block b hlt hn).trans hb, r⟩
theorem KM.lt {w : World} {b k : Nat} {E : Int → Option (Nat × Nat × Nat)} (h : KM w b k E) : b < w.heap.size := by
  obtain ⟨D, h2, r⟩ := h
  exact World.ownsMap.lt h2
theorem KM.new (w : World) : KM (w.alloc (.map #[] 0)) w.heap.size 0 (fun _ => none) := ⟨.map [], World.ownsMap_made w _ _ _, fun _ => rfl⟩
/-- .. that have the digest x. -/
def inD (x : Int) (t : T) : Bool := decide (dg t = x)
/-- What stood ahead: the nodes M, each in the list of its digest; the map and the lists lie in blocks of Z. -/
structure Kn (n0 : Nat) (ok : Nat → Prop) (m : Nat) (Z : Nat → Prop) (M : List T) (W : World) : Prop where
  ex : ∃ E : Int → Option (Nat × Nat × Nat), KM W m M.length E ∧ (∀ x, OE W (fun j => ok j ∧ j < n0) (SV (E x)) (M.filter (inD x))) ∧ (∀ x g, (SV (E x)).ownBlock = some g → Z g ∧ g ≠ m) ∧ (∀ x y g, (SV (E x)).ownBlock = some g → (SV (E y)).ownBlock = some g → x = y)
  zm : Z m
  zlt : ∀ b, Z b → n0 ≤ b ∧ b < W.heap.size
  n0 : n0 ≤ W.heap.size
theorem Kn.keep {n0 : Nat} {ok : Nat → Prop} {m : Nat} {Z : Nat → Prop} {M : List T} {W W' : World} (h : Kn n0 ok m Z M W) {S : Nat → Prop} (q : Keep S W W') (h1 : ∀ b, Z b → ¬ S b) (h2 : ∀ b, b < n0 → ¬ S b) : Kn n0 ok m Z M W' := by
  obtain ⟨E, k1, k2, k3, k4⟩ := h.ex
  exact ⟨⟨E, k1.keep q (h1 m h.zm), fun x => (k2 x).keep q (fun b hb => h1 b (k3 x b hb).1) (fun b hb => h2 b hb.2), k3, k4⟩, h.zm, fun b hb => ⟨(h.zlt b hb).1, Nat.lt_of_lt_of_le (h.zlt b hb).2 q.size⟩, Nat.le_trans h.n0 q.size⟩
theorem Kn.keepF {n0 : Nat} {ok : Nat → Prop} {m : Nat} {Z : Nat → Prop} {M : List T} {W W' : World} (h : Kn n0 ok m Z M W) (q : Keep (fun _ => False) W W') : Kn n0 ok m Z M W' := h.keep q (fun _ _ h => h) (fun _ _ h => h)
theorem Kn.new (w : World) (ok : Nat → Prop) (n0 : Nat) (hn : n0 ≤ w.heap.size) : Kn n0 ok w.heap.size (fun b => b = w.heap.size) [] (w.alloc (.map #[] 0)) :=
  ⟨⟨fun _ => none, KM.new w, fun x => OE.nil _ _, (fun _ _ hg => by cases hg), (fun _ _ _ hg => by cases hg)⟩, rfl, (fun b hb => ⟨by omega, by subst hb; simp⟩), by simp; omega⟩
end Go.Proofs.YtfpijkcaceoboaaDoor.P10
