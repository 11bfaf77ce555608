/- The code's digest, node by node (layer 10): it is told by what the expression is. -/
import Derived.Test.YtfpijkcaceoboaaDoorKK29
import Derived.Test.YtfpijkcaceoboaaDoorKK30
import Derived.Test.YtfpijkcaceoboaaDoorKK26
import Derived.Test.YtfpijkcaceoboaaDoorKK34
import Derived.Test.YtfpijkcaceoboaaDoorKK24
namespace Go.Proofs.YtfpijkcaceoboaaDoor.P10
open Go.RowKit Go.Proofs.YtfpijkcaceoboaaDoor.Base Go.Proofs.YtfpijkcaceoboaaDoor.Bytes Go.Proofs.YtfpijkcaceoboaaDoor.P07 Go.Proofs.YtfpijkcaceoboaaDoor.P08
open Go.Proofs.YtfpijkcaceoboaaDoor.Sets (ST)

def rot (x : Int) : Int := Go.bits .or .u64 (IntKind.u64.wrap (x * 4294967296)) (x / 4294967296)
/-- A node's own words; what they make of the sum. -/
def word (t : T) : Nat → Int
  | 0 => IntKind.u64.wrap t.kind
  | 1 => t.set.x0
  | 2 => t.set.x1
  | 3 => t.set.x2
  | 4 => t.set.x3
  | 5 => IntKind.u64.wrap t.mn
  | 6 => IntKind.u64.wrap t.mx
  | _ => IntKind.u64.wrap t.subs.length
def stp (s v : Int) : Int := IntKind.u64.wrap (rot (IntKind.u64.wrap (Go.bits .xor .u64 s v * 11400714819323198485)) * 11400714819323198485)
def mixN (t : T) (s : Int) : Nat → Int
  | 0 => s
  | k + 1 => stp (mixN t s k) (word t k)
def mix (s : Int) (t : T) : Int := mixN t s 8
end Go.Proofs.YtfpijkcaceoboaaDoor.P10
/- The code's unfolded (layer 10). -/
namespace Go.Proofs.YtfpijkcaceoboaaDoor.P10
open Go.RowKit Go.Proofs.YtfpijkcaceoboaaDoor.Base Go.Proofs.YtfpijkcaceoboaaDoor.Bytes Go.Proofs.YtfpijkcaceoboaaDoor.P07 Go.Proofs.YtfpijkcaceoboaaDoor.P08
open Go.Proofs.YtfpijkcaceoboaaDoor.Sets (ST)

theorem len_cntL : ∀ L : List T, L.length ≤ cntL L
  | [] => Nat.le_refl _
  | t :: L => by
    have := len_cntL L
    have := P09.cnt_pos t
    rw [List.length_cons, cntL]
    omega
theorem unf_append (k : Int) (L M : List T) : unf k (L ++ M) = unf k L ++ unf k M := List.flatMap_append ..
theorem unf_take {k : Int} {L : List T} {i : Nat} {t : T} (h : L[i]? = some t) : unf k (L.take (i + 1)) = unf k (L.take i) ++ (if t.kind = k then t.subs else [t]) := by
  rw [List.take_add_one, h, unf_append]
  congr 1
  show unf k [t] = _
  rw [unf_cons]
  exact List.append_nil _
theorem cntL_take (L : List T) (i : Nat) : cntL (L.take i) ≤ cntL L := by
  have h := cntL_append (L.take i) (L.drop i)
  rw [List.take_append_drop] at h
  omega
theorem unf_len (k : Int) (L : List T) (i : Nat) : (unf k (L.take i)).length ≤ cntL L := by
  have h1 := len_cntL (unf k (L.take i))
  have h2 := cntL_unf k (L.take i)
  have h3 := cntL_take L i
  omega

/-- A row under construction, beside a list that lies below it. -/
structure InU (w : World) (ok : Nat → Prop) (u : Value) (M : List T) (W : World) : Prop where
  row : OE W (fun j => ok j ∧ j < w.heap.size) u M
  own : Own w.heap.size u
  keep : Keep (fun _ => False) w W
theorem InU.start (w : World) (ok : Nat → Prop) : InU w ok (.slice none 0 0) [] w := ⟨OE.nil _ _, Own.nil _, Keep.refl _ _⟩
theorem InU.next {w : World} {ok : Nat → Prop} {u : Value} {M : List T} {W W' : World} (h : InU w ok u M W) (q : Keep (fun _ => False) W W') : InU w ok u M W' := ⟨h.row.keep q (fun _ _ h => h) (fun _ _ h => h), h.own, h.keep.trans q⟩
theorem InU.lie {w : World} {ok : Nat → Prop} {u : Value} {M : List T} {W : World} (h : InU w ok u M W) {a : Option Addr} {L : List T} (hl : Lie w ok a L) : Lie W (fun j => ok j ∧ j < w.heap.size) a L := hl.under.keepF h.keep
theorem InU.apart {w : World} {ok : Nat → Prop} {u : Value} {M : List T} {W : World} (h : InU w ok u M W) : ∀ g, u.ownBlock = some g → ¬ (ok g ∧ g < w.heap.size) := fun g hg e => by have := h.own g hg; omega
theorem InU.form {w : World} {ok : Nat → Prop} {u : Value} {M : List T} {W : World} (h : InU w ok u M W) : ∃ a cap, u = .slice a M.length cap ∧ M.length ≤ cap ∧ Lie W (fun j => ok j ∨ w.heap.size ≤ j) a M := by
  obtain ⟨a, cap, h1, h2, h3⟩ := h.row.lie h.own
  exact ⟨a, cap, h1, h2, h3.mono fun j hj => by rcases hj with hj | hj; exact .inl hj.1; exact .inr hj⟩
/-- All nodes of a list more. -/
theorem InU.append {w : World} {ok : Nat → Prop} {u : Value} {M : List T} {W : World} (h : InU w ok u M W) (L : List T) (a : Option Addr) (c : Nat) (hl : Lie W (fun j => ok j ∧ j < w.heap.size) a L) (hlen : M.length + L.length ≤ 1000000) (ty : TypeId) :
    ∃ v' w', (Builtin.append_ #[25, 25] ty #[u, .slice a L.length c]).run Tryd.prog W = .ok v' w' ∧ InU w ok v' (M ++ L) w' := by
  obtain ⟨v', w', hrun, g1, g2, g3⟩ := h.row.append h.apart L a c hl (by omega) ty
  exact ⟨v', w', hrun, g1, h.own.next h.keep.size g3, h.keep.next g2 (fun i hi hl => by have := h.own i hi; omega)⟩
/-- One node more. -/
theorem InU.push {w : World} {ok : Nat → Prop} {u : Value} {M : List T} {W : World} (h : InU w ok u M W) (t : T) (a : Option Addr) (c : Nat) (hc : t.subs.length ≤ c) (hl : Lie W (fun j => ok j ∧ j < w.heap.size) a t.subs) (hlen : M.length ≤ 1000000) (ty : TypeId) :
    ∃ v' w', (Builtin.append_ #[25, 25] ty #[u, .slice (some ⟨W.heap.size, 0, none⟩) 1 1]).run Tryd.prog (W.alloc (.cells (ncells t a c) 27)) = .ok v' w' ∧ InU w ok v' (M ++ [t]) w' := by
  obtain ⟨v', w', hrun, g1, g2, g3⟩ := h.row.push h.apart t a c hc hl (by omega) ty
  exact ⟨v', w', hrun, g1, h.own.next h.keep.size g3, h.keep.next g2 (fun i hi hl => by have := h.own i hi; omega)⟩

end Go.Proofs.YtfpijkcaceoboaaDoor.P10
/- The code's digest (layer 10): it is told by what the expression is. -/
namespace Go.Proofs.YtfpijkcaceoboaaDoor.P10
open Go.RowKit Go.Proofs.YtfpijkcaceoboaaDoor.Base Go.Proofs.YtfpijkcaceoboaaDoor.Bytes Go.Proofs.YtfpijkcaceoboaaDoor.P07 Go.Proofs.YtfpijkcaceoboaaDoor.P08
open Go.Proofs.YtfpijkcaceoboaaDoor.Sets (ST)

def dgS : Nat → Int → List (List T) → Int
  | 0, s, _ => s
  | _ + 1, s, [] => s
  | n + 1, s, L :: S => dgS n (L.foldl mix s) ((nextL L).reverse ++ S)
def dg (t : T) : Int := dgS (cnt t + 1) 0 [[t]]

/-- The stack, and what is summed up so far. -/
structure InG (w : World) (n0 : Nat) (D : Int) (n : Nat) (s : Int) (u : Value) (X : List LR) (W : World) : Prop where
  row : OR W n0 u X
  eq : dgS n s (X.map (·.la)).reverse = D
  lt : cntLL (X.map (·.la)) < n
  some : ∀ L ∈ X.map (·.la), L ≠ []
  keep : Keep (fun _ => False) w W
  low : w.heap.size ≤ n0
  up : n ≤ 500001
  size : n0 ≤ W.heap.size

end Go.Proofs.YtfpijkcaceoboaaDoor.P10
