/- What the calls of the tree of free places (package arena) do to a node: a plain model of a node, and one contract for each function. -/
import Derived.Test.YtklknkeanmjhnaaBase
import Derived.Test.YtklknkeanmjhnaaChecked
import Derived.Outline
import Derived.BigRegion
import Derived.Deep.RegionHeld3
import Derived.Deep.DeepCutAuto
import Derived.Deep.CutBlock
import Derived.Deep.LoopGhost
namespace Go.Proofs.Ytklknkeanmjhnaa.Stretch
open Go.RowKit Go.Proofs.Ytklknkeanmjhnaa.Base

/-- The six cells of a node. -/
structure NV where
  size : Int
  front : Int
  back : Int
  most : Int
  left : Option Nat
  right : Option Nat

def kid (k : Option Nat) : Value := .pointer (k.map fun b => ⟨b, 0, none⟩)

def NV.at (s : NV) (vs : Array Value) (o : Nat) : Prop :=
  vs[o]? = some (.int .i64 s.size) ∧ vs[o + 1]? = some (.int .i64 s.front) ∧ vs[o + 2]? = some (.int .i64 s.back) ∧ vs[o + 3]? = some (.int .i64 s.most) ∧ vs[o + 4]? = some (kid s.left) ∧ vs[o + 5]? = some (kid s.right)

/-- At block b, from cell o on, stands the node s. -/
def Nd (w : World) (b o : Nat) (s : NV) : Prop := ∃ t vs, At w b t vs ∧ s.at vs o

/-- Of block b no cell has turned but those of the node at o. -/
def Sub (b o : Nat) (w w' : World) : Prop := ∀ t vs, At w b t vs → ∃ vs', At w' b t vs' ∧ vs'.size = vs.size ∧ ∀ j, (j < o ∨ o + 6 ≤ j) → vs'[j]? = vs[j]?

theorem Sub.refl (b o : Nat) (w : World) : Sub b o w w := fun _ vs h => ⟨vs, h, rfl, fun _ _ => rfl⟩

theorem Sub.trans {b o : Nat} {w w' w'' : World} (h : Sub b o w w') (k : Sub b o w' w'') : Sub b o w w'' := fun t vs hv => by
  obtain ⟨v1, h1, z1, e1⟩ := h t vs hv
  obtain ⟨v2, h2, z2, e2⟩ := k t v1 h1
  exact ⟨v2, h2, z2.trans z1, fun j hj => (e2 j hj).trans (e1 j hj)⟩

theorem Sub.drewN {b o : Nat} {w w' : World} (h : Sub b o w w') (n : Nat) : Sub b o w (w'.drewN n) := h
theorem Sub.drew {b o : Nat} {w w' : World} (h : Sub b o w w') : Sub b o w w'.drew := h

theorem Sub.keep {b o : Nat} {w w' : World} {S : Nat → Prop} (h : Keep S w w') (hn : ¬ S b) : Sub b o w w' := fun _ vs hv => ⟨vs, hv.keep h hn, rfl, fun _ _ => rfl⟩

theorem Sub.set {b o : Nat} {w w' : World} (h : Sub b o w w') {j : Nat} (h1 : o ≤ j) (h2 : j < o + 6) (u : Value) : Sub b o w (w'.setCell ⟨b, j, none⟩ u) := fun t vs hv => by
  obtain ⟨v1, e1, z1, q1⟩ := h t vs hv
  refine ⟨_, e1.set j u, by simp [z1], fun i hi => ?_⟩
  rw [Array.getElem?_setIfInBounds_ne (by omega)]
  exact q1 i hi

theorem Nd.cells {w : World} {b o : Nat} {s : NV} (h : Nd w b o s) :
    w.cell? ⟨b, o, none⟩ = some (.int .i64 s.size) ∧ w.cell? ⟨b, o + 1, none⟩ = some (.int .i64 s.front) ∧ w.cell? ⟨b, o + 2, none⟩ = some (.int .i64 s.back) ∧
    w.cell? ⟨b, o + 3, none⟩ = some (.int .i64 s.most) ∧ w.cell? ⟨b, o + 4, none⟩ = some (kid s.left) ∧ w.cell? ⟨b, o + 5, none⟩ = some (kid s.right) ∧
    (∀ j, w.frozen? ⟨b, j, none⟩ = false) := by
  obtain ⟨t, vs, ha, h0, h1, h2, h3, h4, h5⟩ := h
  exact ⟨ha.cell h0, ha.cell h1, ha.cell h2, ha.cell h3, ha.cell h4, ha.cell h5, fun j => ha.frozen j⟩

theorem Nd.lt {w : World} {b o : Nat} {s : NV} (h : Nd w b o s) : b < w.heap.size := by
  obtain ⟨t, vs, ha, _⟩ := h
  exact ha.lt

theorem Nd.keep {S : Nat → Prop} {w w' : World} {b o : Nat} {s : NV} (h : Nd w b o s) (k : Keep S w w') (hn : ¬ S b) : Nd w' b o s := by
  obtain ⟨t, vs, ha, hs⟩ := h
  exact ⟨t, vs, ha.keep k hn, hs⟩

theorem Nd.drewN {w : World} {b o : Nat} {s : NV} (h : Nd w b o s) (n : Nat) : Nd (w.drewN n) b o s := h
theorem Nd.drew {w : World} {b o : Nat} {s : NV} (h : Nd w b o s) : Nd w.drew b o s := h

theorem Nd.setFront {w : World} {b o : Nat} {s : NV} (h : Nd w b o s) (u : Int) : Nd (w.setCell ⟨b, o + 1, none⟩ (.int .i64 u)) b o { s with front := u } := by
  obtain ⟨t, vs, ha, h0, h1, h2, h3, h4, h5⟩ := h
  have hz := (Array.getElem?_eq_some_iff.1 h1).1
  refine ⟨t, _, ha.set _ _, ?_⟩
  simp only [NV.at, Array.getElem?_setIfInBounds]
  simp [h0, h2, h3, h4, h5, hz]

theorem Nd.setBack {w : World} {b o : Nat} {s : NV} (h : Nd w b o s) (u : Int) : Nd (w.setCell ⟨b, o + 2, none⟩ (.int .i64 u)) b o { s with back := u } := by
  obtain ⟨t, vs, ha, h0, h1, h2, h3, h4, h5⟩ := h
  have hz := (Array.getElem?_eq_some_iff.1 h2).1
  refine ⟨t, _, ha.set _ _, ?_⟩
  simp only [NV.at, Array.getElem?_setIfInBounds]
  simp [h0, h1, h3, h4, h5, hz]

theorem Nd.setMost {w : World} {b o : Nat} {s : NV} (h : Nd w b o s) (u : Int) : Nd (w.setCell ⟨b, o + 3, none⟩ (.int .i64 u)) b o { s with most := u } := by
  obtain ⟨t, vs, ha, h0, h1, h2, h3, h4, h5⟩ := h
  have hz := (Array.getElem?_eq_some_iff.1 h3).1
  refine ⟨t, _, ha.set _ _, ?_⟩
  simp only [NV.at, Array.getElem?_setIfInBounds]
  simp [h0, h1, h2, h4, h5, hz]

theorem Nd.setLeft {w : World} {b o : Nat} {s : NV} (h : Nd w b o s) (u : Option Nat) : Nd (w.setCell ⟨b, o + 4, none⟩ (kid u)) b o { s with left := u } := by
  obtain ⟨t, vs, ha, h0, h1, h2, h3, h4, h5⟩ := h
  have hz := (Array.getElem?_eq_some_iff.1 h4).1
  refine ⟨t, _, ha.set _ _, ?_⟩
  simp only [NV.at, Array.getElem?_setIfInBounds]
  simp [h0, h1, h2, h3, h5, hz]

theorem Nd.setRight {w : World} {b o : Nat} {s : NV} (h : Nd w b o s) (u : Option Nat) : Nd (w.setCell ⟨b, o + 5, none⟩ (kid u)) b o { s with right := u } := by
  obtain ⟨t, vs, ha, h0, h1, h2, h3, h4, h5⟩ := h
  have hz := (Array.getElem?_eq_some_iff.1 h5).1
  refine ⟨t, _, ha.set _ _, ?_⟩
  simp only [NV.at, Array.getElem?_setIfInBounds]
  simp [h0, h1, h2, h3, h4, hz]

/-- The pointer to a node. -/
abbrev np (b o : Nat) : Value := .pointer (some ⟨b, o, none⟩)

/-- A node all of whose places are free, or had. -/
def NV.fill (s : NV) (f : Bool) : NV := ⟨s.size, if f then s.size else 0, if f then s.size else 0, if f then s.size else 0, none, none⟩

/-- What a call that turns one node says. -/
def Turns (b o : Nat) (w : World) (s' : NV) (e : Ending) (w' : World) : Prop :=
  e = .returned (.tuple #[]) ∧ Nd w' b o s' ∧ Sub b o w w' ∧ Keep (· = b) w w' ∧ w'.heap.size = w.heap.size

/-- The world in which the node at b, o is filled with u. -/
def fillW (w : World) (b o : Nat) (u : Int) : World :=
  ((((w.setCell ⟨b, o + 1, none⟩ (.int .i64 u)).setCell ⟨b, o + 2, none⟩ (.int .i64 u)).setCell ⟨b, o + 3, none⟩ (.int .i64 u)).setCell ⟨b, o + 4, none⟩ (.pointer none)).setCell ⟨b, o + 5, none⟩ (.pointer none)

theorem fillW_nd {w : World} {b o : Nat} {s : NV} (h : Nd w b o s) (u : Int) : Nd (fillW w b o u) b o ⟨s.size, u, u, u, none, none⟩ :=
  ((((h.setFront u).setBack u).setMost u).setLeft none).setRight none

theorem fillW_sub {w w' : World} {b o : Nat} (h : Sub b o w w') (u : Int) : Sub b o w (fillW w' b o u) :=
  ((((h.set (by omega) (by omega) _).set (by omega) (by omega) _).set (by omega) (by omega) _).set (by omega) (by omega) _).set (by omega) (by omega) _

theorem fillW_keep {w w' : World} {S : Nat → Prop} {b o : Nat} (h : Keep S w w') (hb : b < w.heap.size → S b) (u : Int) : Keep S w (fillW w' b o u) :=
  ((((h.setCell hb _).setCell hb _).setCell hb _).setCell hb _).setCell hb _

theorem fillW_size (w : World) (b o : Nat) (u : Int) : (fillW w b o u).heap.size = w.heap.size := by simp [fillW]

theorem fill_w (b o : Nat) (s : NV) (f : Bool) (w : World) (h : Nd w b o s) :
    Calls Try.prog 58 #[np b o, .bool f] w fun e w' => e = .returned (.tuple #[]) ∧ w' = fillW w b o (if f then s.size else 0) := by
  obtain ⟨size, front, back, most, left, right⟩ := s
  obtain ⟨k0, k1, k2, k3, k4, k5, fz⟩ := h.cells
  simp only at k0 k1 k2 k3 k4 k5
  have f1 := fz (o + 1)
  have f2 := fz (o + 2)
  have f3 := fz (o + 3)
  have f4 := fz (o + 4)
  have f5 := fz (o + 5)
  clear h fz
  cases f
  · go_enter Try.func58, Try.ntmps58
    go_wp2
    go_end0
    exact ⟨rfl, rfl⟩
  · go_enter Try.func58, Try.ntmps58
    go_wp2
    go_end0
    exact ⟨rfl, rfl⟩

theorem fill_any (b o : Nat) (s : NV) (f : Bool) (w : World) (h : Nd w b o s) :
    Calls Try.prog 58 #[np b o, .bool f] w (Turns b o w (s.fill f)) :=
  (fill_w b o s f w h).mono fun _ _ ⟨he, hw⟩ => by
    subst hw
    exact ⟨he, fillW_nd h _, fillW_sub (Sub.refl b o w) _, fillW_keep (Keep.refl (· = b) w) (fun _ => rfl) _, fillW_size _ _ _ _⟩

/-- The cells of a node of n places that is all free (u = n), or had (u = 0), and has no halves. -/
def plain (n u : Int) : Array Value := #[.int .i64 n, .int .i64 u, .int .i64 u, .int .i64 u, .pointer none, .pointer none]

theorem plain_at (n u : Int) : NV.at ⟨n, u, u, u, none, none⟩ (plain n u) 0 := ⟨rfl, rfl, rfl, rfl, rfl, rfl⟩

theorem setCell_new (w : World) (vs : Array Value) (t : TypeId) (j : Nat) (u : Value) : (w.alloc (.cells vs t)).setCell ⟨w.heap.size, j, none⟩ u = w.alloc (.cells (vs.setIfInBounds j u) t) := by
  simp only [World.setCell, World.alloc]
  congr 1
  apply Array.ext
  · simp
  · intro i h1 h2
    simp only [Array.getElem_modify, Array.getElem_push]
    split <;> split <;> simp_all <;> omega

theorem new_w (n : Int) (w : World) :
    Calls Try.prog 46 #[.int .i64 n] w fun e w' => e = .returned (np w.heap.size 0) ∧ w' = w.alloc (.cells (plain n n) 79) := by
  have hN : Nd (w.alloc (.cells #[.int .i64 n, .int .i64 0, .int .i64 0, .int .i64 0, .pointer none, .pointer none] 79)) w.heap.size 0 ⟨n, 0, 0, 0, none, none⟩ :=
    ⟨_, _, At.new w _ _, rfl, rfl, rfl, rfl, rfl, rfl⟩
  go_enter Try.func46, Try.ntmps46
  go_wp2_with (go_at_call 58; refine (fill_w w.heap.size 0 _ true _ hN).mono ?_; rintro e w1 ⟨rfl, rfl⟩)
  go_ret
  refine ⟨rfl, ?_⟩
  simp only [fillW, setCell_new]
  rfl

/-- What the world holds when the halves of a node have been made. -/
def Halves (b o : Nat) (n m : Int) (w W : World) : Prop :=
  Nd W b o ⟨n, m, m, m, some w.heap.size, some (w.heap.size + 1)⟩ ∧ Nd W w.heap.size 0 ⟨n / 2, n / 2, n / 2, n / 2, none, none⟩ ∧
  Nd W (w.heap.size + 1) 0 ⟨n - n / 2, n - n / 2, n - n / 2, n - n / 2, none, none⟩ ∧ Sub b o w W ∧ Keep (· = b) w W

theorem halves_made (b o : Nat) (n m : Int) (w : World) (h : Nd w b o ⟨n, m, m, m, none, none⟩) :
    Halves b o n m w ((((w.setCell ⟨b, o + 4, none⟩ (.pointer (some ⟨w.heap.size, 0, none⟩))).setCell ⟨b, o + 5, none⟩ (.pointer (some ⟨w.heap.size + 1, 0, none⟩))).alloc (.cells (plain (n / 2) (n / 2)) 79)).alloc (.cells (plain (n - n / 2) (n - n / 2)) 79)).drew := by
  have h1 : Nd ((w.setCell ⟨b, o + 4, none⟩ (.pointer (some ⟨w.heap.size, 0, none⟩))).setCell ⟨b, o + 5, none⟩ (.pointer (some ⟨w.heap.size + 1, 0, none⟩))) b o ⟨n, m, m, m, some w.heap.size, some (w.heap.size + 1)⟩ := (h.setLeft (some w.heap.size)).setRight (some (w.heap.size + 1))
  have s1 : Sub b o w ((w.setCell ⟨b, o + 4, none⟩ (.pointer (some ⟨w.heap.size, 0, none⟩))).setCell ⟨b, o + 5, none⟩ (.pointer (some ⟨w.heap.size + 1, 0, none⟩))) := ((Sub.refl b o w).set (by omega) (by omega) _).set (by omega) (by omega) _
  have q1 : Keep (· = b) w ((w.setCell ⟨b, o + 4, none⟩ (.pointer (some ⟨w.heap.size, 0, none⟩))).setCell ⟨b, o + 5, none⟩ (.pointer (some ⟨w.heap.size + 1, 0, none⟩))) := ((Keep.refl (· = b) w).setCell (fun _ => rfl) _).setCell (fun _ => rfl) _
  have z1 : ((w.setCell ⟨b, o + 4, none⟩ (.pointer (some ⟨w.heap.size, 0, none⟩))).setCell ⟨b, o + 5, none⟩ (.pointer (some ⟨w.heap.size + 1, 0, none⟩))).heap.size = w.heap.size := by simp
  generalize (w.setCell ⟨b, o + 4, none⟩ (.pointer (some ⟨w.heap.size, 0, none⟩))).setCell ⟨b, o + 5, none⟩ (.pointer (some ⟨w.heap.size + 1, 0, none⟩)) = W1 at *
  have a2 := At.new W1 (plain (n / 2) (n / 2)) 79
  have a3 := At.new (W1.alloc (.cells (plain (n / 2) (n / 2)) 79)) (plain (n - n / 2) (n - n / 2)) 79
  have z2 : (W1.alloc (.cells (plain (n / 2) (n / 2)) 79)).heap.size = w.heap.size + 1 := by simp [z1]
  have q2 : Keep (fun _ => False) W1 ((W1.alloc (.cells (plain (n / 2) (n / 2)) 79)).alloc (.cells (plain (n - n / 2) (n - n / 2)) 79)).drew := (((Keep.refl _ W1).alloc _).alloc _).drew
  rw [z2] at a3
  rw [z1] at a2
  exact ⟨h1.keep q2 id, ⟨_, _, a2.alloc _, plain_at _ _⟩, ⟨_, _, a3, plain_at _ _⟩, s1.trans (Sub.keep q2 id), q1.trans (q2.mono fun _ => False.elim)⟩

/-- What split says of its node. -/
def Splits (b o : Nat) (n : Int) (f : Bool) (w : World) (e : Ending) (w' : World) : Prop :=
  e = .returned (.tuple #[]) ∧ ∃ bl br, bl ≠ br ∧ w.heap.size ≤ bl ∧ w.heap.size ≤ br ∧
      Nd w' b o ⟨n, if f then n else 0, if f then n else 0, if f then n else 0, some bl, some br⟩ ∧
      Nd w' bl 0 ⟨n / 2, if f then n / 2 else 0, if f then n / 2 else 0, if f then n / 2 else 0, none, none⟩ ∧
      Nd w' br 0 ⟨n - n / 2, if f then n - n / 2 else 0, if f then n - n / 2 else 0, if f then n - n / 2 else 0, none, none⟩ ∧
      Sub b o w w' ∧ Keep (· = b) w w'

theorem split_free (b o : Nat) (n : Int) (w : World) (h : Nd w b o ⟨n, n, n, n, none, none⟩) (n2 : 2 ≤ n) (n20 : n ≤ 1048576) :
    Calls Try.prog 64 #[np b o] w (Splits b o n true w) := by
  obtain ⟨k0, k1, k2, k3, k4, k5, fz⟩ := h.cells
  simp only at k0 k1 k2 k3 k4 k5
  have f4 := fz (o + 4)
  have f5 := fz (o + 5)
  have hb := h.lt
  have hw : IntKind.i64.wrap (n - n / 2) = n - n / 2 := by rw [IntKind.wrap_i64]; omega
  have hF := Lib.hid (halves_made b o n n w h)
  clear fz k1 k2
  go_enter Try.func64, Try.ntmps64
  go_wp2_with fail
  go_region_with (go_at_call 46; refine (new_w _ _).mono ?_; rintro e w1 ⟨rfl, rfl⟩)
  all_goals
    have hF := hF.out
    clear hw k0 k3 k4 k5 f4 f5 h
    generalize ((((w.setCell ⟨b, o + 4, none⟩ (.pointer (some ⟨w.heap.size, 0, none⟩))).setCell ⟨b, o + 5, none⟩ (.pointer (some ⟨w.heap.size + 1, 0, none⟩))).alloc (.cells (plain (n / 2) (n / 2)) 79)).alloc (.cells (plain (n - n / 2) (n - n / 2)) 79)).drew = W at *
    obtain ⟨g1, g2, g3, g4, g5⟩ := hF
    have k3 : W.cell? ⟨b, o + 3, none⟩ = some (.int .i64 n) := g1.cells.2.2.2.1
    have hn : (n == 0) = false := by simp; omega
    go_wp2
    go_end0
    exact ⟨rfl, _, _, by omega, Nat.le_refl _, by omega, g1, g2, g3, g4, g5⟩

theorem split_had (b o : Nat) (n : Int) (w : World) (h : Nd w b o ⟨n, 0, 0, 0, none, none⟩) (n2 : 2 ≤ n) (n20 : n ≤ 1048576) :
    Calls Try.prog 64 #[np b o] w (Splits b o n false w) := by
  obtain ⟨k0, k1, k2, k3, k4, k5, fz⟩ := h.cells
  simp only at k0 k1 k2 k3 k4 k5
  have f4 := fz (o + 4)
  have f5 := fz (o + 5)
  have hb := h.lt
  have hw : IntKind.i64.wrap (n - n / 2) = n - n / 2 := by rw [IntKind.wrap_i64]; omega
  have hF := Lib.hid (halves_made b o n 0 w h)
  clear fz k1 k2
  go_enter Try.func64, Try.ntmps64
  go_wp2_with fail
  go_region_with (go_at_call 46; refine (new_w _ _).mono ?_; rintro e w1 ⟨rfl, rfl⟩)
  all_goals
    have hF := hF.out
    clear hw k0 k3 k4 k5 f4 f5 h
    generalize ((((w.setCell ⟨b, o + 4, none⟩ (.pointer (some ⟨w.heap.size, 0, none⟩))).setCell ⟨b, o + 5, none⟩ (.pointer (some ⟨w.heap.size + 1, 0, none⟩))).alloc (.cells (plain (n / 2) (n / 2)) 79)).alloc (.cells (plain (n - n / 2) (n - n / 2)) 79)).drew = W at *
    obtain ⟨g1, g2, g3, g4, g5⟩ := hF
    have k3 : W.cell? ⟨b, o + 3, none⟩ = some (.int .i64 0) := g1.cells.2.2.2.1
    have k4 : W.cell? ⟨b, o + 4, none⟩ = some (.pointer (some ⟨w.heap.size, 0, none⟩)) := g1.cells.2.2.2.2.1
    go_wp2_with fail
    refine (fill_any w.heap.size 0 _ false W g2).mono ?_
    rintro e w1 ⟨rfl, n1, s1, q1, z1⟩
    have hbw : b ≠ w.heap.size := by omega
    have k5 : w1.cell? ⟨b, o + 5, none⟩ = some (.pointer (some ⟨w.heap.size + 1, 0, none⟩)) := (g1.keep q1 hbw).cells.2.2.2.2.2.1
    clear z1 k3 k4
    go_wp2_with fail
    refine (fill_any (w.heap.size + 1) 0 _ false w1 (g3.keep q1 (by omega))).mono ?_
    rintro e w2 ⟨rfl, n2, s2, q2, z2⟩
    clear z2 k5
    go_wp2
    go_end0
    have hbw2 : b ≠ w.heap.size + 1 := by omega
    refine ⟨rfl, _, _, by omega, Nat.le_refl _, by omega, (g1.keep q1 hbw).keep q2 hbw2, n1.keep q2 (by omega), n2, (g4.trans (Sub.keep q1 hbw)).trans (Sub.keep q2 hbw2), (g5.next q1 fun i e h => ?_).next q2 fun i e h => ?_⟩ <;> omega

theorem split_any (b o : Nat) (n : Int) (f : Bool) (w : World) (h : Nd w b o ⟨n, if f then n else 0, if f then n else 0, if f then n else 0, none, none⟩) (n2 : 2 ≤ n) (n20 : n ≤ 1048576) :
    Calls Try.prog 64 #[np b o] w (Splits b o n f w) := by
  cases f
  · exact split_had b o n w h n2 n20
  · exact split_free b o n w h n2 n20

end Go.Proofs.Ytklknkeanmjhnaa.Stretch
