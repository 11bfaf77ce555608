/- The document's All and Longest (layer 11). -/
import Derived.Test.YthcjfgfbeollpaaKE34
import Derived.Test.YthcjfgfbeollpaaKE16
namespace Go.Proofs.Ythcjfgfbeollpaa.P11
open Go.RowKit Go.Proofs.Ythcjfgfbeollpaa.Base Go.Proofs.Ythcjfgfbeollpaa.Bytes Go.Proofs.Ythcjfgfbeollpaa.P07 Go.Proofs.Ythcjfgfbeollpaa.P08 Go.Proofs.Ythcjfgfbeollpaa.P09 Go.Proofs.Ythcjfgfbeollpaa.IL
open Go.Proofs.Ythcjfgfbeollpaa.Sets (ST)

/-- The one place f. -/
def oneP (n f : Nat) : List Bool := (noB n).set f true
theorem oneP_length (n f : Nat) : (oneP n f).length = n + 1 := by
  unfold oneP
  rw [List.length_set, noB_length]
theorem oneP_on {n f : Nat} (hf : f ≤ n) (j : Nat) : On (oneP n f) j ↔ j = f := by
  unfold oneP
  by_cases e : j = f
  · subst e
    rw [On.some (b := true) (by rw [List.getElem?_set, if_pos rfl, if_pos (by rw [noB_length]; omega)])]
    simp
  · constructor
    · intro h
      have h1 := h.lt
      rw [List.length_set, noB_length] at h1
      rw [On.some (b := false) (by rw [List.getElem?_set, if_neg (fun h => e h.symm)]; simp [noB, h1])] at h
      cases h
    · exact fun h => absurd h e
/-- A place at which a match from f ends. -/
def EndAt (s : List UInt8) (t : T) (f j : Nat) : Prop := f ≤ j ∧ j ≤ s.length ∧ P10.Mat t (seg s f j)
/-- The row of these places. -/
def rowT (s : List UInt8) (t : T) (f : Nat) : List Bool := stepB s t (oneP s.length f)
theorem rowT_ok {s : List UInt8} {t : T} {d f : Nat} (hR : RT d t) (hf : f ≤ s.length) : (rowT s t f).length = s.length + 1 ∧ ∀ j, On (rowT s t f) j ↔ EndAt s t f j := by
  obtain ⟨h1, h2⟩ := step_ok s _ t (Nat.lt_succ_self _) d hR (oneP s.length f) (oneP_length _ _)
  refine ⟨h1, fun j => ?_⟩
  unfold rowT
  rw [h2 j]
  constructor
  · rintro ⟨i, a1, a2, a3, a4⟩
    rw [(oneP_on hf i).1 a1] at a2 a4
    exact ⟨a2, a3, a4⟩
  · rintro ⟨a2, a3, a4⟩
    exact ⟨f, (oneP_on hf f).2 rfl, a2, a3, a4⟩
/-- The places of a row, rising. -/
def plc (X : List Bool) (k : Nat) : List Int := lst (fun j => X.getD j false) k
def endsI (s : List UInt8) (t : T) (f : Nat) : List Int := plc (rowT s t f) (s.length + 1)
theorem plc_succ (X : List Bool) (k : Nat) : plc X (k + 1) = if X.getD k false = true then plc X k ++ [(k : Int)] else plc X k := by
  unfold plc
  rw [lst]
theorem plc_length (X : List Bool) : ∀ k, (plc X k).length ≤ k
  | 0 => by simp [plc, lst]
  | k + 1 => by
    rw [plc_succ]
    have := plc_length X k
    split
    · rw [List.length_append, List.length_singleton]
      omega
    · omega

set_option maxRecDepth 100000 in
set_option maxHeartbeats 4000000 in
theorem fall_any (t : T) (d : Nat) (hR : RT d t) (s : List UInt8) (hsl : s.length ≤ 100) (f : Nat) (hf : f ≤ s.length) (a : Option Addr) (c : Nat) (w : World) (hL : Lie w (fun _ => True) a t.subs) :
    Calls Try.prog 24 #[nodeV t a c, .string ⟨s.toArray⟩, .int .i64 (f : Int)] w (IsList (endsI s t f) w) := by
  have hsz := P07.size_str s
  have hmk := make_bools (s.length + 1) (by omega) (w.alloc (.cells (ncells t a c) 27))
  have c0 := At.new (w.alloc (.cells (ncells t a c) 27)) (bcells (noB s.length)) 4
  rw [show ((s.length + 1 : Nat) : Int) = (s.length : Int) + 1 from by omega, show List.replicate (s.length + 1) false = noB s.length from rfl] at hmk
  rw [show (w.alloc (.cells (ncells t a c) 27)).heap.size = w.heap.size + 1 from by simp] at hmk c0
  have qb := (Keep.refl (fun _ => False) (w.alloc (.cells (ncells t a c) 27))).alloc (.cells (bcells (noB s.length)) 4)
  have q0 := ((Keep.refl (fun _ => False) w).alloc (.cells (ncells t a c) 27)).trans qb
  have z0 := c0.cell (bcells_get (noB_get (m := s.length) (k := f) (by omega)))
  have f0 := c0.frozen f
  have q1 := q0.setCell (p := ⟨w.heap.size + 1, f, none⟩) (fun h => absurd h (by simp)) (.bool true)
  have qs := (Keep.refl (fun b => b = w.heap.size + 1) ((w.alloc (.cells (ncells t a c) 27)).alloc (.cells (bcells (noB s.length)) 4))).setCell (p := ⟨w.heap.size + 1, f, none⟩) (fun _ => rfl) (.bool true)
  have B1 := (((Bz.new (c := c) hL).keep qb (fun _ _ h => h)).keep qs (fun b hb h => by omega)).box
  obtain ⟨d0, d1, d2, d3, d4, d5, d6, d7⟩ := B1.eight
  have c1 := c0.set f (.bool true)
  rw [bcells_set, show (noB s.length).set f true = oneP s.length f from rfl] at c1
  have hcall := fstep_all _ t (Nat.lt_succ_self _) d hR s hsl (oneP s.length f) (oneP_length _ _) a c _ B1.lie (w.heap.size + 1) (s.length + 1) (RB.of c1)
  have hlen := (rowT_ok hR hf).1
  unfold IsStep at hcall
  rw [show stepB s t (oneP s.length f) = rowT s t f from rfl] at hcall
  have hE : endsI s t f = plc (rowT s t f) (s.length + 1) := rfl
  rw [hE]
  obtain ⟨R, hRw⟩ : ∃ R, rowT s t f = R := ⟨_, rfl⟩
  rw [hRw] at hcall hlen ⊢
  have H0 := Lib.hid (And.intro hcall q1)
  have HL := Lib.hid hlen
  have hf' : (f : Int) < (s.length : Int) + 1 := by omega
  have hf0 : (0 : Int) ≤ f := by omega
  clear hcall q1 hlen hRw hE c1 hL q0 hR c0 qb qs B1
  go_enter Try.func24, Try.ntmps24
  go_upto_region 2 with fail
  clear hmk
  generalize ((w.alloc (.cells (ncells t a c) 27)).alloc (.cells (bcells (noB s.length)) 4)) = W at *
  go_wp2_with fail
  refine H0.out.1.mono ?_
  rintro e w1 ⟨g1, rfl, hg1, hr1, q1⟩
  have H1 := Lib.hid (And.intro hr1 (H0.out.2.trans q1))
  clear hr1 q1 z0 f0 d0 d1 d2 d3 d4 d5 d6 d7
  go_wp2_with fail
  go_loopg [8, 9] (s.length + 1) (fun gg v i wr => ∃ k : Nat, i = .int .i64 k ∧ k + gg = s.length + 1 ∧ IL wr v (plc R k) ∧ (∀ g, v.ownBlock = some g → w1.heap.size ≤ g) ∧ Keep (fun _ => False) w1 wr)
  case atStart => exact ⟨0, rfl, by omega, IL.nil _, fun g hg => (by cases hg), Keep.refl _ _⟩
  case round =>
    obtain ⟨k, rfl, hk, hp, hb, hq⟩ := hrel
    by_cases hlt : k < s.length + 1
    · have hlt' : (k : Int) < (s.length : Int) + 1 := by omega
      have i0 : (0 : Int) ≤ k := by omega
      have e0 := (H1.out.1.keep hq (fun h => h)).cell (bcells_get (getD_get (L := R) (k := k) (by rw [HL.out]; exact hlt)))
      have hs := plc_succ R k
      obtain ⟨x, hx⟩ : ∃ x, R.getD k false = x := ⟨_, rfl⟩
      rw [hx] at e0 hs
      cases x with
      | false =>
        rw [if_neg (by decide)] at hs
        have H := Lib.hid (And.intro hp (And.intro hb (And.intro hq hs)))
        clear hp hb hq hs hx
        go_wp2_with fail
        go_roundg (s.length + 1 - (k + 1))
        case measure => omega
        case rel => exact ⟨k + 1, by go_num, by omega, by rw [H.out.2.2.2]; exact H.out.1, H.out.2.1, H.out.2.2.1⟩
      | true =>
        rw [if_pos rfl] at hs
        obtain ⟨v', w4, hrun, hp4, q4, hb4⟩ := hp.push (k : Int) (by have := plc_length R k; omega) 38
        have hbb : ∀ g, v'.ownBlock = some g → w1.heap.size ≤ g := fun g hg => by
          rcases hb4 g hg with h | h
          · exact hb g h
          · have := hq.size
            omega
        have hq4 : Keep (fun _ => False) w1 w4 := hq.next q4 (fun i hi hl => by have := hb i hi; omega)
        rw [← hs] at hp4
        have H := Lib.hid (And.intro hp4 (And.intro hbb hq4))
        clear hp hb hq hs hx hp4 q4 hb4 hbb hq4
        go_wp2_with (at_builtin; refine Lib.wpList_append_run _ rfl _ _ _ _ rfl _ _ rfl rfl _ _ hrun ?_)
        go_roundg (s.length + 1 - (k + 1))
        case measure => omega
        case rel => exact ⟨k + 1, by go_num, by omega, H.out.1, H.out.2.1, H.out.2.2⟩
    · have hke : k = s.length + 1 := by omega
      subst hke
      have H := Lib.hid (And.intro hp (And.intro hb hq))
      clear hp hb hq
      go_wp2_with fail
      go_ret
      exact ⟨_, rfl, H.out.1, fun g hg => Nat.le_trans H1.out.2.size (H.out.2.1 g hg), H1.out.2.trans H.out.2.2⟩

end Go.Proofs.Ythcjfgfbeollpaa.P11
