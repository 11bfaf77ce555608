/- List, Sorted and Drop of a set. -/
import Derived.Test.YtklknkeanmjhnaaSparse
import Derived.Test.YtklknkeanmjhnaaLists
namespace Go.Proofs.Ytklknkeanmjhnaa.Sparse
open Go.RowKit Go.Proofs.Ytklknkeanmjhnaa.Base Go.Proofs.Ytklknkeanmjhnaa.Meter Go.Proofs.Ytklknkeanmjhnaa.Lists

/-- A list of the call's own. -/
def NewList (L : List Int) (w : World) (e : Ending) (w' : World) : Prop :=
  ∃ v, e = .returned v ∧ IL w' v L ∧ (∀ g, v.ownBlock = some g → w.heap.size ≤ g) ∧ Keep (fun _ => False) w w'

def ints (L : List Nat) : List Int := L.map fun (x : Nat) => (x : Int)

theorem list_nil (w : World) : Calls Try.prog 40 #[.pointer none] w (NewList [] w) := by
  go_enter Try.func40, Try.ntmps40
  go_wp2
  go_ret
  exact ⟨_, rfl, IL.nil w, fun g hg => (by cases hg), Keep.refl _ _⟩

set_option maxRecDepth 100000 in
theorem list_any (b g n : Nat) (L : List Nat) (w : World) (h : St w b g n L) :
    Calls Try.prog 40 #[ptr b] w (NewList (ints L) w) := by
  have hlen := h.len_le
  obtain ⟨h1, h2, h3, o, p, cap, cp, ha, hr⟩ := h
  have k0 : w.cell? ⟨b, 0, none⟩ = some (.slice o L.length cap) := ha.cell rfl
  have hil : (ints L).length = L.length := by simp [ints]
  obtain ⟨v', w', hrun, g1, g2, g3⟩ := (IL.nil w).append (ints L) o cap (fun j x hx => by
    have hj : j < L.length := by
      have := (List.getElem?_eq_some_iff.1 hx).1
      omega
    have hL : L[j]? = some L[j] := List.getElem?_eq_getElem hj
    have hn : 0 < n := by have := h2 L[j] (List.getElem_mem hj); omega
    obtain ⟨r1, r2, r3, r4, r5, cur, r6, r7, r8, r9⟩ := hr hn
    refine ⟨_, r1, ?_⟩
    rw [Addr.add_lit, Nat.zero_add]
    have hx' : x = (L[j] : Nat) := by
      unfold ints at hx
      rw [List.getElem?_map, hL] at hx
      simpa using hx.symm
    rw [hx']
    exact r6.cell (r9 j _ hL).1) (by simp [hil]; omega) 32
  rw [hil] at hrun
  have HN := Lib.hid (show NewList (ints L) w (.returned v') w' from ⟨v', rfl, by simpa using g1, fun g hg => (g3 g hg).elim (fun h => by cases h) id, g2.mono fun _ h => by cases h⟩)
  clear g1 g2 g3 hil hr ha h1 h2
  go_enter Try.func40, Try.ntmps40
  go_wp2_with (at_builtin; refine Lib.wpList_append_run _ rfl _ _ _ _ rfl _ _ rfl rfl _ _ hrun ?_)
  go_ret
  exact HN.out

def sortI (L : List Int) : List Int := L.mergeSort fun x y => decide (x ≤ y)

theorem sortI_eq {L S : List Int} (hp : S.Perm L) (hs : S.Pairwise (· ≤ ·)) : sortI L = S := by
  unfold sortI
  refine List.Perm.eq_of_pairwise (le := fun a b => decide (a ≤ b) = true) (fun a b _ _ h1 h2 => ?_) (List.pairwise_mergeSort (fun a b c h1 h2 => ?_) (fun a b => ?_) L) (hs.imp (fun h => by simpa using h)) ((List.mergeSort_perm L _).trans hp.symm)
  · simp at h1 h2; omega
  · simp at h1 h2 ⊢; omega
  · simp; omega

theorem sorted_of (v0 : Value) (L : List Int) (w : World) (hl : Calls Try.prog 40 #[v0] w (NewList L w)) (hL : L.length ≤ 65536) :
    Calls Try.prog 41 #[v0] w (NewList (sortI L) w) := by
  go_enter Try.func41, Try.ntmps41
  go_wp2_with fail
  refine hl.mono ?_
  rintro e w1 ⟨v, rfl, h1, h2, h3⟩
  have H2 := Lib.hid (And.intro h2 h3)
  clear h2 h3
  go_wp2_with fail
  refine (sort_any v L _ h1 (by omega)).mono ?_
  rintro e w2 ⟨rfl, g1, g2⟩
  have HN := Lib.hid (show NewList (sortI L) w (.returned v) w2 from ⟨v, rfl, g1, H2.out.1, H2.out.2.next g2 (fun i hi hc => by have := H2.out.1 i hi; omega)⟩)
  clear g1 g2 H2 h1 hl
  go_wp2
  go_ret
  exact HN.out

theorem sorted_any (b g n : Nat) (L : List Nat) (w : World) (h : St w b g n L) :
    Calls Try.prog 41 #[ptr b] w (NewList (sortI (ints L)) w) :=
  sorted_of _ _ w (list_any b g n L w h) (by have := h.len_le; have := h.most; simp [ints]; omega)

theorem sorted_nil (w : World) : Calls Try.prog 41 #[.pointer none] w (NewList [] w) := by
  have := sorted_of _ _ w (list_nil w) (by simp)
  simpa [sortI] using this

theorem drop_nil (mp : Option Addr) (w : World) : Calls Try.prog 44 #[.pointer none, .pointer mp] w fun e w' => e = .returned (.tuple #[]) ∧ w = w' := by
  go_enter Try.func44, Try.ntmps44
  go_wp2
  refine bodyPost_ret (results_none rfl _ _ _) rfl ?_
  exact ⟨rfl, rfl⟩

theorem drop_any (b g n : Nat) (L : List Nat) (mb : Nat) (m : MS) (w : World) (h : St w b g n L) (hm : m.Ok) (ha : At w mb 76 m.vals) (hb : mb ≠ b) :
    Calls Try.prog 44 #[ptr b, ptr mb] w fun e w' => e = .returned (.tuple #[]) ∧ St w' b g 0 [] ∧ At w' mb 76 (m.give (2 * n)).2.vals ∧ Keep (fun i => i = b ∨ i = mb) w w' := by
  obtain ⟨h1, h2, h3, o, p, cap, cp, hs, hr⟩ := h
  have k1 : w.cell? ⟨b, 1, none⟩ = some (.slice p n cp) := hs.cell rfl
  have k2 : (n : Int) ≤ 65536 := by omega
  have hg := give_any mb m (2 * n) w hm ha (by omega) (by omega)
  have HG := Lib.hid hg
  clear hg
  go_enter Try.func44, Try.ntmps44
  go_wp2_with fail
  refine HG.out.mono ?_
  rintro e w1 ⟨rfl, a1, q1, z1⟩
  have s1 := hs.keep q1 (Ne.symm hb)
  have f0 := s1.frozen 0
  have f1 := s1.frozen 1
  have c0 : w1.cell? ⟨b, 0, none⟩ = some (.slice o L.length cap) := s1.cell rfl
  have c1 : w1.cell? ⟨b, 1, none⟩ = some (.slice p n cp) := s1.cell rfl
  go_wp2
  have t1 := s1.set 0 (.slice none 0 0)
  have t2 := t1.set 1 (.slice none 0 0)
  have u1 := (a1.setOther (p := ⟨b, 0, none⟩) hb (.slice none 0 0)).setOther (p := ⟨b, 1, none⟩) hb (.slice none 0 0)
  go_end0
  exact ⟨rfl, ⟨by simp, by simp, by omega, none, none, 0, 0, (by simpa using t2), fun h => by omega⟩, u1, ((q1.mono fun _ h => .inr h).setCell (fun _ => .inl rfl) _).setCell (fun _ => .inl rfl) _⟩

end Go.Proofs.Ytklknkeanmjhnaa.Sparse
