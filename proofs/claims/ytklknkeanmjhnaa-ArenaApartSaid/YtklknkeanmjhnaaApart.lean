/- ArenaApart, on plain numbers: the places of the regions whose numbers were handed out. -/
import Derived.Test.YtklknkeanmjhnaaLaw02Kit
namespace Go.Proofs.Ytklknkeanmjhnaa.ArenaApart
open Go.RowKit Go.Proofs.Ytklknkeanmjhnaa.Base Go.Proofs.Ytklknkeanmjhnaa.Arena Go.Proofs.Ytklknkeanmjhnaa.Stretch Go.Proofs.Ytklknkeanmjhnaa.Meter Go.Proofs.Ytklknkeanmjhnaa.Regs Go.Proofs.Ytklknkeanmjhnaa.Law02

/-- The numbers that were handed out. -/
structure AI (s : AS) (I : List Int) : Prop where
  nodup : I.Nodup
  rng : ∀ x ∈ I, 1 ≤ x ∧ x ≤ s.last
  all : ∀ r ∈ s.L, (r.id : Int) ∈ I

theorem AI.new (size : Int) : AI (AS.new size) [] := ⟨by simp, by simp, by simp [AS.new]⟩

theorem AI.add {s : AS} {I : List Int} (h : AI s I) (x n : Nat) : AI (s.add x n) (I ++ [((s.last : Int) + 1)]) := by
  refine ⟨?_, fun y hy => ?_, fun r hr => ?_⟩
  · rw [List.nodup_append]
    exact ⟨h.nodup, by simp, fun a ha c hc e => by simp at hc; have := (h.rng a ha).2; omega⟩
  · simp only [AS.add]
    rcases List.mem_append.1 hy with hy | hy
    · have := h.rng y hy; omega
    · simp at hy; omega
  · simp only [AS.add, List.mem_append, List.mem_singleton] at hr ⊢
    rcases hr with hr | rfl
    · exact .inl (h.all r hr)
    · exact .inr rfl

theorem AI.free {s : AS} {I : List Int} (h : AI s I) (mp : Option Nat) (m : MS) (id : Int) : AI (freeV s mp m id).2.1 I := by
  refine ⟨h.nodup, fun x hx => by rw [free_last]; exact h.rng x hx, fun r hr => h.all r ?_⟩
  unfold freeV at hr
  split at hr
  · exact hr
  · exact (mem_del.1 hr).1

theorem AI.wipe {s : AS} {I : List Int} (h : AI s I) : AI s.wipe I := ⟨h.nodup, h.rng, fun r hr => by simp [AS.wipe] at hr⟩

/-- A region's places. -/
def spots (r : Reg) (k : Nat) : List Int := (List.range k).map fun (i : Nat) => (r.base : Int) + (i : Int)

def placesOf (s : AS) (id : Int) : List Int := match Regs.look s.L id with | some r => spots r r.n | none => []

def places (s : AS) (I : List Int) : List Int := I.flatMap (placesOf s)

theorem spots_mem {r : Reg} {k : Nat} {y : Int} : y ∈ spots r k ↔ (r.base : Int) ≤ y ∧ y < r.base + k := by
  unfold spots
  rw [List.mem_map]
  constructor
  · rintro ⟨i, hi, rfl⟩
    have := List.mem_range.1 hi
    omega
  · intro h
    exact ⟨(y - r.base).toNat, List.mem_range.2 (by omega), by omega⟩

theorem spots_next (r : Reg) (k : Nat) : spots r (k + 1) = spots r k ++ [(r.base : Int) + k] := by
  unfold spots
  rw [List.range_succ, List.map_append]
  rfl

/-- The next place is no other one's. -/
theorem fresh_place {s : AS} (ho : s.Ok) {I : List Int} (hI : I.Nodup) {k i : Nat} {x : Int} (hx : I[k]? = some x) {r : Reg} (hr : Regs.look s.L x = some r) (hi : i < r.n) : ((r.base : Int) + i) ∉ places s (I.take k) ++ spots r i := by
  intro hc
  rcases List.mem_append.1 hc with hc | hc
  · unfold places at hc
    obtain ⟨z, hz, hp⟩ := List.mem_flatMap.1 hc
    unfold placesOf at hp
    cases e : Regs.look s.L z with
    | none => rw [e] at hp; simp at hp
    | some r' =>
      rw [e] at hp
      obtain ⟨m1, e1⟩ := look_mem e
      obtain ⟨m2, e2⟩ := look_mem hr
      have hne : z ≠ x := by
        intro e3
        subst e3
        obtain ⟨j, hj, e4⟩ := List.getElem_of_mem hz
        simp only [List.length_take] at hj
        rw [List.getElem_take] at e4
        obtain ⟨i2, e5⟩ := List.getElem?_eq_some_iff.1 hx
        have := (List.getElem_inj (i := j) (j := k) (h₀ := by omega) (h₁ := i2) hI).1 (by rw [e4, e5])
        omega
      have := apart_of ho.ids ho.apart m1 m2 (by omega)
      have := spots_mem.1 hp
      omega
  · have := spots_mem.1 hc
    omega

theorem places_next {s : AS} {I : List Int} {k : Nat} {x : Int} (hx : I[k]? = some x) : places s (I.take (k + 1)) = places s (I.take k) ++ placesOf s x := by
  unfold places
  rw [List.take_add_one, hx]
  simp

theorem sum_perm {l l' : List Nat} (h : l.Perm l') : l.sum = l'.sum := h.sum_nat

/-- All of them are as many as are had. -/
theorem places_length {s : AS} (ho : s.Ok) {I : List Int} (h : AI s I) : (places s I).length = s.used := by
  have h1 : ∀ I : List Int, (places s I).length = ((I.filter fun x => (Regs.look s.L x).isSome).map fun x => (placesOf s x).length).sum := by
    intro I
    induction I with
    | nil => rfl
    | cons x I ih =>
      unfold places at ih ⊢
      rw [List.flatMap_cons, List.length_append, ih, List.filter_cons]
      cases e : Regs.look s.L x with
      | none => simp [placesOf, e]
      | some r => simp
  have h2 : (I.filter fun x => (Regs.look s.L x).isSome).Perm (s.L.map fun r => (r.id : Int)) := by
    refine (List.perm_ext_iff_of_nodup (h.nodup.filter _) ?_).2 fun x => ?_
    · unfold List.Nodup
      rw [List.pairwise_map]
      exact ho.ids.imp (fun h => by omega)
    · rw [List.mem_filter, List.mem_map]
      constructor
      · rintro ⟨_, h3⟩
        obtain ⟨r, hr⟩ := Option.isSome_iff_exists.1 h3
        obtain ⟨m1, e1⟩ := look_mem hr
        exact ⟨r, m1, e1⟩
      · rintro ⟨r, hr, rfl⟩
        exact ⟨h.all r hr, by rw [look_self ho.ids hr]; rfl⟩
  rw [h1, sum_perm (h2.map _), List.map_map]
  unfold AS.used
  congr 1
  apply List.map_congr_left
  intro r hr
  simp [Function.comp, placesOf, look_self ho.ids hr, spots]

end Go.Proofs.Ytklknkeanmjhnaa.ArenaApart
