/- A region less: the plain side. -/
import Derived.Test.YtklknkeanmjhnaaArenaNew
namespace Go.Proofs.Ytklknkeanmjhnaa.Arena
open Go.RowKit Go.Proofs.Ytklknkeanmjhnaa.Base Go.Proofs.Ytklknkeanmjhnaa.Stretch Go.Proofs.Ytklknkeanmjhnaa.Regs Go.Proofs.Ytklknkeanmjhnaa.Row Go.Proofs.Ytklknkeanmjhnaa.Meter

/-- A region less. -/
def AS.del (s : AS) (r : Reg) : AS := { s with L := s.L.filter fun x => !decide ((x.id : Int) = r.id), C := fun p => if r.base ≤ p ∧ p < r.base + r.n then 0 else s.C p }

theorem apart_of {L : List Reg} (hi : L.Pairwise fun a b => a.id < b.id) (h : L.Pairwise fun a b => a.base + a.n ≤ b.base ∨ b.base + b.n ≤ a.base) {x y : Reg} (hx : x ∈ L) (hy : y ∈ L) (hne : x.id ≠ y.id) : x.base + x.n ≤ y.base ∨ y.base + y.n ≤ x.base := by
  induction L with
  | nil => cases hx
  | cons a L ih =>
    rw [List.pairwise_cons] at hi h
    rcases List.mem_cons.1 hx with rfl | hx'
    · rcases List.mem_cons.1 hy with rfl | hy'
      · exact absurd rfl hne
      · exact h.1 y hy'
    · rcases List.mem_cons.1 hy with rfl | hy'
      · exact (h.1 x hx').symm
      · exact ih hi.2 h.2 hx' hy'

theorem same_of {L : List Reg} (hi : L.Pairwise fun a b => a.id < b.id) {x y : Reg} (hx : x ∈ L) (hy : y ∈ L) (he : x.id = y.id) : x = y := by
  induction L with
  | nil => cases hx
  | cons a L ih =>
    rw [List.pairwise_cons] at hi
    rcases List.mem_cons.1 hx with rfl | hx'
    · rcases List.mem_cons.1 hy with rfl | hy'
      · rfl
      · have := hi.1 y hy'
        omega
    · rcases List.mem_cons.1 hy with rfl | hy'
      · have := hi.1 x hx'
        omega
      · exact ih hi.2 hx' hy'

theorem sum_del {L : List Reg} (hi : L.Pairwise fun a b => a.id < b.id) {r : Reg} (hr : r ∈ L) : ((L.filter fun x => !decide ((x.id : Int) = r.id)).map (·.n)).sum + r.n = (L.map (·.n)).sum := by
  induction L with
  | nil => cases hr
  | cons a L ih =>
    rw [List.pairwise_cons] at hi
    rcases List.mem_cons.1 hr with rfl | hr'
    · have e : (L.filter fun x => !decide ((x.id : Int) = r.id)) = L := by
        rw [List.filter_eq_self]
        intro x hx
        have := hi.1 x hx
        simp
        omega
      simp [e]
      omega
    · have h1 := hi.1 r hr'
      have h2 := ih hi.2 hr'
      have h3 : ¬ ((a.id : Int) = r.id) := by omega
      simp only [List.filter_cons, h3, decide_false, Bool.not_false, if_true, List.map_cons, List.sum_cons]
      omega

theorem AS.del_used {s : AS} (h : s.Ok) {r : Reg} (hr : r ∈ s.L) : (s.del r).used + r.n = s.used := sum_del h.ids hr

theorem fr_iff {s : AS} {p : Nat} : s.fr p = true ↔ p < s.size ∧ ∀ r ∈ s.L, ¬ (r.base ≤ p ∧ p < r.base + r.n) := by
  simp only [AS.fr, Reg.has, Bool.and_eq_true, decide_eq_true_eq, List.all_eq_true, Bool.not_eq_true', Bool.and_eq_false_iff, decide_eq_false_iff_not]
  constructor
  · exact fun h => ⟨h.1, fun r hr => by have := h.2 r hr; omega⟩
  · exact fun h => ⟨h.1, fun r hr => by have := h.2 r hr; omega⟩

theorem mem_del {s : AS} {r x : Reg} : x ∈ (s.del r).L ↔ x ∈ s.L ∧ x.id ≠ r.id := by
  simp only [AS.del, List.mem_filter, Bool.not_eq_true', decide_eq_false_iff_not, ne_eq]
  constructor
  · exact fun h => ⟨h.1, by omega⟩
  · exact fun h => ⟨h.1, by omega⟩

theorem AS.del_fr {s : AS} (h : s.Ok) {r : Reg} (hr : r ∈ s.L) (p : Nat) : (s.del r).fr p = if r.base ≤ p ∧ p < r.base + r.n then true else s.fr p := by
  have hsz : (s.del r).size = s.size := rfl
  by_cases hp : r.base ≤ p ∧ p < r.base + r.n
  · rw [if_pos hp, fr_iff]
    refine ⟨by have := (h.reg r hr).2; omega, fun x hx => ?_⟩
    rw [mem_del] at hx
    have := apart_of h.ids h.apart hx.1 hr hx.2
    omega
  · rw [if_neg hp, Bool.eq_iff_iff, fr_iff, fr_iff]
    constructor
    · rintro ⟨h1, h2⟩
      refine ⟨h1, fun x hx => ?_⟩
      by_cases he : x.id = r.id
      · obtain rfl := same_of h.ids hx hr he
        exact hp
      · exact h2 x (mem_del.2 ⟨hx, he⟩)
    · rintro ⟨h1, h2⟩
      exact ⟨h1, fun x hx => h2 x (mem_del.1 hx).1⟩

theorem AS.del_ok {s : AS} (h : s.Ok) {r : Reg} (hr : r ∈ s.L) : (s.del r).Ok := by
  refine ⟨h.sz, h.la, h.ids.sublist List.filter_sublist, fun x hx => h.idr x (List.mem_filter.1 hx).1, fun x hx => h.reg x (List.mem_filter.1 hx).1, h.apart.sublist List.filter_sublist, fun p hp => ?_⟩
  rw [AS.del_fr h hr] at hp
  simp only [AS.del]
  by_cases hc : r.base ≤ p ∧ p < r.base + r.n
  · rw [if_pos hc]
  · rw [if_neg hc] at hp ⊢
    exact h.zero p hp

end Go.Proofs.Ytklknkeanmjhnaa.Arena
