/- A list of pairs of bytes in a slice of its own: what append makes of it, what is read, what a store into its last pair's second byte does. -/
import Derived.Test.YtblijgcfelnlmaaKK11
import Derived.Maps.AppendAt
import Derived.Lib.AppendZeros
import Derived.Test.YtblijgcfelnlmaaKK07
namespace Go.Proofs.Ytblijgcfelnlmaa.PL
open Go.RowKit Go.Proofs.Ytblijgcfelnlmaa.Base Go.Proofs.Ytblijgcfelnlmaa.Sets

def flat (L : List (Nat × Nat)) : List Value := L.flatMap fun r => [.int .u8 r.1, .int .u8 r.2]

theorem flat_length : ∀ L, (flat L).length = L.length * 2
  | [] => rfl
  | r :: L => by
    have := flat_length L
    unfold flat at *
    rw [List.flatMap_cons, List.length_append, this, List.length_cons]
    simp
    omega

theorem flat_append (L M : List (Nat × Nat)) : flat (L ++ M) = flat L ++ flat M := List.flatMap_append ..

theorem flat_at : ∀ (L : List (Nat × Nat)) (i : Nat) (r : Nat × Nat), L[i]? = some r → (flat L)[2 * i]? = some (.int .u8 r.1) ∧ (flat L)[2 * i + 1]? = some (.int .u8 r.2)
  | [], i, r, h => by simp at h
  | s :: L, 0, r, h => by
    simp at h
    subst h
    exact ⟨rfl, rfl⟩
  | s :: L, i + 1, r, h => by
    have := flat_at L i r (by simpa using h)
    have e : flat (s :: L) = .int .u8 s.1 :: .int .u8 s.2 :: flat L := rfl
    rw [e, show 2 * (i + 1) = 2 * i + 1 + 1 from by omega]
    simpa using this

theorem keep_grown {w w' : World} {r : Option Nat} (h : w.grownBy w' r) : Keep (fun b => r = some b) w w' :=
  ⟨h.os, h.tape, h.output, h.size, fun k hk hn => h.block k hk (fun e => hn e.symm)⟩

end Go.Proofs.Ytblijgcfelnlmaa.PL
/- Contract of bytes256's Ranges. -/
namespace Go.Proofs.Ytblijgcfelnlmaa.Bytes
open Go.RowKit Go.Proofs.Ytblijgcfelnlmaa.Base Go.Proofs.Ytblijgcfelnlmaa.Sets Go.Proofs.Ytblijgcfelnlmaa.PL

/-- One round's worth. -/
theorem rgs_round {s : ST} (hs : s.Ok) {n m : Nat} (hlt : n < 256) (hn : s.has n = true) (h0 : n = 0 ∨ s.has (n - 1) = false) (hm : Nx s.not.has n m) :
    n < m ∧ rgs s.has m = rgs s.has n ++ [(n, m - 1)] ∧ ∀ n', Nx s.has m n' → m ≤ n' ∧ n' ≤ 256 ∧ rgs s.has n' = rgs s.has m ∧ (n' < 256 → s.has n' = true ∧ (n' = 0 ∨ s.has (n' - 1) = false)) := by
  have hmn : n < m := by
    refine Nat.lt_of_le_of_ne hm.lo fun e => ?_
    subst e
    have := hm.at' hlt
    rw [ST.has_not hs _ hlt, hn] at this
    cases this
  have hmh := hm.hi
  have hgap : ∀ b, n ≤ b → b < m → s.has b = true := fun b h1 h2 => by
    have := hm.gap b h1 h2
    rw [ST.has_not hs _ (by omega)] at this
    simpa using this
  refine ⟨hmn, ?_, fun n' k => ?_⟩
  · have := rgs_run h0 (m - 1 - n) (fun b h1 h2 => hgap b h1 (by omega))
    rw [show n + (m - 1 - n) + 1 = m from by omega, show n + (m - 1 - n) = m - 1 from by omega] at this
    exact this
  · have hk := k.lo
    refine ⟨hk, k.hi, ?_, fun hlt' => ⟨k.at' hlt', .inr ?_⟩⟩
    · have := rgs_gap (p := s.has) (a := m) (n' - m) (fun b h1 h2 => k.gap b h1 (by omega))
      rwa [show m + (n' - m) = n' from by omega] at this
    · rcases Nat.eq_or_lt_of_le hk with rfl | hl
      · have := hm.at' hlt'
        rw [ST.has_not hs _ hlt'] at this
        have h1 : s.has m = false := by simpa using this
        have h2 := k.at' hlt'
        rw [h1] at h2
        cases h2
      · exact k.gap _ (by omega) (by omega)

end Go.Proofs.Ytblijgcfelnlmaa.Bytes
/- The document's own Ranges, List. -/
namespace Go.Proofs.Ytblijgcfelnlmaa.Bytes
open Go.RowKit Go.Proofs.Ytblijgcfelnlmaa.Base Go.Proofs.Ytblijgcfelnlmaa.Sets Go.Proofs.Ytblijgcfelnlmaa.PL Go.Proofs.Ytblijgcfelnlmaa.IL

/-- A byte behind one that is there: the last range ends just ahead of it. -/
theorem rgs_tail {p : Nat → Bool} {k : Nat} (h0 : k ≠ 0) (h : p (k - 1) = true) : ∃ L r, rgs p k = L ++ [r] := by
  obtain ⟨r0, hr0, -⟩ := ((rgs_ok p k).mem (k - 1)).2 ⟨by omega, h⟩
  rcases List.eq_nil_or_concat (rgs p k) with e | ⟨l', r, e⟩
  · rw [e] at hr0; simp at hr0
  · exact ⟨l', r, by rw [e, List.concat_eq_append]⟩

end Go.Proofs.Ytblijgcfelnlmaa.Bytes
