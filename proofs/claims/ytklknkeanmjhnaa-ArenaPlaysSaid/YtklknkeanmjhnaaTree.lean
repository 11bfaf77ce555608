/- A plain model of the tree of free places (package arena): which places are free, how many stand in a row, which base is the least; and what it means that a world holds such a tree. -/
import Derived.Test.YtklknkeanmjhnaaJoin
namespace Go.Proofs.Ytklknkeanmjhnaa.Stretch
open Go.RowKit Go.Proofs.Ytklknkeanmjhnaa.Base

/-- Places in a row: all free or all had; or two halves, with the blocks at which they lie. -/
inductive TR where
  | leaf (n : Nat) (f : Bool)
  | node (bl : Nat) (l : TR) (br : Nat) (r : TR)

def TR.size : TR → Nat
  | .leaf n _ => n
  | .node _ l _ r => l.size + r.size

/-- Is a place free? -/
def TR.free : TR → Nat → Bool
  | .leaf n f, i => f && decide (i < n)
  | .node _ l _ r, i => if i < l.size then l.free i else r.free (i - l.size)

def TR.fr : TR → Nat
  | .leaf n f => if f then n else 0
  | .node _ l _ r => if l.fr = l.size then l.fr + r.fr else l.fr

def TR.bk : TR → Nat
  | .leaf n f => if f then n else 0
  | .node _ l _ r => if r.bk = r.size then r.bk + l.bk else r.bk

def TR.mo : TR → Nat
  | .leaf n f => if f then n else 0
  | .node _ l _ r => max l.mo (max r.mo (l.bk + r.fr))

/-- Halves are not empty. -/
def TR.Ok : TR → Prop
  | .leaf _ _ => True
  | .node _ l _ r => 1 ≤ l.size ∧ 1 ≤ r.size ∧ l.Ok ∧ r.Ok

/-- The blocks below the top. -/
def TR.fp : TR → List Nat
  | .leaf _ _ => []
  | .node bl l br r => bl :: br :: (l.fp ++ r.fp)

def TR.kidL : TR → Option Nat
  | .leaf _ _ => none
  | .node bl _ _ _ => some bl
def TR.kidR : TR → Option Nat
  | .leaf _ _ => none
  | .node _ _ br _ => some br

def TR.nv (t : TR) : NV := ⟨t.size, t.fr, t.bk, t.mo, t.kidL, t.kidR⟩

theorem TR.inv : ∀ {t : TR}, t.Ok → t.fr ≤ t.mo ∧ t.bk ≤ t.mo ∧ t.mo ≤ t.size ∧ (t.mo = t.size → t.fr = t.size ∧ t.bk = t.size)
  | .leaf n f, _ => by
    cases f <;> simp [TR.fr, TR.bk, TR.mo, TR.size]
    all_goals omega
  | .node bl l br r, ⟨hl, hr, ol, or⟩ => by
    obtain ⟨l1, l2, l3, l4⟩ := TR.inv ol
    obtain ⟨r1, r2, r3, r4⟩ := TR.inv or
    simp only [TR.fr, TR.bk, TR.mo, TR.size]
    refine ⟨?_, ?_, ?_, ?_⟩
    · split <;> omega
    · split <;> omega
    · omega
    · intro h
      rw [if_pos (by omega), if_pos (by omega)]
      omega

theorem TR.small {t : TR} (o : t.Ok) (h : t.size ≤ 1048576) : t.nv.Small := by
  have := TR.inv o
  constructor <;> simp only [TR.nv] <;> omega

theorem joinF_nv (l r : TR) (bl br : Nat) : joinF l.nv r.nv = ((TR.node bl l br r).fr : Int) := by
  rw [show joinF l.nv r.nv = if (l.fr : Int) = l.size then (l.fr : Int) + r.fr else l.fr from rfl]
  by_cases h : l.fr = l.size
  · simp [TR.fr, h]
  · have h2 : ¬ (l.fr : Int) = l.size := by omega
    simp [TR.fr, h, h2]
theorem joinB_nv (l r : TR) (bl br : Nat) : joinB l.nv r.nv = ((TR.node bl l br r).bk : Int) := by
  rw [show joinB l.nv r.nv = if (r.bk : Int) = r.size then (r.bk : Int) + l.bk else r.bk from rfl]
  by_cases h : r.bk = r.size
  · simp [TR.bk, h]
  · have h2 : ¬ (r.bk : Int) = r.size := by omega
    simp [TR.bk, h, h2]
theorem joinM_nv (l r : TR) (bl br : Nat) : joinM l.nv r.nv = ((TR.node bl l br r).mo : Int) := by
  simp only [joinM, TR.nv, TR.mo]
  omega

theorem TR.free_out : ∀ (t : TR) (i : Nat), t.size ≤ i → t.free i = false
  | .leaf n f, i, h => by
    have : ¬ i < n := Nat.not_lt.2 h
    simp [TR.free, this]
  | .node bl l br r, i, h => by
    have h1 : ¬ i < l.size := by simp only [TR.size] at h; omega
    simp only [TR.free, if_neg h1]
    exact TR.free_out r _ (by simp only [TR.size] at h; omega)

/-- All of the n places from x on are free. -/
def Run (p : Nat → Bool) (x n : Nat) : Prop := ∀ i, x ≤ i → i < x + n → p i = true

theorem TR.lead : ∀ {t : TR}, t.Ok → (∀ i, i < t.fr → t.free i = true) ∧ t.free t.fr = false ∧ t.fr ≤ t.size
  | .leaf n f, _ => by
    cases f <;> simp [TR.fr, TR.free, TR.size]
  | .node bl l br r, ⟨hl, hr, ol, or⟩ => by
    obtain ⟨a1, a2, a3⟩ := TR.lead ol
    obtain ⟨b1, b2, b3⟩ := TR.lead or
    simp only [TR.fr, TR.free, TR.size]
    by_cases h : l.fr = l.size
    · simp only [if_pos h]
      refine ⟨fun i hi => ?_, ?_, by omega⟩
      · by_cases h1 : i < l.size
        · simpa [h1] using a1 i (by omega)
        · simpa [h1] using b1 _ (by omega)
      · rw [if_neg (by omega), show l.fr + r.fr - l.size = r.fr from by omega]
        exact b2
    · simp only [if_neg h]
      refine ⟨fun i hi => ?_, ?_, by omega⟩
      · rw [if_pos (by omega)]
        exact a1 i hi
      · rw [if_pos (by omega)]
        exact a2

theorem TR.trail : ∀ {t : TR}, t.Ok → (∀ i, t.size - t.bk ≤ i → i < t.size → t.free i = true) ∧ (t.bk < t.size → t.free (t.size - t.bk - 1) = false) ∧ t.bk ≤ t.size
  | .leaf n f, _ => by
    cases f
    · simp [TR.bk, TR.free, TR.size]
    · simp [TR.bk, TR.free, TR.size]
  | .node bl l br r, ⟨hl, hr, ol, or⟩ => by
    obtain ⟨a1, a2, a3⟩ := TR.trail ol
    obtain ⟨b1, b2, b3⟩ := TR.trail or
    simp only [TR.bk, TR.free, TR.size]
    by_cases h : r.bk = r.size
    · simp only [if_pos h]
      refine ⟨fun i h1 h2 => ?_, fun h1 => ?_, by omega⟩
      · by_cases h3 : i < l.size
        · simpa [h3] using a1 i (by omega) h3
        · simpa [h3] using b1 _ (by omega) (by omega)
      · rw [if_pos (by omega), show l.size + r.size - (r.bk + l.bk) - 1 = l.size - l.bk - 1 from by omega]
        exact a2 (by omega)
    · simp only [if_neg h]
      refine ⟨fun i h1 h2 => ?_, fun h1 => ?_, by omega⟩
      · rw [if_neg (by omega)]
        exact b1 _ (by omega) (by omega)
      · rw [if_neg (by omega), show l.size + r.size - r.bk - 1 - l.size = r.size - r.bk - 1 from by omega]
        exact b2 (by omega)

/-- A run that begins in the left half and ends in the right one. -/
theorem TR.across {l r : TR} (ol : l.Ok) (or : r.Ok) (bl br x n : Nat) (h : Run (TR.node bl l br r).free x n) (h1 : x < l.size) (h2 : l.size < x + n) : l.size - l.bk ≤ x ∧ x + n ≤ l.size + r.fr := by
  obtain ⟨a1, a2, a3⟩ := TR.trail ol
  obtain ⟨b1, b2, b3⟩ := TR.lead or
  constructor
  · apply Nat.le_of_not_lt
    intro hx
    have := h (l.size - l.bk - 1) (by omega) (by omega)
    simp only [TR.free] at this
    rw [if_pos (by omega), a2 (by omega)] at this
    cases this
  · apply Nat.le_of_not_lt
    intro hx
    have := h (l.size + r.fr) (by omega) (by omega)
    simp only [TR.free] at this
    rw [if_neg (by omega), show l.size + r.fr - l.size = r.fr from by omega, b2] at this
    cases this

theorem TR.runL {l r : TR} {bl br x n : Nat} (h : Run (TR.node bl l br r).free x n) (h2 : x + n ≤ l.size) : Run l.free x n := fun i hi hj => by
  have := h i hi hj
  simp only [TR.free] at this
  rwa [if_pos (by omega)] at this

theorem TR.runR {l r : TR} {bl br x n : Nat} (h : Run (TR.node bl l br r).free x n) (h2 : l.size ≤ x) : Run r.free (x - l.size) n := fun i hi hj => by
  have := h (i + l.size) (by omega) (by omega)
  simp only [TR.free] at this
  rwa [if_neg (by omega), show i + l.size - l.size = i from by omega] at this

theorem TR.mo_le : ∀ {t : TR}, t.Ok → ∀ x n, 1 ≤ n → Run t.free x n → n ≤ t.mo
  | .leaf m f, _, x, n, hn, h => by
    have h0 := h x (Nat.le_refl _) (by omega)
    have h1 := h (x + n - 1) (by omega) (by omega)
    cases f <;> simp [TR.free, TR.mo] at *
    omega
  | .node bl l br r, ⟨hl, hr, ol, or⟩, x, n, hn, h => by
    simp only [TR.mo]
    by_cases h1 : x + n ≤ l.size
    · have := TR.mo_le ol x n hn (TR.runL h h1)
      omega
    · by_cases h2 : l.size ≤ x
      · have := TR.mo_le or _ n hn (TR.runR h h2)
        omega
      · have := TR.across ol or bl br x n h (by omega) (by omega)
        omega

/-- The least base from which on n places are free. -/
def TR.first : TR → Nat → Nat
  | .leaf _ _, _ => 0
  | .node _ l _ r, n => if n ≤ l.mo then l.first n else if n ≤ l.bk + r.fr then l.size - l.bk else l.size + r.first n

theorem TR.first_ok : ∀ {t : TR}, t.Ok → ∀ n, 1 ≤ n → n ≤ t.mo → Run t.free (t.first n) n ∧ t.first n + n ≤ t.size ∧ ∀ x, x < t.first n → ¬ Run t.free x n
  | .leaf m f, _, n, hn, h => by
    cases f <;> simp [TR.mo, TR.first, TR.size, Run, TR.free] at *
    · omega
    · exact ⟨fun i hi => by omega, h⟩
  | .node bl l br r, ⟨hl, hr, ol, or⟩, n, hn, h => by
    obtain ⟨a1, a2, a3⟩ := TR.trail ol
    obtain ⟨b1, b2, b3⟩ := TR.lead or
    simp only [TR.first, TR.size]
    by_cases h1 : n ≤ l.mo
    · simp only [if_pos h1]
      obtain ⟨c1, c2, c3⟩ := TR.first_ok ol n hn h1
      refine ⟨fun i hi hj => ?_, by omega, fun x hx hR => c3 x hx (TR.runL hR (by omega))⟩
      simp only [TR.free]
      rw [if_pos (by omega)]
      exact c1 i hi hj
    · simp only [if_neg h1]
      have hnl : ∀ x, x + n ≤ l.size → ¬ Run (TR.node bl l br r).free x n := fun x hx hR => h1 (TR.mo_le ol x n hn (TR.runL hR hx))
      by_cases h2 : n ≤ l.bk + r.fr
      · simp only [if_pos h2]
        refine ⟨fun i hi hj => ?_, by omega, fun x hx hR => ?_⟩
        · simp only [TR.free]
          by_cases h3 : i < l.size
          · rw [if_pos h3]
            exact a1 i (by omega) h3
          · rw [if_neg h3]
            exact b1 _ (by omega)
        · by_cases h4 : x + n ≤ l.size
          · exact hnl x h4 hR
          · have := TR.across ol or bl br x n hR (by omega) (by omega)
            omega
      · simp only [if_neg h2]
        have h3 : n ≤ r.mo := by simp only [TR.mo] at h; omega
        obtain ⟨c1, c2, c3⟩ := TR.first_ok or n hn h3
        refine ⟨fun i hi hj => ?_, by omega, fun x hx hR => ?_⟩
        · simp only [TR.free]
          rw [if_neg (by omega)]
          exact c1 _ (by omega) (by omega)
        · by_cases h4 : x + n ≤ l.size
          · exact hnl x h4 hR
          · by_cases h5 : l.size ≤ x
            · exact c3 _ (by omega) (TR.runR hR h5)
            · have := TR.across ol or bl br x n hR (by omega) (by omega)
              omega

/-- The world holds the tree t, its top at block b, cell o. -/
def Tr (w : World) (b o : Nat) : TR → Prop
  | .leaf n f => Nd w b o (TR.leaf n f).nv
  | .node bl l br r => Nd w b o (TR.node bl l br r).nv ∧ Tr w bl 0 l ∧ Tr w br 0 r

theorem Tr.nd {w : World} {b o : Nat} : ∀ {t : TR}, Tr w b o t → Nd w b o t.nv
  | .leaf _ _, h => h
  | .node _ _ _ _, h => h.1

theorem Tr.lt {w : World} : ∀ {t : TR} {b o : Nat}, Tr w b o t → ∀ k ∈ t.fp, k < w.heap.size
  | .leaf _ _, _, _, _, k, hk => by simp [TR.fp] at hk
  | .node bl l br r, b, o, ⟨_, h1, h2⟩, k, hk => by
    simp only [TR.fp, List.mem_cons, List.mem_append] at hk
    rcases hk with rfl | rfl | hk | hk
    · exact h1.nd.lt
    · exact h2.nd.lt
    · exact Tr.lt h1 k hk
    · exact Tr.lt h2 k hk

theorem Tr.keep {S : Nat → Prop} {w w' : World} (q : Keep S w w') : ∀ {t : TR} {b o : Nat}, Tr w b o t → ¬ S b → (∀ k ∈ t.fp, ¬ S k) → Tr w' b o t
  | .leaf _ _, _, _, h, hb, _ => Nd.keep h q hb
  | .node bl l br r, b, o, ⟨h0, h1, h2⟩, hb, hk => by
    simp only [TR.fp, List.mem_cons, List.mem_append] at hk
    exact ⟨h0.keep q hb, Tr.keep q h1 (hk _ (.inl rfl)) (fun k h => hk k (.inr (.inr (.inl h)))), Tr.keep q h2 (hk _ (.inr (.inl rfl))) (fun k h => hk k (.inr (.inr (.inr h))))⟩

end Go.Proofs.Ytklknkeanmjhnaa.Stretch
