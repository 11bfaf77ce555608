/- mark: the places from .. to - 1 of a tree are free, or had. -/
import Derived.Test.YtklknkeanmjhnaaTree
namespace Go.Proofs.Ytklknkeanmjhnaa.Stretch
open Go.RowKit Go.Proofs.Ytklknkeanmjhnaa.Base

/-- t' is t, but that the places p to q - 1 are f. -/
def Marked (t : TR) (p q : Int) (f : Bool) (t' : TR) : Prop := t'.Ok ∧ t'.size = t.size ∧ ∀ i : Nat, i < t.size → t'.free i = if p ≤ i ∧ (i : Int) < q then f else t.free i

/-- What mark does to the world. -/
def MkR (b o : Nat) (t : TR) (p q : Int) (f : Bool) (w w' : World) : Prop :=
  ∃ t', Marked t p q f t' ∧ Tr w' b o t' ∧ (b :: t'.fp).Nodup ∧ (∀ k ∈ t'.fp, k ∈ t.fp ∨ w.heap.size ≤ k) ∧ Sub b o w w' ∧ Keep (fun k => k = b ∨ k ∈ t.fp) w w'

/-- On the way: the top has two halves, whose places are free as g says. -/
structure St (b o : Nat) (t : TR) (w : World) (g : Nat → Bool) (bl : Nat) (l : TR) (br : Nat) (r : TR) (W : World) : Prop where
  nd : ∃ F B M, Nd W b o ⟨t.size, F, B, M, some bl, some br⟩
  tl : Tr W bl 0 l
  tr : Tr W br 0 r
  dup : (b :: bl :: br :: (l.fp ++ r.fp)).Nodup
  new : ∀ k ∈ (bl :: br :: (l.fp ++ r.fp)), k ∈ t.fp ∨ w.heap.size ≤ k
  sub : Sub b o w W
  keep : Keep (fun k => k = b ∨ k ∈ t.fp) w W
  hl : 1 ≤ l.size
  hr : 1 ≤ r.size
  ol : l.Ok
  or : r.Ok
  sz : l.size + r.size = t.size
  g : ∀ i, i < t.size → (if i < l.size then l.free i else r.free (i - l.size)) = g i

theorem St.drewN {b o : Nat} {t : TR} {w : World} {g : Nat → Bool} {bl : Nat} {l : TR} {br : Nat} {r : TR} {W : World} (h : St b o t w g bl l br r W) (n : Nat) : St b o t w g bl l br r (W.drewN n) := by
  obtain ⟨⟨F, B, M, a0⟩, a1, a2, a3, a4, a5, a6, a7, a8, a9, a10, a11, a12⟩ := h
  exact ⟨⟨F, B, M, a0.drewN n⟩, Tr.keep (S := fun _ => False) ((Keep.refl _ W).drewN n) a1 id (fun _ _ => id), Tr.keep (S := fun _ => False) ((Keep.refl _ W).drewN n) a2 id (fun _ _ => id), a3, a4, a5, a6.drewN n, a7, a8, a9, a10, a11, a12⟩

theorem St.of_node {b o : Nat} {bl : Nat} {l : TR} {br : Nat} {r : TR} {w : World} (h : Tr w b o (.node bl l br r)) (ok : (TR.node bl l br r).Ok) (hd : (b :: (TR.node bl l br r).fp).Nodup) :
    St b o (.node bl l br r) w (TR.node bl l br r).free bl l br r w :=
  ⟨⟨_, _, _, h.1⟩, h.2.1, h.2.2, hd, fun _ hk => .inl hk, Sub.refl b o w, Keep.refl _ w, ok.1, ok.2.1, ok.2.2.1, ok.2.2.2, rfl, fun _ _ => rfl⟩

theorem St.of_split {b o n : Nat} {f : Bool} {w W : World} {e : Ending} (h : Splits b o n f w e W) (n2 : 2 ≤ n) (hb : b < w.heap.size) :
    e = .returned (.tuple #[]) ∧ ∃ bl br, St b o (.leaf n f) w (TR.leaf n f).free bl (.leaf (n / 2) f) br (.leaf (n - n / 2) f) W := by
  obtain ⟨he, bl, br, hne, z1, z2, g1, g2, g3, g4, g5⟩ := h
  refine ⟨he, bl, br, ⟨⟨_, _, _, g1⟩, ?_, ?_, ?_, ?_, g4, g5.mono fun _ hi => .inl hi, ?_, ?_, trivial, trivial, ?_, ?_⟩⟩
  · have e1 : ((n / 2 : Nat) : Int) = (n : Int) / 2 := by omega
    simp only [Tr, TR.nv, TR.size, TR.fr, TR.bk, TR.mo, TR.kidL, TR.kidR]
    cases f <;> simpa [e1] using g2
  · have e1 : ((n - n / 2 : Nat) : Int) = (n : Int) - (n : Int) / 2 := by omega
    simp only [Tr, TR.nv, TR.size, TR.fr, TR.bk, TR.mo, TR.kidL, TR.kidR]
    cases f <;> simpa [e1] using g3
  · simp only [TR.fp, List.append_nil, List.nodup_cons, List.mem_cons, List.not_mem_nil, or_false, not_or, not_false_eq_true, and_true, List.nodup_nil]
    omega
  · intro k hk
    simp only [TR.fp, List.append_nil, List.mem_cons, List.not_mem_nil, or_false] at hk
    rcases hk with rfl | rfl
    · exact .inr z1
    · exact .inr z2
  · simp only [TR.size]; omega
  · simp only [TR.size]; omega
  · simp only [TR.size]; omega
  · intro i hi
    simp only [TR.size] at hi
    by_cases h1 : i < n / 2
    · rw [if_pos (show i < (TR.leaf (n / 2) f).size from h1)]
      simp [TR.free, h1, hi]
    · rw [if_neg (show ¬ i < (TR.leaf (n / 2) f).size from h1)]
      have h2 : i - n / 2 < n - n / 2 := by omega
      simp [TR.free, TR.size, h2, hi]

/-- The left half has been marked. -/
theorem St.left {b o : Nat} {t : TR} {w : World} {g : Nat → Bool} {bl : Nat} {l : TR} {br : Nat} {r : TR} {W W' : World} {p q : Int} {f : Bool} (h : St b o t w g bl l br r W) (m : MkR bl 0 l p q f W W') :
    ∃ l', l'.size = l.size ∧ St b o t w (fun i => if i < l.size ∧ p ≤ i ∧ (i : Int) < q then f else g i) bl l' br r W' := by
  obtain ⟨⟨F, B, M, a0⟩, a1, a2, a3, a4, a5, a6, a7, a8, a9, a10, a11, a12⟩ := h
  obtain ⟨l', ⟨m1, m2, m3⟩, m4, m5, m6, m7, m8⟩ := m
  have hbl := a1.nd.lt
  have hbr := a2.nd.lt
  have hb := a0.lt
  have hrl := a2.lt
  simp only [List.nodup_cons, List.mem_cons, List.mem_append, not_or, List.nodup_append] at a3
  obtain ⟨⟨n1, n2, n3, n4⟩, ⟨n5, n6, n7⟩, ⟨n8, n9⟩, n10, n11, n12⟩ := a3
  simp only [List.nodup_cons] at m5
  have kb : ¬ (b = bl ∨ b ∈ l.fp) := by simp [n1, n3]
  have kr : ¬ (br = bl ∨ br ∈ l.fp) := by
    rintro (e | e)
    · exact n5 e.symm
    · exact n8 e
  refine ⟨l', m2, ⟨⟨F, B, M, a0.keep m8 kb⟩, m4, Tr.keep m8 a2 kr (fun k hk => ?_), ?_, ?_, a5.trans (Sub.keep m8 kb), a6.next m8 ?_, by omega, a8, m1, a10, by omega, ?_⟩⟩
  · rintro (e | e)
    · subst e; exact n7 hk
    · exact n12 k e k hk rfl
  · simp only [List.nodup_cons, List.mem_cons, List.mem_append, not_or, List.nodup_append]
    have out : ∀ k, k < W.heap.size → k ∉ l.fp → k ∉ l'.fp := fun k h1 h2 h3 => by
      rcases m6 k h3 with h4 | h4
      · exact h2 h4
      · omega
    refine ⟨⟨n1, n2, out b hb n3, n4⟩, ⟨n5, m5.1, n7⟩, ⟨out br hbr n8, n9⟩, m5.2, n11, fun k hk k' hk' e => ?_⟩
    subst e
    rcases m6 k hk with h4 | h4
    · exact n12 k h4 k hk' rfl
    · have := hrl k hk'
      omega
  · intro k hk
    simp only [List.mem_cons, List.mem_append] at hk
    rcases hk with e | e | e | e
    · exact a4 k (by simp [e])
    · exact a4 k (by simp [e])
    · rcases m6 k e with h4 | h4
      · exact a4 k (by simp [h4])
      · exact .inr (Nat.le_trans a6.size h4)
    · exact a4 k (by simp [e])
  · intro i hi hlt
    have : i ∈ t.fp ∨ w.heap.size ≤ i := by
      rcases hi with e | e
      · exact a4 i (by simp [e])
      · exact a4 i (by simp [e])
    rcases this with e | e
    · exact .inr e
    · omega
  · intro i hi
    have := a12 i hi
    by_cases h1 : i < l.size
    · simp only [m2, h1, true_and, if_true] at this ⊢
      rw [m3 i h1, this]
    · simp only [m2, h1, false_and, if_false] at this ⊢
      exact this

/-- The right half has been marked. -/
theorem St.right {b o : Nat} {t : TR} {w : World} {g : Nat → Bool} {bl : Nat} {l : TR} {br : Nat} {r : TR} {W W' : World} {p q : Int} {f : Bool} (h : St b o t w g bl l br r W) (m : MkR br 0 r (p - l.size) (q - l.size) f W W') :
    ∃ r', r'.size = r.size ∧ St b o t w (fun i => if l.size ≤ i ∧ p ≤ i ∧ (i : Int) < q then f else g i) bl l br r' W' := by
  obtain ⟨⟨F, B, M, a0⟩, a1, a2, a3, a4, a5, a6, a7, a8, a9, a10, a11, a12⟩ := h
  obtain ⟨r', ⟨m1, m2, m3⟩, m4, m5, m6, m7, m8⟩ := m
  have hbl := a1.nd.lt
  have hbr := a2.nd.lt
  have hb := a0.lt
  have hll := a1.lt
  simp only [List.nodup_cons, List.mem_cons, List.mem_append, not_or, List.nodup_append] at a3
  obtain ⟨⟨n1, n2, n3, n4⟩, ⟨n5, n6, n7⟩, ⟨n8, n9⟩, n10, n11, n12⟩ := a3
  simp only [List.nodup_cons] at m5
  have kb : ¬ (b = br ∨ b ∈ r.fp) := by simp [n2, n4]
  have kl : ¬ (bl = br ∨ bl ∈ r.fp) := by
    rintro (e | e)
    · exact n5 e
    · exact n7 e
  refine ⟨r', m2, ⟨⟨F, B, M, a0.keep m8 kb⟩, Tr.keep m8 a1 kl (fun k hk => ?_), m4, ?_, ?_, a5.trans (Sub.keep m8 kb), a6.next m8 ?_, a7, by omega, a9, m1, by omega, ?_⟩⟩
  · rintro (e | e)
    · subst e; exact n8 hk
    · exact n12 k hk k e rfl
  · simp only [List.nodup_cons, List.mem_cons, List.mem_append, not_or, List.nodup_append]
    have out : ∀ k, k < W.heap.size → k ∉ r.fp → k ∉ r'.fp := fun k h1 h2 h3 => by
      rcases m6 k h3 with h4 | h4
      · exact h2 h4
      · omega
    refine ⟨⟨n1, n2, n3, out b hb n4⟩, ⟨n5, n6, out bl hbl n7⟩, ⟨n8, m5.1⟩, n10, m5.2, fun k hk k' hk' e => ?_⟩
    subst e
    rcases m6 k hk' with h4 | h4
    · exact n12 k hk k h4 rfl
    · have := hll k hk
      omega
  · intro k hk
    simp only [List.mem_cons, List.mem_append] at hk
    rcases hk with e | e | e | e
    · exact a4 k (by simp [e])
    · exact a4 k (by simp [e])
    · exact a4 k (by simp [e])
    · rcases m6 k e with h4 | h4
      · exact a4 k (by simp [h4])
      · exact .inr (Nat.le_trans a6.size h4)
  · intro i hi hlt
    have : i ∈ t.fp ∨ w.heap.size ≤ i := by
      rcases hi with e | e
      · exact a4 i (by simp [e])
      · exact a4 i (by simp [e])
    rcases this with e | e
    · exact .inr e
    · omega
  · intro i hi
    have := a12 i hi
    by_cases h1 : i < l.size
    · have h2 : ¬ l.size ≤ i := by omega
      simp only [h1, if_true, h2, false_and, if_false] at this ⊢
      exact this
    · have h2 : l.size ≤ i := by omega
      simp only [h1, if_false, h2, true_and] at this ⊢
      rw [m3 (i - l.size) (by omega), this]
      have e1 : (p - l.size ≤ ((i - l.size : Nat) : Int) ∧ ((i - l.size : Nat) : Int) < q - l.size) ↔ (p ≤ i ∧ (i : Int) < q) := by omega
      simp only [e1]

/-- The whole has been made out of its halves again. -/
theorem St.joined {b o : Nat} {t : TR} {w : World} {g : Nat → Bool} {bl : Nat} {l : TR} {br : Nat} {r : TR} {W W' : World} (h : St b o t w g bl l br r W) (m : Mid b o W (NV.join t.size bl br l.nv r.nv) W') {p q : Int} {f : Bool}
    (hg : ∀ i : Nat, i < t.size → g i = if p ≤ i ∧ (i : Int) < q then f else t.free i) : MkR b o t p q f w W' := by
  obtain ⟨⟨F, B, M, a0⟩, a1, a2, a3, a4, a5, a6, a7, a8, a9, a10, a11, a12⟩ := h
  obtain ⟨m1, m2, m3, m4⟩ := m
  have ok : (TR.node bl l br r).Ok := ⟨a7, a8, a9, a10⟩
  have hdup := a3
  simp only [List.nodup_cons, List.mem_cons, List.mem_append, not_or, List.nodup_append] at a3
  obtain ⟨⟨n1, n2, n3, n4⟩, ⟨n5, n6, n7⟩, ⟨n8, n9⟩, n10, n11, n12⟩ := a3
  have hk : Keep (fun k => k = b ∨ k ∈ t.fp) w W' := a6.trans (m3.mono fun _ hi => .inl hi)
  have hs : Sub b o w W' := a5.trans m2
  have hfree : ∀ i : Nat, i < t.size → (TR.node bl l br r).free i = if p ≤ i ∧ (i : Int) < q then f else t.free i := fun i hi => (a12 i hi).trans (hg i hi)
  have hsz : (TR.node bl l br r).size = t.size := a11
  obtain ⟨i1, i2, i3, i4⟩ := TR.inv ok
  rw [hsz] at i3 i4
  unfold NV.join at m1
  rw [joinF_nv l r bl br, joinB_nv l r bl br, joinM_nv l r bl br] at m1
  by_cases h0 : (TR.node bl l br r).mo = 0
  · rw [if_pos (.inl (by omega)), if_pos (.inl (by omega))] at m1
    refine ⟨.leaf t.size false, ⟨trivial, rfl, fun i hi => ?_⟩, ?_, ?_, ?_, hs, hk⟩
    · rw [← hfree i hi]
      cases e : (TR.node bl l br r).free i with
      | false => simp [TR.free]
      | true =>
        have := TR.mo_le ok i 1 (Nat.le_refl _) (fun j h1 h2 => by rw [show j = i from by omega]; exact e)
        omega
    · rw [show (TR.node bl l br r).fr = 0 from by omega, show (TR.node bl l br r).bk = 0 from by omega, h0] at m1
      exact m1
    · simp [TR.fp]
    · intro k hk
      simp [TR.fp] at hk
  · by_cases h1 : (TR.node bl l br r).mo = t.size
    · rw [if_pos (.inr (by omega)), if_pos (.inr (by omega))] at m1
      obtain ⟨j1, j2⟩ := i4 h1
      refine ⟨.leaf t.size true, ⟨trivial, rfl, fun i hi => ?_⟩, ?_, ?_, ?_, hs, hk⟩
      · rw [← hfree i hi, (TR.lead ok).1 i (by omega)]
        simp [TR.free, hi]
      · rw [j1, j2, h1] at m1
        exact m1
      · simp [TR.fp]
      · intro k hk
        simp [TR.fp] at hk
    · rw [if_neg (fun h => h.elim (fun h => h0 (by omega)) (fun h => h1 (by omega))), if_neg (fun h => h.elim (fun h => h0 (by omega)) (fun h => h1 (by omega)))] at m1
      refine ⟨.node bl l br r, ⟨ok, hsz, hfree⟩, ⟨?_, Tr.keep m3 a1 (fun e => n1 e.symm) (fun k hk e => n3 (e ▸ hk)), Tr.keep m3 a2 (fun e => n2 e.symm) (fun k hk e => n4 (e ▸ hk))⟩, hdup, a4, hs, hk⟩
      rw [show (TR.node bl l br r).nv = ⟨t.size, (TR.node bl l br r).fr, (TR.node bl l br r).bk, (TR.node bl l br r).mo, some bl, some br⟩ from by simp only [TR.nv, hsz]; rfl]
      exact m1

end Go.Proofs.Ytklknkeanmjhnaa.Stretch
