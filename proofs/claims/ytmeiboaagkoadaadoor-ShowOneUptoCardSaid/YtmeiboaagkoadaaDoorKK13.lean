/- A slice of the rules of package rules, of the program's own (layer 6): what append of one line makes of it. -/
import Derived.Test.YtmeiboaagkoadaaDoorKK12
import Derived.Maps.AppendAt
import Derived.Lib.AppendZeros
namespace Go.Proofs.YtmeiboaagkoadaaDoor.Ref06
open Go.RowKit Go.Proofs.YtmeiboaagkoadaaDoor.Base

/-- The slice v holds the lines L, from its block's head. -/
def OLr (w : World) (v : Value) (L : List LN) : Prop := w.ownsRow 0 52 3 v L.length (lflat L)

theorem OLr.nil (w : World) : OLr w (.slice none 0 0) [] := ⟨rfl, .inl ⟨rfl, rfl⟩⟩

theorem OLr.keep {S : Nat → Prop} {w w' : World} {v : Value} {L : List LN} (h : OLr w v L) (q : Keep S w w') (hn : ∀ g, v.ownBlock = some g → ¬ S g) : OLr w' v L := by
  refine ⟨h.1, ?_⟩
  rcases h.2 with h | ⟨g, cap, cur, rfl, hb, hg, r⟩
  · exact .inl h
  · refine .inr ⟨g, cap, cur, rfl, hb, ?_, r⟩
    have : At w g 52 cur := hg
    exact this.keep q (hn g rfl)

/-- As an argument. -/
theorem OLr.form {w : World} {v : Value} {L : List LN} (h : OLr w v L) : ∃ a cap, v = .slice a L.length cap ∧ LS w a L ∧ (∀ x, a = some x → v.ownBlock = some x.block) := by
  rcases h.2 with ⟨rfl, h0⟩ | ⟨g, cap, cur, rfl, _, hg, h1, h2, h3, h4⟩
  · refine ⟨none, 0, by rw [h0], .inl (List.eq_nil_of_length_eq_zero h0), fun x hx => by cases hx⟩
  · have ha : At w g 52 cur := hg
    have hcell : ∀ (j : Nat) (u : Value), (lflat L)[j]? = some u → j < L.length * 3 → w.cell? ⟨g, 0 + j, none⟩ = some u := fun j u hu hj => by
      refine ha.cell ?_
      have h5 : (cur.toList.take (L.length * 3))[j]? = (lflat L)[j]? := by rw [h4]
      rw [List.getElem?_take_of_lt hj, hu] at h5
      rw [Nat.zero_add]
      simpa using h5
    refine ⟨_, cap, rfl, .inr ⟨g, 0, rfl, ha.lt, fun i r hr => ?_⟩, fun x hx => by cases hx; rfl⟩
    have hi : i < L.length := (List.getElem?_eq_some_iff.1 hr).1
    obtain ⟨f0, f1, f2⟩ := lflat_at L i r hr
    exact ⟨hcell _ _ f0 (by omega), by rw [Nat.add_assoc]; exact hcell _ _ f1 (by omega), by rw [Nat.add_assoc]; exact hcell _ _ f2 (by omega)⟩

theorem OLr.form2 {w : World} {v : Value} {L : List LN} (h : OLr w v L) : ∃ a cap, v = .slice a L.length cap ∧ L.length ≤ cap ∧ LS w a L ∧ (∀ x, a = some x → v.ownBlock = some x.block) := by
  obtain ⟨a, cap, rfl, h1, h2⟩ := h.form
  refine ⟨a, cap, rfl, ?_, h1, h2⟩
  rcases h.2 with ⟨h3, h4⟩ | ⟨g, cap', cur, h3, _, _, h5, _⟩
  · rw [h4]
    exact Nat.zero_le _
  · injection h3 with _ _ h3
    subst h3
    exact h5

theorem infoLr : (Tryd.prog.info? 52).map (fun i => (i.zero, i.size, i.bytes)) = some (some (.agg #[.string ⟨#[]⟩, .string ⟨#[]⟩, .int .i64 0]), 3, 40) := by kernel_rfl

theorem lkeep_grown_r {w w' : World} {r : Option Nat} (h : w.grownBy w' r) : Keep (fun b => r = some b) w w' :=
  ⟨h.os, h.tape, h.output, h.size, fun k hk hn => h.block k hk (fun e => hn e.symm)⟩

/-- append of one line, laid by the call itself. -/
theorem OLr.push {w : World} {v : Value} {L : List LN} (h : OLr w v L) (r : LN) (hl : (L.length + 1) * 40 ≤ 140737488355328) (ty : TypeId) :
    ∃ v' w', (Builtin.append_ #[48, 48] ty #[v, .slice (some ⟨w.heap.size, 0, none⟩) 1 1]).run Tryd.prog (w.alloc (.cells (lcells r) 52)) = .ok v' w' ∧ OLr w' v' (L ++ [r]) ∧ Keep (fun b => v.ownBlock = some b) w w' ∧ (∀ g, v'.ownBlock = some g → v.ownBlock = some g ∨ w.heap.size ≤ g) := by
  have h1 : OLr (w.alloc (.cells (lcells r) 52)) v L := h.keep ((Keep.refl (fun _ => False) w).alloc _) (fun _ _ h => h)
  have c0 := (At.new w (lcells r) 52).cell (o := 0) rfl
  have c1 := (At.new w (lcells r) 52).cell (o := 1) rfl
  have c2 := (At.new w (lcells r) 52).cell (o := 2) rfl
  obtain ⟨i0, hi0, hz0, hz1, hz2⟩ := info_parts infoLr
  obtain ⟨v', w', hrun, h2, h3, _, h5⟩ := run_append_own_at (P := Tryd.prog) (w.alloc (.cells (lcells r) 52)) 0 48 ty 52 i0 (.agg #[.string ⟨#[]⟩, .string ⟨#[]⟩, .int .i64 0]) 3 40 Tryd.underlying48 hi0 hz0 hz1 hz2 rfl (by omega) v L.length (lflat L) h1 ⟨w.heap.size, 0, none⟩ 1 1 (lflat [r]) rfl
    (fun j u hu => by
      match j, hu with
      | 0, hu => cases hu; exact c0
      | 1, hu => cases hu; exact c1
      | 2, hu => cases hu; exact c2
      | j + 3, hu => simp [lflat] at hu) (by intro u hu; simp [lflat] at hu; rcases hu with rfl | rfl | rfl <;> rfl) (by simp only [maxLen]; omega) (by omega) (Nat.zero_le _)
  refine ⟨v', w', hrun, by unfold OLr; rw [List.length_append, lflat_append]; exact h2, ((Keep.refl _ w).alloc _).trans (lkeep_grown_r h3), fun g hg => ?_⟩
  rcases h5 with h5 | h5
  · exact .inl (by rw [← h5]; exact hg)
  · rw [h5] at hg
    injection hg with hg
    simp at hg
    exact .inr (by omega)
end Go.Proofs.YtmeiboaagkoadaaDoor.Ref06
/- Where a rule's text stands in its file (layer 6), plain. -/
namespace Go.Proofs.YtmeiboaagkoadaaDoor.Ref06
open Go.RowKit Go.Proofs.YtmeiboaagkoadaaDoor.Base

/-- A rule's text stands where it says. -/
def Placed (l : List UInt8) (r : LN) : Prop := ∃ p : Nat, r.place = p ∧ p + r.text.length ≤ l.length ∧ sub l p (p + r.text.length) = r.text

theorem placed_line {l : List UInt8} {a : Nat} (ha : a ≤ l.length) (hb : bad l a (endN l a) = false) : Placed l (lineOf l a (endN l a)) := by
  have hge := endN_ge l a
  have hle := endN_le ha
  have h1 : nmEnd l a (endN l a) ≤ endN l a := scan_le l _ 12 a hge
  have h2 : nmEnd l a (endN l a) ≠ endN l a := fun e => by
    unfold bad bad' at hb
    rw [e] at hb
    simp at hb
  have hlen : (sub l (nmEnd l a (endN l a) + 1) (endN l a)).length = endN l a - (nmEnd l a (endN l a) + 1) := by
    unfold sub
    rw [List.length_drop, List.length_take, Nat.min_eq_left hle]
  refine ⟨nmEnd l a (endN l a) + 1, rfl, ?_, ?_⟩
  · show _ + (sub l (nmEnd l a (endN l a) + 1) (endN l a)).length ≤ _
    rw [hlen]
    omega
  · show sub l _ (_ + (sub l (nmEnd l a (endN l a) + 1) (endN l a)).length) = sub l (nmEnd l a (endN l a) + 1) (endN l a)
    rw [hlen, show nmEnd l a (endN l a) + 1 + (endN l a - (nmEnd l a (endN l a) + 1)) = endN l a from by omega]

theorem placed_all {l : List UInt8} : ∀ f a out out', (∀ r ∈ out, Placed l r) → splitF l f a out = .inr out' → ∀ r ∈ out', Placed l r
  | 0, a, out, out', h, hs => by
    injection hs with hs
    subst hs
    exact h
  | f + 1, a, out, out', h, hs => by
    rw [splitF] at hs
    split at hs
    · injection hs with hs
      subst hs
      exact h
    · rename_i ha
      split at hs
      · exact placed_all f _ out out' h hs
      · split at hs
        · cases hs
        · rename_i hb
          split at hs
          · cases hs
          · refine placed_all f _ _ out' (fun r hr => ?_) hs
            rcases List.mem_append.1 hr with hr | hr
            · exact h r hr
            · rw [List.mem_singleton.1 hr]
              exact placed_line (by omega) (by simpa using hb)

theorem few_all {l : List UInt8} : ∀ f a out out', out.length ≤ 8 → splitF l f a out = .inr out' → out'.length ≤ 8
  | 0, a, out, out', h, hs => by
    injection hs with hs
    rw [← hs]
    exact h
  | f + 1, a, out, out', h, hs => by
    rw [splitF] at hs
    split at hs
    · injection hs with hs
      rw [← hs]
      exact h
    · split at hs
      · exact few_all f _ out out' h hs
      · split at hs
        · cases hs
        · split at hs
          · cases hs
          · rename_i h8
            refine few_all f _ _ out' ?_ hs
            have : out.length ≠ 8 := fun e => h8 (.inr e)
            rw [List.length_append, List.length_singleton]
            omega

theorem placed_split {l : List UInt8} {out : List LN} (h : splitR l = .inr out) : l.length ≤ 1000 ∧ out.length ≤ 8 ∧ ∀ r ∈ out, Placed l r := by
  unfold splitR at h
  split at h
  · cases h
  · refine ⟨by omega, ?_⟩
    cases hF : splitF l (l.length + 1) 0 [] with
    | inl b => rw [hF] at h; cases h
    | inr o =>
      have := And.intro (few_all _ _ _ _ (by simp) hF) (placed_all _ _ _ _ (by simp) hF)
      rw [hF] at h
      cases o with
      | nil => cases h
      | cons r rs =>
        injection h with h
        rw [← h]
        exact this
end Go.Proofs.YtmeiboaagkoadaaDoor.Ref06
