/- Alloc of an arena. -/
import Derived.Test.YtklknkeanmjhnaaArenaRW
import Derived.Test.YtklknkeanmjhnaaMeterUse
namespace Go.Proofs.Ytklknkeanmjhnaa.Arena
open Go.RowKit Go.Proofs.Ytklknkeanmjhnaa.Base Go.Proofs.Ytklknkeanmjhnaa.Stretch Go.Proofs.Ytklknkeanmjhnaa.Regs Go.Proofs.Ytklknkeanmjhnaa.Row Go.Proofs.Ytklknkeanmjhnaa.Meter

/-- The arena's meter, if it has one. -/
def MO (w : World) (mp : Option Nat) (m : MS) : Prop := match mp with
  | none => True
  | some mb => At w mb 76 m.vals ∧ m.Ok

def takeO (mp : Option Nat) (m : MS) (n : Int) : Bool × MS := match mp with
  | none => (true, m)
  | some _ => m.take n

def giveO (mp : Option Nat) (m : MS) (n : Int) : MS := match mp with
  | none => m
  | some _ => (m.give n).2

theorem MO.keep {S : Nat → Prop} {w w' : World} {mp : Option Nat} {m : MS} (h : MO w mp m) (q : Keep S w w') (hn : ∀ k, mp = some k → ¬ S k) : MO w' mp m := by
  cases mp with
  | none => trivial
  | some mb => exact ⟨h.1.keep q (hn mb rfl), h.2⟩

theorem take_any (b : Nat) (mp : Option Nat) (s : AS) (F : List Nat) (m : MS) (n : Int) (w : World) (h : Ar w b mp s F) (hm : MO w mp m) (n0 : -9223372036854775808 ≤ n) (n1 : n ≤ 9223372036854775807) :
    Calls Try.prog 48 #[Arena.ptr b, .int .i64 n] w fun e w' => e = .returned (.bool (takeO mp m n).1) ∧ MO w' mp (takeO mp m n).2 ∧ Keep (fun k => mp = some k) w w' := by
  obtain ⟨h0, t, cv, cn, rb, hB, -⟩ := h
  have k0 : w.cell? ⟨b, 0, none⟩ = some (kid mp) := hB.at_.cell rfl
  clear hB h0
  cases mp with
  | none =>
    simp only [kid, Option.map_none] at k0
    go_enter Try.func48, Try.ntmps48
    go_wp2
    go_ret
    exact ⟨rfl, trivial, Keep.refl _ _⟩
  | some mb =>
    simp only [kid, Option.map_some] at k0
    have hc := Meter.take_any mb m n w hm.2 hm.1 n0 n1
    have HM := Lib.hid (MS.take_ok hm.2 n)
    unfold takeO
    simp only
    generalize (m.take n).1 = v at *
    generalize (m.take n).2 = m' at *
    clear hm
    go_enter Try.func48, Try.ntmps48
    go_wp2_with (go_at_call 61; refine hc.mono ?_; clear hc; rintro e w1 ⟨rfl, a1, q1, -⟩)
    go_ret
    exact ⟨rfl, ⟨a1, HM.out⟩, q1.mono fun _ e => by rw [e]⟩

theorem Row.shape {w : World} {v : Value} {n : Nat} {C : Nat → Int} (h : Row w v n C) : ∃ base cap, v = .slice base n cap := by
  rcases h with ⟨rfl, rfl⟩ | ⟨g, cap, cur, rfl, _⟩
  · exact ⟨_, _, rfl⟩
  · exact ⟨_, _, rfl⟩

set_option maxRecDepth 100000 in
theorem reach_any (b : Nat) (mp : Option Nat) (s : AS) (t : TR) (cv : Value) (cn rb : Nat) (x : Nat) (w : World) (h0 : s.Ok) (h : ArB w b mp s t cv cn rb) (hx : x ≤ s.size) :
    Calls Try.prog 49 #[Arena.ptr b, .int .i64 x] w fun e w' => e = .returned (.tuple #[]) ∧ ∃ cv' cn', ArB w' b mp s t cv' cn' rb ∧ x ≤ cn' ∧
      (∀ g, cv'.ownBlock = some g → cv.ownBlock = some g ∨ w.heap.size ≤ g) ∧ Keep (fun k => k = b ∨ cv.ownBlock = some k) w w' := by
  have hz := h0.sz
  have k1 : w.cell? ⟨b, 1, none⟩ = some cv := h.at_.cell rfl
  have f1 := h.at_.frozen 1
  have hcn := h.cn1
  have hb := h.at_.lt
  by_cases hlt : cn < x
  · obtain ⟨v', w1, hrun, hrow, hk, g, hg, hg2, hg3⟩ := h.row.grow (x - cn) (by omega) (by omega) 32
    rw [show cn + (x - cn) = x from by omega] at hrow
    obtain ⟨base, cap, rfl⟩ := Row.shape h.row
    have hd := h.dup
    simp only [List.nodup_cons, List.mem_cons, List.mem_append, not_or, List.nodup_append, Option.mem_toList] at hd
    obtain ⟨⟨d1, d2, d3⟩, ⟨d4, d5⟩, d6, d8, d7⟩ := hd
    have nb : ¬ Value.ownBlock (.slice base cn cap) = some b := d3
    have nr : ¬ Value.ownBlock (.slice base cn cap) = some rb := d5
    have nt : ∀ k ∈ t.fp, ¬ Value.ownBlock (.slice base cn cap) = some k := fun k hk e => d7 k hk k e rfl
    have a1 := h.at_.keep hk nb
    have hgb : g ≠ b := by
      rintro rfl
      rcases hg2 with e | e
      · exact nb e
      · omega
    have hgr : g ≠ rb := by
      rintro rfl
      rcases hg2 with e | e
      · exact nr e
      · have := h.rm.lt; omega
    have hgt : g ∉ t.fp := fun hm => by
      rcases hg2 with e | e
      · exact nt g hm e
      · have := h.tr.lt g hm; omega
    have hcell : w1.cell? ⟨b, 1, none⟩ = some (.slice base cn cap) := a1.cell rfl
    have hfz := a1.frozen 1
    obtain ⟨g', cap', rfl, -, -, hc1, hc2⟩ := Row.at hrow (p := cn) hlt
    obtain rfl : g' = g := by simpa [Value.ownBlock] using hg
    have qb : Keep (· = b) w1 (w1.setCell ⟨b, 1, none⟩ (.slice (some ⟨g', 0, none⟩) x cap')) := (Keep.refl (· = b) w1).setCell (fun _ => rfl) _
    have hres : ArB (w1.setCell ⟨b, 1, none⟩ (.slice (some ⟨g', 0, none⟩) x cap')) b mp s t (.slice (some ⟨g', 0, none⟩) x cap') x rb := by
      obtain ⟨b1, b2, b3, b4, b5, b6, b7, b8, b9, b10, b11⟩ := h
      refine ⟨a1.set 1 _, ?_, b3, b4, b5, ?_, hx, fun p hp => b8 p (by omega), fun r hr => by have := b9 r hr; omega, (b10.keep hk nr).keep qb (fun e => d1 e.symm), ?_⟩
      · -- the tree: of block b cell 1 alone has turned
        have b2' := Tr.keep hk b2 nb nt
        have d2' : ∀ k ∈ t.fp, ¬ k = b := fun k hk e => d2 (e ▸ hk)
        cases t with
        | leaf n f =>
          obtain ⟨t', vs, e1, e2⟩ := b2'
          refine ⟨t', _, e1.set 1 _, ?_⟩
          simp only [NV.at, Array.getElem?_setIfInBounds] at e2 ⊢
          simpa using e2
        | node bl l br r =>
          obtain ⟨⟨t', vs, e1, e2⟩, e3, e4⟩ := b2'
          simp only [TR.fp, List.mem_cons, List.mem_append] at d2'
          refine ⟨⟨t', _, e1.set 1 _, ?_⟩, Tr.keep qb e3 (d2' _ (.inl rfl)) (fun k hk => d2' k (.inr (.inr (.inl hk)))), Tr.keep qb e4 (d2' _ (.inr (.inl rfl))) (fun k hk => d2' k (.inr (.inr (.inr hk))))⟩
          simp only [NV.at, Array.getElem?_setIfInBounds] at e2 ⊢
          simpa using e2
      · refine (hrow.congr fun j hj => ?_).keep qb (fun k hk e => hgb (by rw [← e]; simpa [Value.ownBlock] using hk))
        by_cases h1 : j < cn
        · rw [if_pos h1]
        · rw [if_neg h1]
          exact b8 j (by omega)
      · simp only [Value.ownBlock, Option.toList_some, List.nodup_cons, List.mem_cons, List.mem_append, List.not_mem_nil, or_false, not_or, List.nodup_append, not_false_eq_true, List.nodup_nil, and_true, true_and, forall_eq]
        exact ⟨⟨d1, d2, fun e => hgb e.symm⟩, ⟨d4, fun e => hgr e.symm⟩, d6, fun k hk e => hgt (e ▸ hk)⟩
    have hkeep : Keep (fun k => k = b ∨ Value.ownBlock (.slice base cn cap) = some k) w (w1.setCell ⟨b, 1, none⟩ (.slice (some ⟨g', 0, none⟩) x cap')) := (hk.mono fun _ h => .inr h).setCell (fun _ => .inl rfl) _
    have HR := Lib.hid (And.intro hres hkeep)
    have HG := Lib.hid hg2
    have hn : ((x - cn : Nat) : Int) = (x : Int) - cn := by omega
    rw [hn] at hrun
    have hpos : (0 : Int) < (x : Int) - cn := by omega
    clear hres hkeep h hrow hk a1 qb hg hg2 hn
    go_enter Try.func49, Try.ntmps49
    go_wp2_with (at_builtin; refine Lib.wpList_append_run _ rfl _ _ _ _ rfl _ _ rfl rfl _ _ hrun ?_)
    go_end0
    exact ⟨rfl, _, _, HR.out.1, Nat.le_refl _, fun g h => by simp only [Value.ownBlock, Option.some.injEq] at h; subst h; exact HG.out, HR.out.2⟩
  · have HB := Lib.hid h
    obtain ⟨base, cap, rfl⟩ := Row.shape h.row
    clear h
    go_enter Try.func49, Try.ntmps49
    go_wp2
    go_end0
    exact ⟨rfl, _, _, HB.out, by omega, fun g h => .inl h, Keep.refl _ _⟩

end Go.Proofs.Ytklknkeanmjhnaa.Arena
