/- A slice of the document's lines of the program's own (layer 6): what append of one line makes of it. -/
import Derived.Test.YtmeiboaagkoadaaGreatDoorKK06
import Derived.Maps.AppendAt
import Derived.Lib.AppendZeros
namespace Go.Proofs.YtmeiboaagkoadaaGreatDoor.Ref06
open Go.RowKit Go.Proofs.YtmeiboaagkoadaaGreatDoor.Base

@[reducible] def lcells (r : LN) : Array Value := #[str r.name, str r.text, .int .i64 r.place]
def lflat (L : List LN) : List Value := L.flatMap fun r => (lcells r).toList

theorem lflat_length : ∀ L, (lflat L).length = L.length * 3
  | [] => rfl
  | s :: L => by
    have := lflat_length L
    unfold lflat at *
    rw [List.flatMap_cons, List.length_append, this, List.length_cons]
    simp
    omega
theorem lflat_append (L M : List LN) : lflat (L ++ M) = lflat L ++ lflat M := List.flatMap_append ..

theorem lflat_at : ∀ (L : List LN) (i : Nat) (r : LN), L[i]? = some r → (lflat L)[i * 3]? = some (str r.name) ∧ (lflat L)[i * 3 + 1]? = some (str r.text) ∧ (lflat L)[i * 3 + 2]? = some (.int .i64 r.place)
  | [], i, r, h => by simp at h
  | t :: L, 0, r, h => by
    simp at h
    subst h
    exact ⟨rfl, rfl, rfl⟩
  | t :: L, i + 1, r, h => by
    have := lflat_at L i r (by simpa using h)
    have e : lflat (t :: L) = str t.name :: str t.text :: .int .i64 t.place :: lflat L := rfl
    rw [e, show (i + 1) * 3 = i * 3 + 1 + 1 + 1 from by omega]
    simpa using this

/-- The slice v holds the lines L, from its block's head. -/
def OLn (w : World) (v : Value) (L : List LN) : Prop := w.ownsRow 0 60 3 v L.length (lflat L)

theorem OLn.nil (w : World) : OLn w (.slice none 0 0) [] := ⟨rfl, .inl ⟨rfl, rfl⟩⟩

theorem OLn.keep {S : Nat → Prop} {w w' : World} {v : Value} {L : List LN} (h : OLn w v L) (q : Keep S w w') (hn : ∀ g, v.ownBlock = some g → ¬ S g) : OLn w' v L := by
  refine ⟨h.1, ?_⟩
  rcases h.2 with h | ⟨g, cap, cur, rfl, hb, hg, r⟩
  · exact .inl h
  · refine .inr ⟨g, cap, cur, rfl, hb, ?_, r⟩
    have : At w g 60 cur := hg
    exact this.keep q (hn g rfl)

/-- As an argument. -/
theorem OLn.form {w : World} {v : Value} {L : List LN} (h : OLn w v L) : ∃ a cap, v = .slice a L.length cap ∧ LS w a L ∧ (∀ x, a = some x → v.ownBlock = some x.block) := by
  rcases h.2 with ⟨rfl, h0⟩ | ⟨g, cap, cur, rfl, _, hg, h1, h2, h3, h4⟩
  · refine ⟨none, 0, by rw [h0], .inl (List.eq_nil_of_length_eq_zero h0), fun x hx => by cases hx⟩
  · have ha : At w g 60 cur := hg
    have hcell : ∀ (j : Nat) (u : Value), (lflat L)[j]? = some u → j < L.length * 3 → w.cell? ⟨g, 0 + j, none⟩ = some u := fun j u hu hj => by
      refine ha.cell ?_
      have h5 : (cur.toList.take (L.length * 3))[j]? = (lflat L)[j]? := by rw [h4]
      rw [List.getElem?_take_of_lt hj, hu] at h5
      rw [Nat.zero_add]
      simpa using h5
    refine ⟨_, cap, rfl, .inr ⟨g, 0, rfl, ha.lt, fun i r hr => ?_⟩, fun x hx => by cases hx; rfl⟩
    have hi : i < L.length := (List.getElem?_eq_some_iff.1 hr).1
    obtain ⟨f0, f1, f2⟩ := lflat_at L i r hr
    exact ⟨hcell _ _ f0 (by omega), by rw [Nat.add_assoc]; exact hcell _ _ f1 (by omega), by rw [Nat.add_assoc]; exact hcell _ _ f2 (by omega)⟩

theorem OLn.form2 {w : World} {v : Value} {L : List LN} (h : OLn w v L) : ∃ a cap, v = .slice a L.length cap ∧ L.length ≤ cap ∧ LS w a L ∧ (∀ x, a = some x → v.ownBlock = some x.block) := by
  obtain ⟨a, cap, rfl, h1, h2⟩ := h.form
  refine ⟨a, cap, rfl, ?_, h1, h2⟩
  rcases h.2 with ⟨h3, h4⟩ | ⟨g, cap', cur, h3, _, _, h5, _⟩
  · rw [h4]
    exact Nat.zero_le _
  · injection h3 with _ _ h3
    subst h3
    exact h5

theorem infoLn : (Tryz.prog.info? 60).map (fun i => (i.zero, i.size, i.bytes)) = some (some (.agg #[.string ⟨#[]⟩, .string ⟨#[]⟩, .int .i64 0]), 3, 40) := by kernel_rfl

theorem lkeep_grown {w w' : World} {r : Option Nat} (h : w.grownBy w' r) : Keep (fun b => r = some b) w w' :=
  ⟨h.os, h.tape, h.output, h.size, fun k hk hn => h.block k hk (fun e => hn e.symm)⟩

/-- append of one line, laid by the call itself. -/
theorem OLn.push {w : World} {v : Value} {L : List LN} (h : OLn w v L) (r : LN) (hl : (L.length + 1) * 40 ≤ 140737488355328) (ty : TypeId) :
    ∃ v' w', (Builtin.append_ #[59, 59] ty #[v, .slice (some ⟨w.heap.size, 0, none⟩) 1 1]).run Tryz.prog (w.alloc (.cells (lcells r) 60)) = .ok v' w' ∧ OLn w' v' (L ++ [r]) ∧ Keep (fun b => v.ownBlock = some b) w w' ∧ (∀ g, v'.ownBlock = some g → v.ownBlock = some g ∨ w.heap.size ≤ g) := by
  have h1 : OLn (w.alloc (.cells (lcells r) 60)) v L := h.keep ((Keep.refl (fun _ => False) w).alloc _) (fun _ _ h => h)
  have c0 := (At.new w (lcells r) 60).cell (o := 0) rfl
  have c1 := (At.new w (lcells r) 60).cell (o := 1) rfl
  have c2 := (At.new w (lcells r) 60).cell (o := 2) rfl
  obtain ⟨i0, hi0, hz0, hz1, hz2⟩ := info_parts infoLn
  obtain ⟨v', w', hrun, h2, h3, _, h5⟩ := run_append_own_at (P := Tryz.prog) (w.alloc (.cells (lcells r) 60)) 0 59 ty 60 i0 (.agg #[.string ⟨#[]⟩, .string ⟨#[]⟩, .int .i64 0]) 3 40 Tryz.underlying59 hi0 hz0 hz1 hz2 rfl (by omega) v L.length (lflat L) h1 ⟨w.heap.size, 0, none⟩ 1 1 (lflat [r]) rfl
    (fun j u hu => by
      match j, hu with
      | 0, hu => cases hu; exact c0
      | 1, hu => cases hu; exact c1
      | 2, hu => cases hu; exact c2
      | j + 3, hu => simp [lflat] at hu) (by intro u hu; simp [lflat] at hu; rcases hu with rfl | rfl | rfl <;> rfl) (by simp only [maxLen]; omega) (by omega) (Nat.zero_le _)
  refine ⟨v', w', hrun, by unfold OLn; rw [List.length_append, lflat_append]; exact h2, ((Keep.refl _ w).alloc _).trans (lkeep_grown h3), fun g hg => ?_⟩
  rcases h5 with h5 | h5
  · exact .inl (by rw [← h5]; exact hg)
  · rw [h5] at hg
    injection hg with hg
    simp at hg
    exact .inr (by omega)
end Go.Proofs.YtmeiboaagkoadaaGreatDoor.Ref06
/- The document's Split (layer 6). -/
namespace Go.Proofs.YtmeiboaagkoadaaGreatDoor.Ref06
open Go.RowKit Go.Proofs.YtmeiboaagkoadaaGreatDoor.Base

/-- The line from a up to t, where it is right. -/
def lineOf (l : List UInt8) (a t : Nat) : LN := ⟨sub l a (nmEnd l a t), sub l (nmEnd l a t + 1) t, (nmEnd l a t + 1 : Nat)⟩
/-- Line by line from a on; out: the rules ahead. -/
def splitF (l : List UInt8) : Nat → Nat → List LN → Nat ⊕ List LN
  | 0, _, out => .inr out
  | f + 1, a, out =>
    if l.length < a then .inr out
    else if a = endN l a ∨ byteAt l a = 35 then splitF l f (endN l a + 1) out
    else if bad l a (endN l a) = true then .inl (nmEnd l a (endN l a))
    else if findL out (lineOf l a (endN l a)).name = true ∨ out.length = 8 then .inl a
    else splitF l f (endN l a + 1) (out ++ [lineOf l a (endN l a)])
def last (n : Nat) : Nat ⊕ List LN → Nat ⊕ List LN
  | .inl b => .inl b
  | .inr [] => .inl n
  | .inr out => .inr out
def splitR (l : List UInt8) : Nat ⊕ List LN := if 1000 < l.length then .inl 1000 else last l.length (splitF l (l.length + 1) 0 [])

/-- What Split answers. -/
def IsSplit (R : Nat ⊕ List LN) (w : World) (e : Ending) (w' : World) : Prop := ∃ v n, e = .returned (.tuple #[v, .int .i64 n]) ∧ Keep (fun _ => False) w w' ∧ ((∃ b : Nat, R = .inl b ∧ v = .slice none 0 0 ∧ n = b) ∨ (∃ out, R = .inr out ∧ OLn w' v out ∧ n = -1))

theorem end_is {l : List UInt8} {B : ByteArray} (hB : (⟨l.toArray⟩ : ByteArray) = B) (hl : l.length ≤ 1000) {a : Nat} (ha : a ≤ l.length) (w : World) : Calls Tryz.prog 46 #[.string B, .int .i64 a] w fun e w' => e = .returned (.int .i64 (endN l a)) ∧ w = w' := by
  rw [← hB]
  exact end_any l (by omega) a ha w

end Go.Proofs.YtmeiboaagkoadaaGreatDoor.Ref06
/- Layer 6, plain: the first place that is wrong stays so under longer files; a remark ahead; Split of what Join made. -/
namespace Go.Proofs.YtmeiboaagkoadaaGreatDoor.Ref06

/-- The least byte 10 from a on, or the end. -/
theorem endN_spec (l : List UInt8) (a : Nat) (h : a ≤ l.length) : (∀ k, a ≤ k → k < endN l a → byteAt l k ≠ 10) ∧ (endN l a < l.length → byteAt l (endN l a) = 10) := by
  obtain ⟨d, hd⟩ : ∃ d, l.length - a = d := ⟨_, rfl⟩
  induction d generalizing a with
  | zero =>
    have : endN l a = a := endN_out (by omega)
    rw [this]
    exact ⟨fun k h1 h2 => by omega, fun h => by omega⟩
  | succ d ih =>
    by_cases hb : byteAt l a = 10
    · rw [endN_stop (by omega) hb]
      exact ⟨fun k h1 h2 => by omega, fun _ => hb⟩
    · rw [endN_go (by omega) hb]
      obtain ⟨h1, h2⟩ := ih (a + 1) (by omega) (by omega)
      refine ⟨fun k hk1 hk2 => ?_, h2⟩
      by_cases e : k = a
      · subst e; exact hb
      · exact h1 k (by omega) hk2

theorem endN_eq {l : List UInt8} {a t : Nat} (hat : a ≤ t) (htl : t ≤ l.length) (h1 : ∀ k, a ≤ k → k < t → byteAt l k ≠ 10) (h2 : t < l.length → byteAt l t = 10) : endN l a = t := by
  obtain ⟨s1, s2⟩ := endN_spec l a (by omega)
  have hle := endN_le (l := l) (a := a) (by omega)
  rcases Nat.lt_trichotomy (endN l a) t with h | h | h
  · exact absurd (s2 (by omega)) (h1 _ (endN_ge l a) h)
  · exact h
  · exact absurd (h2 (by omega)) (s1 t hat h)

theorem scan_cong {l m : List UInt8} {t : Nat} : ∀ {f i}, (∀ k, i ≤ k → k < t → byteAt l k = byteAt m k) → scan l t f i = scan m t f i
  | 0, i, _ => rfl
  | f + 1, i, h => by
    unfold scan
    by_cases hi : i < t
    · rw [h i (Nat.le_refl _) hi]
      by_cases hb : letB (byteAt m i) = true
      · rw [if_pos ⟨hi, hb⟩, if_pos ⟨hi, hb⟩]
        exact scan_cong (fun k h1 h2 => h k (by omega) h2)
      · rw [if_neg (fun e => hb e.2), if_neg (fun e => hb e.2)]
    · rw [if_neg (fun e => hi e.1), if_neg (fun e => hi e.1)]

/-- Of a prefix: the same bytes. -/
theorem byteAt_eq {l m : List UInt8} {n k : Nat} (h : l.take n = m.take n) (hk : k < n) : byteAt l k = byteAt m k := by
  unfold byteAt
  rw [← List.getElem?_take_of_lt hk, h, List.getElem?_take_of_lt hk]
theorem sub_cong {l m : List UInt8} {n lo hi : Nat} (h : l.take n = m.take n) (hk : hi ≤ n) : sub l lo hi = sub m lo hi := by
  unfold sub
  rw [show l.take hi = (l.take n).take hi from by rw [List.take_take, Nat.min_eq_left hk], h, List.take_take, Nat.min_eq_left hk]

/-- The first place that is wrong is the same in each file with the same bytes up to a line feed behind it. -/
theorem first {l m : List UInt8} {n b : Nat} (hn : n < l.length) (hm : n < m.length) (h10 : byteAt l n = 10) (hp : l.take (n + 1) = m.take (n + 1)) :
    ∀ f g a out, l.length + 1 ≤ a + f → m.length + 1 ≤ a + g → splitF l f a out = .inl b → b ≤ n → splitF m g a out = .inl b
  | 0, g, a, out, _, _, hs, _ => by cases hs
  | f + 1, g, a, out, hf, hg, hs, hb => by
    have hb' : ∀ f a out, splitF l f a out = .inl b → a ≤ b := by
      intro f
      induction f with
      | zero => intro a out h; cases h
      | succ f ih =>
        intro a out h
        rw [splitF] at h
        have hge := endN_ge l a
        split at h
        · cases h
        · split at h
          · have := ih _ _ h; omega
          · split at h
            · injection h with h
              have := scan_ge l (endN l a) 12 a
              unfold nmEnd at h
              omega
            · split at h
              · injection h with h
                omega
              · have := ih _ _ h; omega
    have hab := hb' _ _ _ hs
    obtain ⟨g, rfl⟩ : ∃ g', g = g' + 1 := ⟨g - 1, by omega⟩
    obtain ⟨s1, s2⟩ := endN_spec l a (by omega)
    have hle : endN l a ≤ n := by
      rcases Nat.lt_or_ge n (endN l a) with h | h
      · exact absurd h10 (s1 n (by omega) h)
      · exact h
    have hE : endN m a = endN l a := by
      refine endN_eq (endN_ge l a) (by omega) (fun k h1 h2 => ?_) (fun h => ?_)
      · rw [← byteAt_eq hp (by omega)]; exact s1 k h1 h2
      · rw [← byteAt_eq hp (by omega)]; exact s2 (by omega)
    have hA : byteAt m a = byteAt l a := (byteAt_eq hp (by omega)).symm
    have hS : nmEnd m a (endN l a) = nmEnd l a (endN l a) := scan_cong (fun k h1 h2 => (byteAt_eq hp (by omega)).symm)
    have hSle : nmEnd l a (endN l a) ≤ endN l a := scan_le l _ 12 a (endN_ge l a)
    have hB : bad m a (endN l a) = bad l a (endN l a) := by
      unfold bad bad'
      rw [hS, ← byteAt_eq hp (by omega)]
    have hL : lineOf m a (endN l a) = lineOf l a (endN l a) := by
      unfold lineOf
      rw [hS, ← sub_cong hp (by omega), ← sub_cong hp (by omega)]
    rw [splitF] at hs ⊢
    rw [hE, hA, hB, hS, hL]
    rw [if_neg (by omega)] at hs ⊢
    split at hs
    · rename_i h1
      rw [if_pos h1]
      exact first hn hm h10 hp f g _ _ (by have := endN_ge l a; omega) (by have := endN_ge l a; omega) hs hb
    · rename_i h1
      rw [if_neg h1]
      split at hs
      · rename_i h2
        rw [if_pos h2]
        exact hs
      · rename_i h2
        rw [if_neg h2]
        split at hs
        · rename_i h3
          rw [if_pos h3]
          exact hs
        · rename_i h3
          rw [if_neg h3]
          exact first hn hm h10 hp f g _ _ (by have := endN_ge l a; omega) (by have := endN_ge l a; omega) hs hb

/-- Set off by n bytes. -/
def LN.off (n : Nat) (r : LN) : LN := ⟨r.name, r.text, r.place + n⟩
def offR (n : Nat) : Nat ⊕ List LN → Nat ⊕ List LN
  | .inl b => .inl (b + n)
  | .inr out => .inr (out.map (LN.off n))

theorem byteAt_off (h l : List UInt8) (k : Nat) : byteAt (h ++ l) (k + h.length) = byteAt l k := by
  unfold byteAt
  rw [List.getElem?_append_right (by omega), Nat.add_sub_cancel]
theorem endN_off (h l : List UInt8) (a : Nat) : endN (h ++ l) (a + h.length) = endN l a + h.length := by
  unfold endN
  rw [Nat.add_comm a h.length, List.drop_append, List.drop_eq_nil_of_le (by omega), List.nil_append, Nat.add_sub_cancel_left]
  omega
theorem scan_off (h l : List UInt8) (t : Nat) : ∀ f i, scan (h ++ l) (t + h.length) f (i + h.length) = scan l t f i + h.length
  | 0, i => rfl
  | f + 1, i => by
    unfold scan
    rw [byteAt_off]
    by_cases hi : i < t ∧ letB (byteAt l i) = true
    · rw [if_pos hi, if_pos ⟨by omega, hi.2⟩, show i + h.length + 1 = (i + 1) + h.length from by omega]
      exact scan_off h l t f (i + 1)
    · rw [if_neg hi, if_neg (fun e => hi ⟨by omega, e.2⟩)]
theorem sub_off (h l : List UInt8) (lo hi : Nat) : sub (h ++ l) (lo + h.length) (hi + h.length) = sub l lo hi := by
  unfold sub
  rw [Nat.add_comm hi, List.take_length_add_append, Nat.add_comm lo, List.drop_append, List.drop_eq_nil_of_le (by omega), List.nil_append, Nat.add_sub_cancel_left]
theorem find_off (n : Nat) (L : List LN) (x : List UInt8) : findL (L.map (LN.off n)) x = findL L x := by
  unfold findL
  rw [List.any_map]
  rfl
theorem lineOf_off (h l : List UInt8) (a t : Nat) : lineOf (h ++ l) (a + h.length) (t + h.length) = (lineOf l a t).off h.length := by
  unfold lineOf LN.off nmEnd
  rw [scan_off, sub_off, show scan l t 12 a + h.length + 1 = scan l t 12 a + 1 + h.length from by omega, sub_off]
  simp
theorem splitF_off (h l : List UInt8) : ∀ f a out, splitF (h ++ l) f (a + h.length) (out.map (LN.off h.length)) = offR h.length (splitF l f a out)
  | 0, a, out => rfl
  | f + 1, a, out => by
    rw [splitF, splitF, endN_off, byteAt_off, lineOf_off]
    have hB : bad (h ++ l) (a + h.length) (endN l a + h.length) = bad l a (endN l a) := by
      unfold bad bad' nmEnd
      rw [scan_off, byteAt_off]
      simp
    have hN : nmEnd (h ++ l) (a + h.length) (endN l a + h.length) = nmEnd l a (endN l a) + h.length := scan_off h l _ 12 a
    rw [hB, hN]
    by_cases h0 : l.length < a
    · rw [if_pos h0, if_pos (by rw [List.length_append]; omega)]
      rfl
    · rw [if_neg h0, if_neg (by rw [List.length_append]; omega)]
      by_cases h1 : a = endN l a ∨ byteAt l a = 35
      · rw [if_pos h1, if_pos (by omega), show endN l a + h.length + 1 = endN l a + 1 + h.length from by omega]
        exact splitF_off h l f _ out
      · rw [if_neg h1, if_neg (by omega)]
        by_cases h2 : bad l a (endN l a) = true
        · rw [if_pos h2, if_pos h2]
          rfl
        · rw [if_neg h2, if_neg h2]
          have hF : findL (out.map (LN.off h.length)) ((lineOf l a (endN l a)).off h.length).name = findL out (lineOf l a (endN l a)).name := find_off ..
          rw [hF, List.length_map]
          by_cases h3 : findL out (lineOf l a (endN l a)).name = true ∨ out.length = 8
          · rw [if_pos h3, if_pos h3]
            rfl
          · rw [if_neg h3, if_neg h3, show endN l a + h.length + 1 = endN l a + 1 + h.length from by omega]
            have := splitF_off h l f (endN l a + 1) (out ++ [lineOf l a (endN l a)])
            rw [List.map_append] at this
            exact this
/-- More rounds change nothing. -/
theorem splitF_more (l : List UInt8) : ∀ f g a out, l.length + 1 ≤ a + f → l.length + 1 ≤ a + g → splitF l f a out = splitF l g a out
  | 0, 0, a, out, _, _ => rfl
  | 0, g + 1, a, out, h, _ => by rw [splitF, splitF, if_pos (by omega)]
  | f + 1, 0, a, out, _, h => by rw [splitF, splitF, if_pos (by omega)]
  | f + 1, g + 1, a, out, hf, hg => by
    have := endN_ge l a
    rw [splitF, splitF, splitF_more l f g _ _ (by omega) (by omega), splitF_more l f g _ _ (by omega) (by omega)]

/-- A remark and an empty line ahead. -/
theorem remark (x l : List UInt8) (hx : ∀ k, k < x.length → byteAt x k ≠ 10) (hlen : l.length + x.length ≤ 900) :
    splitR (([35] ++ x ++ [10, 10]) ++ l) = offR (x.length + 3) (splitR l) := by
  obtain ⟨h, hh⟩ : ∃ h, h = [35] ++ x ++ [10, 10] := ⟨_, rfl⟩
  have hhl : h.length = x.length + 3 := by rw [hh]; simp
  rw [← hh]
  have b0 : byteAt (h ++ l) 0 = 35 := by rw [hh]; rfl
  have bx : ∀ k, k < x.length → byteAt (h ++ l) (k + 1) ≠ 10 := fun k hk => by
    have := hx k hk
    unfold byteAt at *
    rw [hh]
    simpa [List.getElem?_append_left, hk] using this
  have b1 : byteAt (h ++ l) (x.length + 1) = 10 := by
    unfold byteAt
    rw [hh]
    simp
  have b2 : byteAt (h ++ l) (x.length + 2) = 10 := by
    unfold byteAt
    rw [hh]
    simp
  have e1 : endN (h ++ l) 0 = x.length + 1 := by
    refine endN_eq (by omega) (by rw [List.length_append]; omega) (fun k _ hk => ?_) (fun _ => b1)
    cases k with
    | zero => rw [b0]; decide
    | succ k => exact bx k (by omega)
  have e2 : endN (h ++ l) (x.length + 2) = x.length + 2 := endN_stop (by rw [List.length_append]; omega) b2
  unfold splitR
  rw [if_neg (by rw [List.length_append]; omega), if_neg (by omega)]
  rw [show (h ++ l).length + 1 = (l.length + x.length + 2) + 1 + 1 from by rw [List.length_append]; omega, splitF, if_neg (by omega), e1, if_pos (.inr b0)]
  rw [splitF, if_neg (by rw [List.length_append]; omega), show x.length + 1 + 1 = x.length + 2 from rfl, e2, if_pos (.inl rfl)]
  have := splitF_off h l (l.length + x.length + 2) 0 []
  rw [Nat.zero_add, hhl, List.map_nil] at this
  rw [show x.length + 2 + 1 = x.length + 3 from rfl, this, splitF_more l (l.length + x.length + 2) (l.length + 1) 0 [] (by omega) (by omega)]
  cases splitF l (l.length + 1) 0 [] with
  | inl b => rfl
  | inr out =>
    cases out with
    | nil =>
      simp [offR, last, hhl]
      omega
    | cons r rs => rfl

/-- Names and texts alike. -/
def sameNT (A B : List LN) : Prop := A.map (fun r => (r.name, r.text)) = B.map (fun r => (r.name, r.text))
theorem find_same {A B : List LN} (h : sameNT A B) (n : List UInt8) : findL A n = findL B n := by
  have e : ∀ L : List LN, findL L n = (L.map fun r => (r.name, r.text)).any fun p => decide (p.1 = n) := fun L => by
    unfold findL
    rw [List.any_map]
    rfl
  rw [e, e, h]
theorem letB_no {b : Nat} (h : letB b = true) : b ≠ 10 ∧ b ≠ 35 ∧ b ≠ 58 := by
  unfold letB at h
  simp at h
  omega
theorem name_parts {n : List UInt8} (h : nameL n = true) : 1 ≤ n.length ∧ n.length ≤ 12 ∧ ∀ k, k < n.length → letB (byteAt n k) = true := by
  unfold nameL at h
  rw [Bool.and_eq_true] at h
  have h2 := of_decide_eq_true h.2
  refine ⟨h2.1, h2.2, fun k hk => ?_⟩
  unfold byteAt
  rw [List.getElem?_eq_getElem hk]
  exact List.all_eq_true.1 h.1 _ (List.getElem_mem hk)
theorem text_parts {r : LN} (h : textOk r = true) : ∀ k, k < r.text.length → byteAt r.text k ≠ 10 := fun k hk => by
  have e := of_decide_eq_true h
  exact (endN_spec r.text 0 (Nat.zero_le _)).1 k (Nat.zero_le _) (by omega)
theorem scan_all {l : List UInt8} {t : Nat} : ∀ f i j, i ≤ j → j ≤ t → j ≤ i + f → (∀ k, i ≤ k → k < j → letB (byteAt l k) = true) → (j = t ∨ letB (byteAt l j) = false) → scan l t f i = j
  | 0, i, j, h1, h2, h3, h4, h5 => by
    have : i = j := by omega
    subst this
    rfl
  | f + 1, i, j, h1, h2, h3, h4, h5 => by
    by_cases e : i = j
    · subst e
      rcases h5 with h5 | h5
      · exact scan_out (by omega)
      · exact scan_no h5
    · rw [scan_go (by omega) (h4 i (Nat.le_refl _) (by omega))]
      exact scan_all f (i + 1) j (by omega) h2 (by omega) (fun k a b => h4 k (by omega) b) h5

def lineL (r : LN) : List UInt8 := r.name ++ [58] ++ r.text ++ [10]

theorem byteAt_mid (h x z : List UInt8) {k : Nat} (hk : k < x.length) : byteAt (h ++ x ++ z) (h.length + k) = byteAt x k := by
  unfold byteAt
  rw [List.append_assoc, List.getElem?_append_right (by omega), List.getElem?_append_left (by omega), Nat.add_sub_cancel_left]

theorem sub_at (h x z : List UInt8) (lo hi : Nat) (e1 : lo = h.length) (e2 : hi = h.length + x.length) : sub (h ++ x ++ z) lo hi = x := by
  subst e1 e2
  unfold sub
  rw [List.append_assoc, List.take_length_add_append, List.take_append_of_le_length (by omega), List.take_length, List.drop_append_of_le_length (by omega), List.drop_length, List.nil_append]

/-- One right line: where it ends, and what it says. h: what stands ahead; z: nothing, or from a line feed on. -/
theorem line_at (h z : List UInt8) (r : LN) (hn : nameL r.name = true) (ht : textOk r = true) (hz : z = [] ∨ byteAt z 0 = 10) :
    endN (h ++ (r.name ++ [58] ++ r.text) ++ z) h.length = h.length + (r.name.length + 1 + r.text.length)
    ∧ byteAt (h ++ (r.name ++ [58] ++ r.text) ++ z) h.length ≠ 35
    ∧ bad (h ++ (r.name ++ [58] ++ r.text) ++ z) h.length (h.length + (r.name.length + 1 + r.text.length)) = false
    ∧ lineOf (h ++ (r.name ++ [58] ++ r.text) ++ z) h.length (h.length + (r.name.length + 1 + r.text.length)) = ⟨r.name, r.text, (h.length + r.name.length + 1 : Nat)⟩ := by
  obtain ⟨n1, n2, n3⟩ := name_parts hn
  have t1 := text_parts ht
  obtain ⟨x, hx⟩ : ∃ x, x = r.name ++ [58] ++ r.text := ⟨_, rfl⟩
  have hxl : x.length = r.name.length + 1 + r.text.length := by rw [hx]; simp; omega
  have bn : ∀ k, k < r.name.length → byteAt x k = byteAt r.name k := fun k hk => by
    have := byteAt_mid [] r.name ([58] ++ r.text) hk
    rw [hx]
    simpa using this
  have bc : byteAt x r.name.length = 58 := by
    have := byteAt_mid r.name [58] r.text (k := 0) (by simp)
    rw [show byteAt [58] 0 = 58 from rfl, Nat.add_zero] at this
    rw [hx]
    exact this
  have bt : ∀ k, k < r.text.length → byteAt x (r.name.length + 1 + k) = byteAt r.text k := fun k hk => by
    have := byteAt_mid (r.name ++ [58]) r.text [] hk
    rw [hx]
    simpa using this
  have s0 : sub (h ++ x ++ z) h.length (h.length + r.name.length) = r.name := by
    have := sub_at h r.name ([58] ++ r.text ++ z) h.length (h.length + r.name.length) rfl rfl
    rw [hx]
    simpa using this
  have s1 : sub (h ++ x ++ z) (h.length + r.name.length + 1) (h.length + x.length) = r.text := by
    have := sub_at (h ++ r.name ++ [58]) r.text z (h.length + r.name.length + 1) (h.length + x.length) (by simp; omega) (by rw [hxl]; simp; omega)
    rw [hx] at this ⊢
    simpa using this
  rw [← hx]
  have bx : ∀ k, k < x.length → byteAt (h ++ x ++ z) (h.length + k) = byteAt x k := fun k hk => byteAt_mid h x z hk
  clear hx
  have hl : (h ++ x ++ z).length = h.length + x.length + z.length := by simp; omega
  have bz : (h.length + x.length) < (h ++ x ++ z).length → byteAt (h ++ x ++ z) (h.length + x.length) = 10 := fun hlt => by
    rcases hz with rfl | hz
    · simp at hlt
    · have := byteAt_off (h ++ x) z 0
      simp only [Nat.zero_add, List.length_append] at this
      rw [this, hz]
  generalize h ++ x ++ z = l at *
  have x10 : ∀ k, k < x.length → byteAt x k ≠ 10 := fun k hk => by
    by_cases h1 : k < r.name.length
    · rw [bn k h1]
      exact (letB_no (n3 k h1)).1
    · by_cases h2 : k = r.name.length
      · rw [h2, bc]
        decide
      · have := bt (k - (r.name.length + 1)) (by omega)
        rw [show r.name.length + 1 + (k - (r.name.length + 1)) = k from by omega] at this
        rw [this]
        exact t1 _ (by omega)
  have E : endN l h.length = h.length + x.length := by
    refine endN_eq (by omega) (by omega) (fun k h1 h2 => ?_) bz
    rw [show k = h.length + (k - h.length) from by omega, bx _ (by omega)]
    exact x10 _ (by omega)
  have S : nmEnd l h.length (h.length + x.length) = h.length + r.name.length := by
    refine scan_all 12 _ _ (by omega) (by omega) (by omega) (fun k h1 h2 => ?_) (.inr ?_)
    · rw [show k = h.length + (k - h.length) from by omega, bx _ (by omega), bn _ (by omega)]
      exact n3 _ (by omega)
    · rw [bx _ (by omega), bc]
      decide
  rw [← hxl]
  refine ⟨E, ?_, ?_, ?_⟩
  · have := bx 0 (by omega)
    rw [Nat.add_zero] at this
    rw [this, bn 0 (by omega)]
    exact (letB_no (n3 0 (by omega))).2.1
  · unfold bad bad'
    rw [S, bx _ (by omega), bc, decide_eq_false (by omega), decide_eq_false (by omega), decide_eq_false (by omega)]
    rfl
  · unfold lineOf
    rw [S, s0, s1]

/-- Of a file that was joined the rules are these. -/
theorem split_lines : ∀ (M : List LN) (h : List UInt8) (done out : List LN) (f : Nat), sameNT out done → out.length + M.length ≤ 8 →
    (∀ i r, M[i]? = some r → okAt (done ++ M) (done.length + i) r = true) →
    (h ++ M.flatMap lineL).length + 1 ≤ h.length + f →
    ∃ out', splitF (h ++ M.flatMap lineL) f h.length out = .inr out' ∧ sameNT out' (done ++ M)
  | [], h, done, out, f, hs, _, _, hf => by
    refine ⟨out, ?_, by simpa using hs⟩
    rw [List.flatMap_nil, List.append_nil] at *
    cases f with
    | zero => rfl
    | succ f =>
      have e : endN h h.length = h.length := endN_out (Nat.le_refl _)
      rw [splitF, if_neg (by omega), e, if_pos (.inl rfl)]
      cases f with
      | zero => rfl
      | succ f => rw [splitF, if_pos (by omega)]
  | r :: M, h, done, out, f, hs, h8, hok, hf => by
    have hr := hok 0 r rfl
    unfold okAt at hr
    rw [Bool.and_eq_true, Bool.and_eq_true] at hr
    obtain ⟨⟨hn, hfi⟩, ht⟩ := hr
    rw [Nat.add_zero, List.take_left] at hfi
    obtain ⟨n1, _, _⟩ := name_parts hn
    have e0 : h ++ (r :: M).flatMap lineL = h ++ (r.name ++ [58] ++ r.text) ++ ([10] ++ M.flatMap lineL) := by
      simp [lineL]
    have e1 : h ++ (r :: M).flatMap lineL = (h ++ lineL r) ++ M.flatMap lineL := by simp
    obtain ⟨p1, p2, p3, p4⟩ := line_at h ([10] ++ M.flatMap lineL) r hn ht (.inr rfl)
    rw [← e0] at p1 p2 p3 p4
    have hlen : (h ++ lineL r).length = h.length + (r.name.length + 1 + r.text.length) + 1 := by simp [lineL]; omega
    have hlong : h.length ≤ (h ++ (r :: M).flatMap lineL).length := by rw [List.length_append]; omega
    obtain ⟨f, rfl⟩ : ∃ f', f = f' + 1 := ⟨f - 1, by omega⟩
    rw [splitF, if_neg (by omega), p1, if_neg (by omega), p3, if_neg (by simp), p4]
    have hfo : findL out r.name = false := by
      rw [find_same hs]
      simpa using hfi
    rw [if_neg (by
      rintro (e | e)
      · rw [hfo] at e; cases e
      · simp at h8; omega)]
    obtain ⟨out', q1, q2⟩ := split_lines M (h ++ lineL r) (done ++ [r]) (out ++ [⟨r.name, r.text, (h.length + r.name.length + 1 : Nat)⟩]) f
      (by unfold sameNT at *; rw [List.map_append, List.map_append, hs]; rfl)
      (by simp at h8 ⊢; omega)
      (fun i s hi => by
        have := hok (i + 1) s (by simpa using hi)
        rw [List.append_assoc, List.length_append]
        rw [show done.length + (i + 1) = done.length + [r].length + i from by simp; omega] at this
        exact this)
      (by rw [← e1]; omega)
    rw [← e1, hlen] at q1
    refine ⟨out', ?_, by simpa using q2⟩
    exact q1

theorem okTo_all {L : List LN} {n : Nat} (h : okTo L n = true) {i : Nat} {r : LN} (hi : i < n) (hr : L[i]? = some r) : okAt L i r = true := by
  unfold okTo at h
  have := List.all_eq_true.1 h i (List.mem_range.2 hi)
  rw [hr] at this
  exact this

theorem split_join {L : List LN} {s : List UInt8} (h : joinR L = some s) : ∃ out, splitR s = .inr out ∧ sameNT out L := by
  unfold joinR at h
  split at h
  · rename_i hc
    injection h with h
    obtain ⟨c1, c2, c3, c4⟩ := hc
    have hs : s = L.flatMap lineL := by
      rw [← h]
      unfold fileTo
      rw [List.take_length]
      rfl
    have hlen : s.length ≤ 1000 := by rw [← h]; exact c4
    obtain ⟨out, q1, q2⟩ := split_lines L [] [] [] (s.length + 1) rfl (by simpa using c3) (fun i r hr => by
      simpa using okTo_all c1 (List.getElem?_eq_some_iff.1 hr).1 hr) (by rw [List.nil_append, ← hs]; simp)
    rw [List.nil_append, ← hs] at q1
    rw [List.nil_append] at q2
    refine ⟨out, ?_, q2⟩
    unfold splitR
    rw [if_neg (by omega)]
    rw [show splitF s (s.length + 1) 0 [] = .inr out from q1]
    cases out with
    | nil =>
      have := congrArg List.length q2
      simp at this
      omega
    | cons r rs => rfl
  · cases h

/-- A file of one rule. -/
theorem split_one (n : List UInt8) (hn : nameL n = true) : splitR (n ++ [58, 120]) = .inr [⟨n, [120], (n.length + 1 : Nat)⟩] := by
  obtain ⟨n1, n2, _⟩ := name_parts hn
  obtain ⟨p1, p2, p3, p4⟩ := line_at [] [] ⟨n, [120], 0⟩ hn (by rfl) (.inl rfl)
  simp only [List.nil_append, List.append_nil, List.length_nil, Nat.zero_add, List.length_cons] at p1 p2 p3 p4
  have e : n ++ [58] ++ [120] = n ++ [58, 120] := by simp
  rw [e] at p1 p2 p3 p4
  have hl : (n ++ [58, 120]).length = n.length + 2 := by simp
  have hne : ¬ (0 = n.length + 1 + 1 ∨ byteAt (n ++ [58, 120]) 0 = 35) := fun h => by
    rcases h with h | h
    · omega
    · exact p2 h
  unfold splitR
  rw [if_neg (by omega), hl, splitF, if_neg (by omega), p1, if_neg hne, p3, if_neg (by simp), p4, if_neg (by
    rintro (e | e)
    · cases e
    · cases e), splitF, if_pos (by omega)]
  rfl

instance : DecidableEq LN := fun a b => decidable_of_iff (a.name = b.name ∧ a.text = b.text ∧ a.place = b.place) (by cases a; cases b; simp)
/-- What the laws' own answers want. -/
theorem aw1 : splitR [35, 32, 120, 10, 105, 100, 58, 91, 97, 45, 122, 93, 43, 10] = .inr [⟨[105, 100], [91, 97, 45, 122, 93, 43], 7⟩] := by decide +kernel
theorem aw2 : splitR [105, 100, 91, 97, 93] = .inl 2 := by decide +kernel
theorem aw3 : splitR [35] = .inl 1 := by decide +kernel
theorem aw4 : joinR [⟨[105, 100], [91, 97, 45, 122, 93, 43], 7⟩] = some [105, 100, 58, 91, 97, 45, 122, 93, 43, 10] := by decide +kernel
theorem aw5 : joinR [] = none := by decide +kernel
theorem aw6 : nameL [97, 95, 57] = true := by decide +kernel
theorem aw7 : nameL [] = false := by decide +kernel
end Go.Proofs.YtmeiboaagkoadaaGreatDoor.Ref06
/- A slice of the rules of package rules, of the program's own (layer 6): what append of one line makes of it. -/
namespace Go.Proofs.YtmeiboaagkoadaaGreatDoor.Ref06
open Go.RowKit Go.Proofs.YtmeiboaagkoadaaGreatDoor.Base

/-- The slice v holds the lines L, from its block's head. -/
def OLr (w : World) (v : Value) (L : List LN) : Prop := w.ownsRow 0 57 3 v L.length (lflat L)

theorem OLr.nil (w : World) : OLr w (.slice none 0 0) [] := ⟨rfl, .inl ⟨rfl, rfl⟩⟩

theorem OLr.keep {S : Nat → Prop} {w w' : World} {v : Value} {L : List LN} (h : OLr w v L) (q : Keep S w w') (hn : ∀ g, v.ownBlock = some g → ¬ S g) : OLr w' v L := by
  refine ⟨h.1, ?_⟩
  rcases h.2 with h | ⟨g, cap, cur, rfl, hb, hg, r⟩
  · exact .inl h
  · refine .inr ⟨g, cap, cur, rfl, hb, ?_, r⟩
    have : At w g 57 cur := hg
    exact this.keep q (hn g rfl)

/-- As an argument. -/
theorem OLr.form {w : World} {v : Value} {L : List LN} (h : OLr w v L) : ∃ a cap, v = .slice a L.length cap ∧ LS w a L ∧ (∀ x, a = some x → v.ownBlock = some x.block) := by
  rcases h.2 with ⟨rfl, h0⟩ | ⟨g, cap, cur, rfl, _, hg, h1, h2, h3, h4⟩
  · refine ⟨none, 0, by rw [h0], .inl (List.eq_nil_of_length_eq_zero h0), fun x hx => by cases hx⟩
  · have ha : At w g 57 cur := hg
    have hcell : ∀ (j : Nat) (u : Value), (lflat L)[j]? = some u → j < L.length * 3 → w.cell? ⟨g, 0 + j, none⟩ = some u := fun j u hu hj => by
      refine ha.cell ?_
      have h5 : (cur.toList.take (L.length * 3))[j]? = (lflat L)[j]? := by rw [h4]
      rw [List.getElem?_take_of_lt hj, hu] at h5
      rw [Nat.zero_add]
      simpa using h5
    refine ⟨_, cap, rfl, .inr ⟨g, 0, rfl, ha.lt, fun i r hr => ?_⟩, fun x hx => by cases hx; rfl⟩
    have hi : i < L.length := (List.getElem?_eq_some_iff.1 hr).1
    obtain ⟨f0, f1, f2⟩ := lflat_at L i r hr
    exact ⟨hcell _ _ f0 (by omega), by rw [Nat.add_assoc]; exact hcell _ _ f1 (by omega), by rw [Nat.add_assoc]; exact hcell _ _ f2 (by omega)⟩

theorem OLr.form2 {w : World} {v : Value} {L : List LN} (h : OLr w v L) : ∃ a cap, v = .slice a L.length cap ∧ L.length ≤ cap ∧ LS w a L ∧ (∀ x, a = some x → v.ownBlock = some x.block) := by
  obtain ⟨a, cap, rfl, h1, h2⟩ := h.form
  refine ⟨a, cap, rfl, ?_, h1, h2⟩
  rcases h.2 with ⟨h3, h4⟩ | ⟨g, cap', cur, h3, _, _, h5, _⟩
  · rw [h4]
    exact Nat.zero_le _
  · injection h3 with _ _ h3
    subst h3
    exact h5

theorem infoLr : (Tryz.prog.info? 57).map (fun i => (i.zero, i.size, i.bytes)) = some (some (.agg #[.string ⟨#[]⟩, .string ⟨#[]⟩, .int .i64 0]), 3, 40) := by kernel_rfl

theorem lkeep_grown_r {w w' : World} {r : Option Nat} (h : w.grownBy w' r) : Keep (fun b => r = some b) w w' :=
  ⟨h.os, h.tape, h.output, h.size, fun k hk hn => h.block k hk (fun e => hn e.symm)⟩

/-- append of one line, laid by the call itself. -/
theorem OLr.push {w : World} {v : Value} {L : List LN} (h : OLr w v L) (r : LN) (hl : (L.length + 1) * 40 ≤ 140737488355328) (ty : TypeId) :
    ∃ v' w', (Builtin.append_ #[55, 55] ty #[v, .slice (some ⟨w.heap.size, 0, none⟩) 1 1]).run Tryz.prog (w.alloc (.cells (lcells r) 57)) = .ok v' w' ∧ OLr w' v' (L ++ [r]) ∧ Keep (fun b => v.ownBlock = some b) w w' ∧ (∀ g, v'.ownBlock = some g → v.ownBlock = some g ∨ w.heap.size ≤ g) := by
  have h1 : OLr (w.alloc (.cells (lcells r) 57)) v L := h.keep ((Keep.refl (fun _ => False) w).alloc _) (fun _ _ h => h)
  have c0 := (At.new w (lcells r) 57).cell (o := 0) rfl
  have c1 := (At.new w (lcells r) 57).cell (o := 1) rfl
  have c2 := (At.new w (lcells r) 57).cell (o := 2) rfl
  obtain ⟨i0, hi0, hz0, hz1, hz2⟩ := info_parts infoLr
  obtain ⟨v', w', hrun, h2, h3, _, h5⟩ := run_append_own_at (P := Tryz.prog) (w.alloc (.cells (lcells r) 57)) 0 55 ty 57 i0 (.agg #[.string ⟨#[]⟩, .string ⟨#[]⟩, .int .i64 0]) 3 40 Tryz.underlying55 hi0 hz0 hz1 hz2 rfl (by omega) v L.length (lflat L) h1 ⟨w.heap.size, 0, none⟩ 1 1 (lflat [r]) rfl
    (fun j u hu => by
      match j, hu with
      | 0, hu => cases hu; exact c0
      | 1, hu => cases hu; exact c1
      | 2, hu => cases hu; exact c2
      | j + 3, hu => simp [lflat] at hu) (by intro u hu; simp [lflat] at hu; rcases hu with rfl | rfl | rfl <;> rfl) (by simp only [maxLen]; omega) (by omega) (Nat.zero_le _)
  refine ⟨v', w', hrun, by unfold OLr; rw [List.length_append, lflat_append]; exact h2, ((Keep.refl _ w).alloc _).trans (lkeep_grown_r h3), fun g hg => ?_⟩
  rcases h5 with h5 | h5
  · exact .inl (by rw [← h5]; exact hg)
  · rw [h5] at hg
    injection hg with hg
    simp at hg
    exact .inr (by omega)
end Go.Proofs.YtmeiboaagkoadaaGreatDoor.Ref06
/- Where a rule's text stands in its file (layer 6), plain. -/
namespace Go.Proofs.YtmeiboaagkoadaaGreatDoor.Ref06
open Go.RowKit Go.Proofs.YtmeiboaagkoadaaGreatDoor.Base

/-- A rule's text stands where it says. -/
def Placed (l : List UInt8) (r : LN) : Prop := ∃ p : Nat, r.place = p ∧ p + r.text.length ≤ l.length ∧ sub l p (p + r.text.length) = r.text

theorem placed_line {l : List UInt8} {a : Nat} (ha : a ≤ l.length) (hb : bad l a (endN l a) = false) : Placed l (lineOf l a (endN l a)) := by
  have hge := endN_ge l a
  have hle := endN_le ha
  have h1 : nmEnd l a (endN l a) ≤ endN l a := scan_le l _ 12 a hge
  have h2 : nmEnd l a (endN l a) ≠ endN l a := fun e => by
    unfold bad bad' at hb
    rw [e] at hb
    simp at hb
  have hlen : (sub l (nmEnd l a (endN l a) + 1) (endN l a)).length = endN l a - (nmEnd l a (endN l a) + 1) := by
    unfold sub
    rw [List.length_drop, List.length_take, Nat.min_eq_left hle]
  refine ⟨nmEnd l a (endN l a) + 1, rfl, ?_, ?_⟩
  · show _ + (sub l (nmEnd l a (endN l a) + 1) (endN l a)).length ≤ _
    rw [hlen]
    omega
  · show sub l _ (_ + (sub l (nmEnd l a (endN l a) + 1) (endN l a)).length) = sub l (nmEnd l a (endN l a) + 1) (endN l a)
    rw [hlen, show nmEnd l a (endN l a) + 1 + (endN l a - (nmEnd l a (endN l a) + 1)) = endN l a from by omega]

theorem placed_all {l : List UInt8} : ∀ f a out out', (∀ r ∈ out, Placed l r) → splitF l f a out = .inr out' → ∀ r ∈ out', Placed l r
  | 0, a, out, out', h, hs => by
    injection hs with hs
    subst hs
    exact h
  | f + 1, a, out, out', h, hs => by
    rw [splitF] at hs
    split at hs
    · injection hs with hs
      subst hs
      exact h
    · rename_i ha
      split at hs
      · exact placed_all f _ out out' h hs
      · split at hs
        · cases hs
        · rename_i hb
          split at hs
          · cases hs
          · refine placed_all f _ _ out' (fun r hr => ?_) hs
            rcases List.mem_append.1 hr with hr | hr
            · exact h r hr
            · rw [List.mem_singleton.1 hr]
              exact placed_line (by omega) (by simpa using hb)

theorem few_all {l : List UInt8} : ∀ f a out out', out.length ≤ 8 → splitF l f a out = .inr out' → out'.length ≤ 8
  | 0, a, out, out', h, hs => by
    injection hs with hs
    rw [← hs]
    exact h
  | f + 1, a, out, out', h, hs => by
    rw [splitF] at hs
    split at hs
    · injection hs with hs
      rw [← hs]
      exact h
    · split at hs
      · exact few_all f _ out out' h hs
      · split at hs
        · cases hs
        · split at hs
          · cases hs
          · rename_i h8
            refine few_all f _ _ out' ?_ hs
            have : out.length ≠ 8 := fun e => h8 (.inr e)
            rw [List.length_append, List.length_singleton]
            omega

theorem placed_split {l : List UInt8} {out : List LN} (h : splitR l = .inr out) : l.length ≤ 1000 ∧ out.length ≤ 8 ∧ ∀ r ∈ out, Placed l r := by
  unfold splitR at h
  split at h
  · cases h
  · refine ⟨by omega, ?_⟩
    cases hF : splitF l (l.length + 1) 0 [] with
    | inl b => rw [hF] at h; cases h
    | inr o =>
      have := And.intro (few_all _ _ _ _ (by simp) hF) (placed_all _ _ _ _ (by simp) hF)
      rw [hF] at h
      cases o with
      | nil => cases h
      | cons r rs =>
        injection h with h
        rw [← h]
        exact this
end Go.Proofs.YtmeiboaagkoadaaGreatDoor.Ref06
