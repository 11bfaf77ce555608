/- The document's own arena of layer 2: Free. -/
import Derived.Test.YtklknkeanmjhnaaRef02c
namespace Go.Proofs.Ytklknkeanmjhnaa.Ref02
open Go.RowKit Go.Proofs.Ytklknkeanmjhnaa.Base Go.Proofs.Ytklknkeanmjhnaa.Arena Go.Proofs.Ytklknkeanmjhnaa.Stretch Go.Proofs.Ytklknkeanmjhnaa.Regs Go.Proofs.Ytklknkeanmjhnaa.Law02 Go.Proofs.Ytklknkeanmjhnaa.Meter

theorem free_ref_none (b g : Nat) (lv : Value) (s : AS) (q : Int) (id : Int) (w : World) (h : RA w b g lv s q) (ho : s.Ok) (hr : Regs.look s.L id = none) :
    Calls Try.prog 22 #[Arena.ptr b, .int .i64 id] w fun e w' => e = .returned (.int .i64 7) ∧ w = w' := by
  have hf := Lib.hid (find_none b g lv s q id w h (Nat.le_trans ho.len_le ho.sz) hr)
  clear h hr
  go_enter Try.func22, Try.ntmps22
  go_wp2_with fail
  refine hf.out.mono ?_
  rintro e w1 ⟨rfl, rfl⟩
  go_wp2
  go_ret
  exact ⟨rfl, rfl⟩

/-- On the way: i of the region's cells are noughts. -/
structure Fz (w w' : World) (g : Nat) (s : AS) (r : Reg) (i : Nat) : Prop where
  cr : ∃ cc : Array Value, At w' g 3 cc ∧ cc.size = s.size ∧ ∀ p, p < s.size → cc[p]? = some (.int .i64 (if r.base ≤ p ∧ p < r.base + i then 0 else s.C p))
  q : Keep (· = g) w w'

theorem Fz.next {w w' : World} {g : Nat} {s : AS} {r : Reg} {i : Nat} (h : Fz w w' g s r i) (hr : r.base + i < s.size) : Fz w (w'.setCell ⟨g, r.base + i, none⟩ (.int .i64 0)).drew g s r (i + 1) := by
  obtain ⟨cc, c1, c2, c3⟩ := h.cr
  refine ⟨⟨_, (c1.set (r.base + i) (.int .i64 0)).drew, by simpa using c2, fun p hp => ?_⟩, (h.q.setCell (fun _ => rfl) _).drew⟩
  by_cases e : r.base + i = p
  · subst e
    rw [Array.getElem?_setIfInBounds_self_of_lt (by omega), if_pos (by omega)]
  · rw [Array.getElem?_setIfInBounds_ne e, c3 p hp]
    by_cases e2 : r.base ≤ p ∧ p < r.base + i
    · rw [if_pos e2, if_pos (by omega)]
    · rw [if_neg e2, if_neg (by omega)]

/-- The list without the region at place k. -/
theorem cut_at {L : List Reg} (h : L.Pairwise fun a b => a.id < b.id) {k : Nat} {r : Reg} (hk : L[k]? = some r) : L.take k ++ L.drop (k + 1) = L.filter fun x => !decide ((x.id : Int) = r.id) := by
  induction L generalizing k with
  | nil => simp at hk
  | cons x L ih =>
    rw [List.pairwise_cons] at h
    cases k with
    | zero =>
      simp at hk
      subst hk
      rw [List.filter_cons]
      simp only [List.take_zero, List.nil_append, List.drop_succ_cons, List.drop_zero]
      rw [if_neg (by simp)]
      symm
      rw [List.filter_eq_self]
      intro y hy
      have := h.1 y hy
      simp
      omega
    | succ k =>
      have hk' : L[k]? = some r := by simpa using hk
      have := h.1 r (List.mem_of_getElem? hk')
      rw [List.filter_cons, if_pos (by simp; omega), ← ih h.2 hk']
      rfl

set_option maxRecDepth 100000 in
set_option maxHeartbeats 1000000 in
theorem free_ref_some (b g : Nat) (lv : Value) (s : AS) (q : Int) (id : Int) (r : Reg) (w : World) (h : RA w b g lv s q) (ho : s.Ok) (hr : Regs.look s.L id = some r) :
    Calls Try.prog 22 #[Arena.ptr b, .int .i64 id] w fun e w' => e = .returned (.int .i64 0) ∧ Did2 w b g lv (s.del r) q w' := by
  have hlen : s.L.length ≤ 1048576 := Nat.le_trans ho.len_le ho.sz
  have hf := Lib.hid (find_some b g lv s q id r w h hlen ho.ids hr)
  obtain ⟨hm, he⟩ := look_mem hr
  obtain ⟨n1, n2⟩ := ho.reg r hm
  have hsz := ho.sz
  have hus := ho.used_le
  have hdu := AS.del_used ho hm
  obtain ⟨la, cap, hlv, hc⟩ := h.rl.form
  subst hlv
  have HC := Lib.hid (And.intro hc (And.intro h (And.intro ho hm)))
  have b1 : w.cell? ⟨b, 1, none⟩ = some (.slice la s.L.length cap) := h.at_.cell rfl
  clear hc h hr he hm ho
  go_enter Try.func22, Try.ntmps22
  go_wp2_with fail
  refine hf.out.mono ?_
  rintro e w1 ⟨k, rfl, hk, rfl⟩
  obtain ⟨u, rfl, hlo, c0, c1, c2⟩ := HC.out.1 k r hk
  have hkl : k < s.L.length := (List.getElem?_eq_some_iff.1 hk).1
  have hkl' : (k : Int) < s.L.length := by omega
  have HK := Lib.hid (And.intro hk hlo)
  have a1 := At.new w #[.int .i64 r.id, .int .i64 r.base, .int .i64 r.n] 49
  have q1 : Keep (fun _ => False) w (w.alloc (.cells #[.int .i64 r.id, .int .i64 r.base, .int .i64 r.n] 49)) := (Keep.refl _ w).alloc _
  have R1 := HC.out.2.1.quiet q1
  have hbl := HC.out.2.1.at_.lt
  have hgl : g < w.heap.size := by obtain ⟨cc, x1, -⟩ := HC.out.2.1.cr; exact x1.lt
  have X := Lib.hid (And.intro a1 (And.intro q1 R1))
  clear hk hlo a1 q1 R1
  go_wp2_with fail
  generalize hW1 : w.alloc (.cells #[.int .i64 r.id, .int .i64 r.base, .int .i64 r.n] 49) = W1 at *
  have HW1 := Lib.hid hW1
  clear hW1 b1 c0 c1 c2
  have F0 : Fz W1 W1 g s r 0 := by
    obtain ⟨cc, x1, x2, x3⟩ := X.out.2.2.cr
    exact ⟨⟨cc, x1, x2, fun p hp => by rw [if_neg (by omega)]; exact x3 p hp⟩, Keep.refl _ _⟩
  go_loopg [7] r.n (fun gg i wr => ∃ j : Nat, j + gg = r.n ∧ i = .int .i64 j ∧ Fz W1 wr g s r j)
  case atStart => exact ⟨0, Nat.zero_add _, rfl, F0⟩
  case round =>
    obtain ⟨j, hj, rfl, hF⟩ := hrel
    have hub : ¬ w.heap.size = b := by omega
    have hug : ¬ w.heap.size = g := by omega
    have a2 := X.out.1.keep hF.q hug
    have A2 := X.out.2.2.at_.keep hF.q X.out.2.2.bg
    have c1 : wr.cell? ⟨w.heap.size, 1, none⟩ = some (.int .i64 r.base) := a2.cell rfl
    have c2 : wr.cell? ⟨w.heap.size, 2, none⟩ = some (.int .i64 r.n) := a2.cell rfl
    have b2 : wr.cell? ⟨b, 2, none⟩ = some (.slice (some ⟨g, 0, none⟩) s.size s.size) := A2.cell rfl
    by_cases hlt : j < r.n
    · have hF2 := hF.next (by omega)
      obtain ⟨cc, x1, x2, x3⟩ := hF.cr
      obtain ⟨p, hpe⟩ : ∃ p, p = r.base + j := ⟨_, rfl⟩
      rw [← hpe] at hF2
      have cg := x1.cell (x3 p (by omega))
      have fg := x1.frozen p
      have hlt' : (j : Int) < r.n := by omega
      have hw' : (r.base : Int) + j = (p : Int) := by omega
      have hw : IntKind.i64.wrap (p : Int) = p := by rw [IntKind.wrap_i64]; omega
      have hlt2 : (p : Int) < s.size := by omega
      have HF2 := Lib.hid hF2
      clear hF hF2 F0 a2 A2 x1 x2 x3 hpe n2
      generalize (if r.base ≤ p ∧ p < r.base + j then 0 else s.C p) = old at *
      go_upto_region 8 with fail
      go_region
      generalize (wr.setCell ⟨g, p, none⟩ (.int .i64 0)).drew = wr2 at *
      go_wp2_with fail
      go_roundg (gk - 1)
      case measure => omega
      case rel => exact ⟨j + 1, by omega, by go_num, HF2.out⟩
    · obtain rfl : j = r.n := by omega
      have b4 : wr.cell? ⟨b, 4, none⟩ = some (.int .i64 s.used) := A2.cell rfl
      have f4 := A2.frozen 4
      have hf3 : ¬ ((r.n : Int) < r.n) := by omega
      have hwu : IntKind.i64.wrap ((s.used : Int) - r.n) = (s.used : Int) - r.n := by rw [IntKind.wrap_i64]; omega
      have Y := Lib.hid (And.intro hF (And.intro a2 A2))
      clear hF F0 a2 A2
      go_upto_region 9 with fail
      go_region
      obtain ⟨hF, a2, A2⟩ := Y.out
      have R3 := X.out.2.2
      have hne := HC.out.2.1.ne u HK.out.2
      have hul : u < W1.heap.size := R3.rl.lt HK.out.2
      have A9 := (A2.set 4 (.int .i64 ((s.used : Int) - r.n))).drew
      simp only [List.setIfInBounds_toArray, List.set_cons_zero, List.set_cons_succ] at A9
      have L9 : RL (wr.setCell ⟨b, 4, none⟩ (.int .i64 ((s.used : Int) - r.n))).drew (.slice (some ⟨u, 0, none⟩) s.L.length cap) s.L :=
        ((R3.rl.keep hF.q (fun j hj e => (R3.ne j hj).2 e)).keep (S := (· = b)) ((Keep.refl (· = b) wr).setCell (fun _ => rfl) _) (fun j hj e => (R3.ne j hj).1 e)).keep (S := fun _ => False) ((Keep.refl _ _).drew) (fun _ _ h => h)
      have Q9 : Keep (fun j => j = b ∨ j = g) W1 (wr.setCell ⟨b, 4, none⟩ (.int .i64 ((s.used : Int) - r.n))).drew := ((hF.q.mono (T := fun j => j = b ∨ j = g) fun _ e => .inr e).setCell (fun _ => .inl rfl) _).drew
      obtain ⟨cc, g1, g2, g3⟩ := hF.cr
      have G9 := (g1.setOther (p := ⟨b, 4, none⟩) (fun e => R3.bg e.symm) (.int .i64 ((s.used : Int) - r.n))).drew
      clear g1 A2 a2 c1 c2 b2 b4 f4 hF
      generalize hW9 : (wr.setCell ⟨b, 4, none⟩ (.int .i64 ((s.used : Int) - r.n))).drew = W9 at *
      have HW9 := Lib.hid hW9
      have hcapk : s.L.length ≤ cap := by
        rcases L9.2 with ⟨e, _⟩ | ⟨g', c', cur, e, _, _, h1, _⟩
        · cases e
        · cases e; exact h1
      obtain ⟨a', c', e1, hcell⟩ := L9.form
      injection e1 with e1 e3 e2
      clear e3
      subst e1
      subst e2
      have hat : ∀ (j : Nat) (v : Value), (s.L.flatMap rcells)[j]? = some v → W9.cell? ⟨u, j, none⟩ = some v := fun j v hv => by
        rcases L9.2 with ⟨e, _⟩ | ⟨g', c', cur, e, _, h1, h2, h3, h4, h5⟩
        · cases e
        · cases e
          have ha : At W9 u 49 cur := h1
          refine ha.cell ?_
          have hj : j < (s.L.flatMap rcells).length := (List.getElem?_eq_some_iff.1 hv).1
          rw [flat_len] at hj
          rw [← h5, List.getElem?_take_of_lt hj] at hv
          simpa using hv
      have hu9 : u < W9.heap.size := L9.lt rfl
      have L10 : RL (W9.alloc (.cells #[] 49)).drew (.slice (some ⟨W9.heap.size, 0, none⟩) 0 0) [] := ⟨rfl, .inr ⟨_, 0, #[], rfl, Nat.zero_le _, (At.new W9 #[] 49).drew, Nat.le_refl _, Nat.zero_le _, rfl, rfl⟩⟩
      have q10 : Keep (fun _ => False) W9 (W9.alloc (.cells #[] 49)).drew := ((Keep.refl _ W9).alloc _).drew
      have hsplit : s.L.flatMap rcells = (s.L.take k).flatMap rcells ++ ((s.L.drop k).flatMap rcells) := by rw [← List.flatMap_append, List.take_append_drop]
      have hsplit2 : s.L.flatMap rcells = (s.L.take (k + 1)).flatMap rcells ++ ((s.L.drop (k + 1)).flatMap rcells) := by rw [← List.flatMap_append, List.take_append_drop]
      obtain ⟨v1, W10, hrun1, M1, p1, f1⟩ := L10.append (s.L.take k) ⟨u, 0, none⟩ cap (fun j v hv => by
        rw [Addr.add_lit, Nat.zero_add]
        refine (q10.cell (a := ⟨u, j, none⟩) hu9 (fun h => h)).trans (hat j v ?_)
        rw [hsplit, List.getElem?_append_left (List.getElem?_eq_some_iff.1 hv).1]
        exact hv) (by simp; omega) 31
      rw [List.nil_append] at M1
      rw [show (s.L.take k).length = k from by simp; omega] at hrun1
      have p1' : Keep (fun _ => False) W9 W10 := q10.next p1 (fun i hi hlt => by have hi' : some W9.heap.size = some i := hi; injection hi' with hi'; omega)
      obtain ⟨a1, m1, k1', rfl⟩ : ∃ a m c, v1 = .slice a m c := by obtain ⟨a, c, e, -⟩ := M1.form; exact ⟨a, _, c, e⟩
      obtain ⟨v2, W11, hrun2, M2, p2, f2⟩ := M1.append (s.L.drop (k + 1)) (if cap = k + 1 then ⟨u, 0, none⟩ else ⟨u, (k + 1) * 3, none⟩) (cap - (k + 1)) (fun j v hv => by
        have hj := (List.getElem?_eq_some_iff.1 hv).1
        rw [flat_len, List.length_drop] at hj
        rw [if_neg (by omega), Addr.add_lit]
        refine (p1'.cell (a := ⟨u, (k + 1) * 3 + j, none⟩) hu9 (fun h => h)).trans (hat _ v ?_)
        rw [hsplit2, List.getElem?_append_right (by rw [flat_len]; simp; omega), flat_len, List.length_take]
        rw [show (k + 1) * 3 + j - min (k + 1) s.L.length * 3 = j from by rw [Nat.min_eq_left (by omega)]; omega]
        exact hv) (by simp; omega) 31
      rw [cut_at HC.out.2.2.1.ids HK.out.1] at M2
      rw [List.length_drop] at hrun2
      have p2' : Keep (fun _ => False) W9 W11 := p1'.next p2 (fun i hi hlt => by
        rcases f1 i hi with e | e
        · have e' : some W9.heap.size = some i := e
          injection e' with e'
          omega
        · simp at e
          omega)
      have f2' : ∀ j, v2.ownBlock = some j → W9.heap.size ≤ j := fun j hj => by
        rcases f2 j hj with e | e
        · rcases f1 j e with e' | e'
          · have e2 : some W9.heap.size = some j := e'
            injection e2 with e2
            omega
          · simp at e'
            omega
        · have := p1'.size
          omega
      obtain ⟨a2, m2, k2', rfl⟩ : ∃ a m c, v2 = .slice a m c := by obtain ⟨a, c, e, -⟩ := M2.form; exact ⟨a, _, c, e⟩
      have b1 : W9.cell? ⟨b, 1, none⟩ = some (.slice (some ⟨u, 0, none⟩) s.L.length cap) := A9.cell rfl
      have b1e : (W9.alloc (.cells #[] 49)).cell? ⟨b, 1, none⟩ = some (.slice (some ⟨u, 0, none⟩) s.L.length cap) := (A9.alloc _).cell rfl
      have b1f : W10.cell? ⟨b, 1, none⟩ = some (.slice (some ⟨u, 0, none⟩) s.L.length cap) := (A9.keep p1' (fun h => h)).cell rfl
      have A11 := A9.keep p2' (fun h => h)
      have b11 : W11.cell? ⟨b, 1, none⟩ = some (.slice (some ⟨u, 0, none⟩) s.L.length cap) := A11.cell rfl
      have f11 := A11.frozen 1
      have G11 := G9.keep p2' (fun h => h)
      have FIN : Did2 w b g (.slice (some ⟨u, 0, none⟩) s.L.length cap) (s.del r) q (W11.setCell ⟨b, 1, none⟩ (.slice a2 m2 k2')) := by
        have h9b := A9.lt
        have h9g := G9.lt
        have hww : w.heap.size ≤ W9.heap.size := Nat.le_trans X.out.2.1.size Q9.size
        refine ⟨.slice a2 m2 k2', ⟨?_, M2.keep (S := (· = b)) ((Keep.refl (· = b) W11).setCell (fun _ => rfl) _) (fun j hj e => by have := f2' j hj; have e' : j = b := e; omega), ⟨cc, G11.setOther (p := ⟨b, 1, none⟩) (fun e => R3.bg e.symm) _, g2, fun p hp => g3 p hp⟩, R3.bg, fun j hj => by have := f2' j hj; omega⟩, fun j hj => .inr (by have := f2' j hj; omega), ?_⟩
        · have h6 := A11.set 1 (.slice a2 m2 k2')
          simp only [List.setIfInBounds_toArray, List.set_cons_zero, List.set_cons_succ] at h6
          rw [show (((s.del r).used : Nat) : Int) = (s.used : Int) - r.n from by omega]
          exact h6
        · exact (((X.out.2.1.mono (T := fun j => j = b ∨ j = g ∨ Value.ownBlock (.slice (some ⟨u, 0, none⟩) s.L.length cap) = some j) fun _ e => e.elim).trans (Q9.mono fun _ e => e.imp (fun h => h) .inl)).trans (p2'.mono fun _ e => e.elim)).setCell (fun _ => .inl rfl) _
      have HFIN := Lib.hid FIN
      have hwk : IntKind.i64.wrap ((k : Int) + 1) = (k : Int) + 1 := by rw [IntKind.wrap_i64]; omega
      have hkt : ((k : Int) + 1).toNat = k + 1 := by omega
      have hk0 : (0 : Int) ≤ (k : Int) + 1 := by omega
      have hk1 : (k : Int) + 1 ≤ s.L.length := by omega
      have hk2 : (k : Int) ≤ cap := by omega
      clear FIN L9 Q9 G9 G11 A11 L10 q10 hsplit hsplit2 M1 p1 f1 p1' M2 p2 f2 p2' f2' A9 hat hcell g2 g3 hne R3 X Y hW9
      go_upto_region 10 with fail
      go_region_law (first
        | (refine step_append_run _ rfl (.tmp 45) (.tmp 51) 31 31 rfl (.slice (some ⟨W9.heap.size, 0, none⟩) 0 0) (.slice (some ⟨u, 0, none⟩) k cap) (by simp [Act.eval, Act.put]) (by simp [Act.eval, Act.put]) _ W10 hrun1 ?_)
        | (refine step_append_run _ rfl (.tmp 52) (.tmp 59) 31 31 rfl (.slice a1 m1 k1') (.slice (some (if cap = k + 1 then ⟨u, 0, none⟩ else ⟨u, (k + 1) * 3, none⟩)) (s.L.length - (k + 1)) (cap - (k + 1))) (by simp [Act.eval, Act.put]) (by simp [Act.eval, Act.put] <;> split <;> rfl) _ W11 hrun2 ?_))
      all_goals
        generalize W11.setCell ⟨b, 1, none⟩ (.slice a2 m2 k2') = W12 at *
        go_wp2
        all_goals
          go_ret
          exact ⟨rfl, HFIN.out⟩

end Go.Proofs.Ytklknkeanmjhnaa.Ref02
