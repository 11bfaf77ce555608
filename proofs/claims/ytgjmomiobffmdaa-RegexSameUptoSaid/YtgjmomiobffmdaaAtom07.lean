/- The document's parser (layer 7): atom. -/
import Derived.Test.YtgjmomiobffmdaaClassC07
import Derived.Test.YtgjmomiobffmdaaStill07
namespace Go.Proofs.Ytgjmomiobffmdaa.P07
open Go.RowKit Go.Proofs.Ytgjmomiobffmdaa.Base Go.Proofs.Ytgjmomiobffmdaa.IL Go.Proofs.Ytgjmomiobffmdaa.Bytes
open Go.Proofs.Ytgjmomiobffmdaa.Sets (ST)

/-- The function f of the parser does as A says, where o brackets stand open; what it makes lies behind the heap. -/
def NodeC (f b : Nat) (l : List UInt8) (o : Nat) (A : List UInt8 → PS → T × PS) : Prop :=
  ∀ (s : PS) (w : World), Here l s → s.opn = o → b < w.heap.size → Pr w b l s →
    Calls Try.prog f #[.pointer (some ⟨b, 0, none⟩)] w fun e w' => (∃ v, e = .returned v ∧ NodeV w' (fun k => w.heap.size ≤ k) v (A l s).1) ∧ Pr w' b l (A l s).2 ∧ Keep (fun i => i = b) w w'

theorem zs_zero : zS.x0 = 0 ∧ zS.x1 = 0 ∧ zS.x2 = 0 ∧ zS.x3 = 0 := by decide

set_option maxRecDepth 100000 in
set_option maxHeartbeats 8000000 in
theorem atom_full (b : Nat) (l : List UInt8) (s : PS) (w : World) (hb : b < w.heap.size) (h : Pr w b l s) (hc : nxt l s = 40) (ho : s.opn = 12) : Calls Try.prog 35 #[.pointer (some ⟨b, 0, none⟩)] w fun e w' => (∃ v, e = .returned v ∧ NodeV w' (fun k => w.heap.size ≤ k) v (zeroT, s.fail s.pos).1) ∧ Pr w' b l (zeroT, s.fail s.pos).2 ∧ Keep (fun i => i = b) w w' := by
  have HC := Lib.hid hc
  clear hc
  have hbn : b ≠ w.heap.size := by omega
  have HB := Lib.hid hb
  have HBN := Lib.hid hbn
  have W0 := Lib.hid (And.intro (h.keep ((Keep.refl (fun _ => False) w).alloc (.cells nzeros 28)) (fun h => h)) (And.intro (At.new w nzeros 28) ((Keep.refl (fun i => i = b) w).alloc (.cells nzeros 28))))
  clear h hb hbn
  go_enter Try.func35, Try.ntmps35
  go_wp2_with fail
  generalize (w.alloc (.cells nzeros 28)) = V at *
  refine (next_is HC.out V W0.out.1).mono ?_
  rintro e w1 ⟨rfl, q1⟩
  have P1 := Lib.hid (And.intro (W0.out.1.keep q1 (fun h => h)) (And.intro (W0.out.2.1.keep q1 (fun h => h)) (W0.out.2.2.trans (upk b q1))))
  clear q1
  have d1 : w1.cell? ⟨b, 1, none⟩ = some (.int .i64 s.pos) := At.cell P1.out.1 (o := 1) rfl
  have d3 : w1.cell? ⟨b, 3, none⟩ = some (.int .i64 12) := by
    have := At.cell P1.out.1 (o := 3) (v := .int .i64 s.opn) rfl
    rw [ho] at this
    exact this
  clear ho
  go_wp2_with fail
  refine (fail_any b l s s.pos w1 P1.out.1).mono ?_
  rintro e w2 ⟨rfl, r2, q2⟩
  have P2 := Lib.hid (And.intro r2 (And.intro (P1.out.2.1.keep q2 (by have := HB.out; omega)) (P1.out.2.2.trans q2)))
  clear r2 q2 d1 d3
  obtain ⟨⟨c0, c1, c2, c3, c4, c5, c6, c7⟩, f0, f1, f2, f3, f4, f5, f6, f7⟩ := cells8 P2.out.2.1
  have hlt0 := (P2.out.2.1).lt
  go_wp2_with fail
  change bodyPost _ _ _ _ _ (put8 w2 w.heap.size (.int .i64 0) (.int .u64 0) (.int .u64 0) (.int .u64 0) (.int .u64 0) (.int .i64 0) (.int .i64 0) (.slice none 0 0))
  have a := set8 P2.out.2.1 (.int .i64 0) (.int .u64 0) (.int .u64 0) (.int .u64 0) (.int .u64 0) (.int .i64 0) (.int .i64 0) (.slice none 0 0)
  have p := other8 (show At _ b _ _ from P2.out.1) HBN.out (.int .i64 0) (.int .u64 0) (.int .u64 0) (.int .u64 0) (.int .u64 0) (.int .i64 0) (.int .i64 0) (.slice none 0 0)
  have q := keep8 P2.out.2.2 (b := w.heap.size) (fun h => absurd h (Nat.lt_irrefl _)) (.int .i64 0) (.int .u64 0) (.int .u64 0) (.int .u64 0) (.int .u64 0) (.int .i64 0) (.int .i64 0) (.slice none 0 0)
  generalize (put8 w2 w.heap.size (.int .i64 0) (.int .u64 0) (.int .u64 0) (.int .u64 0) (.int .u64 0) (.int .i64 0) (.int .i64 0) (.slice none 0 0)) = W9 at a p q ⊢
  obtain ⟨⟨e0, e1, e2, e3, e4, e5, e6, e7⟩, -⟩ := cells8 a
  exact bodyPost_ret (v := .agg #[(.int .i64 0), (.int .u64 0), (.int .u64 0), (.int .u64 0), (.int .u64 0), (.int .i64 0), (.int .i64 0), (.slice none 0 0)]) (by simp [results, Try.results35, go_sem, e0, e1, e2, e3, e4, e5, e6, e7]) rfl ⟨⟨_, rfl, none, 0, by unfold nodeV ncells zeroT T.kind T.set T.mn T.mx T.subs; simp only [zs_zero]; rfl, Nat.zero_le _, .nil _⟩, p, q⟩

set_option maxRecDepth 100000 in
set_option maxHeartbeats 8000000 in
theorem atom_dot (b : Nat) (l : List UInt8) (hl : l.length ≤ 3000) (s : PS) (w : World) (hb : b < w.heap.size) (h : Pr w b l s) (hc : nxt l s = 46) : Calls Try.prog 35 #[.pointer (some ⟨b, 0, none⟩)] w fun e w' => (∃ v, e = .returned v ∧ NodeV w' (fun k => w.heap.size ≤ k) v (clsT (notS zS), s.adv).1) ∧ Pr w' b l (clsT (notS zS), s.adv).2 ∧ Keep (fun i => i = b) w w' := by
  have HC := Lib.hid hc
  clear hc
  have HNot := Lib.hid (show ∀ W, Calls Try.prog 41 #[.agg #[.int .u64 0, .int .u64 0, .int .u64 0, .int .u64 0]] W fun e w' => e = .returned (val (notS zS)) ∧ Keep (fun _ => False) W w' from fun W => by
    have h1 := rnot_any zS (mk_ok _ [] rfl) W
    rw [show val zS = .agg #[.int .u64 0, .int .u64 0, .int .u64 0, .int .u64 0] from by unfold val cells; simp only [zs_zero]; rfl] at h1
    exact h1)
  obtain ⟨s6, hs6⟩ : ∃ s6, notS zS = s6 := ⟨_, rfl⟩
  rw [hs6] at HNot ⊢
  clear hs6
  have hbn : b ≠ w.heap.size := by omega
  have HB := Lib.hid hb
  have HBN := Lib.hid hbn
  have W0 := Lib.hid (And.intro (h.keep ((Keep.refl (fun _ => False) w).alloc (.cells nzeros 28)) (fun h => h)) (And.intro (At.new w nzeros 28) ((Keep.refl (fun i => i = b) w).alloc (.cells nzeros 28))))
  clear h hb hbn
  go_enter Try.func35, Try.ntmps35
  go_wp2_with fail
  generalize (w.alloc (.cells nzeros 28)) = V at *
  refine (next_is HC.out V W0.out.1).mono ?_
  rintro e w1 ⟨rfl, q1⟩
  have P1 := Lib.hid (And.intro (W0.out.1.keep q1 (fun h => h)) (And.intro (W0.out.2.1.keep q1 (fun h => h)) (W0.out.2.2.trans (upk b q1))))
  clear q1
  have d1 : w1.cell? ⟨b, 1, none⟩ = some (.int .i64 s.pos) := At.cell P1.out.1 (o := 1) rfl
  have f1 := At.frozen P1.out.1 1
  have hp0 := (Here.next (l := l) (s := s) (by rw [HC.out]; decide)).2.1
  have hw : IntKind.i64.wrap ((s.pos : Int) + 1) = (s.pos : Int) + 1 := by rw [IntKind.wrap_i64]; omega
  go_wp2_with fail
  have P2 := Lib.hid (And.intro (show Pr (w1.setCell ⟨b, 1, none⟩ (.int .i64 ((s.pos : Int) + 1))) b l s.adv from At.set P1.out.1 1 (.int .i64 ((s.pos : Int) + 1))) (And.intro (P1.out.2.1.setOther (p := ⟨b, 1, none⟩) (Ne.symm HBN.out) (.int .i64 ((s.pos : Int) + 1))) (P1.out.2.2.setCell (p := ⟨b, 1, none⟩) (fun _ => rfl) (.int .i64 ((s.pos : Int) + 1)))))
  clear d1 f1
  generalize (w1.setCell ⟨b, 1, none⟩ (.int .i64 ((s.pos : Int) + 1))) = w2 at *
  refine (HNot.out w2).mono ?_
  rintro e w3 ⟨rfl, q3⟩
  have P3 := Lib.hid (And.intro (P2.out.1.keep q3 (fun h => h)) (And.intro (P2.out.2.1.keep q3 (fun h => h)) (P2.out.2.2.trans (upk b q3))))
  clear q3
  obtain ⟨⟨c0, c1, c2, c3, c4, c5, c6, c7⟩, f0, f1, f2, f3, f4, f5, f6, f7⟩ := cells8 P3.out.2.1
  have hlt0 := (P3.out.2.1).lt
  go_wp2_with fail
  change bodyPost _ _ _ _ _ (put8 w3 w.heap.size (.int .i64 2) (.int .u64 s6.x0) (.int .u64 s6.x1) (.int .u64 s6.x2) (.int .u64 s6.x3) (.int .i64 0) (.int .i64 0) (.slice none 0 0))
  have a := set8 P3.out.2.1 (.int .i64 2) (.int .u64 s6.x0) (.int .u64 s6.x1) (.int .u64 s6.x2) (.int .u64 s6.x3) (.int .i64 0) (.int .i64 0) (.slice none 0 0)
  have p := other8 (show At _ b _ _ from P3.out.1) HBN.out (.int .i64 2) (.int .u64 s6.x0) (.int .u64 s6.x1) (.int .u64 s6.x2) (.int .u64 s6.x3) (.int .i64 0) (.int .i64 0) (.slice none 0 0)
  have q := keep8 P3.out.2.2 (b := w.heap.size) (fun h => absurd h (Nat.lt_irrefl _)) (.int .i64 2) (.int .u64 s6.x0) (.int .u64 s6.x1) (.int .u64 s6.x2) (.int .u64 s6.x3) (.int .i64 0) (.int .i64 0) (.slice none 0 0)
  generalize (put8 w3 w.heap.size (.int .i64 2) (.int .u64 s6.x0) (.int .u64 s6.x1) (.int .u64 s6.x2) (.int .u64 s6.x3) (.int .i64 0) (.int .i64 0) (.slice none 0 0)) = W9 at a p q ⊢
  obtain ⟨⟨e0, e1, e2, e3, e4, e5, e6, e7⟩, -⟩ := cells8 a
  exact bodyPost_ret (v := .agg #[(.int .i64 2), (.int .u64 s6.x0), (.int .u64 s6.x1), (.int .u64 s6.x2), (.int .u64 s6.x3), (.int .i64 0), (.int .i64 0), (.slice none 0 0)]) (by simp [results, Try.results35, go_sem, e0, e1, e2, e3, e4, e5, e6, e7]) rfl ⟨⟨_, rfl, none, 0, rfl, Nat.zero_le _, .nil _⟩, p, q⟩

set_option maxRecDepth 100000 in
set_option maxHeartbeats 8000000 in
theorem atom_cls (F b : Nat) (l : List UInt8) (hF : l.length + 2 ≤ F) (hl : l.length ≤ 3000) (s : PS) (w : World) (hb : b < w.heap.size) (h : Pr w b l s) (hc : nxt l s = 91) : Calls Try.prog 35 #[.pointer (some ⟨b, 0, none⟩)] w fun e w' => (∃ v, e = .returned v ∧ NodeV w' (fun k => w.heap.size ≤ k) v (clsP F l s.adv).1) ∧ Pr w' b l (clsP F l s.adv).2 ∧ Keep (fun i => i = b) w w' := by
  have hcx := Here.next (l := l) (s := s) (by rw [hc]; decide)
  have HC := Lib.hid hc
  have HCls := Lib.hid (show ∀ W, b < W.heap.size → Pr W b l s.adv → Calls Try.prog 42 #[.pointer (some ⟨b, 0, none⟩)] W fun e w' => e = .returned (nodeV (clsP F l s.adv).1 none 0) ∧ Pr w' b l (clsP F l s.adv).2 ∧ Keep (fun i => i = b) W w' from fun W hb' h' => class_any F b l s.adv hF hl hcx.2.2.1 (by have := hcx.2.2.2; omega) W hb' h')
  obtain ⟨S, hS⟩ : ∃ S, (clsP F l s.adv).1 = clsT S := by
    unfold clsP clsB clsQ
    split
    · exact ⟨_, rfl⟩
    · exact ⟨_, rfl⟩
  obtain ⟨⟨t, s5⟩, hR⟩ : ∃ R, clsP F l s.adv = R := ⟨_, rfl⟩
  rw [hR] at HCls hS ⊢
  have HS := Lib.hid (show t = clsT S from hS)
  clear hc hcx hS hR
  have hbn : b ≠ w.heap.size := by omega
  have HB := Lib.hid hb
  have HBN := Lib.hid hbn
  have W0 := Lib.hid (And.intro (h.keep ((Keep.refl (fun _ => False) w).alloc (.cells nzeros 28)) (fun h => h)) (And.intro (At.new w nzeros 28) ((Keep.refl (fun i => i = b) w).alloc (.cells nzeros 28))))
  clear h hb hbn
  go_enter Try.func35, Try.ntmps35
  go_wp2_with fail
  generalize (w.alloc (.cells nzeros 28)) = V at *
  refine (next_is HC.out V W0.out.1).mono ?_
  rintro e w1 ⟨rfl, q1⟩
  have P1 := Lib.hid (And.intro (W0.out.1.keep q1 (fun h => h)) (And.intro (W0.out.2.1.keep q1 (fun h => h)) (W0.out.2.2.trans (upk b q1))))
  clear q1
  have d1 : w1.cell? ⟨b, 1, none⟩ = some (.int .i64 s.pos) := At.cell P1.out.1 (o := 1) rfl
  have f1 := At.frozen P1.out.1 1
  have hp0 := (Here.next (l := l) (s := s) (by rw [HC.out]; decide)).2.1
  have hw : IntKind.i64.wrap ((s.pos : Int) + 1) = (s.pos : Int) + 1 := by rw [IntKind.wrap_i64]; omega
  go_wp2_with fail
  have P2 := Lib.hid (And.intro (show Pr (w1.setCell ⟨b, 1, none⟩ (.int .i64 ((s.pos : Int) + 1))) b l s.adv from At.set P1.out.1 1 (.int .i64 ((s.pos : Int) + 1))) (And.intro (P1.out.2.1.setOther (p := ⟨b, 1, none⟩) (Ne.symm HBN.out) (.int .i64 ((s.pos : Int) + 1))) (P1.out.2.2.setCell (p := ⟨b, 1, none⟩) (fun _ => rfl) (.int .i64 ((s.pos : Int) + 1)))))
  clear d1 f1
  generalize (w1.setCell ⟨b, 1, none⟩ (.int .i64 ((s.pos : Int) + 1))) = w2 at *
  refine (HCls.out w2 (by have := P2.out.2.1.lt; have := HB.out; omega) P2.out.1).mono ?_
  rintro e w3 ⟨rfl, r3, q3⟩
  have P3 := Lib.hid (And.intro r3 (And.intro (P2.out.2.1.keep q3 (Ne.symm HBN.out)) (P2.out.2.2.trans q3)))
  clear r3 q3
  obtain ⟨⟨c0, c1, c2, c3, c4, c5, c6, c7⟩, f0, f1, f2, f3, f4, f5, f6, f7⟩ := cells8 P3.out.2.1
  have hlt0 := (P3.out.2.1).lt
  go_wp2_with fail
  change bodyPost _ _ _ _ _ (put8 w3 w.heap.size (.int .i64 t.kind) (.int .u64 t.set.x0) (.int .u64 t.set.x1) (.int .u64 t.set.x2) (.int .u64 t.set.x3) (.int .i64 t.mn) (.int .i64 t.mx) (.slice none t.subs.length 0))
  have a := set8 P3.out.2.1 (.int .i64 t.kind) (.int .u64 t.set.x0) (.int .u64 t.set.x1) (.int .u64 t.set.x2) (.int .u64 t.set.x3) (.int .i64 t.mn) (.int .i64 t.mx) (.slice none t.subs.length 0)
  have p := other8 (show At _ b _ _ from P3.out.1) HBN.out (.int .i64 t.kind) (.int .u64 t.set.x0) (.int .u64 t.set.x1) (.int .u64 t.set.x2) (.int .u64 t.set.x3) (.int .i64 t.mn) (.int .i64 t.mx) (.slice none t.subs.length 0)
  have q := keep8 P3.out.2.2 (b := w.heap.size) (fun h => absurd h (Nat.lt_irrefl _)) (.int .i64 t.kind) (.int .u64 t.set.x0) (.int .u64 t.set.x1) (.int .u64 t.set.x2) (.int .u64 t.set.x3) (.int .i64 t.mn) (.int .i64 t.mx) (.slice none t.subs.length 0)
  generalize (put8 w3 w.heap.size (.int .i64 t.kind) (.int .u64 t.set.x0) (.int .u64 t.set.x1) (.int .u64 t.set.x2) (.int .u64 t.set.x3) (.int .i64 t.mn) (.int .i64 t.mx) (.slice none t.subs.length 0)) = W9 at a p q ⊢
  obtain ⟨⟨e0, e1, e2, e3, e4, e5, e6, e7⟩, -⟩ := cells8 a
  exact bodyPost_ret (v := .agg #[(.int .i64 t.kind), (.int .u64 t.set.x0), (.int .u64 t.set.x1), (.int .u64 t.set.x2), (.int .u64 t.set.x3), (.int .i64 t.mn), (.int .i64 t.mx), (.slice none t.subs.length 0)]) (by simp [results, Try.results35, go_sem, e0, e1, e2, e3, e4, e5, e6, e7]) rfl ⟨⟨_, rfl, none, 0, rfl, by rw [HS.out]; exact Nat.zero_le _, by rw [HS.out]; exact .nil _⟩, p, q⟩

theorem fresh_row (w : World) (x : Int) : IL (w.alloc (.cells #[.int .i64 x] 3)) (.slice (some ⟨w.heap.size, 0, none⟩) 1 1) [x] := by
  refine ⟨rfl, .inr ⟨w.heap.size, 1, #[.int .i64 x], rfl, ?_, At.new w _ _, ?_, ?_, ?_, ?_⟩⟩ <;> simp [maxLen]

set_option maxRecDepth 100000 in
set_option maxHeartbeats 8000000 in
theorem atom_lit (b : Nat) (l : List UInt8) (hl : l.length ≤ 3000) (s : PS) (hH : Here l s) (w : World) (hb : b < w.heap.size) (h : Pr w b l s) (c : Int) (hc : nxt l s = c) (h1 : c ≠ 40) (h2 : c ≠ 46) (h3 : c ≠ 91) : Calls Try.prog 35 #[.pointer (some ⟨b, 0, none⟩)] w fun e w' => (∃ v, e = .returned v ∧ NodeV w' (fun k => w.heap.size ≤ k) v (litP l s).1) ∧ Pr w' b l (litP l s).2 ∧ Keep (fun i => i = b) w w' := by
  have HC := Lib.hid hc
  have hr := one_range l s
  have HO := Lib.hid (show ∀ W, Pr W b l s → Calls Try.prog 43 #[.pointer (some ⟨b, 0, none⟩)] W fun e w' => e = .returned (.int .i64 (one l s).1) ∧ Pr w' b l (one l s).2 ∧ Keep (fun i => i = b) W w' from fun W hW => one_any b l s (by have := hH.2; omega) W hW)
  unfold litP
  obtain ⟨⟨x, s5⟩, hR⟩ : ∃ R, one l s = R := ⟨_, rfl⟩
  rw [hR] at HO hr ⊢
  dsimp only at hr HO ⊢
  obtain ⟨S, hS⟩ : ∃ S, mkS [x.toNat] = S := ⟨_, rfl⟩
  have HSet := Lib.hid (show ∀ (v : Value) (W : World), IL W v [x] → Calls Try.prog 44 #[v] W fun e w' => e = .returned (val S) ∧ Keep (fun _ => False) W w' from fun v W hW => by
    rw [← hS]
    exact set_is [x.toNat] (by simp; omega) (by simp) v W (by rw [show ints [x.toNat] = [x] from by unfold ints; simp; omega]; exact hW))
  rw [hS]
  clear hc hS hR hH
  have hbn : b ≠ w.heap.size := by omega
  have HB := Lib.hid hb
  have HBN := Lib.hid hbn
  have W0 := Lib.hid (And.intro (h.keep ((Keep.refl (fun _ => False) w).alloc (.cells nzeros 28)) (fun h => h)) (And.intro (At.new w nzeros 28) ((Keep.refl (fun i => i = b) w).alloc (.cells nzeros 28))))
  clear h hb hbn
  go_enter Try.func35, Try.ntmps35
  go_wp2_with fail
  generalize (w.alloc (.cells nzeros 28)) = V at *
  refine (next_is HC.out V W0.out.1).mono ?_
  rintro e w1 ⟨rfl, q1⟩
  have P1 := Lib.hid (And.intro (W0.out.1.keep q1 (fun h => h)) (And.intro (W0.out.2.1.keep q1 (fun h => h)) (W0.out.2.2.trans (upk b q1))))
  clear q1
  go_wp2_with fail
  refine (HO.out w1 P1.out.1).mono ?_
  rintro e w2 ⟨rfl, r2, q2⟩
  have P2 := Lib.hid (And.intro r2 (And.intro (P1.out.2.1.keep q2 (Ne.symm HBN.out)) (P1.out.2.2.trans q2)))
  clear r2 q2
  have A2 := Lib.hid (And.intro (P2.out.1.keep ((Keep.refl (fun _ => False) w2).alloc (.cells #[.int .i64 x] 3)) (fun h => h)) (And.intro (P2.out.2.1.alloc (.cells #[.int .i64 x] 3)) (And.intro (P2.out.2.2.alloc (.cells #[.int .i64 x] 3)) (fresh_row w2 x))))
  go_wp2_with fail
  generalize (w2.alloc (.cells #[.int .i64 x] 3)) = V2 at *
  refine (HSet.out _ V2 A2.out.2.2.2).mono ?_
  rintro e w3 ⟨rfl, q3⟩
  have P3 := Lib.hid (And.intro (A2.out.1.keep q3 (fun h => h)) (And.intro (A2.out.2.1.keep q3 (fun h => h)) (A2.out.2.2.1.trans (upk b q3))))
  clear q3
  obtain ⟨⟨c0, c1, c2, c3, c4, c5, c6, c7⟩, f0, f1, f2, f3, f4, f5, f6, f7⟩ := cells8 P3.out.2.1
  have hlt0 := (P3.out.2.1).lt
  go_wp2_with fail
  change bodyPost _ _ _ _ _ (put8 w3 w.heap.size (.int .i64 2) (.int .u64 S.x0) (.int .u64 S.x1) (.int .u64 S.x2) (.int .u64 S.x3) (.int .i64 0) (.int .i64 0) (.slice none 0 0))
  have a := set8 P3.out.2.1 (.int .i64 2) (.int .u64 S.x0) (.int .u64 S.x1) (.int .u64 S.x2) (.int .u64 S.x3) (.int .i64 0) (.int .i64 0) (.slice none 0 0)
  have p := other8 (show At _ b _ _ from P3.out.1) HBN.out (.int .i64 2) (.int .u64 S.x0) (.int .u64 S.x1) (.int .u64 S.x2) (.int .u64 S.x3) (.int .i64 0) (.int .i64 0) (.slice none 0 0)
  have q := keep8 P3.out.2.2 (b := w.heap.size) (fun h => absurd h (Nat.lt_irrefl _)) (.int .i64 2) (.int .u64 S.x0) (.int .u64 S.x1) (.int .u64 S.x2) (.int .u64 S.x3) (.int .i64 0) (.int .i64 0) (.slice none 0 0)
  generalize (put8 w3 w.heap.size (.int .i64 2) (.int .u64 S.x0) (.int .u64 S.x1) (.int .u64 S.x2) (.int .u64 S.x3) (.int .i64 0) (.int .i64 0) (.slice none 0 0)) = W9 at a p q ⊢
  obtain ⟨⟨e0, e1, e2, e3, e4, e5, e6, e7⟩, -⟩ := cells8 a
  exact bodyPost_ret (v := .agg #[(.int .i64 2), (.int .u64 S.x0), (.int .u64 S.x1), (.int .u64 S.x2), (.int .u64 S.x3), (.int .i64 0), (.int .i64 0), (.slice none 0 0)]) (by simp [results, Try.results35, go_sem, e0, e1, e2, e3, e4, e5, e6, e7]) rfl ⟨⟨_, rfl, none, 0, rfl, Nat.zero_le _, .nil _⟩, p, q⟩

end Go.Proofs.Ytgjmomiobffmdaa.P07
