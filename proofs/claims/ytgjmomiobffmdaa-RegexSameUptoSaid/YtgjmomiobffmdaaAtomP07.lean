/- The document's parser (layer 7): atom. -/
import Derived.Test.YtgjmomiobffmdaaAtom07
import Derived.Test.YtgjmomiobffmdaaStill07
namespace Go.Proofs.Ytgjmomiobffmdaa.P07
open Go.RowKit Go.Proofs.Ytgjmomiobffmdaa.Base Go.Proofs.Ytgjmomiobffmdaa.IL Go.Proofs.Ytgjmomiobffmdaa.Bytes
open Go.Proofs.Ytgjmomiobffmdaa.Sets (ST)

set_option maxRecDepth 100000 in
set_option maxHeartbeats 8000000 in
theorem atom_par (b : Nat) (l : List UInt8) (A : List UInt8 → PS → T × PS) (hl : l.length ≤ 3000) (s : PS) (w : World) (hA : NodeC 20 b l (s.opn + 1) A) (hSt : Still A) {kk : Nat} (hk : kk ≤ 14) (hNr : Near kk 0 A) (hb : b < w.heap.size) (h : Pr w b l s) (hc : nxt l s = 40) (ho : s.opn < 12) : Calls Try.prog 35 #[.pointer (some ⟨b, 0, none⟩)] w fun e w' => (∃ v, e = .returned v ∧ NodeV w' (fun k => w.heap.size ≤ k) v (parP A l s.adv).1) ∧ Pr w' b l (parP A l s.adv).2 ∧ Keep (fun i => i = b) w w' := by
  have hcx := Here.next (l := l) (s := s) (by rw [hc]; decide)
  obtain ⟨s3, hs3⟩ : ∃ s3 : PS, s3 = { s.adv with opn := s.opn + 1 } := ⟨_, rfl⟩
  have hH3 : Here l s3 := by rw [hs3]; exact hcx.2.2
  obtain ⟨⟨t, p4, b4, o4⟩, hR⟩ : ∃ R, A l s3 = R := ⟨_, rfl⟩
  have hH4 := hNr.here hk hH3
  have ho4 := hSt l s3
  rw [hR] at hH4 ho4
  have ho5 : o4 = s.opn + 1 := by rw [show o4 = s3.opn from ho4, hs3]
  subst ho5
  have hpar : parP A l s.adv = (t, (must 41 l ⟨p4, b4, s.opn⟩).2) := by
    unfold parP
    rw [show ({ s.adv with opn := s.adv.opn + 1 } : PS) = s3 from hs3.symm, hR]
    rfl
  have hp4 : p4 ≤ 100000000 := by have : p4 ≤ l.length + 14 := hH4.2; omega
  have HAlt := Lib.hid (show ∀ W, b < W.heap.size → Pr W b l s3 → Calls Try.prog 20 #[.pointer (some ⟨b, 0, none⟩)] W fun e w' => (∃ v, e = .returned v ∧ NodeV w' (fun k => W.heap.size ≤ k) v t) ∧ Pr w' b l ⟨p4, b4, s.opn + 1⟩ ∧ Keep (fun i => i = b) W w' from fun W hbW hW => by
    have h1 := hA s3 W hH3 (by rw [hs3]) hbW hW
    rw [hR] at h1
    exact h1)
  rw [hpar]
  have HC := Lib.hid hc
  have HS3 := Lib.hid hs3
  have hoi : ¬ (s.opn : Int) = 12 := by omega
  have hw3 : IntKind.i64.wrap ((s.opn : Int) + 1) = (s.opn : Int) + 1 := by rw [IntKind.wrap_i64]; omega
  have hw4 : IntKind.i64.wrap ((s.opn : Int) + 1 - 1) = (s.opn : Int) := by rw [IntKind.wrap_i64]; omega
  clear hcx hH3 hR hH4 ho4 hpar hc hs3 hA
  have hbn : b ≠ w.heap.size := by omega
  have HB := Lib.hid hb
  have HBN := Lib.hid hbn
  have W0 := Lib.hid (And.intro (h.keep ((Keep.refl (fun _ => False) w).alloc (.cells nzeros 28)) (fun h => h)) (And.intro (At.new w nzeros 28) ((Keep.refl (fun i => i = b) w).alloc (.cells nzeros 28))))
  clear h hb hbn
  go_enter Try.func35, Try.ntmps35
  go_wp2_with fail
  generalize (w.alloc (.cells nzeros 28)) = V at *
  refine (next_is HC.out V W0.out.1).mono ?_
  rintro e w1 ⟨rfl, q1⟩
  have P1 := Lib.hid (And.intro (W0.out.1.keep q1 (fun h => h)) (And.intro (W0.out.2.1.keep q1 (fun h => h)) (W0.out.2.2.trans (upk b q1))))
  clear q1
  have d1 : w1.cell? ⟨b, 1, none⟩ = some (.int .i64 s.pos) := At.cell P1.out.1 (o := 1) rfl
  have f1 := At.frozen P1.out.1 1
  have hp0 := (Here.next (l := l) (s := s) (by rw [HC.out]; decide)).2.1
  have hw : IntKind.i64.wrap ((s.pos : Int) + 1) = (s.pos : Int) + 1 := by rw [IntKind.wrap_i64]; omega
  have d3 : w1.cell? ⟨b, 3, none⟩ = some (.int .i64 s.opn) := At.cell P1.out.1 (o := 3) rfl
  have f3 := At.frozen P1.out.1 3
  go_wp2_with fail
  have P2 := Lib.hid (And.intro (show Pr ((w1.setCell ⟨b, 1, none⟩ (.int .i64 ((s.pos : Int) + 1))).setCell ⟨b, 3, none⟩ (.int .i64 ((s.opn : Int) + 1))) b l s3 from by
    rw [HS3.out]
    have k1 : Pr (w1.setCell ⟨b, 1, none⟩ (.int .i64 ((s.pos : Int) + 1))) b l s.adv := At.set P1.out.1 1 (.int .i64 ((s.pos : Int) + 1))
    exact At.set k1 3 (.int .i64 ((s.opn : Int) + 1))) (And.intro ((P1.out.2.1.setOther (p := ⟨b, 1, none⟩) (Ne.symm HBN.out) (.int .i64 ((s.pos : Int) + 1))).setOther (p := ⟨b, 3, none⟩) (Ne.symm HBN.out) (.int .i64 ((s.opn : Int) + 1))) ((P1.out.2.2.setCell (p := ⟨b, 1, none⟩) (fun _ => rfl) (.int .i64 ((s.pos : Int) + 1))).setCell (p := ⟨b, 3, none⟩) (fun _ => rfl) (.int .i64 ((s.opn : Int) + 1)))))
  clear d1 f1 d3 f3
  generalize ((w1.setCell ⟨b, 1, none⟩ (.int .i64 ((s.pos : Int) + 1))).setCell ⟨b, 3, none⟩ (.int .i64 ((s.opn : Int) + 1))) = W3 at *
  have hN3 := P2.out.2.1.lt
  refine (HAlt.out W3 (by have := HB.out; omega) P2.out.1).mono ?_
  rintro e w4 ⟨⟨v, rfl, a', c', rfl, hle, hLie⟩, r4, q4⟩
  have hn4 := q4.size
  have P4 := Lib.hid (And.intro r4 (And.intro (P2.out.2.1.keep q4 (Ne.symm HBN.out)) (And.intro (P2.out.2.2.trans q4) hLie)))
  clear r4 q4 hLie
  generalize W3.heap.size = n3 at *
  have ho12 : b ≠ w4.heap.size := by have := HB.out; omega
  have hn12 : w.heap.size ≠ w4.heap.size := by omega
  have A4 := Lib.hid (And.intro (P4.out.1.keep ((Keep.refl (fun _ => False) w4).alloc (.cells (ncells t a' c') 28)) (fun h => h)) (And.intro (P4.out.2.1.alloc (.cells (ncells t a' c') 28)) (And.intro (At.new w4 (ncells t a' c') 28) (And.intro (P4.out.2.2.1.alloc (.cells (ncells t a' c') 28)) (P4.out.2.2.2.keepF ((Keep.refl (fun _ => False) w4).alloc (.cells (ncells t a' c') 28)))))))
  have HN := Lib.hid (And.intro hN3 (And.intro ho12 (And.intro hn12 hle)))
  clear hN3 ho12 hn12 hle hn4
  have e3 : (w4.alloc (.cells (ncells t a' c') 28)).cell? ⟨b, 3, none⟩ = some (.int .i64 ((s.opn : Int) + 1)) := At.cell A4.out.1 (o := 3) rfl
  have g3 : (w4.alloc (.cells (ncells t a' c') 28)).frozen? ⟨b, 3, none⟩ = false := At.frozen A4.out.1 3
  go_upto_region 9 with fail
  generalize (w4.alloc (.cells (ncells t a' c') 28)) = W5 at *
  generalize w4.heap.size = n5 at *
  go_wp2_with fail
  have P6 := Lib.hid (And.intro (show Pr (W5.setCell ⟨b, 3, none⟩ (.int .i64 (s.opn : Int))) b l ⟨p4, b4, s.opn⟩ from At.set A4.out.1 3 (.int .i64 (s.opn : Int))) (And.intro (A4.out.2.1.setOther (p := ⟨b, 3, none⟩) (Ne.symm HBN.out) (.int .i64 (s.opn : Int))) (And.intro (A4.out.2.2.1.setOther (p := ⟨b, 3, none⟩) (Ne.symm HN.out.2.1) (.int .i64 (s.opn : Int))) (And.intro (A4.out.2.2.2.1.setCell (p := ⟨b, 3, none⟩) (fun _ => rfl) (.int .i64 (s.opn : Int))) (A4.out.2.2.2.2.keep ((Keep.refl (fun i => i = b) W5).setCell (p := ⟨b, 3, none⟩) (fun _ => rfl) (.int .i64 (s.opn : Int))) (fun k hk e => by have := HN.out.1; have := HB.out; omega))))))
  clear e3 g3
  generalize (W5.setCell ⟨b, 3, none⟩ (.int .i64 (s.opn : Int))) = W6 at *
  refine (must_any b l ⟨p4, b4, s.opn⟩ 41 hp4 W6 P6.out.1).mono ?_
  rintro e w7 ⟨rfl, r7, q7⟩
  have P7 := Lib.hid (And.intro r7 (And.intro (P6.out.2.1.keep q7 (Ne.symm HBN.out)) (And.intro (P6.out.2.2.1.keep q7 (Ne.symm HN.out.2.1)) (And.intro (P6.out.2.2.2.1.trans q7) (P6.out.2.2.2.2.keep q7 (fun k hk e => by have := HN.out.1; have := HB.out; omega))))))
  clear r7 q7
  obtain ⟨⟨x0, x1, x2, x3, x4, x5, x6, x7⟩, -⟩ := cells8 P7.out.2.2.1
  have hlt5 := P7.out.2.2.1.lt
  obtain ⟨⟨c0, c1, c2, c3, c4, c5, c6, c7⟩, f0, f1, f2, f3, f4, f5, f6, f7⟩ := cells8 P7.out.2.1
  have hlt0 := (P7.out.2.1).lt
  go_wp2_with fail
  change bodyPost _ _ _ _ _ (put8 w7 w.heap.size (.int .i64 t.kind) (.int .u64 t.set.x0) (.int .u64 t.set.x1) (.int .u64 t.set.x2) (.int .u64 t.set.x3) (.int .i64 t.mn) (.int .i64 t.mx) (.slice a' t.subs.length c'))
  have a := set8 P7.out.2.1 (.int .i64 t.kind) (.int .u64 t.set.x0) (.int .u64 t.set.x1) (.int .u64 t.set.x2) (.int .u64 t.set.x3) (.int .i64 t.mn) (.int .i64 t.mx) (.slice a' t.subs.length c')
  have p := other8 (show At _ b _ _ from P7.out.1) HBN.out (.int .i64 t.kind) (.int .u64 t.set.x0) (.int .u64 t.set.x1) (.int .u64 t.set.x2) (.int .u64 t.set.x3) (.int .i64 t.mn) (.int .i64 t.mx) (.slice a' t.subs.length c')
  have q := keep8 P7.out.2.2.2.1 (b := w.heap.size) (fun h => absurd h (Nat.lt_irrefl _)) (.int .i64 t.kind) (.int .u64 t.set.x0) (.int .u64 t.set.x1) (.int .u64 t.set.x2) (.int .u64 t.set.x3) (.int .i64 t.mn) (.int .i64 t.mx) (.slice a' t.subs.length c')
  have hLast := (P7.out.2.2.2.2.keep (keep8 (Keep.refl (fun i => i = w.heap.size) w7) (b := w.heap.size) (fun _ => rfl) (.int .i64 t.kind) (.int .u64 t.set.x0) (.int .u64 t.set.x1) (.int .u64 t.set.x2) (.int .u64 t.set.x3) (.int .i64 t.mn) (.int .i64 t.mx) (.slice a' t.subs.length c')) (fun k hk e => by have := HN.out.1; omega)).mono (ok' := fun k => w.heap.size ≤ k) (fun k hk => by have := HN.out.1; omega)
  generalize (put8 w7 w.heap.size (.int .i64 t.kind) (.int .u64 t.set.x0) (.int .u64 t.set.x1) (.int .u64 t.set.x2) (.int .u64 t.set.x3) (.int .i64 t.mn) (.int .i64 t.mx) (.slice a' t.subs.length c')) = W9 at a p q hLast ⊢
  obtain ⟨⟨e0, e1, e2, e3, e4, e5, e6, e7⟩, -⟩ := cells8 a
  exact bodyPost_ret (v := .agg #[(.int .i64 t.kind), (.int .u64 t.set.x0), (.int .u64 t.set.x1), (.int .u64 t.set.x2), (.int .u64 t.set.x3), (.int .i64 t.mn), (.int .i64 t.mx), (.slice a' t.subs.length c')]) (by simp [results, Try.results35, go_sem, e0, e1, e2, e3, e4, e5, e6, e7]) rfl ⟨⟨_, rfl, a', c', rfl, HN.out.2.2.2, hLast⟩, p, q⟩

theorem atom_any (F b o : Nat) (l : List UInt8) (A : List UInt8 → PS → T × PS) (hF : l.length + 2 ≤ F) (hl : l.length ≤ 3000) (ho : o ≤ 12) (hA : o < 12 → NodeC 20 b l (o + 1) A) (hSt : Still A) {kk : Nat} (hk : kk ≤ 14) (hNr : Near kk 0 A) : NodeC 35 b l o (atomP F A) := by
  intro s w hH hop hb h
  subst hop
  unfold atomP atomB
  by_cases h40 : nxt l s = 40
  · rw [if_pos h40]
    by_cases h12 : s.opn = 12
    · rw [if_pos h12]
      exact atom_full b l s w hb h h40 h12
    · rw [if_neg h12]
      exact atom_par b l A hl s w (hA (by omega)) hSt hk hNr hb h h40 (by omega)
  · rw [if_neg h40]
    by_cases h46 : nxt l s = 46
    · rw [if_pos h46]
      exact atom_dot b l hl s w hb h h46
    · rw [if_neg h46]
      by_cases h91 : nxt l s = 91
      · rw [if_pos h91]
        exact atom_cls F b l hF hl s w hb h h91
      · rw [if_neg h91]
        exact atom_lit b l hl s hH w hb h _ rfl h40 h46 h91
end Go.Proofs.Ytgjmomiobffmdaa.P07
