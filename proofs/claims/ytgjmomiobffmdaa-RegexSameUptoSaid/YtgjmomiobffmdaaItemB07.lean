/- The document's parser (layer 7): item with braces. -/
import Derived.Test.YtgjmomiobffmdaaItemR07
namespace Go.Proofs.Ytgjmomiobffmdaa.P07
open Go.RowKit Go.Proofs.Ytgjmomiobffmdaa.Base Go.Proofs.Ytgjmomiobffmdaa.IL Go.Proofs.Ytgjmomiobffmdaa.Bytes
open Go.Proofs.Ytgjmomiobffmdaa.Sets (ST)

set_option maxRecDepth 100000 in
set_option maxHeartbeats 8000000 in
theorem item_brace (b o : Nat) (l : List UInt8) (B : List UInt8 → PS → T × PS) (hl : l.length ≤ 3000) (hB : NodeC 35 b l o B) (s : PS) (w : World) (hH : Here l s) (ho : s.opn = o) (hb : b < w.heap.size) (h : Pr w b l s) (t : T) (s2 : PS) (hR : B l s = (t, s2)) (hc : nxt l s2 = 123) : Calls Try.prog 32 #[.pointer (some ⟨b, 0, none⟩)] w fun e w' => (∃ v, e = .returned v ∧ NodeV w' (fun k => w.heap.size ≤ k) v (repT t (braces l s2.adv).1.1 (braces l s2.adv).1.2, (braces l s2.adv).2).1) ∧ Pr w' b l (repT t (braces l s2.adv).1.1 (braces l s2.adv).1.2, (braces l s2.adv).2).2 ∧ Keep (fun i => i = b) w w' := by
  have hp0 := (Here.next (l := l) (s := s2) (by rw [hc]; decide)).2.1
  have hw : IntKind.i64.wrap ((s2.pos : Int) + 1) = (s2.pos : Int) + 1 := by rw [IntKind.wrap_i64]; omega
  have hin : inL sgs 123 = true := by decide
  obtain ⟨⟨mn, s3⟩, hn3⟩ : ∃ R, number l s2.adv = R := ⟨_, rfl⟩
  obtain ⟨c3, hc3⟩ : ∃ c, nxt l s3 = c := ⟨_, rfl⟩
  obtain ⟨c4, hc4⟩ : ∃ c, nxt l s3.adv = c := ⟨_, rfl⟩
  obtain ⟨⟨m5, s5⟩, hn5⟩ : ∃ R, number l s3.adv = R := ⟨_, rfl⟩
  obtain ⟨mx, s6, hbr, hcase⟩ : ∃ mx s6, braces l s2.adv = ((mn, mx), (must 125 l s6).2) ∧ ((c3 ≠ 44 ∧ mx = mn ∧ s6 = s3) ∨ (c3 = 44 ∧ ((c4 = 125 ∧ mx = -1 ∧ s6 = s3.adv) ∨ (c4 ≠ 125 ∧ mx = m5 ∧ s6 = if s5.bad = none ∧ m5 < mn then s5.fail s3.adv.pos else s5)))) := by
    unfold braces cmaP cmaB maxP maxB maxC
    rw [hn3]
    dsimp only
    rw [hc3]
    by_cases h44 : c3 = 44
    · rw [if_pos h44, hc4]
      by_cases h125 : c4 = 125
      · rw [if_pos h125]
        exact ⟨_, _, rfl, .inr ⟨h44, .inl ⟨h125, rfl, rfl⟩⟩⟩
      · rw [if_neg h125, hn5]
        exact ⟨_, _, rfl, .inr ⟨h44, .inr ⟨h125, rfl, rfl⟩⟩⟩
    · rw [if_neg h44]
      exact ⟨_, _, rfl, .inl ⟨h44, rfl, rfl⟩⟩
  have hz := Here.next (l := l) (s := s2) (by rw [hc]; decide)
  have hp3 : s3.pos ≤ l.length := by
    have h5 := number_near.good l s2.adv hz.1 hz.2.1
    rw [hn3] at h5
    dsimp only at h5
    omega
  have hp5 : c3 = 44 → s5.pos ≤ l.length := fun e => by
    have h4 := Here.next (l := l) (s := s3) (by rw [hc3, e]; decide)
    have h5 := number_near.good l s3.adv h4.1 h4.2.1
    rw [hn5] at h5
    dsimp only at h5
    omega
  have hp6 : s6.pos ≤ l.length + 1 := by
    rcases hcase with ⟨_, _, h6⟩ | ⟨h44, ⟨_, _, h6⟩ | ⟨_, _, h6⟩⟩
    · rw [h6]; omega
    · rw [h6]; show s3.pos + 1 ≤ _; omega
    · have := hp5 h44
      rw [h6]
      split
      · show (s5.fail s3.adv.pos).pos ≤ _
        unfold PS.fail
        split <;> ((try dsimp only); omega)
      · omega
  have HN3 := Lib.hid (show ∀ W, Pr W b l s2.adv → Calls Try.prog 37 #[.pointer (some ⟨b, 0, none⟩)] W fun e w' => e = .returned (.int .i64 mn) ∧ Pr w' b l s3 ∧ Keep (fun i => i = b) W w' from fun W hW => by
    have h1 := number_any b l s2.adv (by show s2.pos + 1 ≤ _; omega) W hW
    rw [hn3] at h1
    exact h1)
  have HN5 := Lib.hid (show ∀ W, Pr W b l s3.adv → Calls Try.prog 37 #[.pointer (some ⟨b, 0, none⟩)] W fun e w' => e = .returned (.int .i64 m5) ∧ Pr w' b l s5 ∧ Keep (fun i => i = b) W w' from fun W hW => by
    have h1 := number_any b l s3.adv (by show s3.pos + 1 ≤ _; omega) W hW
    rw [hn5] at h1
    exact h1)
  have HC3 := Lib.hid hc3
  have HC4 := Lib.hid hc4
  have HK := Lib.hid hcase
  have hw3 : IntKind.i64.wrap ((s3.pos : Int) + 1) = (s3.pos : Int) + 1 := by rw [IntKind.wrap_i64]; omega
  rw [hbr]
  clear hn3 hc3 hc4 hn5 hbr hcase hz hp5
  have HC := Lib.hid hc
  have HAt := Lib.hid (show ∀ W, b < W.heap.size → Pr W b l s → Calls Try.prog 35 #[.pointer (some ⟨b, 0, none⟩)] W fun e w' => (∃ v, e = .returned v ∧ NodeV w' (fun k => W.heap.size ≤ k) v t) ∧ Pr w' b l s2 ∧ Keep (fun i => i = b) W w' from fun W hbW hW => by
    have h1 := hB s W hH ho hbW hW
    rw [hR] at h1
    exact h1)
  have HIn := Lib.hid (show ∀ W, Calls Try.prog 36 #[.string ⟨#[42, 43, 63, 123]⟩, .int .i64 123] W fun e w' => e = .returned (.bool true) ∧ W = w' from fun W => by
    have h1 := in_any sgs 123 (by decide) W
    rw [hin] at h1
    exact h1)
  clear hc hB hR hin
  have HB := Lib.hid hb
  have hbn : b ≠ w.heap.size := by omega
  have HBN := Lib.hid hbn
  have W0 := Lib.hid (And.intro (h.keep ((Keep.refl (fun _ => False) w).alloc (.cells nzeros 28)) (fun h => h)) (And.intro (At.new w nzeros 28) ((Keep.refl (fun i => i = b) w).alloc (.cells nzeros 28))))
  clear h hb hbn
  go_enter Try.func32, Try.ntmps32
  go_wp2_with fail
  generalize (w.alloc (.cells nzeros 28)) = V at *
  have hV := W0.out.2.1.lt
  refine (HAt.out V (by have := HB.out; omega) W0.out.1).mono ?_
  rintro e w1 ⟨⟨v, rfl, a', c', rfl, hle, hLie⟩, r1, q1⟩
  have I1 := Lib.hid (It.start HB.out hV q1.size r1 (W0.out.2.1.keep q1 (Ne.symm HBN.out)) (W0.out.2.2.trans q1) hle hLie)
  clear hV r1 q1 hle hLie
  go_upto_region 2 with fail
  generalize (w1.alloc (.cells (ncells t a' c') 28)) = W1 at *
  generalize w1.heap.size = nA at *
  generalize V.heap.size = nV at *
  go_wp2_with fail
  refine (next_is HC.out W1 I1.out.pr).mono ?_
  rintro e w2 ⟨rfl, q2⟩
  have I2 := Lib.hid (I1.out.quiet q2)
  clear q2
  go_wp2_with fail
  refine (HIn.out w2).mono ?_
  rintro e w3 ⟨rfl, rfl⟩
  have d1 : w2.cell? ⟨b, 1, none⟩ = some (.int .i64 s2.pos) := At.cell I2.out.pr (o := 1) rfl
  have f1 := At.frozen I2.out.pr 1
  have I3 := Lib.hid I2.out.on
  obtain ⟨⟨x0, x1, x2, x3, x4, x5, x6, x7⟩, -⟩ := cells8 I2.out.own
  have hlt5 := I2.out.own.lt
  obtain ⟨⟨y0, y1, y2, y3, y4, y5, y6, y7⟩, -⟩ := cells8 I3.out.own
  have hlt6 := I3.out.own.lt
  go_upto_region 6 with fail
  generalize (w2.setCell ⟨b, 1, none⟩ (.int .i64 ((s2.pos : Int) + 1))) = W3 at *
  clear d1 f1 x0 x1 x2 x3 x4 x5 x6 x7 hlt5
  have R4 := Lib.hid (Rp.start I3.out)
  go_upto_region 7 with fail
  generalize ((W3.alloc (.cells (ncells t a' c') 28)).alloc (.cells (rcells 0 (-1) W3.heap.size) 28)) = W4 at *
  generalize W3.heap.size = n4 at *
  clear y0 y1 y2 y3 y4 y5 y6 y7 hlt6
  go_wp2_with fail
  refine (HN3.out W4 R4.out.pr).mono ?_
  rintro e w5 ⟨rfl, r5, q5⟩
  have R5 := Lib.hid (R4.out.step r5 q5)
  clear r5 q5
  obtain ⟨⟨x0, x1, x2, x3, x4, x5, x6, x7⟩, z0, z1, z2, z3, z4, z5, z6, z7⟩ := cells8 R5.out.box
  go_upto_region 15 with fail
  have R6 := Lib.hid ((R5.out.set5 mn).set6 mn)
  clear x0 x1 x2 x3 x4 x5 x6 x7 z0 z1 z2 z3 z4 z5 z6 z7
  generalize ((w5.setCell ⟨n4 + 1, 5, none⟩ (.int .i64 mn)).setCell ⟨n4 + 1, 6, none⟩ (.int .i64 mn)) = W6 at *
  go_wp2_with fail
  refine (next_is HC3.out W6 R6.out.pr).mono ?_
  rintro e w7 ⟨rfl, q7⟩
  have R7 := Lib.hid (R6.out.quiet q7)
  clear q7
  go_upto_if 42 with fail
  go_cut [6] (fun _ wx => Rp w b l nV n4 (n4 + 1) t a' c' mn mx s6 wx)
  case first =>
    by_cases h44 : c3 = 44
    · rcases HK.out with ⟨h6, _, _⟩ | ⟨_, hK⟩
      · exact absurd h44 h6
      · have HK2 := Lib.hid hK
        clear hK
        have d1 : w7.cell? ⟨b, 1, none⟩ = some (.int .i64 s3.pos) := At.cell R7.out.pr (o := 1) rfl
        have f1 := At.frozen R7.out.pr 1
        go_upto_region 17 with fail
        have R8 := Lib.hid R7.out.on
        clear d1 f1
        generalize (w7.setCell ⟨b, 1, none⟩ (.int .i64 ((s3.pos : Int) + 1))) = W8 at *
        obtain ⟨⟨x0, x1, x2, x3, x4, x5, x6, x7⟩, z0, z1, z2, z3, z4, z5, z6, z7⟩ := cells8 R8.out.box
        go_upto_region 18 with fail
        have R9 := Lib.hid (R8.out.set6 (-1))
        clear x0 x1 x2 x3 x4 x5 x6 x7 z0 z1 z2 z3 z4 z5 z6 z7
        generalize (W8.setCell ⟨n4 + 1, 6, none⟩ (.int .i64 (-1))) = W9 at *
        go_wp2_with fail
        refine (next_is HC4.out W9 R9.out.pr).mono ?_
        rintro e w10 ⟨rfl, q10⟩
        have R10 := Lib.hid (R9.out.quiet q10)
        clear q10
        by_cases h125 : c4 = 125
        · rcases HK2.out with ⟨_, h7, h8⟩ | ⟨h6, _, _⟩
          · have HQ := Lib.hid (And.intro h7 h8)
            clear h7 h8
            go_wp2_with fail
            go_meet
            case rel => rw [HQ.out.1, HQ.out.2]; exact R10.out
          · exact absurd h125 h6
        · rcases HK2.out with ⟨h6, _, _⟩ | ⟨_, h7, h8⟩
          · exact absurd h6 h125
          · have HQ := Lib.hid (And.intro h7 h8)
            clear h7 h8
            have d1 : w10.cell? ⟨b, 1, none⟩ = some (.int .i64 ((s3.pos : Int) + 1)) := At.cell R10.out.pr (o := 1) rfl
            go_wp2_with fail
            refine (HN5.out w10 R10.out.pr).mono ?_
            rintro e w11 ⟨rfl, r11, q11⟩
            have R11 := Lib.hid (R10.out.step r11 q11)
            clear r11 q11 d1
            obtain ⟨⟨x0, x1, x2, x3, x4, x5, x6, x7⟩, z0, z1, z2, z3, z4, z5, z6, z7⟩ := cells8 R11.out.box
            go_upto_region 21 with fail
            have R12 := Lib.hid (R11.out.set6 m5)
            clear x0 x1 x2 x3 x4 x5 x6 x7 z0 z1 z2 z3 z4 z5 z6 z7
            generalize (w11.setCell ⟨n4 + 1, 6, none⟩ (.int .i64 m5)) = W12 at *
            have c12 : W12.cell? ⟨b, 2, none⟩ = some (.int .i64 (badI s5.bad)) := At.cell R12.out.pr (o := 2) rfl
            obtain ⟨⟨x0, x1, x2, x3, x4, x5, x6, x7⟩, -⟩ := cells8 R12.out.box
            have hlt5 := R12.out.box.lt
            cases hb4 : s5.bad with
            | some x =>
              rw [hb4] at c12
              have c12' : W12.cell? ⟨b, 2, none⟩ = some (.int .i64 (x : Int)) := c12
              have hx1 : ¬ (x : Int) < 0 := by omega
              have HS3 := Lib.hid (show s6 = s5 from by rw [HQ.out.2, if_neg (fun h => by rw [hb4] at h; cases h.1)])
              clear c12 hb4
              go_wp2_with fail
              go_meet
              case rel => rw [HQ.out.1, HS3.out]; exact R12.out
            | none =>
              rw [hb4] at c12
              have c12' : W12.cell? ⟨b, 2, none⟩ = some (.int .i64 (-1)) := c12
              have hx0 : (-1 : Int) < 0 := by omega
              by_cases hlt : m5 < mn
              · have HS3 := Lib.hid (show s6 = s5.fail (s3.pos + 1) from by rw [HQ.out.2, if_pos ⟨hb4, hlt⟩]; rfl)
                clear c12 hb4
                go_wp2_with fail
                refine (fail_any b l s5 (s3.pos + 1) W12 R12.out.pr).mono ?_
                rintro e w13 ⟨rfl, r13, q13⟩
                have R13 := Lib.hid (R12.out.step r13 q13)
                clear r13 q13
                go_wp2_with fail
                go_meet
                case rel => rw [HQ.out.1, HS3.out]; exact R13.out
              · have HS3 := Lib.hid (show s6 = s5 from by rw [HQ.out.2, if_neg (fun h => hlt h.2)])
                clear c12 hb4
                go_wp2_with fail
                go_meet
                case rel => rw [HQ.out.1, HS3.out]; exact R12.out
    · rcases HK.out with ⟨_, h7, h8⟩ | ⟨h6, _⟩
      · have HQ := Lib.hid (And.intro h7 h8)
        clear h7 h8
        go_wp2_with fail
        go_meet
        case rel => rw [HQ.out.1, HQ.out.2]; exact R7.out
      · exact absurd h6 h44
  case rest =>
    have R8 := Lib.hid hcut
    clear hcut
    go_wp2_with fail
    refine (must_any b l s6 125 (by omega) wc R8.out.pr).mono ?_
    rintro e w9 ⟨rfl, r9, q9⟩
    have R9 := Lib.hid (R8.out.step r9 q9)
    clear r9 q9
    obtain ⟨⟨x0, x1, x2, x3, x4, x5, x6, x7⟩, -⟩ := cells8 R9.out.box
    have hlt5 := R9.out.box.lt
    obtain ⟨⟨c0, c1, c2, c3, c4, c5, c6, c7⟩, f0, f1, f2, f3, f4, f5, f6, f7⟩ := cells8 R9.out.out
    have hlt0 := (R9.out.out).lt
    go_wp2_with fail
    change bodyPost _ _ _ _ _ (put8 w9 w.heap.size (.int .i64 5) (.int .u64 0) (.int .u64 0) (.int .u64 0) (.int .u64 0) (.int .i64 mn) (.int .i64 mx) (.slice (some ⟨n4, 0, none⟩) 1 1))
    have a := set8 R9.out.out (.int .i64 5) (.int .u64 0) (.int .u64 0) (.int .u64 0) (.int .u64 0) (.int .i64 mn) (.int .i64 mx) (.slice (some ⟨n4, 0, none⟩) 1 1)
    have p := other8 (show At _ b _ _ from R9.out.pr) HBN.out (.int .i64 5) (.int .u64 0) (.int .u64 0) (.int .u64 0) (.int .u64 0) (.int .i64 mn) (.int .i64 mx) (.slice (some ⟨n4, 0, none⟩) 1 1)
    have q := keep8 R9.out.keep (b := w.heap.size) (fun h => absurd h (Nat.lt_irrefl _)) (.int .i64 5) (.int .u64 0) (.int .u64 0) (.int .u64 0) (.int .u64 0) (.int .i64 mn) (.int .i64 mx) (.slice (some ⟨n4, 0, none⟩) 1 1)
    have hNode := R9.out.node (keep8 (Keep.refl (fun i => i = w.heap.size) w9) (b := w.heap.size) (fun _ => rfl) (.int .i64 5) (.int .u64 0) (.int .u64 0) (.int .u64 0) (.int .u64 0) (.int .i64 mn) (.int .i64 mx) (.slice (some ⟨n4, 0, none⟩) 1 1))
    generalize (put8 w9 w.heap.size (.int .i64 5) (.int .u64 0) (.int .u64 0) (.int .u64 0) (.int .u64 0) (.int .i64 mn) (.int .i64 mx) (.slice (some ⟨n4, 0, none⟩) 1 1)) = W9 at a p q hNode ⊢
    obtain ⟨⟨e0, e1, e2, e3, e4, e5, e6, e7⟩, -⟩ := cells8 a
    exact bodyPost_ret (v := .agg #[(.int .i64 5), (.int .u64 0), (.int .u64 0), (.int .u64 0), (.int .u64 0), (.int .i64 mn), (.int .i64 mx), (.slice (some ⟨n4, 0, none⟩) 1 1)]) (by simp [results, Try.results32, go_sem, e0, e1, e2, e3, e4, e5, e6, e7]) rfl ⟨⟨_, rfl, hNode⟩, p, q⟩

theorem sgs_no {c : Int} (h1 : c ≠ 42) (h2 : c ≠ 43) (h3 : c ≠ 63) (h4 : c ≠ 123) : inL sgs c = false := by
  refine inL_no (fun k hk => ?_)
  have h : k < 4 := hk
  have e : k = 0 ∨ k = 1 ∨ k = 2 ∨ k = 3 := by omega
  rcases e with rfl | rfl | rfl | rfl
  · rw [show (byteAt sgs 0 : Int) = 42 from by decide]; exact Ne.symm h1
  · rw [show (byteAt sgs 1 : Int) = 43 from by decide]; exact Ne.symm h2
  · rw [show (byteAt sgs 2 : Int) = 63 from by decide]; exact Ne.symm h3
  · rw [show (byteAt sgs 3 : Int) = 123 from by decide]; exact Ne.symm h4

theorem item_any (F b o : Nat) (l : List UInt8) (A : List UInt8 → PS → T × PS) (hl : l.length ≤ 3000) (hB : NodeC 35 b l o (atomP F A)) : NodeC 32 b l o (itemP F A) := by
  intro s w hH ho hb h
  unfold itemP
  obtain ⟨⟨t, s2⟩, hR⟩ : ∃ R, atomP F A l s = R := ⟨_, rfl⟩
  rw [hR]
  dsimp only
  unfold sgB
  by_cases h1 : nxt l s2 = 42
  · rw [if_pos h1]
    exact item_star b o l _ hl hB s w hH ho hb h t s2 hR h1
  · rw [if_neg h1]
    by_cases h2 : nxt l s2 = 43
    · rw [if_pos h2]
      exact item_plus b o l _ hl hB s w hH ho hb h t s2 hR h2
    · rw [if_neg h2]
      by_cases h3 : nxt l s2 = 63
      · rw [if_pos h3]
        exact item_quest b o l _ hl hB s w hH ho hb h t s2 hR h3
      · rw [if_neg h3]
        by_cases h4 : nxt l s2 = 123
        · rw [if_pos h4]
          exact item_brace b o l _ hl hB s w hH ho hb h t s2 hR h4
        · rw [if_neg h4]
          exact item_none b o l _ hB s w hH ho hb h t s2 hR _ rfl (sgs_no h1 h2 h3 h4)
end Go.Proofs.Ytgjmomiobffmdaa.P07
