/- The document's parser (layer 7): one (a byte, or an escape). -/
import Derived.Test.YtgjmomiobffmdaaPlain07
namespace Go.Proofs.Ytgjmomiobffmdaa.P07
open Go.RowKit Go.Proofs.Ytgjmomiobffmdaa.Base

def sgL : List UInt8 := [124, 42, 43, 63, 40, 41, 91, 93, 123, 125, 46, 92, 94, 36, 45]
theorem inSg_eq (c : Int) (h1 : -1 ≤ c) (h2 : c < 256) : inL sgL c = inSg c := by
  have e : ∀ n : Nat, n < 257 → inL sgL ((n : Int) - 1) = inSg ((n : Int) - 1) := by decide +kernel
  have := e (c + 1).toNat (by omega)
  rw [show (((c + 1).toNat : Int) - 1) = c from by omega] at this
  exact this
theorem nxt_range (l : List UInt8) (s : PS) : -1 ≤ nxt l s ∧ nxt l s < 256 := by
  unfold nxt
  split
  · have := byteAt_lt l s.pos
    omega
  · omega
theorem digit_range (l : List UInt8) (s : PS) : 0 ≤ (digit l s).1 ∧ (digit l s).1 ≤ 15 := by
  unfold digit
  split
  · have := hexv_ge (nxt l s)
    dsimp only
    omega
  · dsimp only
    omega
theorem digit_pos (l : List UInt8) (s : PS) : (digit l s).2.pos ≤ s.pos + 1 := by
  unfold digit
  split
  · exact Nat.le_refl _
  · show (s.fail s.pos).pos ≤ _
    rw [fail_pos]
    omega


set_option maxRecDepth 100000 in
set_option maxHeartbeats 4000000 in
theorem one_any (b : Nat) (l : List UInt8) (s : PS) (hs : s.pos ≤ 90000000) (w : World) (h : Pr w b l s) :
    Calls Try.prog 43 #[.pointer (some ⟨b, 0, none⟩)] w fun e w' => e = .returned (.int .i64 (one l s).1) ∧ Pr w' b l (one l s).2 ∧ Keep (fun i => i = b) w w' := by
  have hw : IntKind.i64.wrap ((s.pos : Int) + 1) = (s.pos : Int) + 1 := by rw [IntKind.wrap_i64]; omega
  have hw1 : IntKind.i64.wrap ((s.pos : Int) + 1 + 1) = (s.pos : Int) + 1 + 1 := by rw [IntKind.wrap_i64]; omega
  obtain ⟨c, hc⟩ : ∃ c, nxt l s = c := ⟨_, rfl⟩
  have hn := next_is hc w h
  obtain ⟨c1, c2⟩ := nxt_range l s
  rw [hc] at c1 c2
  have hpl := fun w => plain_any c c1 c2 w
  have hone : one l s = oneB c l s := by unfold one; rw [hc]
  rw [hone]
  cases hp : plainI c with
  | true =>
    have hb : oneB c l s = (c, s.adv) := by unfold oneB; rw [if_pos hp]
    rw [hb]
    rw [hp] at hpl
    have H := Lib.hid (And.intro h (And.intro hn hpl))
    clear h hn hpl hp hb hone hc
    go_enter Try.func43, Try.ntmps43
    go_wp2_with fail
    refine H.out.2.1.mono ?_
    rintro e w1 ⟨rfl, q1⟩
    have H1 := Lib.hid (And.intro (H.out.1.keep q1 (fun h => h)) q1)
    clear q1
    go_wp2_with fail
    refine (H.out.2.2 w1).mono ?_
    rintro e w2 ⟨rfl, q2⟩
    have h2 := H1.out.1.keep q2 (fun h => h)
    have d1 : w2.cell? ⟨b, 1, none⟩ = some (.int .i64 s.pos) := At.cell h2 (o := 1) rfl
    have f1 := At.frozen h2 1
    have H2 := Lib.hid (And.intro h2 (H1.out.2.trans q2))
    clear h2 q2
    go_wp2_with fail
    go_ret
    exact ⟨rfl, At.set H2.out.1 1 (.int .i64 ((s.pos : Int) + 1)), (upk b H2.out.2).setCell (p := ⟨b, 1, none⟩) (fun _ => rfl) _⟩
  | false =>
    rw [hp] at hpl
    by_cases h92 : c = 92
    · have hb : oneB c l s = escP l s.adv := by unfold oneB; rw [if_neg (by simp [hp]), if_pos h92]
      rw [hb]
      have e92 : (c != 92) = false := by simpa using h92
      obtain ⟨c', hc'⟩ : ∃ c', nxt l s.adv = c' := ⟨_, rfl⟩
      have hn2 := fun w hp => next_is (b := b) hc' w hp
      obtain ⟨k1, k2⟩ := nxt_range l s.adv
      rw [hc'] at k1 k2
      have hesc : escP l s.adv = escB c' l s.adv := by unfold escP; rw [hc']
      rw [hesc]
      obtain ⟨⟨rv, rs⟩, hr⟩ : ∃ r, escB c' l s.adv = r := ⟨_, rfl⟩
      rw [hr]
      have HR := Lib.hid hr
      clear hr
      have hin := fun w => in_any sgL c' (by decide) w
      rw [inSg_eq c' k1 k2] at hin
      have H := Lib.hid (And.intro h (And.intro hn (And.intro hpl (And.intro hn2 hin))))
      have HP := Lib.hid hc'
      clear h hn hpl hp hb hone hc hesc hn2 hin h92 hc'
      go_enter Try.func43, Try.ntmps43
      go_wp2_with fail
      refine H.out.2.1.mono ?_
      rintro e w1 ⟨rfl, q1⟩
      have H1 := Lib.hid (And.intro (H.out.1.keep q1 (fun h => h)) q1)
      clear q1
      go_wp2_with fail
      refine (H.out.2.2.1 w1).mono ?_
      rintro e w2 ⟨rfl, q2⟩
      have h2 := H1.out.1.keep q2 (fun h => h)
      have d1 : w2.cell? ⟨b, 1, none⟩ = some (.int .i64 s.pos) := At.cell h2 (o := 1) rfl
      have f1 := At.frozen h2 1
      have h3 := At.set h2 1 (.int .i64 ((s.pos : Int) + 1))
      have q3 := (upk b (H1.out.2.trans q2)).setCell (p := ⟨b, 1, none⟩) (fun _ => rfl) (.int .i64 ((s.pos : Int) + 1))
      have H3 := Lib.hid (And.intro (show Pr _ b l s.adv from h3) q3)
      clear h2 q2 h3 q3 H1
      go_wp2_with fail
      generalize (w2.setCell ⟨b, 1, none⟩ (.int .i64 ((s.pos : Int) + 1))) = W at *
      clear d1 f1
      refine (H.out.2.2.2.1 W H3.out.1).mono ?_
      rintro e w4 ⟨rfl, q4⟩
      have h4 := H3.out.1.keep q4 (fun h => h)
      have d1 : w4.cell? ⟨b, 1, none⟩ = some (.int .i64 ((s.pos : Int) + 1)) := At.cell h4 (o := 1) rfl
      have f1 := At.frozen h4 1
      have H4 := Lib.hid (And.intro h4 (H3.out.2.trans (upk b q4)))
      have h5 := At.set h4 1 (.int .i64 ((s.pos : Int) + 1 + 1))
      have q5 := (H3.out.2.trans (upk b q4)).setCell (p := ⟨b, 1, none⟩) (fun _ => rfl) (.int .i64 ((s.pos : Int) + 1 + 1))
      have H5 := Lib.hid (And.intro (show Pr _ b l s.adv.adv from h5) q5)
      clear h4 q4 H3 h5 q5
      by_cases h1 : c' = 120
      · have e1 : (c' == 120) = true := by simpa using h1
        have hE : escB c' l s.adv = two l s.adv.adv := by unfold escB; rw [if_pos h1]
        have hd1 := fun w hp => digit_any b l s.adv.adv (by show s.pos + 1 + 1 ≤ _; omega) w hp
        have hpos := digit_pos l s.adv.adv
        have hd2 := fun w hp => digit_any b l (digit l s.adv.adv).2 (by have : s.adv.adv.pos = s.pos + 1 + 1 := rfl; omega) w hp
        have hr1 := digit_range l s.adv.adv
        have hr2 := digit_range l (digit l s.adv.adv).2
        have htw : two l s.adv.adv = (16 * (digit l s.adv.adv).1 + (digit l (digit l s.adv.adv).2).1, (digit l (digit l s.adv.adv).2).2) := rfl
        rw [htw] at hE
        clear htw hpos h1
        obtain ⟨⟨x, t1⟩, hx⟩ : ∃ r, digit l s.adv.adv = r := ⟨_, rfl⟩
        rw [hx] at hd1 hd2 hr1 hr2 hE
        dsimp only at hd1 hd2 hr1 hr2 hE
        obtain ⟨⟨y, t2⟩, hy⟩ : ∃ r, digit l t1 = r := ⟨_, rfl⟩
        rw [hy] at hd2 hr2 hE
        dsimp only at hd2 hr2 hE
        have hE := HR.out.symm.trans hE
        injection hE with e5 e6
        subst e5 e6
        have w1 : IntKind.i64.wrap (16 * x) = 16 * x := by rw [IntKind.wrap_i64]; omega
        have w2' : IntKind.i64.wrap (16 * x + y) = 16 * x + y := by rw [IntKind.wrap_i64]; omega
        have HD := Lib.hid (And.intro hd1 hd2)
        clear hd1 hd2 hx hy
        go_wp2_with fail
        generalize (w4.setCell ⟨b, 1, none⟩ (.int .i64 ((s.pos : Int) + 1 + 1))) = W5 at *
        refine (HD.out.1 W5 H5.out.1).mono ?_
        rintro e w6 ⟨rfl, h6, q6⟩
        have H6 := Lib.hid (And.intro h6 (H5.out.2.trans q6))
        clear h6 q6
        go_wp2_with fail
        refine (HD.out.2 w6 H6.out.1).mono ?_
        rintro e w7 ⟨rfl, h7, q7⟩
        have H7 := Lib.hid (And.intro h7 (H6.out.2.trans q7))
        clear h7 q7
        go_wp2_with fail
        go_ret
        exact ⟨rfl, H7.out.1, H7.out.2⟩
      · have e1 : (c' == 120) = false := by simpa using h1
        by_cases h2 : c' = 110
        · have e2 : (c' == 110) = true := by simpa using h2
          have hE : escB c' l s.adv = (10, s.adv.adv) := by unfold escB; rw [if_neg h1, if_pos h2]
          have hE := HR.out.symm.trans hE
          injection hE with e5 e6
          subst e5 e6
          clear h1 h2
          go_wp2_with fail
          go_ret
          exact ⟨rfl, H5.out.1, H5.out.2⟩
        · have e2 : (c' == 110) = false := by simpa using h2
          by_cases h3 : c' = 116
          · have e3 : (c' == 116) = true := by simpa using h3
            have hE : escB c' l s.adv = (9, s.adv.adv) := by unfold escB; rw [if_neg h1, if_neg h2, if_pos h3]
            have hE := HR.out.symm.trans hE
            injection hE with e5 e6
            subst e5 e6
            clear h1 h2 h3
            go_wp2_with fail
            go_ret
            exact ⟨rfl, H5.out.1, H5.out.2⟩
          · have e3 : (c' == 116) = false := by simpa using h3
            cases h4 : inSg c' with
            | true =>
              have hE : escB c' l s.adv = (c', s.adv.adv) := by unfold escB; rw [if_neg h1, if_neg h2, if_neg h3, if_pos h4]
              have h0 : ¬ c' < 0 := fun h => by
                have e : c' = -1 := by omega
                rw [e] at h4
                exact absurd h4 (by decide)
              have hE := HR.out.symm.trans hE
              injection hE with e5 e6
              subst e5 e6
              have HIN := Lib.hid h4
              clear h1 h2 h3 h4
              go_wp2_with fail
              refine (H.out.2.2.2.2 w4).mono ?_
              rintro e w5 ⟨rfl, rfl⟩
              rw [HIN.out]
              go_wp2_with fail
              go_ret
              exact ⟨rfl, H5.out.1, H5.out.2⟩
            | false =>
              have hE : escB c' l s.adv = (0, s.adv.fail s.adv.pos) := by unfold escB; rw [if_neg h1, if_neg h2, if_neg h3, if_neg (by simp [h4])]
              have hE := HR.out.symm.trans hE
              injection hE with e5 e6
              subst e5 e6
              have hf := fun w hp => fail_any b l s.adv s.adv.pos w hp
              rw [show ((s.adv.pos : Nat) : Int) = (s.pos : Int) + 1 from by show ((s.pos + 1 : Nat) : Int) = _; omega] at hf
              have HIN := Lib.hid (And.intro h4 hf)
              clear h1 h2 h3 h4 hf
              by_cases h0 : c' < 0
              · go_wp2_with fail
                refine (HIN.out.2 w4 H4.out.1).mono ?_
                rintro e w5 ⟨rfl, h5, q5⟩
                have H6 := Lib.hid (And.intro h5 (H4.out.2.trans q5))
                clear h5 q5
                go_wp2_with fail
                go_ret
                exact ⟨rfl, H6.out.1, H6.out.2⟩
              · go_wp2_with fail
                refine (H.out.2.2.2.2 w4).mono ?_
                rintro e w5 ⟨rfl, rfl⟩
                rw [HIN.out.1]
                go_wp2_with fail
                refine (HIN.out.2 w4 H4.out.1).mono ?_
                rintro e w5 ⟨rfl, h5, q5⟩
                have H6 := Lib.hid (And.intro h5 (H4.out.2.trans q5))
                clear h5 q5
                go_wp2_with fail
                go_ret
                exact ⟨rfl, H6.out.1, H6.out.2⟩
    · have hb : oneB c l s = (0, s.fail s.pos) := by unfold oneB; rw [if_neg (by simp [hp]), if_neg h92]
      rw [hb]
      have e92 : (c != 92) = true := by simpa using h92
      have hf := fun w hp => fail_any b l s s.pos w hp
      have H := Lib.hid (And.intro h (And.intro hn (And.intro hpl hf)))
      clear h hn hpl hp hb hone hc hf h92
      go_enter Try.func43, Try.ntmps43
      go_wp2_with fail
      refine H.out.2.1.mono ?_
      rintro e w1 ⟨rfl, q1⟩
      have H1 := Lib.hid (And.intro (H.out.1.keep q1 (fun h => h)) q1)
      clear q1
      go_wp2_with fail
      refine (H.out.2.2.1 w1).mono ?_
      rintro e w2 ⟨rfl, q2⟩
      have h2 := H1.out.1.keep q2 (fun h => h)
      have d1 : w2.cell? ⟨b, 1, none⟩ = some (.int .i64 s.pos) := At.cell h2 (o := 1) rfl
      have H2 := Lib.hid (And.intro h2 (H1.out.2.trans q2))
      clear h2 q2
      go_wp2_with fail
      refine (H.out.2.2.2 w2 H2.out.1).mono ?_
      rintro e w3 ⟨rfl, h3, q3⟩
      have H3 := Lib.hid (And.intro h3 ((upk b H2.out.2).trans q3))
      clear h3 q3 d1
      go_wp2_with fail
      go_ret
      exact ⟨rfl, H3.out.1, H3.out.2⟩
end Go.Proofs.Ytgjmomiobffmdaa.P07
