/- The document's Rep (layer 10). -/
import Derived.Test.YtmohpjpodkbgkaaKK39
namespace Go.Proofs.Ytmohpjpodkbgkaa.P10
open Go.RowKit Go.Proofs.Ytmohpjpodkbgkaa.Base Go.Proofs.Ytmohpjpodkbgkaa.Bytes Go.Proofs.Ytmohpjpodkbgkaa.P07 Go.Proofs.Ytmohpjpodkbgkaa.P08
open Go.Proofs.Ytmohpjpodkbgkaa.Sets (ST)

/-- What the document's Rep does. -/
def FRepOk (t : T) : Prop := ∀ (lo hi : Int) (a : Option Addr) (c : Nat) (ok : Nat → Prop) (w : World), Lie w ok a t.subs → t.subs.length ≤ c →
  Calls Try.prog 28 #[nodeV t a c, .int .i64 lo, .int .i64 hi] w (Gives w ok (repP t lo hi))
def t1B (t : T) (lo hi : Int) : Bool := decide (hi = 0) || (decide (t.kind = 1) || (isNo t && decide (lo = 0)))
def t2B (t : T) (lo hi : Int) : Bool := isNo t || ((decide (lo = 1) && decide (hi = 1)) || isSt t)
def t3B (t : T) (lo hi : Int) : Bool := decide (lo = 0) && (decide (hi = -1) && (decide (t.kind = 5) && (decide (t.mn ≤ 1) && (decide (t.mn ≥ 0) && decide (t.subs.length = 1)))))
theorem rep_1 {t : T} {lo hi : Int} (h : t1B t lo hi = true) : repP t lo hi = epsT := by
  unfold t1B at h
  simp only [Bool.or_eq_true, Bool.and_eq_true, decide_eq_true_eq] at h
  unfold repP
  rw [if_pos h]
theorem rep_2 {t : T} {lo hi : Int} (h1 : t1B t lo hi = false) (h : t2B t lo hi = true) : repP t lo hi = t := by
  have h1 : ¬ t1B t lo hi = true := by rw [h1]; decide
  unfold t1B at h1
  unfold t2B at h
  simp only [Bool.or_eq_true, Bool.and_eq_true, decide_eq_true_eq] at h h1
  unfold repP
  rw [if_neg h1, if_pos h]
theorem rep_3 {t : T} {lo hi : Int} (h1 : t1B t lo hi = false) (h2 : t2B t lo hi = false) (h : t3B t lo hi = true) : ∃ u, t.subs = [u] ∧ repP t lo hi = repP u 0 (-1) := by
  have h1 : ¬ t1B t lo hi = true := by rw [h1]; decide
  have h2 : ¬ t2B t lo hi = true := by rw [h2]; decide
  unfold t3B at h
  unfold t2B at h2
  simp only [Bool.or_eq_true, Bool.and_eq_true, decide_eq_true_eq, not_or] at h h2
  obtain ⟨rfl, rfl, h5, h6, h7, h8⟩ := h
  have hn : needB t = true := by
    unfold needB
    rw [decide_eq_true ⟨h5, by omega, h8⟩, Bool.true_and]
    cases e : isSt t with
    | false => rfl
    | true => exact absurd e h2.2.2
  obtain ⟨u, hu, he, -⟩ := need_sub hn
  exact ⟨u, hu, he⟩
theorem rep_4 {t : T} {lo hi : Int} (h1 : t1B t lo hi = false) (h2 : t2B t lo hi = false) (h : t3B t lo hi = false) : repP t lo hi = .nd 5 ST.none lo hi [t] := by
  have h1 : ¬ t1B t lo hi = true := by rw [h1]; decide
  have h2 : ¬ t2B t lo hi = true := by rw [h2]; decide
  have h3 : ¬ t3B t lo hi = true := by rw [h]; decide
  unfold t1B at h1
  unfold t2B at h2
  unfold t3B at h3
  simp only [Bool.or_eq_true, Bool.and_eq_true, decide_eq_true_eq] at h1 h2 h3
  unfold repP
  rw [if_neg h1, if_neg h2]
  split
  · rename_i h4
    rw [starT_eq, if_neg (fun h => by rcases h with h | h; exact h1 (.inr (.inl h)); exact h2 (.inl h)), if_neg (fun h => h2 (.inr (.inr h))), if_neg, h4.1, h4.2]
    intro h5
    exact h3 ⟨h4.1, h4.2, h5.1, by omega, by omega, h5.2.2⟩
  · rfl

set_option maxRecDepth 100000 in
set_option maxHeartbeats 8000000 in
theorem frep_step (n : Nat) (ih : ∀ t : T, SizeOf.sizeOf t < n → FRepOk t) (t : T) (hsz : SizeOf.sizeOf t < n + 1) : FRepOk t := by
  intro lo hi a c ok w hL hc
  obtain ⟨tt, htt⟩ : ∃ tt, repP t lo hi = tt := ⟨_, rfl⟩
  rw [htt]
  have b0 := (At.new w (ncells t a c) 27).alloc (.cells nzeros 27)
  have r0 : Rb w (w.heap.size + 1) ((w.alloc (.cells (ncells t a c) 27)).alloc (.cells nzeros 27)) := by
    refine ⟨?_, ((Keep.refl (fun _ => False) w).alloc _).alloc _, by omega⟩
    have := At.new (w.alloc (.cells (ncells t a c) 27)) nzeros 27
    rw [show (w.alloc (.cells (ncells t a c) 27)).heap.size = w.heap.size + 1 from by simp] at this
    exact this
  have hl0 := hL.under.keepF r0.keep
  have hlen := hL.len
  have HTT := Lib.hid (And.intro htt (And.intro ih hsz))
  have H0 := Lib.hid (And.intro r0 (And.intro b0 (And.intro hl0 hc)))
  clear r0 b0 hl0 hL hc htt ih hsz
  go_enter Try.func28, Try.ntmps28
  go_upto_region 1 with fail
  generalize ((w.alloc (.cells (ncells t a c) 27)).alloc (.cells nzeros 27)) = W at *
  obtain ⟨⟨y0, y1, y2, y3, y4, y5, y6, y7⟩, -⟩ := cells8 H0.out.2.1
  obtain ⟨x1, hx1⟩ : ∃ x, t1B t lo hi = x := ⟨_, rfl⟩
  have HX1 := Lib.hid hx1
  clear hx1
  go_cut [21] (fun x wx => x = .bool x1 ∧ Keep (fun _ => False) W wx)
  case first =>
    by_cases h0 : hi = 0
    · have hb : (hi == 0) = true := by simpa using h0
      have HX := Lib.hid (show x1 = true by rw [← HX1.out]; unfold t1B; rw [decide_eq_true h0]; rfl)
      clear h0
      go_wp2_with fail
      go_meet
      case rel => exact ⟨by rw [HX.out], Keep.refl _ _⟩
    have hb : (hi == 0) = false := by simpa using h0
    by_cases h1 : t.kind = 1
    · have hb1 : (t.kind == 1) = true := by simpa using h1
      have HX := Lib.hid (show x1 = true by rw [← HX1.out]; unfold t1B; rw [decide_eq_true h1, Bool.true_or, Bool.or_true])
      clear h0 h1
      go_wp2_with fail
      go_meet
      case rel => exact ⟨by rw [HX.out], Keep.refl _ _⟩
    have hb1 : (t.kind == 1) = false := by simpa using h1
    have HX := Lib.hid (show x1 = (isNo t && decide (lo = 0)) by rw [← HX1.out]; unfold t1B; rw [decide_eq_false h0, decide_eq_false h1]; rfl)
    clear h0 h1
    go_wp2_with fail
    refine (fno_any t a c W).mono ?_
    rintro e w2 ⟨rfl, q2⟩
    have Q2 := Lib.hid q2
    clear q2
    cases hno : isNo t with
    | true =>
      rw [hno] at HX
      clear hno
      by_cases hlo : lo = 0
      · have hbl : (lo == 0) = true := by simpa using hlo
        have HX2 := Lib.hid (show x1 = true by rw [HX.out, decide_eq_true hlo]; rfl)
        clear hlo
        go_wp2_with fail
        go_meet
        case rel => exact ⟨by rw [HX2.out], Q2.out⟩
      · have hbl : (lo == 0) = false := by simpa using hlo
        have HX2 := Lib.hid (show x1 = false by rw [HX.out, decide_eq_false hlo]; rfl)
        clear hlo
        go_wp2_with fail
        go_meet
        case rel => exact ⟨by rw [HX2.out], Q2.out⟩
    | false =>
      rw [hno] at HX
      clear hno
      go_wp2_with fail
      go_meet
      case rel => exact ⟨by rw [HX.out]; rfl, Q2.out⟩
  case rest =>
    obtain ⟨rfl, qc⟩ := hcut
    have J := Lib.hid (And.intro (H0.out.1.next qc) (And.intro (H0.out.2.1.keep qc (fun h => h)) (And.intro (H0.out.2.2.1.keepF qc) H0.out.2.2.2)))
    clear y0 y1 y2 y3 y4 y5 y6 y7 qc
    generalize wc = W1 at *
    cases x1 with
    | true =>
      have HT := Lib.hid (show tt = epsT by rw [← HTT.out.1]; exact rep_1 HX1.out)
      obtain ⟨⟨d0, d1, d2, d3, d4, d5, d6, d7⟩, f0, f1, f2, f3, f4, f5, f6, f7⟩ := cells8 J.out.1.out
      have hltr := J.out.1.out.lt
      go_wp2_with fail
      change bodyPost _ _ _ _ _ (putNd (W1) (w.heap.size + 1) 0 (epsT) (none) (0))
      have hP := J.out.1.put (epsT) (none) (0)
      have hG := (by rw [HT.out]; exact J.out.1.gives (ok := ok) (t := epsT) (Nat.le_refl 0) (.nil none) : Gives w ok tt (.returned (nodeV (epsT) (none) (0))) (putNd (W1) (w.heap.size + 1) 0 (epsT) (none) (0)))
      generalize (putNd (W1) (w.heap.size + 1) 0 (epsT) (none) (0)) = W9 at hP hG ⊢
      obtain ⟨⟨e0, e1, e2, e3, e4, e5, e6, e7⟩, -⟩ := cells8 hP.1
      exact bodyPost_ret (v := nodeV (epsT) (none) (0)) (by simp [results, Try.results28, go_sem, e0, e1, e2, e3, e4, e5, e6, e7]) rfl hG
    | false =>
      obtain ⟨⟨y0, y1, y2, y3, y4, y5, y6, y7⟩, -⟩ := cells8 J.out.2.1
      obtain ⟨x2, hx2⟩ : ∃ x, t2B t lo hi = x := ⟨_, rfl⟩
      have HX2 := Lib.hid hx2
      clear hx2
      go_upto_region 3 with fail
      go_cut [47] (fun x wx => x = .bool x2 ∧ Keep (fun _ => False) W1 wx)
      case first =>
        go_wp2_with fail
        refine (fno_any t a c W1).mono ?_
        rintro e w2 ⟨rfl, q2⟩
        obtain ⟨⟨z0, z1, z2, z3, z4, z5, z6, z7⟩, -⟩ := cells8 (J.out.2.1.keep q2 (fun h => h))
        have Q2 := Lib.hid q2
        clear q2
        cases hno : isNo t with
        | true =>
          have HX := Lib.hid (show x2 = true by rw [← HX2.out]; unfold t2B; rw [hno]; rfl)
          clear hno
          go_wp2_with fail
          go_meet
          case rel => exact ⟨by rw [HX.out], Q2.out⟩
        | false =>
          have HX := Lib.hid (show x2 = ((decide (lo = 1) && decide (hi = 1)) || (decide (t.kind = 5) && (decide (t.mn = 0) && decide (t.mx = -1)))) by rw [← HX2.out]; unfold t2B isSt; rw [hno, Bool.decide_and, Bool.decide_and]; rfl)
          clear hno
          by_cases hp0 : lo = 1
          · have hq0 : (lo == 1) = true := by simpa using hp0
            have HB0 := Lib.hid (decide_eq_true hp0)
            clear hp0
            by_cases hp1 : hi = 1
            · have hq1 : (hi == 1) = true := by simpa using hp1
              have HB1 := Lib.hid (decide_eq_true hp1)
              clear hp1
              go_wp2_with fail
              go_meet
              case rel => exact ⟨by rw [HX.out]; simp only [HB0.out, HB1.out]; try rfl, Q2.out⟩
            · have hq1 : (hi == 1) = false := by simpa using hp1
              have HB1 := Lib.hid (decide_eq_false hp1)
              clear hp1
              by_cases hp2 : t.kind = 5
              · have hq2 : (t.kind == 5) = true := by simpa using hp2
                have HB2 := Lib.hid (decide_eq_true hp2)
                clear hp2
                by_cases hp3 : t.mn = 0
                · have hq3 : (t.mn == 0) = true := by simpa using hp3
                  have HB3 := Lib.hid (decide_eq_true hp3)
                  clear hp3
                  by_cases hp4 : t.mx = -1
                  · have hq4 : (t.mx == -1) = true := by simpa using hp4
                    have HB4 := Lib.hid (decide_eq_true hp4)
                    clear hp4
                    go_wp2_with fail
                    go_meet
                    case rel => exact ⟨by rw [HX.out]; simp only [HB0.out, HB1.out, HB2.out, HB3.out, HB4.out]; try rfl, Q2.out⟩
                  · have hq4 : (t.mx == -1) = false := by simpa using hp4
                    have HB4 := Lib.hid (decide_eq_false hp4)
                    clear hp4
                    go_wp2_with fail
                    go_meet
                    case rel => exact ⟨by rw [HX.out]; simp only [HB0.out, HB1.out, HB2.out, HB3.out, HB4.out]; try rfl, Q2.out⟩
                · have hq3 : (t.mn == 0) = false := by simpa using hp3
                  have HB3 := Lib.hid (decide_eq_false hp3)
                  clear hp3
                  go_wp2_with fail
                  go_meet
                  case rel => exact ⟨by rw [HX.out]; simp only [HB0.out, HB1.out, HB2.out, HB3.out]; try rfl, Q2.out⟩
              · have hq2 : (t.kind == 5) = false := by simpa using hp2
                have HB2 := Lib.hid (decide_eq_false hp2)
                clear hp2
                go_wp2_with fail
                go_meet
                case rel => exact ⟨by rw [HX.out]; simp only [HB0.out, HB1.out, HB2.out]; try rfl, Q2.out⟩
          · have hq0 : (lo == 1) = false := by simpa using hp0
            have HB0 := Lib.hid (decide_eq_false hp0)
            clear hp0
            by_cases hp2 : t.kind = 5
            · have hq2 : (t.kind == 5) = true := by simpa using hp2
              have HB2 := Lib.hid (decide_eq_true hp2)
              clear hp2
              by_cases hp3 : t.mn = 0
              · have hq3 : (t.mn == 0) = true := by simpa using hp3
                have HB3 := Lib.hid (decide_eq_true hp3)
                clear hp3
                by_cases hp4 : t.mx = -1
                · have hq4 : (t.mx == -1) = true := by simpa using hp4
                  have HB4 := Lib.hid (decide_eq_true hp4)
                  clear hp4
                  go_wp2_with fail
                  go_meet
                  case rel => exact ⟨by rw [HX.out]; simp only [HB0.out, HB2.out, HB3.out, HB4.out]; try rfl, Q2.out⟩
                · have hq4 : (t.mx == -1) = false := by simpa using hp4
                  have HB4 := Lib.hid (decide_eq_false hp4)
                  clear hp4
                  go_wp2_with fail
                  go_meet
                  case rel => exact ⟨by rw [HX.out]; simp only [HB0.out, HB2.out, HB3.out, HB4.out]; try rfl, Q2.out⟩
              · have hq3 : (t.mn == 0) = false := by simpa using hp3
                have HB3 := Lib.hid (decide_eq_false hp3)
                clear hp3
                go_wp2_with fail
                go_meet
                case rel => exact ⟨by rw [HX.out]; simp only [HB0.out, HB2.out, HB3.out]; try rfl, Q2.out⟩
            · have hq2 : (t.kind == 5) = false := by simpa using hp2
              have HB2 := Lib.hid (decide_eq_false hp2)
              clear hp2
              go_wp2_with fail
              go_meet
              case rel => exact ⟨by rw [HX.out]; simp only [HB0.out, HB2.out]; try rfl, Q2.out⟩
      case rest =>
        obtain ⟨rfl, qc⟩ := hcut
        replace J := Lib.hid (And.intro (J.out.1.next qc) (And.intro (J.out.2.1.keep qc (fun h => h)) (And.intro (J.out.2.2.1.keepF qc) J.out.2.2.2)))
        clear y0 y1 y2 y3 y4 y5 y6 y7 qc
        generalize wc = W2 at *
        obtain ⟨⟨y0, y1, y2, y3, y4, y5, y6, y7⟩, -⟩ := cells8 J.out.2.1
        cases x2 with
        | true =>
          have HT := Lib.hid (show tt = t by rw [← HTT.out.1]; exact rep_2 HX1.out HX2.out)
          obtain ⟨⟨d0, d1, d2, d3, d4, d5, d6, d7⟩, f0, f1, f2, f3, f4, f5, f6, f7⟩ := cells8 J.out.1.out
          have hltr := J.out.1.out.lt
          go_wp2_with fail
          change bodyPost _ _ _ _ _ (putNd (W2) (w.heap.size + 1) 0 (t) (a) (c))
          have hP := J.out.1.put (t) (a) (c)
          have hG := (by rw [HT.out]; exact J.out.1.gives (ok := ok) (t := t) J.out.2.2.2 (J.out.2.2.1.mono fun k hk => ⟨.inl hk.1, by omega⟩) : Gives w ok tt (.returned (nodeV (t) (a) (c))) (putNd (W2) (w.heap.size + 1) 0 (t) (a) (c)))
          generalize (putNd (W2) (w.heap.size + 1) 0 (t) (a) (c)) = W9 at hP hG ⊢
          obtain ⟨⟨e0, e1, e2, e3, e4, e5, e6, e7⟩, -⟩ := cells8 hP.1
          exact bodyPost_ret (v := nodeV (t) (a) (c)) (by simp [results, Try.results28, go_sem, e0, e1, e2, e3, e4, e5, e6, e7]) rfl hG
        | false =>
          obtain ⟨x3, hx3⟩ : ∃ x, t3B t lo hi = x := ⟨_, rfl⟩
          have HX3 := Lib.hid hx3
          clear hx3
          go_upto_region 5 with fail
          go_cut [75] (fun x wx => x = .bool x3 ∧ Keep (fun _ => False) W2 wx)
          case first =>
            have HX := Lib.hid (show x3 = (decide (lo = 0) && (decide (hi = -1) && (decide (t.kind = 5) && (decide (t.mn ≤ 1) && (decide (t.mn ≥ 0) && decide (t.subs.length = 1)))))) from HX3.out.symm)
            by_cases hp0 : lo = 0
            · have hq0 : (lo == 0) = true := by simpa using hp0
              have HB0 := Lib.hid (decide_eq_true hp0)
              clear hp0
              by_cases hp1 : hi = -1
              · have hq1 : (hi == -1) = true := by simpa using hp1
                have HB1 := Lib.hid (decide_eq_true hp1)
                clear hp1
                by_cases hp2 : t.kind = 5
                · have hq2 : (t.kind == 5) = true := by simpa using hp2
                  have HB2 := Lib.hid (decide_eq_true hp2)
                  clear hp2
                  by_cases hp3 : t.mn ≤ 1
                  · have hq3 : t.mn ≤ 1 := hp3
                    have HB3 := Lib.hid (decide_eq_true hp3)
                    clear hp3
                    by_cases hp4 : t.mn ≥ 0
                    · have hq4 : t.mn ≥ 0 := hp4
                      have HB4 := Lib.hid (decide_eq_true hp4)
                      clear hp4
                      by_cases hp5 : t.subs.length = 1
                      · have hq5 : ((t.subs.length : Int) == 1) = true := by simp; omega
                        have HB5 := Lib.hid (decide_eq_true hp5)
                        clear hp5
                        go_wp2_with fail
                        go_meet
                        case rel => exact ⟨by rw [HX.out]; simp only [HB0.out, HB1.out, HB2.out, HB3.out, HB4.out, HB5.out]; try rfl, Keep.refl _ _⟩
                      · have hq5 : ((t.subs.length : Int) == 1) = false := by simp; omega
                        have HB5 := Lib.hid (decide_eq_false hp5)
                        clear hp5
                        go_wp2_with fail
                        go_meet
                        case rel => exact ⟨by rw [HX.out]; simp only [HB0.out, HB1.out, HB2.out, HB3.out, HB4.out, HB5.out]; try rfl, Keep.refl _ _⟩
                    · have hq4 : ¬ t.mn ≥ 0 := hp4
                      have HB4 := Lib.hid (decide_eq_false hp4)
                      clear hp4
                      go_wp2_with fail
                      go_meet
                      case rel => exact ⟨by rw [HX.out]; simp only [HB0.out, HB1.out, HB2.out, HB3.out, HB4.out]; try rfl, Keep.refl _ _⟩
                  · have hq3 : ¬ t.mn ≤ 1 := hp3
                    have HB3 := Lib.hid (decide_eq_false hp3)
                    clear hp3
                    go_wp2_with fail
                    go_meet
                    case rel => exact ⟨by rw [HX.out]; simp only [HB0.out, HB1.out, HB2.out, HB3.out]; try rfl, Keep.refl _ _⟩
                · have hq2 : (t.kind == 5) = false := by simpa using hp2
                  have HB2 := Lib.hid (decide_eq_false hp2)
                  clear hp2
                  go_wp2_with fail
                  go_meet
                  case rel => exact ⟨by rw [HX.out]; simp only [HB0.out, HB1.out, HB2.out]; try rfl, Keep.refl _ _⟩
              · have hq1 : (hi == -1) = false := by simpa using hp1
                have HB1 := Lib.hid (decide_eq_false hp1)
                clear hp1
                go_wp2_with fail
                go_meet
                case rel => exact ⟨by rw [HX.out]; simp only [HB0.out, HB1.out]; try rfl, Keep.refl _ _⟩
            · have hq0 : (lo == 0) = false := by simpa using hp0
              have HB0 := Lib.hid (decide_eq_false hp0)
              clear hp0
              go_wp2_with fail
              go_meet
              case rel => exact ⟨by rw [HX.out]; simp only [HB0.out]; try rfl, Keep.refl _ _⟩
          case rest =>
            obtain ⟨rfl, qc⟩ := hcut
            replace J := Lib.hid (And.intro (J.out.1.next qc) (And.intro (J.out.2.1.keep qc (fun h => h)) (And.intro (J.out.2.2.1.keepF qc) J.out.2.2.2)))
            clear y0 y1 y2 y3 y4 y5 y6 y7 qc
            generalize wc = W3 at *
            obtain ⟨⟨y0, y1, y2, y3, y4, y5, y6, y7⟩, -⟩ := cells8 J.out.2.1
            cases x3 with
            | true =>
              obtain ⟨u, hu, he⟩ := rep_3 HX1.out HX2.out HX3.out
              have hl1 : t.subs.length = 1 := by rw [hu]; rfl
              obtain ⟨bl, off, a2, c2, rfl, -, -, le2, L2, C2⟩ := J.out.2.2.1.get (i := 0) (t := u) (by rw [hu]; rfl)
              obtain ⟨z0, z1, z2, z3, z4, z5, z6, z7⟩ := ncell C2
              rw [Nat.zero_mul, Nat.add_zero] at z0 z1 z2 z3 z4 z5 z6 z7
              have HC := Lib.hid (HTT.out.2.1 u (by have := sub_less (a := t) (i := 0) (t := u) (by rw [hu]; rfl); have := HTT.out.2.2; omega) 0 (-1) a2 c2 (fun k => ok k ∧ k < w.heap.size) W3 L2 le2)
              have HT := Lib.hid (show tt = repP u 0 (-1) by rw [← HTT.out.1]; exact he)
              rw [hl1] at y7
              clear C2 L2 hu he hl1 le2
              go_wp2_with fail
              refine HC.out.mono ?_
              rintro e w4 ⟨⟨v, rfl, ja, jc, rfl, hle, hlie⟩, q4⟩
              have hn2 := J.out.1.out.lt
              have HE := Lib.hid (And.intro hle (lie_of (w := w) (ok := ok) (n := w.heap.size + 1) hlie (by omega) (by omega) (fun k h => ⟨.inl h.1, by omega⟩)))
              replace J := Lib.hid (And.intro (J.out.1.next q4) J.out.2.2.2)
              clear q4 hlie hle hn2 y0 y1 y2 y3 y4 y5 y6 y7 z0 z1 z2 z3 z4 z5 z6 z7
              generalize repP u 0 (-1) = tj at *
              obtain ⟨⟨d0, d1, d2, d3, d4, d5, d6, d7⟩, f0, f1, f2, f3, f4, f5, f6, f7⟩ := cells8 J.out.1.out
              have hltr := J.out.1.out.lt
              go_wp2_with fail
              change bodyPost _ _ _ _ _ (putNd (w4) (w.heap.size + 1) 0 (tj) (ja) (jc))
              have hP := J.out.1.put (tj) (ja) (jc)
              have hG := (by rw [HT.out]; exact J.out.1.gives (ok := ok) (t := tj) HE.out.1 HE.out.2 : Gives w ok tt (.returned (nodeV (tj) (ja) (jc))) (putNd (w4) (w.heap.size + 1) 0 (tj) (ja) (jc)))
              generalize (putNd (w4) (w.heap.size + 1) 0 (tj) (ja) (jc)) = W9 at hP hG ⊢
              obtain ⟨⟨e0, e1, e2, e3, e4, e5, e6, e7⟩, -⟩ := cells8 hP.1
              exact bodyPost_ret (v := nodeV (tj) (ja) (jc)) (by simp [results, Try.results28, go_sem, e0, e1, e2, e3, e4, e5, e6, e7]) rfl hG
            | false =>
              have HT := Lib.hid (show tt = .nd 5 ST.none lo hi [t] by rw [← HTT.out.1]; exact rep_4 HX1.out HX2.out HX3.out)
              have hG := J.out.1.wrap (ok := ok) 5 lo hi J.out.2.2.2 (J.out.2.2.1.mono fun k hk => ⟨.inl hk.1, by omega⟩)
              have HG := Lib.hid hG
              clear hG
              obtain ⟨⟨d0, d1, d2, d3, d4, d5, d6, d7⟩, f0, f1, f2, f3, f4, f5, f6, f7⟩ := cells8 J.out.1.out
              have hltr := J.out.1.out.lt
              go_wp2_with fail

              change bodyPost _ _ _ _ _ ((putNd W3 (w.heap.size + 1) 0 (.nd 5 ST.none lo hi [t]) (some ⟨W3.heap.size, 0, none⟩) 1).alloc (.cells (ncells t a c) 27))
              have hP := HG.out.1
              have hG : Gives w ok tt (.returned (nodeV (.nd 5 ST.none lo hi [t]) (some ⟨W3.heap.size, 0, none⟩) 1)) ((putNd W3 (w.heap.size + 1) 0 (.nd 5 ST.none lo hi [t]) (some ⟨W3.heap.size, 0, none⟩) 1).alloc (.cells (ncells t a c) 27)) := by rw [HT.out]; exact HG.out.2
              generalize ((putNd W3 (w.heap.size + 1) 0 (.nd 5 ST.none lo hi [t]) (some ⟨W3.heap.size, 0, none⟩) 1).alloc (.cells (ncells t a c) 27)) = W9 at hP hG ⊢
              obtain ⟨⟨e0, e1, e2, e3, e4, e5, e6, e7⟩, -⟩ := cells8 hP
              exact bodyPost_ret (v := nodeV (.nd 5 ST.none lo hi [t]) (some ⟨W3.heap.size, 0, none⟩) 1) (by simp [results, Try.results28, go_sem, e0, e1, e2, e3, e4, e5, e6, e7]) rfl hG
theorem frep_all : ∀ (n : Nat) (t : T), SizeOf.sizeOf t < n → FRepOk t
  | 0, _, h => absurd h (Nat.not_lt_zero _)
  | n + 1, t, h => frep_step n (frep_all n) t h
theorem frep_any (t : T) : FRepOk t := frep_all _ t (Nat.lt_succ_self _)
end Go.Proofs.Ytmohpjpodkbgkaa.P10
