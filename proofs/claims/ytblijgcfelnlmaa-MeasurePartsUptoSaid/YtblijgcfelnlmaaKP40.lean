/- The code's repeated (layer 9). -/
import Derived.Test.YtblijgcfelnlmaaKP38
namespace Go.Proofs.Ytblijgcfelnlmaa.P09
open Go.RowKit Go.Proofs.Ytblijgcfelnlmaa.Base Go.Proofs.Ytblijgcfelnlmaa.Bytes Go.Proofs.Ytblijgcfelnlmaa.P07 Go.Proofs.Ytblijgcfelnlmaa.P08
open Go.Proofs.Ytblijgcfelnlmaa.Sets (ST)

/-- A text in a box, and the result's. -/
structure Tr (w : World) (x : TX) (W : World) : Prop where
  a1 : At W w.heap.size 52 (xcells x)
  a3 : At W (w.heap.size + 1) 52 xzeros
  q : Keep (fun _ => False) w W
theorem Tr.start (w : World) (x : TX) : Tr w x ((w.alloc (.cells (xcells x) 52)).alloc (.cells xzeros 52)) := by
  have a1 := (At.new w (xcells x) 52).alloc (.cells xzeros 52)
  have a3 := At.new (w.alloc (.cells (xcells x) 52)) xzeros 52
  rw [show (w.alloc (.cells (xcells x) 52)).heap.size = w.heap.size + 1 from by simp] at a3
  exact ⟨a1, a3, ((Keep.refl (fun _ => False) w).alloc _).alloc _⟩
theorem Tr.endless {w : World} {x : TX} {W : World} (h : Tr w x W) (b : Bool) : Tr w { x with endless := b } (W.setCell ⟨w.heap.size, 1, none⟩ (.bool b)) :=
  ⟨h.a1.set 1 (.bool b), h.a3.setOther (p := ⟨w.heap.size, 1, none⟩) (by show w.heap.size + 1 ≠ w.heap.size; omega) _, h.q.setCell (p := ⟨w.heap.size, 1, none⟩) (fun h => absurd h (Nat.lt_irrefl _)) _⟩
theorem Tr.least {w : World} {x : TX} {W : World} (h : Tr w x W) (b : Int) : Tr w { x with least := b } (W.setCell ⟨w.heap.size, 6, none⟩ (.int .i64 b)) :=
  ⟨h.a1.set 6 (.int .i64 b), h.a3.setOther (p := ⟨w.heap.size, 6, none⟩) (by show w.heap.size + 1 ≠ w.heap.size; omega) _, h.q.setCell (p := ⟨w.heap.size, 6, none⟩) (fun h => absurd h (Nat.lt_irrefl _)) _⟩
theorem Tr.most {w : World} {x : TX} {W : World} (h : Tr w x W) (b : Int) : Tr w { x with most := b } (W.setCell ⟨w.heap.size, 7, none⟩ (.int .i64 b)) :=
  ⟨h.a1.set 7 (.int .i64 b), h.a3.setOther (p := ⟨w.heap.size, 7, none⟩) (by show w.heap.size + 1 ≠ w.heap.size; omega) _, h.q.setCell (p := ⟨w.heap.size, 7, none⟩) (fun h => absurd h (Nat.lt_irrefl _)) _⟩

set_option maxRecDepth 100000 in
set_option maxHeartbeats 4000000 in
theorem repx_any (x : TX) (mn mx : Int) (h0 : 0 ≤ mn) (h20 : mn ≤ 20) (hmx : mx = -1 ∨ 0 ≤ mx) (hx20 : mx ≤ 20) (l0 : 0 ≤ x.least) (m0 : 0 ≤ x.most) (hl : mn * x.least ≤ 9000000000000000000) (hm : mx * x.most ≤ 9000000000000000000) (w : World) : Calls Try.prog 52 #[xV x, .int .i64 mn, .int .i64 mx] w fun e w' => e = .returned (xV (x.rep mn mx)) ∧ Keep (fun _ => False) w w' := by
  have H0 := Lib.hid (Tr.start w x)
  obtain ⟨R, hR⟩ : ∃ R, x.rep mn mx = R := ⟨_, rfl⟩
  rw [hR]
  unfold TX.rep at hR
  by_cases hn : mx = 0 ∨ (x.none = true ∧ mn = 0)
  · rw [if_pos hn] at hR
    subst hR
    have hn2 : (mx == 0) = true ∨ ((mx == 0) = false ∧ x.none = true ∧ (mn == 0) = true) := by
      by_cases h : mx = 0
      · exact .inl (by simp [h])
      · rcases hn with h1 | h1
        · exact absurd h1 h
        · exact .inr ⟨by simp [h], h1.1, by simp [h1.2]⟩
    clear hn h0 h20 hmx hx20 l0 m0 hl hm
    go_enter Try.func52, Try.ntmps52
    go_upto_region 1 with fail
    generalize ((w.alloc (.cells (xcells x) 52)).alloc (.cells xzeros 52)) = W at *
    obtain ⟨⟨c0, -, -, -, -, -, -, -⟩, -⟩ := cells8 H0.out.a1
    obtain ⟨⟨g0, g1, g2, g3, g4, g5, g6, g7⟩, ⟨f0, f1, f2, f3, f4, f5, f6, f7⟩⟩ := cells8 H0.out.a3
    have HF := Lib.hid (And.intro (xput_at H0.out.a3 .empty) (xput_keep H0.out.q (b := w.heap.size + 1) (fun h => absurd h (by omega)) .empty))
    rcases hn2 with h | ⟨h, h', h3⟩
    · go_wp2_with fail
      change bodyPost _ _ _ _ _ (xput W (w.heap.size + 1) .empty)
      have hf := HF.out
      generalize (xput W (w.heap.size + 1) .empty) = W9 at hf ⊢
      obtain ⟨⟨e0, e1, e2, e3, e4, e5, e6, e7⟩, -⟩ := cells8 hf.1
      exact bodyPost_ret (v := xV .empty) (by simp [results, Try.results52, go_sem, e0, e1, e2, e3, e4, e5, e6, e7]) rfl ⟨rfl, hf.2⟩
    · rw [h'] at c0
      go_wp2_with fail
      change bodyPost _ _ _ _ _ (xput W (w.heap.size + 1) .empty)
      have hf := HF.out
      generalize (xput W (w.heap.size + 1) .empty) = W9 at hf ⊢
      obtain ⟨⟨e0, e1, e2, e3, e4, e5, e6, e7⟩, -⟩ := cells8 hf.1
      exact bodyPost_ret (v := xV .empty) (by simp [results, Try.results52, go_sem, e0, e1, e2, e3, e4, e5, e6, e7]) rfl ⟨rfl, hf.2⟩
  rw [if_neg hn] at hR
  have bx0 : (mx == 0) = false := by
    have : ¬ mx = 0 := fun h => hn (.inl h)
    simp [this]
  have hx3 : mx ≠ 0 := fun h => hn (.inl h)
  by_cases hxn : x.none = true
  · rw [if_pos hxn] at hR
    subst hR
    have bn0 : (mn == 0) = false := by
      have : ¬ mn = 0 := fun h => hn (.inr ⟨hxn, h⟩)
      simp [this]
    clear hn h0 h20 hmx hx20 l0 m0 hl hm
    go_enter Try.func52, Try.ntmps52
    go_upto_region 1 with fail
    generalize ((w.alloc (.cells (xcells x) 52)).alloc (.cells xzeros 52)) = W at *
    obtain ⟨⟨c0, c1, c2, c3, c4, c5, c6, c7⟩, -⟩ := cells8 H0.out.a1
    obtain ⟨⟨g0, g1, g2, g3, g4, g5, g6, g7⟩, ⟨f0, f1, f2, f3, f4, f5, f6, f7⟩⟩ := cells8 H0.out.a3
    have a := xput_at H0.out.a3 x
    have q := xput_keep H0.out.q (b := w.heap.size + 1) (fun h => absurd h (by omega)) x
    unfold xput at a q
    rw [hxn] at a q c0
    have HF := Lib.hid (And.intro a (And.intro q hxn))
    clear hxn a q
    go_wp2_with fail
    change bodyPost _ _ _ _ _ (put8 W (w.heap.size + 1) (.bool true) (.bool x.endless) (.int .u64 x.first.x0) (.int .u64 x.first.x1) (.int .u64 x.first.x2) (.int .u64 x.first.x3) (.int .i64 x.least) (.int .i64 x.most))
    have hf := HF.out
    generalize (put8 W (w.heap.size + 1) (.bool true) (.bool x.endless) (.int .u64 x.first.x0) (.int .u64 x.first.x1) (.int .u64 x.first.x2) (.int .u64 x.first.x3) (.int .i64 x.least) (.int .i64 x.most)) = W9 at hf ⊢
    obtain ⟨⟨e0, e1, e2, e3, e4, e5, e6, e7⟩, -⟩ := cells8 hf.1
    exact bodyPost_ret (v := xV x) (by simp [results, Try.results52, go_sem, e0, e1, e2, e3, e4, e5, e6, e7]) rfl ⟨rfl, hf.2.1⟩
  rw [if_neg hxn] at hR
  have hx0 : x.none = false := by
    cases h : x.none
    · rfl
    · exact absurd h hxn
  clear hn hxn
  have HX := Lib.hid hx0
  have ht1 := times_is h0 (by omega) l0 hl
  have ht2 : ∀ h : 0 ≤ mx, _ := fun h => times_is h (by omega) m0 hm
  have HS := Lib.hid (And.intro ht1 ht2)
  obtain ⟨L, hL⟩ : ∃ L, mn * x.least = L := ⟨_, rfl⟩
  obtain ⟨M, hM⟩ : ∃ M, mx * x.most = M := ⟨_, rfl⟩
  rw [hL] at HS hR
  rw [hM] at HS hR
  have HR := Lib.hid hR
  have HM := Lib.hid (And.intro hmx m0)
  clear hR ht1 ht2 hL hM hl hm hmx hx20 h0 h20 l0 m0
  go_enter Try.func52, Try.ntmps52
  go_upto_region 1 with fail
  generalize ((w.alloc (.cells (xcells x) 52)).alloc (.cells xzeros 52)) = W at *
  obtain ⟨⟨c0, c1, c2, c3, c4, c5, c6, c7⟩, ⟨f0, f1, f2, f3, f4, f5, f6, f7⟩⟩ := cells8 H0.out.a1
  rw [hx0] at c0
  clear hx0
  go_wp2_with fail
  refine (HS.out.1 W).mono ?_
  rintro e w3 ⟨rfl, rfl⟩
  go_upto_region 6 with fail
  clear c0 c1 c2 c3 c4 c5 c6 c7 f0 f1 f2 f3 f4 f5 f6 f7
  change Code.wp _ _ _ _ (W.setCell ⟨w.heap.size, 6, none⟩ (.int .i64 L))
  have H3 := Lib.hid (H0.out.least L)
  generalize (W.setCell ⟨w.heap.size, 6, none⟩ (.int .i64 L)) = W3 at *
  obtain ⟨⟨c0, c1, c2, c3, c4, c5, c6, c7⟩, ⟨f0, f1, f2, f3, f4, f5, f6, f7⟩⟩ := cells8 H3.out.a1
  dsimp only at c0 c1 c2 c3 c4 c5 c6 c7
  by_cases hu : mx = -1
  · have bu : (mx == -1) = true := by simp [hu]
    have hR := HR.out
    rw [if_pos hu] at hR
    obtain ⟨E, hE⟩ : ∃ E, (x.endless || decide (0 < x.most)) = E := ⟨_, rfl⟩
    have hE2 : (x.endless = true ∧ E = true) ∨ (x.endless = false ∧ 0 < x.most ∧ E = true) ∨ (x.endless = false ∧ ¬ 0 < x.most ∧ E = false) := by
      cases h : x.endless
      · right
        rw [h, Bool.false_or] at hE
        by_cases h2 : 0 < x.most
        · exact .inl ⟨rfl, h2, by rw [← hE]; exact decide_eq_true h2⟩
        · exact .inr ⟨rfl, h2, by rw [← hE]; exact decide_eq_false h2⟩
      · exact .inl ⟨rfl, by rw [← hE, h]; rfl⟩
    rw [hE] at hR
    have HR := Lib.hid hR
    have HU := Lib.hid hu
    clear hR hE hu
    rcases hE2 with ⟨h1, h2⟩ | ⟨h1, h3, h2⟩ | ⟨h1, h3, h2⟩
    all_goals
      rw [h1] at c1
      subst h2
      clear h1
      go_upto_region 9 with fail
      clear c0 c1 c2 c3 c4 c5 c6 c7 f0 f1 f2 f3 f4 f5 f6 f7
      first
        | change Code.wp _ _ _ _ (W3.setCell ⟨w.heap.size, 1, none⟩ (.bool true))
          have h4 := H3.out.endless true
          dsimp only at h4
          rw [HX.out, HR.out] at h4
          generalize (W3.setCell ⟨w.heap.size, 1, none⟩ (.bool true)) = W4 at *
        | change Code.wp _ _ _ _ (W3.setCell ⟨w.heap.size, 1, none⟩ (.bool false))
          have h4 := H3.out.endless false
          dsimp only at h4
          rw [HX.out, HR.out] at h4
          generalize (W3.setCell ⟨w.heap.size, 1, none⟩ (.bool false)) = W4 at *
      have H4 := Lib.hid h4
      clear h4
      obtain ⟨⟨c0, c1, c2, c3, c4, c5, c6, c7⟩, -⟩ := cells8 H4.out.a1
      obtain ⟨⟨g0, g1, g2, g3, g4, g5, g6, g7⟩, ⟨f0, f1, f2, f3, f4, f5, f6, f7⟩⟩ := cells8 H4.out.a3
      go_wp2_with fail
      change bodyPost _ _ _ _ _ (xput W4 (w.heap.size + 1) R)
      have a := xput_at H4.out.a3 R
      have q := xput_keep H4.out.q (b := w.heap.size + 1) (fun h => absurd h (by omega)) R
      generalize (xput W4 (w.heap.size + 1) R) = W9 at a q ⊢
      obtain ⟨⟨e0, e1, e2, e3, e4, e5, e6, e7⟩, -⟩ := cells8 a
      exact bodyPost_ret (v := xV R) (by simp [results, Try.results52, go_sem, e0, e1, e2, e3, e4, e5, e6, e7]) rfl ⟨rfl, q⟩
  · have bu : (mx == -1) = false := by simp [hu]
    have hR := HR.out
    rw [if_neg hu] at hR
    have HT := Lib.hid (HS.out.2 (by have := HM.out.1; omega) W3)
    have HR := Lib.hid hR
    clear hu hR
    go_wp2_with fail
    refine HT.out.mono ?_
    rintro e w4 ⟨rfl, rfl⟩
    go_upto_region 9 with fail
    clear c0 c1 c2 c3 c4 c5 c6 c7 f0 f1 f2 f3 f4 f5 f6 f7
    change Code.wp _ _ _ _ (W3.setCell ⟨w.heap.size, 7, none⟩ (.int .i64 M))
    have h4 := H3.out.most M
    dsimp only at h4
    rw [HX.out, HR.out] at h4
    generalize (W3.setCell ⟨w.heap.size, 7, none⟩ (.int .i64 M)) = W4 at *
    have H4 := Lib.hid h4
    clear h4
    obtain ⟨⟨c0, c1, c2, c3, c4, c5, c6, c7⟩, -⟩ := cells8 H4.out.a1
    obtain ⟨⟨g0, g1, g2, g3, g4, g5, g6, g7⟩, ⟨f0, f1, f2, f3, f4, f5, f6, f7⟩⟩ := cells8 H4.out.a3
    go_wp2_with fail
    change bodyPost _ _ _ _ _ (xput W4 (w.heap.size + 1) R)
    have a := xput_at H4.out.a3 R
    have q := xput_keep H4.out.q (b := w.heap.size + 1) (fun h => absurd h (by omega)) R
    generalize (xput W4 (w.heap.size + 1) R) = W9 at a q ⊢
    obtain ⟨⟨e0, e1, e2, e3, e4, e5, e6, e7⟩, -⟩ := cells8 a
    exact bodyPost_ret (v := xV R) (by simp [results, Try.results52, go_sem, e0, e1, e2, e3, e4, e5, e6, e7]) rfl ⟨rfl, q⟩
end Go.Proofs.Ytblijgcfelnlmaa.P09
