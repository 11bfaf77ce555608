/- The code's or (layer 9). -/
import Derived.Test.YtblijgcfelnlmaaKP38
namespace Go.Proofs.Ytblijgcfelnlmaa.P09
open Go.RowKit Go.Proofs.Ytblijgcfelnlmaa.Base Go.Proofs.Ytblijgcfelnlmaa.Bytes Go.Proofs.Ytblijgcfelnlmaa.P07 Go.Proofs.Ytblijgcfelnlmaa.P08
open Go.Proofs.Ytblijgcfelnlmaa.Sets (ST)

set_option maxRecDepth 100000 in
set_option maxHeartbeats 4000000 in
theorem orx_any (x y : TX) {A B : Int} (hx : x.In A) (hy : y.In B) (w : World) : Calls Try.prog 51 #[xV x, xV y] w fun e w' => e = .returned (xV (x.or_ y)) ∧ Keep (fun _ => False) w w' := by
  have H0 := Lib.hid (Th.start w x y)
  obtain ⟨R, hR⟩ : ∃ R, x.or_ y = R := ⟨_, rfl⟩
  rw [hR]
  have HI := Lib.hid (And.intro hx.ok hy.ok)
  unfold TX.or_ at hR
  clear hx hy
  by_cases hn : x.none = true
  · rw [if_pos hn] at hR
    subst hR
    go_enter Try.func51, Try.ntmps51
    go_upto_region 1 with fail
    generalize (((w.alloc (.cells (xcells x) 52)).alloc (.cells (xcells y) 52)).alloc (.cells xzeros 52)) = W at *
    obtain ⟨⟨c0, -, -, -, -, -, -, -⟩, -⟩ := cells8 H0.out.a1
    obtain ⟨⟨d0, d1, d2, d3, d4, d5, d6, d7⟩, -⟩ := cells8 H0.out.a2
    obtain ⟨⟨g0, g1, g2, g3, g4, g5, g6, g7⟩, ⟨f0, f1, f2, f3, f4, f5, f6, f7⟩⟩ := cells8 H0.out.a3
    rw [hn] at c0
    clear hn
    go_wp2_with fail
    change bodyPost _ _ _ _ _ (xput W (w.heap.size + 2) y)
    have a := xput_at H0.out.a3 y
    have q := xput_keep H0.out.q (b := w.heap.size + 2) (fun h => absurd h (by omega)) y
    generalize (xput W (w.heap.size + 2) y) = W9 at a q ⊢
    obtain ⟨⟨e0, e1, e2, e3, e4, e5, e6, e7⟩, -⟩ := cells8 a
    exact bodyPost_ret (v := xV y) (by simp [results, Try.results51, go_sem, e0, e1, e2, e3, e4, e5, e6, e7]) rfl ⟨rfl, q⟩
  rw [if_neg hn] at hR
  have hx0 : x.none = false := by
    cases h : x.none
    · rfl
    · exact absurd h hn
  clear hn
  by_cases hn : y.none = true
  · rw [if_pos hn] at hR
    subst hR
    go_enter Try.func51, Try.ntmps51
    go_upto_region 1 with fail
    generalize (((w.alloc (.cells (xcells x) 52)).alloc (.cells (xcells y) 52)).alloc (.cells xzeros 52)) = W at *
    obtain ⟨⟨c0, c1, c2, c3, c4, c5, c6, c7⟩, -⟩ := cells8 H0.out.a1
    obtain ⟨⟨d0, -, -, -, -, -, -, -⟩, -⟩ := cells8 H0.out.a2
    obtain ⟨⟨g0, g1, g2, g3, g4, g5, g6, g7⟩, ⟨f0, f1, f2, f3, f4, f5, f6, f7⟩⟩ := cells8 H0.out.a3
    rw [hn] at d0
    have HX := Lib.hid hx0
    rw [hx0] at c0
    clear hn hx0
    go_wp2_with fail
    have a := xput_at H0.out.a3 x
    have q := xput_keep H0.out.q (b := w.heap.size + 2) (fun h => absurd h (by omega)) x
    have e0 : xput W (w.heap.size + 2) x = put8 W (w.heap.size + 2) (.bool false) (.bool x.endless) (.int .u64 x.first.x0) (.int .u64 x.first.x1) (.int .u64 x.first.x2) (.int .u64 x.first.x3) (.int .i64 x.least) (.int .i64 x.most) := by rw [xput, HX.out]
    rw [e0] at a q
    change bodyPost _ _ _ _ _ (put8 W (w.heap.size + 2) (.bool false) (.bool x.endless) (.int .u64 x.first.x0) (.int .u64 x.first.x1) (.int .u64 x.first.x2) (.int .u64 x.first.x3) (.int .i64 x.least) (.int .i64 x.most))
    clear e0
    generalize (put8 W (w.heap.size + 2) (.bool false) (.bool x.endless) (.int .u64 x.first.x0) (.int .u64 x.first.x1) (.int .u64 x.first.x2) (.int .u64 x.first.x3) (.int .i64 x.least) (.int .i64 x.most)) = W9 at a q ⊢
    obtain ⟨⟨e0, e1, e2, e3, e4, e5, e6, e7⟩, -⟩ := cells8 a
    exact bodyPost_ret (v := xV x) (by simp [results, Try.results51, go_sem, e0, e1, e2, e3, e4, e5, e6, e7]) rfl ⟨rfl, q⟩
  rw [if_neg hn] at hR
  have hy0 : y.none = false := by
    cases h : y.none
    · rfl
    · exact absurd h hn
  clear hn
  have HX := Lib.hid hx0
  obtain ⟨E, hE⟩ : ∃ E, (x.endless || y.endless) = E := ⟨_, rfl⟩
  have hE2 : (x.endless = true ∧ E = true) ∨ (x.endless = false ∧ E = y.endless) := by
    cases h : x.endless
    · exact .inr ⟨rfl, by rw [← hE, h]; rfl⟩
    · exact .inl ⟨rfl, by rw [← hE, h]; rfl⟩
  rw [hE] at hR
  clear hE
  obtain ⟨F, hF⟩ : ∃ F, x.first.or y.first = F := ⟨_, rfl⟩
  rw [hF] at hR
  have HR := Lib.hid (And.intro hF hR)
  clear hF hR
  go_enter Try.func51, Try.ntmps51
  go_upto_region 1 with fail
  generalize (((w.alloc (.cells (xcells x) 52)).alloc (.cells (xcells y) 52)).alloc (.cells xzeros 52)) = W at *
  obtain ⟨⟨c0, c1, c2, c3, c4, c5, c6, c7⟩, ⟨f0, f1, f2, f3, f4, f5, f6, f7⟩⟩ := cells8 H0.out.a1
  obtain ⟨⟨d0, d1, d2, d3, d4, d5, d6, d7⟩, -⟩ := cells8 H0.out.a2
  rw [hx0] at c0
  rw [hy0] at d0
  clear hx0 hy0
  rcases hE2 with ⟨h1, h2⟩ | ⟨h1, h2⟩
  all_goals
    rw [h1] at c1
    subst h2
    clear h1
    go_upto_region 6 with fail
    clear c0 c1 c2 c3 c4 c5 c6 c7 f0 f1 f2 f3 f4 f5 f6 f7 d0 d1 d2 d3 d4 d5 d6 d7
    first
      | change Code.wp _ _ _ _ (W.setCell ⟨w.heap.size, 1, none⟩ (.bool true))
        have H2 := Lib.hid (H0.out.endless true)
        generalize (W.setCell ⟨w.heap.size, 1, none⟩ (.bool true)) = W2 at *
      | change Code.wp _ _ _ _ (W.setCell ⟨w.heap.size, 1, none⟩ (.bool y.endless))
        have H2 := Lib.hid (H0.out.endless y.endless)
        generalize (W.setCell ⟨w.heap.size, 1, none⟩ (.bool y.endless)) = W2 at *
    obtain ⟨⟨c0, c1, c2, c3, c4, c5, c6, c7⟩, -⟩ := cells8 H2.out.a1
    obtain ⟨⟨d0, d1, d2, d3, d4, d5, d6, d7⟩, -⟩ := cells8 H2.out.a2
    dsimp only at c0 c1 c2 c3 c4 c5 c6 c7
    go_wp2_with fail
    refine (or_any x.first y.first HI.out.1 HI.out.2 W2).mono ?_
    rintro e w3 ⟨rfl, q3⟩
    rw [HR.out.1]
    have H3 := Lib.hid (H2.out.keep q3)
    clear q3 c0 c1 c2 c3 c4 c5 c6 c7 d0 d1 d2 d3 d4 d5 d6 d7
    obtain ⟨⟨c0, c1, c2, c3, c4, c5, c6, c7⟩, ⟨f0, f1, f2, f3, f4, f5, f6, f7⟩⟩ := cells8 H3.out.a1
    go_upto_region 7 with fail
    clear c0 c1 c2 c3 c4 c5 c6 c7 f0 f1 f2 f3 f4 f5 f6 f7
    change Code.wp _ _ _ _ (xfirst w3 w.heap.size F)
    have H4 := Lib.hid (H3.out.first F)
    generalize (xfirst w3 w.heap.size F) = W4 at *
    obtain ⟨⟨c0, c1, c2, c3, c4, c5, c6, c7⟩, ⟨f0, f1, f2, f3, f4, f5, f6, f7⟩⟩ := cells8 H4.out.a1
    obtain ⟨⟨d0, d1, d2, d3, d4, d5, d6, d7⟩, -⟩ := cells8 H4.out.a2
    dsimp only at c0 c1 c2 c3 c4 c5 c6 c7
    go_upto_region 8 with fail
    clear c0 c1 c2 c3 c4 c5 c6 c7 f0 f1 f2 f3 f4 f5 f6 f7 d0 d1 d2 d3 d4 d5 d6 d7
    change Code.wp _ _ _ _ (W4.setCell ⟨w.heap.size, 6, none⟩ (.int .i64 (min x.least y.least)))
    have H5 := Lib.hid (H4.out.least (min x.least y.least))
    generalize (W4.setCell ⟨w.heap.size, 6, none⟩ (.int .i64 (min x.least y.least))) = W5 at *
    obtain ⟨⟨c0, c1, c2, c3, c4, c5, c6, c7⟩, ⟨f0, f1, f2, f3, f4, f5, f6, f7⟩⟩ := cells8 H5.out.a1
    obtain ⟨⟨d0, d1, d2, d3, d4, d5, d6, d7⟩, -⟩ := cells8 H5.out.a2
    dsimp only at c0 c1 c2 c3 c4 c5 c6 c7
    go_upto_region 9 with fail
    clear c0 c1 c2 c3 c4 c5 c6 c7 f0 f1 f2 f3 f4 f5 f6 f7 d0 d1 d2 d3 d4 d5 d6 d7
    change Code.wp _ _ _ _ (W5.setCell ⟨w.heap.size, 7, none⟩ (.int .i64 (max x.most y.most)))
    have h6 := H5.out.most (max x.most y.most)
    dsimp only at h6
    rw [HX.out, HR.out.2] at h6
    have H6 := Lib.hid h6
    clear h6
    generalize (W5.setCell ⟨w.heap.size, 7, none⟩ (.int .i64 (max x.most y.most))) = W6 at *
    obtain ⟨⟨c0, c1, c2, c3, c4, c5, c6, c7⟩, -⟩ := cells8 H6.out.a1
    obtain ⟨⟨g0, g1, g2, g3, g4, g5, g6, g7⟩, ⟨f0, f1, f2, f3, f4, f5, f6, f7⟩⟩ := cells8 H6.out.a3
    go_wp2_with fail
    change bodyPost _ _ _ _ _ (xput W6 (w.heap.size + 2) R)
    have a := xput_at H6.out.a3 R
    have q := xput_keep H6.out.q (b := w.heap.size + 2) (fun h => absurd h (by omega)) R
    generalize (xput W6 (w.heap.size + 2) R) = W9 at a q ⊢
    obtain ⟨⟨e0, e1, e2, e3, e4, e5, e6, e7⟩, -⟩ := cells8 a
    exact bodyPost_ret (v := xV R) (by simp [results, Try.results51, go_sem, e0, e1, e2, e3, e4, e5, e6, e7]) rfl ⟨rfl, q⟩
end Go.Proofs.Ytblijgcfelnlmaa.P09
