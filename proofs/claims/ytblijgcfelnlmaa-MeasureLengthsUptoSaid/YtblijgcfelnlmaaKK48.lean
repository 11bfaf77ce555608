/- MeasureRep: the walk. -/
import Derived.Test.YtblijgcfelnlmaaKK45
import Derived.Test.YtblijgcfelnlmaaKK42
import Derived.Test.YtblijgcfelnlmaaKK37
namespace Go.Proofs.Ytblijgcfelnlmaa.P09
open Go.RowKit Go.Proofs.Ytblijgcfelnlmaa.Base Go.Proofs.Ytblijgcfelnlmaa.Bytes Go.Proofs.Ytblijgcfelnlmaa.P07 Go.Proofs.Ytblijgcfelnlmaa.P08
open Go.Proofs.Ytblijgcfelnlmaa.Sets (ST)

/-- What a repetition says, by its part. -/
structure Rep9 (mn mx : Int) (t : T) (b nr : Bool) (x y z u : Int) (n1 r1 : Bool) : Prop where
  bounds : 0 ≤ mn ∧ mn ≤ 20 ∧ (mx = -1 ∨ mn ≤ mx ∧ mx ≤ 20)
  big : b = false → 0 ≤ x ∧ x * mn ≤ 9000000000000000000 ∧ (0 ≤ y → y * mx ≤ 9000000000000000000)
  a1 : b = true → 0 < mn → nr = true
  a2 : b = true → ¬ 0 < mn → nr = false ∧ z = 0 ∧ u = 0
  b0 : b = false → mx = 0 → nr = false ∧ z = 0 ∧ u = 0
  z : b = false → mx ≠ 0 → z = x * mn
  u : b = false → mx ≠ 0 → u = if y = 0 then 0 else if y < 0 ∨ mx < 0 then -1 else y * mx
  r0 : b = false → mx ≠ 0 → mn = 0 → r1 = true
  r1 : b = false → mx ≠ 0 → mn ≠ 0 → r1 = n1
theorem rep9 {t : T} {mn mx : Int} (hR : RT 12 (.nd 5 ST.none mn mx [t])) (hc : cnt (.nd 5 ST.none mn mx [t]) ≤ 200) :
    Rep9 mn mx t (noneB t) (noneB (.nd 5 ST.none mn mx [t])) (leastI t) (mostI t) (leastI (.nd 5 ST.none mn mx [t])) (mostI (.nd 5 ST.none mn mx [t])) (nullB t) (nullB (.nd 5 ST.none mn mx [t])) := by
  obtain ⟨s, hs, m0, m1, hx, ha⟩ := one_sub hR rfl
  injection hs with hs
  subst hs
  have hRt : RT 12 t := IS.rt (k := 5) ha
  have hlb := least_bnd t 12 hRt
  have hmb := most_bnd t 12 hRt
  have hbb := bnd_small hc
  have hcc : cnt (.nd 5 ST.none mn mx [t]) = cnt t + 1 := by rw [cnt, cntL, cntL]; omega
  rw [hcc] at hbb
  have en : noneB (.nd 5 ST.none mn mx [t]) = (decide (0 < mn) && noneB t) := by rw [noneB, headN]; rfl
  have el : leastI (.nd 5 ST.none mn mx [t]) = if noneB (.nd 5 ST.none mn mx [t]) = true then -1 else if 0 < mn then mn * leastI t else 0 := by
    rw [leastI, headLe]
    split
    · rfl
    · rw [if_neg (by decide), if_neg (by decide), if_neg (by decide)]
      by_cases h : 0 < mn
      · rw [if_pos ⟨rfl, h⟩, if_pos h]
      · rw [if_neg (fun hh => h hh.2), if_neg h]
  have em : mostI (.nd 5 ST.none mn mx [t]) = if noneB (.nd 5 ST.none mn mx [t]) = true then -1 else if noneB t = true ∨ mx = 0 then 0 else if mostI t = 0 then 0 else if mostI t < 0 ∨ mx < 0 then -1 else mostI t * mx := by
    rw [mostI, headM, headN]
    split
    · rfl
    · rw [if_neg (by decide), if_neg (by decide), if_pos rfl]
  have n1 := nullB_iff hRt
  have n2 := nullB_iff hR
  have hbig : noneB t = false → 0 ≤ leastI t ∧ leastI t * mn ≤ 9000000000000000000 ∧ (0 ≤ mostI t → mostI t * mx ≤ 9000000000000000000) := fun hb => by
    have h0 := hlb.2.1 hb
    have h1 := rep_bnd ha h0 (fun e he => (least_bnd t e he).2.2) (fun hk => by rw [leastI_eq, hb, if_neg (by decide), if_pos hk]; omega) m1
    refine ⟨h0, by omega, fun h2 => ?_⟩
    have h3 := rep_bnd ha h2 (fun e he => (most_bnd t e he).2) (fun hk => by rw [mostI_eq]; split <;> first | omega | (rw [if_pos hk]; omega)) (show mx ≤ 20 by omega)
    omega
  refine ⟨⟨m0, m1, hx⟩, hbig, ?_, ?_, ?_, ?_, ?_, ?_, ?_⟩
  · intro hb h
    rw [en, hb, decide_eq_true h]
    rfl
  · intro hb h
    have hn : noneB (.nd 5 ST.none mn mx [t]) = false := by rw [en, decide_eq_false h]; rfl
    rw [hn, if_neg (by decide)] at el em
    rw [if_neg h] at el
    rw [if_pos (.inl hb)] at em
    exact ⟨hn, el, em⟩
  · intro hb h
    have hn : noneB (.nd 5 ST.none mn mx [t]) = false := by rw [en, hb, Bool.and_false]
    rw [hn, if_neg (by decide)] at el em
    rw [if_neg (by omega)] at el
    rw [if_pos (.inr h)] at em
    exact ⟨hn, el, em⟩
  all_goals
    intro hb hm
    have hn : noneB (.nd 5 ST.none mn mx [t]) = false := by rw [en, hb, Bool.and_false]
    rw [hn, if_neg (by decide)] at el em
    rw [hn] at n2
    rw [hb] at n1
    rw [if_neg (by rintro (h | h); rw [hb] at h; cases h; exact hm h)] at em
    have hz : leastI (.nd 5 ST.none mn mx [t]) = leastI t * mn := by
      rw [el]
      split
      · rw [Int.mul_comm]
      · rw [show mn = 0 by omega, Int.mul_zero]
  · exact hz
  · exact em
  · intro h
    rw [n2, hz, h, Int.mul_zero]
    rfl
  · intro h
    rw [n2, n1, hz]
    have h0 := (hbig hb).1
    have : (leastI t * mn = 0) ↔ (leastI t = 0) := by
      rw [Int.mul_eq_zero]
      omega
    rw [decide_eq_decide.2 this]

set_option maxRecDepth 100000 in
set_option maxHeartbeats 16000000 in
theorem law_rep (t : T) (mn mx : Int) (a : Option Addr) (c : Nat) (w : World) (hta : Lie w (fun _ => True) a t.subs) (hcl : t.subs.length ≤ c) (ht : cnt t ≤ 400000000) (hst : SOk t) (_lo1 : -9223372036854775808 ≤ mn) (_hi1 : mn ≤ 9223372036854775807) (_lo2 : -9223372036854775808 ≤ mx) (_hi2 : mx ≤ 9223372036854775807) :
    Calls Try.prog 7 #[nodeV t a c, .int .i64 mn, .int .i64 mx] w fun e w' => e = .returned (.bool true) ∧ Keep (fun _ => False) w w' := by
  have q := (((Keep.refl (fun _ => False) w).alloc (.cells (ncells t a c) 27)).alloc (.cells (ncells t a c) 27)).alloc (.cells #[.int .i64 5, .int .u64 0, .int .u64 0, .int .u64 0, .int .u64 0, .int .i64 mn, .int .i64 mx, .slice (some ⟨w.heap.size + 1, 0, none⟩) 1 1] 27)
  have a1 := ((At.new w (ncells t a c) 27).alloc (.cells (ncells t a c) 27)).alloc (.cells #[.int .i64 5, .int .u64 0, .int .u64 0, .int .u64 0, .int .u64 0, .int .i64 mn, .int .i64 mx, .slice (some ⟨w.heap.size + 1, 0, none⟩) 1 1] 27)
  have a2 := (At.new (w.alloc (.cells (ncells t a c) 27)) (ncells t a c) 27).alloc (.cells #[.int .i64 5, .int .u64 0, .int .u64 0, .int .u64 0, .int .u64 0, .int .i64 mn, .int .i64 mx, .slice (some ⟨w.heap.size + 1, 0, none⟩) 1 1] 27)
  have a3 := At.new ((w.alloc (.cells (ncells t a c) 27)).alloc (.cells (ncells t a c) 27)) #[.int .i64 5, .int .u64 0, .int .u64 0, .int .u64 0, .int .u64 0, .int .i64 mn, .int .i64 mx, .slice (some ⟨w.heap.size + 1, 0, none⟩) 1 1] 27
  rw [show (w.alloc (.cells (ncells t a c) 27)).heap.size = w.heap.size + 1 from by simp] at a2
  rw [show ((w.alloc (.cells (ncells t a c) 27)).alloc (.cells (ncells t a c) 27)).heap.size = w.heap.size + 2 from by simp] at a3
  have hLr := lie_one (ok := fun _ => True) a2 trivial hcl (hta.keepF q)
  have hsr : SOk (.nd 5 ST.none mn mx [t]) := by rw [SOk, SOkL, SOkL]; exact ⟨ST.none_ok, hst, trivial⟩
  have hcr : cnt (.nd 5 ST.none mn mx [t]) ≤ 1000000000 := by rw [cnt, cntL, cntL]; omega
  have H0 := Lib.hid (And.intro q (And.intro (hta.keepF q) (And.intro hLr (And.intro a1 a3))))
  have HCT := Lib.hid (And.intro hcr hsr)
  clear q hta hcl ht hst a1 a2 a3 hLr hsr hcr
  go_enter Try.func7, Try.ntmps7
  go_upto_region 2 with fail
  change Code.wp _ _ _ _ (((w.alloc (.cells (ncells t a c) 27)).alloc (.cells (ncells t a c) 27)).alloc (.cells #[.int .i64 5, .int .u64 0, .int .u64 0, .int .u64 0, .int .u64 0, .int .i64 mn, .int .i64 mx, .slice (some ⟨w.heap.size + 1, 0, none⟩) 1 1] 27))
  generalize (((w.alloc (.cells (ncells t a c) 27)).alloc (.cells (ncells t a c) 27)).alloc (.cells #[.int .i64 5, .int .u64 0, .int .u64 0, .int .u64 0, .int .u64 0, .int .i64 mn, .int .i64 mx, .slice (some ⟨w.heap.size + 1, 0, none⟩) 1 1] 27)) = W at *
  have hS : ∀ w', Keep (fun _ => False) W w' → Keep (fun _ => False) W w' ∧ w'.cell? ⟨w.heap.size, 0, none⟩ = some (.int .i64 t.kind) ∧ w'.cell? ⟨w.heap.size, 1, none⟩ = some (.int .u64 t.set.x0) ∧ w'.cell? ⟨w.heap.size, 2, none⟩ = some (.int .u64 t.set.x1) ∧ w'.cell? ⟨w.heap.size, 3, none⟩ = some (.int .u64 t.set.x2) ∧ w'.cell? ⟨w.heap.size, 4, none⟩ = some (.int .u64 t.set.x3) ∧ w'.cell? ⟨w.heap.size, 5, none⟩ = some (.int .i64 t.mn) ∧ w'.cell? ⟨w.heap.size, 6, none⟩ = some (.int .i64 t.mx) ∧ w'.cell? ⟨w.heap.size, 7, none⟩ = some (.slice a t.subs.length c) ∧ w'.cell? ⟨w.heap.size + 2, 0, none⟩ = some (.int .i64 5) ∧ w'.cell? ⟨w.heap.size + 2, 1, none⟩ = some (.int .u64 0) ∧ w'.cell? ⟨w.heap.size + 2, 2, none⟩ = some (.int .u64 0) ∧ w'.cell? ⟨w.heap.size + 2, 3, none⟩ = some (.int .u64 0) ∧ w'.cell? ⟨w.heap.size + 2, 4, none⟩ = some (.int .u64 0) ∧ w'.cell? ⟨w.heap.size + 2, 5, none⟩ = some (.int .i64 mn) ∧ w'.cell? ⟨w.heap.size + 2, 6, none⟩ = some (.int .i64 mx) ∧ w'.cell? ⟨w.heap.size + 2, 7, none⟩ = some (.slice (some ⟨w.heap.size + 1, 0, none⟩) 1 1) := fun w' q' => by
    obtain ⟨⟨x0, x1, x2, x3, x4, x5, x6, x7⟩, -⟩ := cells8 (H0.out.2.2.2.1.keep q' (fun h => h))
    obtain ⟨⟨y0, y1, y2, y3, y4, y5, y6, y7⟩, -⟩ := cells8 (H0.out.2.2.2.2.keep q' (fun h => h))
    exact ⟨q', x0, x1, x2, x3, x4, x5, x6, x7, y0, y1, y2, y3, y4, y5, y6, y7⟩
  have HS := Lib.hid hS
  have HLT := Lib.hid (fun w' (q' : Keep (fun _ => False) W w') => H0.out.2.1.keepF q')
  have HLR := Lib.hid (fun w' (q' : Keep (fun _ => False) W w') => H0.out.2.2.1.keepF q')
  clear hS
  go_wp2_with fail
  refine (awake_true W).mono ?_
  rintro e w1 ⟨rfl, q1⟩
  have K1 := Lib.hid q1
  clear q1
  obtain ⟨-, x0, x1, x2, x3, x4, x5, x6, x7, y0, y1, y2, y3, y4, y5, y6, y7⟩ := HS.out _ K1.out
  go_wp2_with fail
  refine (few_any (.nd 5 ST.none mn mx [t]) HCT.out.1 _ 1 w1 (HLR.out _ K1.out)).mono ?_
  rintro e w2 ⟨rfl, q2⟩
  have K2 := Lib.hid (K1.out.trans q2)
  clear q2 x0 x1 x2 x3 x4 x5 x6 x7 y0 y1 y2 y3 y4 y5 y6 y7
  by_cases h1 : sz (.nd 5 ST.none mn mx [t]) ≤ 200
  case neg =>
    have g1 : decide (sz (.nd 5 ST.none mn mx [t]) ≤ 200) = false := decide_eq_false h1
    rw [g1]
    clear g1 h1
    go_wp2_with fail
    refine (awake_true w2).mono ?_
    rintro e w3 ⟨rfl, q3⟩
    have Q3 := Lib.hid (H0.out.1.trans (K2.out.trans q3))
    clear q3
    go_wp2_with fail
    go_ret
    exact ⟨rfl, Q3.out⟩
  have g1 : decide (sz (.nd 5 ST.none mn mx [t]) ≤ 200) = true := decide_eq_true h1
  rw [g1]
  have HF1 := Lib.hid (few_cnt h1)
  clear g1 h1
  obtain ⟨-, x0, x1, x2, x3, x4, x5, x6, x7, y0, y1, y2, y3, y4, y5, y6, y7⟩ := HS.out _ K2.out
  go_wp2_with fail
  refine (fright_any (.nd 5 ST.none mn mx [t]) HCT.out.1 _ 1 w2 (HLR.out _ K2.out)).mono ?_
  rintro e w3 ⟨rfl, q3⟩
  have K3 := Lib.hid (K2.out.trans q3)
  clear q3 x0 x1 x2 x3 x4 x5 x6 x7 y0 y1 y2 y3 y4 y5 y6 y7
  cases h3 : rightB (.nd 5 ST.none mn mx [t]) with
  | false =>
    clear h3
    go_wp2_with fail
    refine (awake_true w3).mono ?_
    rintro e w4 ⟨rfl, q4⟩
    have Q4 := Lib.hid (H0.out.1.trans (K3.out.trans q4))
    clear q4
    go_wp2_with fail
    go_ret
    exact ⟨rfl, Q4.out⟩
  | true =>
    have hR := (rightB_iff HCT.out.2).1 h3
    have hc := HF1.out
    have h9 := rep9 hR hc
    have hRt : RT 12 t := RL_get hR.subs (i := 0) rfl
    have hct : cnt t ≤ 200 := by rw [cnt, cntL, cntL] at hc; omega
    obtain ⟨b, hb⟩ : ∃ b, noneB t = b := ⟨_, rfl⟩
    obtain ⟨nr, hnr⟩ : ∃ b, noneB (.nd 5 ST.none mn mx [t]) = b := ⟨_, rfl⟩
    obtain ⟨x, hx⟩ : ∃ x, leastI t = x := ⟨_, rfl⟩
    obtain ⟨y, hy⟩ : ∃ x, mostI t = x := ⟨_, rfl⟩
    obtain ⟨z, hz⟩ : ∃ x, leastI (.nd 5 ST.none mn mx [t]) = x := ⟨_, rfl⟩
    obtain ⟨u, hu⟩ : ∃ x, mostI (.nd 5 ST.none mn mx [t]) = x := ⟨_, rfl⟩
    obtain ⟨n1, hn1⟩ : ∃ x, nullB t = x := ⟨_, rfl⟩
    obtain ⟨r1, hr1⟩ : ∃ x, nullB (.nd 5 ST.none mn mx [t]) = x := ⟨_, rfl⟩
    rw [hb, hnr, hx, hy, hz, hu, hn1, hr1] at h9
    have k1 := fun W' q => length_r hRt hct hx hy a c W' (HLT.out W' q)
    have k2 := fun W' q => length_r hR hc hz hu _ 1 W' (HLR.out W' q)
    have k3 := fun W' q => none_r hRt hct hb a c W' (HLT.out W' q)
    have k4 := fun W' q => none_r hR hc hnr _ 1 W' (HLR.out W' q)
    have k5 := fun W' q => null_r hRt hct hn1 a c W' (HLT.out W' q)
    have k6 := fun W' q => null_r hR hc hr1 _ 1 W' (HLR.out W' q)
    have HX := Lib.hid (And.intro k1 (And.intro k2 (And.intro k3 (And.intro k5 (And.intro k6 k4)))))
    have H9 := Lib.hid h9
    clear h3 hR hc h9 hRt hct hb hnr hx hy hz hu hn1 hr1 k1 k2 k3 k4 k5 k6
    obtain ⟨-, x0, x1, x2, x3, x4, x5, x6, x7, y0, y1, y2, y3, y4, y5, y6, y7⟩ := HS.out _ K3.out
    go_wp2_with fail
    refine (HX.out.1 w3 K3.out).mono ?_
    rintro e w4 ⟨rfl, q4⟩
    have K4 := Lib.hid (K3.out.trans q4)
    clear q4 x0 x1 x2 x3 x4 x5 x6 x7 y0 y1 y2 y3 y4 y5 y6 y7
    obtain ⟨-, x0, x1, x2, x3, x4, x5, x6, x7, y0, y1, y2, y3, y4, y5, y6, y7⟩ := HS.out _ K4.out
    go_wp2_with fail
    refine (HX.out.2.1 w4 K4.out).mono ?_
    rintro e w5 ⟨rfl, q5⟩
    have K5 := Lib.hid (K4.out.trans q5)
    clear q5 x0 x1 x2 x3 x4 x5 x6 x7 y0 y1 y2 y3 y4 y5 y6 y7
    obtain ⟨-, x0, x1, x2, x3, x4, x5, x6, x7, y0, y1, y2, y3, y4, y5, y6, y7⟩ := HS.out _ K5.out
    go_wp2_with fail
    refine (HX.out.2.2.1 w5 K5.out).mono ?_
    rintro e w6 ⟨rfl, q6⟩
    have K6 := Lib.hid (K5.out.trans q6)
    clear q6 x0 x1 x2 x3 x4 x5 x6 x7 y0 y1 y2 y3 y4 y5 y6 y7
    by_cases hA : b = true ∨ mx = 0
    · have hway : (b = true ∧ nr = true ∧ 0 < mn) ∨ (b = true ∧ nr = false ∧ ¬ 0 < mn ∧ z = 0 ∧ u = 0) ∨ (b = false ∧ mx = 0 ∧ nr = false ∧ z = 0 ∧ u = 0) := by
        cases b with
        | true =>
          by_cases hm : 0 < mn
          · exact .inl ⟨rfl, H9.out.a1 rfl hm, hm⟩
          · exact .inr (.inl ⟨rfl, (H9.out.a2 rfl hm).1, hm, (H9.out.a2 rfl hm).2⟩)
        | false =>
          have hm : mx = 0 := by
            rcases hA with h | h
            · cases h
            · exact h
          exact .inr (.inr ⟨rfl, hm, H9.out.b0 rfl hm⟩)
      clear hA
      rcases hway with ⟨e1, e2, e3⟩ | ⟨e1, e2, e3, e4, e5⟩ | ⟨e1, e6, e2, e4, e5⟩
      · subst e1
        subst e2
        obtain ⟨-, x0, x1, x2, x3, x4, x5, x6, x7, y0, y1, y2, y3, y4, y5, y6, y7⟩ := HS.out _ K6.out
        go_wp2_with fail
        refine wp_region_noPanic ?_
        refine wp_region_held_drew (S := (fun w' => Keep (fun _ => False) W w' ∧ w'.cell? ⟨w.heap.size, 0, none⟩ = some (.int .i64 t.kind) ∧ w'.cell? ⟨w.heap.size, 1, none⟩ = some (.int .u64 t.set.x0) ∧ w'.cell? ⟨w.heap.size, 2, none⟩ = some (.int .u64 t.set.x1) ∧ w'.cell? ⟨w.heap.size, 3, none⟩ = some (.int .u64 t.set.x2) ∧ w'.cell? ⟨w.heap.size, 4, none⟩ = some (.int .u64 t.set.x3) ∧ w'.cell? ⟨w.heap.size, 5, none⟩ = some (.int .i64 t.mn) ∧ w'.cell? ⟨w.heap.size, 6, none⟩ = some (.int .i64 t.mx) ∧ w'.cell? ⟨w.heap.size, 7, none⟩ = some (.slice a t.subs.length c) ∧ w'.cell? ⟨w.heap.size + 2, 0, none⟩ = some (.int .i64 5) ∧ w'.cell? ⟨w.heap.size + 2, 1, none⟩ = some (.int .u64 0) ∧ w'.cell? ⟨w.heap.size + 2, 2, none⟩ = some (.int .u64 0) ∧ w'.cell? ⟨w.heap.size + 2, 3, none⟩ = some (.int .u64 0) ∧ w'.cell? ⟨w.heap.size + 2, 4, none⟩ = some (.int .u64 0) ∧ w'.cell? ⟨w.heap.size + 2, 5, none⟩ = some (.int .i64 mn) ∧ w'.cell? ⟨w.heap.size + 2, 6, none⟩ = some (.int .i64 mx) ∧ w'.cell? ⟨w.heap.size + 2, 7, none⟩ = some (.slice (some ⟨w.heap.size + 1, 0, none⟩) 1 1))) (by kernel_rfl) ?_ (fun hHeld => ?_)
        · exact HS.out _ (K6.out.drew)
        refine wpAnyH_take (i := 0) (oi := { dst := some 46, op := Go.Op.load 27 (Go.Operand.tmp 7), type := 27, pos := "law.go:100", after := #[], guard := none }) (v := ?_) rfl (by kernel_rfl) (by kernel_rfl) (by kernel_rfl) (fun _ _ _ h => h) (Or.inl ⟨by rfl, ?_⟩) (by assumption) ?_
        rotate_left 1
        · (intro w hSw; (try dsimp only at hSw); go_simp; first | done | with_reducible rfl)
        try simp only [Act.put, List.setIfInBounds_toArray, List.set_cons_zero, List.set_cons_succ]
        refine wpAnyH_take (i := 2) (oi := { dst := some 48, op := Go.Op.load 27 (Go.Operand.tmp 3), type := 27, pos := "law.go:100", after := #[], guard := none }) (v := ?_) rfl (by kernel_rfl) (by kernel_rfl) (by kernel_rfl) (fun _ _ _ h => h) (Or.inl ⟨by rfl, ?_⟩) (by assumption) ?_
        rotate_left 1
        · (intro w hSw; (try dsimp only at hSw); go_simp; first | done | with_reducible rfl)
        try simp only [Act.put, List.setIfInBounds_toArray, List.set_cons_zero, List.set_cons_succ]
        refine wpAnyH_ready (rs := [1]) (by kernel_rfl) (by simp) ?_
        refine AllReadyH.cons (o := { dst := some 47, op := Go.Op.call { callee := Go.Callee.value (Go.Operand.func 17), args := #[Go.Operand.tmp 46], argTypes := #[27] }, type := 4, pos := "law.go:100", after := #[{ on := 0, ground := Go.Ground.data }], guard := none }) rfl (fun K hK => ?_) AllReadyH.nil
        go_simp
        (go_at_call 17; refine (HX.out.2.2.2.2.2 _ (And.left hHeld)).mono ?_; rintro e w9 ⟨rfl, q⟩)
        refine hK.out _ _ ?_ (fun hHeld' => ?_)
        · exact HS.out _ (Keep.trans (And.left hHeld) q)
        clear hK K hHeld
        have hHeld := hHeld'
        clear hHeld'
        try simp only [Act.put, List.setIfInBounds_toArray, List.set_cons_zero, List.set_cons_succ]
        refine wpAnyH_ready (rs := [3]) (by kernel_rfl) (by simp) ?_
        refine AllReadyH.cons (o := { dst := some 49, op := Go.Op.call { callee := Go.Callee.value (Go.Operand.func 17), args := #[Go.Operand.tmp 48], argTypes := #[27] }, type := 4, pos := "law.go:100", after := #[{ on := 2, ground := Go.Ground.data }, { on := 1, ground := Go.Ground.chain }], guard := none }) rfl (fun K hK => ?_) AllReadyH.nil
        go_simp
        (go_at_call 17; refine (HX.out.2.2.1 _ (And.left hHeld)).mono ?_; rintro e w9 ⟨rfl, q⟩)
        refine hK.out _ _ ?_ (fun hHeld' => ?_)
        · exact HS.out _ (Keep.trans (And.left hHeld) q)
        clear hK K hHeld
        have hHeld := hHeld'
        clear hHeld'
        try simp only [Act.put, List.setIfInBounds_toArray, List.set_cons_zero, List.set_cons_succ]
        refine wpAnyH_take (i := 4) (oi := { dst := some 50, op := Go.Op.move (Go.Operand.tmp 49), type := 4, pos := "law.go:100", after := #[{ on := 3, ground := Go.Ground.data }, { on := 3, ground := Go.Ground.chain }], guard := none }) (v := ?_) rfl (by kernel_rfl) (by kernel_rfl) (by kernel_rfl) (fun _ _ _ h => h) (Or.inl ⟨by rfl, ?_⟩) (by assumption) ?_
        rotate_left 1
        · (intro w hSw; (try dsimp only at hSw); go_simp; first | done | with_reducible rfl)
        try simp only [Act.put, List.setIfInBounds_toArray, List.set_cons_zero, List.set_cons_succ]
        refine wpAnyH_take (i := 5) (oi := { dst := some 51, op := Go.Op.move (Go.Operand.tmp 1), type := 3, pos := "law.go:100", after := #[{ on := 4, ground := Go.Ground.guard }], guard := some (4, true) }) (v := ?_) rfl (by kernel_rfl) (by kernel_rfl) (by kernel_rfl) (fun _ _ _ h => h) (Or.inl ⟨by rfl, ?_⟩) (by assumption) ?_
        rotate_left 1
        · (intro w hSw; (try dsimp only at hSw); go_simp; first | done | with_reducible rfl)
        try simp only [Act.put, List.setIfInBounds_toArray, List.set_cons_zero, List.set_cons_succ]
        refine wpAnyH_take (i := 6) (oi := { dst := some 52, op := Go.Op.binOp Go.BinOp.gtr 3 (Go.Operand.tmp 51) (Go.Operand.const (Go.Value.int Go.IntKind.i64 0)) 3, type := 4, pos := "law.go:100", after := #[{ on := 5, ground := Go.Ground.data }, { on := 4, ground := Go.Ground.guard }], guard := some (4, true) }) (v := .bool true) rfl (by kernel_rfl) (by kernel_rfl) (by kernel_rfl) (fun _ _ _ h => h) (Or.inl ⟨by rfl, ?_⟩) (by assumption) ?_
        · (intro w hSw; (try dsimp only at hSw); go_simp; first | done | simp [e3])
        try simp only [Act.put, List.setIfInBounds_toArray, List.set_cons_zero, List.set_cons_succ]
        refine wpAnyH_take (i := 7) (oi := { dst := some 53, op := Go.Op.pick (Go.Operand.tmp 50) (Go.Operand.tmp 52) (Go.Operand.const (Go.Value.bool false)), type := 4, pos := "law.go:100", after := #[{ on := 4, ground := Go.Ground.data }, { on := 6, ground := Go.Ground.data }], guard := none }) (v := ?_) rfl (by kernel_rfl) (by kernel_rfl) (by kernel_rfl) (fun _ _ _ h => h) (Or.inl ⟨by rfl, ?_⟩) (by assumption) ?_
        rotate_left 1
        · (intro w hSw; (try dsimp only at hSw); go_simp; first | done | with_reducible rfl)
        try simp only [Act.put, List.setIfInBounds_toArray, List.set_cons_zero, List.set_cons_succ]
        refine wpAnyH_take (i := 8) (oi := { dst := some 54, op := Go.Op.binOp Go.BinOp.eql 4 (Go.Operand.tmp 47) (Go.Operand.tmp 53) 4, type := 4, pos := "law.go:100", after := #[{ on := 1, ground := Go.Ground.data }, { on := 7, ground := Go.Ground.data }], guard := none }) (v := ?_) rfl (by kernel_rfl) (by kernel_rfl) (by kernel_rfl) (fun _ _ _ h => h) (Or.inl ⟨by rfl, ?_⟩) (by assumption) ?_
        rotate_left 1
        · (intro w hSw; (try dsimp only at hSw); go_simp; first | done | with_reducible rfl)
        try simp only [Act.put, List.setIfInBounds_toArray, List.set_cons_zero, List.set_cons_succ]
        refine wpAnyH_take (i := 9) (oi := { dst := some 55, op := Go.Op.move (Go.Operand.tmp 54), type := 4, pos := "law.go:100", after := #[{ on := 8, ground := Go.Ground.data }, { on := 4, ground := Go.Ground.chain }], guard := none }) (v := ?_) rfl (by kernel_rfl) (by kernel_rfl) (by kernel_rfl) (fun _ _ _ h => h) (Or.inl ⟨by rfl, ?_⟩) (by assumption) ?_
        rotate_left 1
        · (intro w hSw; (try dsimp only at hSw); go_simp; first | done | with_reducible rfl)
        try simp only [Act.put, List.setIfInBounds_toArray, List.set_cons_zero, List.set_cons_succ]
        refine wpAnyH_take (i := 10) (oi := { dst := some 56, op := Go.Op.load 27 (Go.Operand.tmp 7), type := 27, pos := "law.go:100", after := #[{ on := 9, ground := Go.Ground.guard }], guard := some (9, true) }) (v := ?_) rfl (by kernel_rfl) (by kernel_rfl) (by kernel_rfl) (fun _ _ _ h => h) (Or.inl ⟨by rfl, ?_⟩) (by assumption) ?_
        rotate_left 1
        · (intro w hSw; (try dsimp only at hSw); go_simp; first | done | with_reducible rfl)
        try simp only [Act.put, List.setIfInBounds_toArray, List.set_cons_zero, List.set_cons_succ]
        refine wpAnyH_ready (rs := [11]) (by kernel_rfl) (by simp) ?_
        refine AllReadyH.cons (o := { dst := some 57, op := Go.Op.call { callee := Go.Callee.value (Go.Operand.func 17), args := #[Go.Operand.tmp 56], argTypes := #[27] }, type := 4, pos := "law.go:100", after := #[{ on := 10, ground := Go.Ground.data }, { on := 9, ground := Go.Ground.chain }, { on := 9, ground := Go.Ground.guard }], guard := some (9, true) }) rfl (fun K hK => ?_) AllReadyH.nil
        go_simp
        (go_at_call 17; refine (HX.out.2.2.2.2.2 _ (And.left hHeld)).mono ?_; rintro e w9 ⟨rfl, q⟩)
        refine hK.out _ _ ?_ (fun hHeld' => ?_)
        · exact HS.out _ (Keep.trans (And.left hHeld) q)
        clear hK K hHeld
        have hHeld := hHeld'
        clear hHeld'
        try simp only [Act.put, List.setIfInBounds_toArray, List.set_cons_zero, List.set_cons_succ]
        refine wpAnyH_take (i := 12) (oi := { dst := some 58, op := Go.Op.move (Go.Operand.tmp 57), type := 4, pos := "law.go:100", after := #[{ on := 11, ground := Go.Ground.data }, { on := 11, ground := Go.Ground.chain }, { on := 9, ground := Go.Ground.guard }], guard := some (9, true) }) (v := ?_) rfl (by kernel_rfl) (by kernel_rfl) (by kernel_rfl) (fun _ _ _ h => h) (Or.inl ⟨by rfl, ?_⟩) (by assumption) ?_
        rotate_left 1
        · (intro w hSw; (try dsimp only at hSw); go_simp; first | done | with_reducible rfl)
        try simp only [Act.put, List.setIfInBounds_toArray, List.set_cons_zero, List.set_cons_succ]
        refine wpAnyH_take (i := 13) (oi := { dst := some 59, op := Go.Op.move (Go.Operand.tmp 10), type := 3, pos := "law.go:100", after := #[{ on := 12, ground := Go.Ground.guard }], guard := some (12, false) }) (v := undef) rfl (by kernel_rfl) (by kernel_rfl) (by kernel_rfl) (fun _ _ _ h => h) (Or.inr ⟨by rfl, rfl⟩) (by assumption) ?_
        try simp only [Act.put, List.setIfInBounds_toArray, List.set_cons_zero, List.set_cons_succ]
        refine wpAnyH_take (i := 14) (oi := { dst := some 60, op := Go.Op.binOp Go.BinOp.eql 3 (Go.Operand.tmp 59) (Go.Operand.const (Go.Value.int Go.IntKind.i64 0)) 3, type := 4, pos := "law.go:100", after := #[{ on := 13, ground := Go.Ground.data }, { on := 12, ground := Go.Ground.guard }], guard := some (12, false) }) (v := undef) rfl (by kernel_rfl) (by kernel_rfl) (by kernel_rfl) (fun _ _ _ h => h) (Or.inr ⟨by rfl, rfl⟩) (by assumption) ?_
        try simp only [Act.put, List.setIfInBounds_toArray, List.set_cons_zero, List.set_cons_succ]
        refine wpAnyH_take (i := 15) (oi := { dst := some 61, op := Go.Op.move (Go.Operand.tmp 60), type := 4, pos := "law.go:100", after := #[{ on := 14, ground := Go.Ground.data }, { on := 12, ground := Go.Ground.chain }, { on := 12, ground := Go.Ground.guard }], guard := some (12, false) }) (v := undef) rfl (by kernel_rfl) (by kernel_rfl) (by kernel_rfl) (fun _ _ _ h => h) (Or.inr ⟨by rfl, rfl⟩) (by assumption) ?_
        try simp only [Act.put, List.setIfInBounds_toArray, List.set_cons_zero, List.set_cons_succ]
        refine wpAnyH_take (i := 16) (oi := { dst := some 62, op := Go.Op.move (Go.Operand.tmp 11), type := 3, pos := "law.go:100", after := #[{ on := 15, ground := Go.Ground.guard }], guard := some (15, true) }) (v := undef) rfl (by kernel_rfl) (by kernel_rfl) (by kernel_rfl) (fun _ _ _ h => h) (Or.inr ⟨by rfl, rfl⟩) (by assumption) ?_
        try simp only [Act.put, List.setIfInBounds_toArray, List.set_cons_zero, List.set_cons_succ]
        refine wpAnyH_take (i := 17) (oi := { dst := some 63, op := Go.Op.binOp Go.BinOp.eql 3 (Go.Operand.tmp 62) (Go.Operand.const (Go.Value.int Go.IntKind.i64 0)) 3, type := 4, pos := "law.go:100", after := #[{ on := 16, ground := Go.Ground.data }, { on := 15, ground := Go.Ground.guard }], guard := some (15, true) }) (v := undef) rfl (by kernel_rfl) (by kernel_rfl) (by kernel_rfl) (fun _ _ _ h => h) (Or.inr ⟨by rfl, rfl⟩) (by assumption) ?_
        try simp only [Act.put, List.setIfInBounds_toArray, List.set_cons_zero, List.set_cons_succ]
        refine wpAnyH_take (i := 18) (oi := { dst := some 64, op := Go.Op.pick (Go.Operand.tmp 61) (Go.Operand.tmp 63) (Go.Operand.const (Go.Value.bool false)), type := 4, pos := "law.go:100", after := #[{ on := 15, ground := Go.Ground.data }, { on := 17, ground := Go.Ground.data }, { on := 12, ground := Go.Ground.guard }], guard := some (12, false) }) (v := undef) rfl (by kernel_rfl) (by kernel_rfl) (by kernel_rfl) (fun _ _ _ h => h) (Or.inr ⟨by rfl, rfl⟩) (by assumption) ?_
        try simp only [Act.put, List.setIfInBounds_toArray, List.set_cons_zero, List.set_cons_succ]
        refine wpAnyH_take (i := 19) (oi := { dst := some 65, op := Go.Op.pick (Go.Operand.tmp 58) (Go.Operand.const (Go.Value.bool true)) (Go.Operand.tmp 64), type := 4, pos := "law.go:100", after := #[{ on := 12, ground := Go.Ground.data }, { on := 18, ground := Go.Ground.data }, { on := 9, ground := Go.Ground.guard }], guard := some (9, true) }) (v := ?_) rfl (by kernel_rfl) (by kernel_rfl) (by kernel_rfl) (fun _ _ _ h => h) (Or.inl ⟨by rfl, ?_⟩) (by assumption) ?_
        rotate_left 1
        · (intro w hSw; (try dsimp only at hSw); go_simp; first | done | with_reducible rfl)
        try simp only [Act.put, List.setIfInBounds_toArray, List.set_cons_zero, List.set_cons_succ]
        refine wpAnyH_take (i := 20) (oi := { dst := some 66, op := Go.Op.pick (Go.Operand.tmp 55) (Go.Operand.tmp 65) (Go.Operand.const (Go.Value.bool false)), type := 4, pos := "law.go:100", after := #[{ on := 9, ground := Go.Ground.data }, { on := 19, ground := Go.Ground.data }], guard := none }) (v := ?_) rfl (by kernel_rfl) (by kernel_rfl) (by kernel_rfl) (fun _ _ _ h => h) (Or.inl ⟨by rfl, ?_⟩) (by assumption) ?_
        rotate_left 1
        · (intro w hSw; (try dsimp only at hSw); go_simp; first | done | with_reducible rfl)
        try simp only [Act.put, List.setIfInBounds_toArray, List.set_cons_zero, List.set_cons_succ]
        refine wpAnyH_take (i := 21) (oi := { dst := some 6, op := Go.Op.assign (Go.Operand.tmp 66), type := 4, pos := "law.go:100", after := #[{ on := 20, ground := Go.Ground.data }, { on := 15, ground := Go.Ground.chain }, { on := 0, ground := Go.Ground.phase }, { on := 1, ground := Go.Ground.phase }, { on := 2, ground := Go.Ground.phase }, { on := 3, ground := Go.Ground.phase }, { on := 4, ground := Go.Ground.phase }, { on := 5, ground := Go.Ground.phase }, { on := 6, ground := Go.Ground.phase }, { on := 7, ground := Go.Ground.phase }, { on := 8, ground := Go.Ground.phase }, { on := 9, ground := Go.Ground.phase }, { on := 10, ground := Go.Ground.phase }, { on := 11, ground := Go.Ground.phase }, { on := 12, ground := Go.Ground.phase }, { on := 13, ground := Go.Ground.phase }, { on := 14, ground := Go.Ground.phase }, { on := 15, ground := Go.Ground.phase }, { on := 16, ground := Go.Ground.phase }, { on := 17, ground := Go.Ground.phase }, { on := 18, ground := Go.Ground.phase }, { on := 19, ground := Go.Ground.phase }, { on := 20, ground := Go.Ground.phase }], guard := none }) (v := ?_) rfl (by kernel_rfl) (by kernel_rfl) (by kernel_rfl) (fun _ _ _ h => h) (Or.inl ⟨by rfl, ?_⟩) (by assumption) ?_
        rotate_left 1
        · (intro w hSw; (try dsimp only at hSw); go_simp; first | done | with_reducible rfl)
        try simp only [Act.put, List.setIfInBounds_toArray, List.set_cons_zero, List.set_cons_succ]
        refine wpAnyH_done (by kernel_rfl) ?_ _
        refine NoPanic.normal ?_
        have HK := Lib.hid (H0.out.1.trans hHeld.1)
        clear hHeld
        go_wp2_with fail
        go_ret
        exact ⟨rfl, HK.out⟩
      · subst e1
        subst e2
        subst e4
        subst e5
        obtain ⟨-, x0, x1, x2, x3, x4, x5, x6, x7, y0, y1, y2, y3, y4, y5, y6, y7⟩ := HS.out _ K6.out
        go_wp2_with fail
        refine wp_region_noPanic ?_
        refine wp_region_held_drew (S := (fun w' => Keep (fun _ => False) W w' ∧ w'.cell? ⟨w.heap.size, 0, none⟩ = some (.int .i64 t.kind) ∧ w'.cell? ⟨w.heap.size, 1, none⟩ = some (.int .u64 t.set.x0) ∧ w'.cell? ⟨w.heap.size, 2, none⟩ = some (.int .u64 t.set.x1) ∧ w'.cell? ⟨w.heap.size, 3, none⟩ = some (.int .u64 t.set.x2) ∧ w'.cell? ⟨w.heap.size, 4, none⟩ = some (.int .u64 t.set.x3) ∧ w'.cell? ⟨w.heap.size, 5, none⟩ = some (.int .i64 t.mn) ∧ w'.cell? ⟨w.heap.size, 6, none⟩ = some (.int .i64 t.mx) ∧ w'.cell? ⟨w.heap.size, 7, none⟩ = some (.slice a t.subs.length c) ∧ w'.cell? ⟨w.heap.size + 2, 0, none⟩ = some (.int .i64 5) ∧ w'.cell? ⟨w.heap.size + 2, 1, none⟩ = some (.int .u64 0) ∧ w'.cell? ⟨w.heap.size + 2, 2, none⟩ = some (.int .u64 0) ∧ w'.cell? ⟨w.heap.size + 2, 3, none⟩ = some (.int .u64 0) ∧ w'.cell? ⟨w.heap.size + 2, 4, none⟩ = some (.int .u64 0) ∧ w'.cell? ⟨w.heap.size + 2, 5, none⟩ = some (.int .i64 mn) ∧ w'.cell? ⟨w.heap.size + 2, 6, none⟩ = some (.int .i64 mx) ∧ w'.cell? ⟨w.heap.size + 2, 7, none⟩ = some (.slice (some ⟨w.heap.size + 1, 0, none⟩) 1 1))) (by kernel_rfl) ?_ (fun hHeld => ?_)
        · exact HS.out _ (K6.out.drew)
        refine wpAnyH_take (i := 0) (oi := { dst := some 46, op := Go.Op.load 27 (Go.Operand.tmp 7), type := 27, pos := "law.go:100", after := #[], guard := none }) (v := ?_) rfl (by kernel_rfl) (by kernel_rfl) (by kernel_rfl) (fun _ _ _ h => h) (Or.inl ⟨by rfl, ?_⟩) (by assumption) ?_
        rotate_left 1
        · (intro w hSw; (try dsimp only at hSw); go_simp; first | done | with_reducible rfl)
        try simp only [Act.put, List.setIfInBounds_toArray, List.set_cons_zero, List.set_cons_succ]
        refine wpAnyH_take (i := 2) (oi := { dst := some 48, op := Go.Op.load 27 (Go.Operand.tmp 3), type := 27, pos := "law.go:100", after := #[], guard := none }) (v := ?_) rfl (by kernel_rfl) (by kernel_rfl) (by kernel_rfl) (fun _ _ _ h => h) (Or.inl ⟨by rfl, ?_⟩) (by assumption) ?_
        rotate_left 1
        · (intro w hSw; (try dsimp only at hSw); go_simp; first | done | with_reducible rfl)
        try simp only [Act.put, List.setIfInBounds_toArray, List.set_cons_zero, List.set_cons_succ]
        refine wpAnyH_ready (rs := [1]) (by kernel_rfl) (by simp) ?_
        refine AllReadyH.cons (o := { dst := some 47, op := Go.Op.call { callee := Go.Callee.value (Go.Operand.func 17), args := #[Go.Operand.tmp 46], argTypes := #[27] }, type := 4, pos := "law.go:100", after := #[{ on := 0, ground := Go.Ground.data }], guard := none }) rfl (fun K hK => ?_) AllReadyH.nil
        go_simp
        (go_at_call 17; refine (HX.out.2.2.2.2.2 _ (And.left hHeld)).mono ?_; rintro e w9 ⟨rfl, q⟩)
        refine hK.out _ _ ?_ (fun hHeld' => ?_)
        · exact HS.out _ (Keep.trans (And.left hHeld) q)
        clear hK K hHeld
        have hHeld := hHeld'
        clear hHeld'
        try simp only [Act.put, List.setIfInBounds_toArray, List.set_cons_zero, List.set_cons_succ]
        refine wpAnyH_ready (rs := [3]) (by kernel_rfl) (by simp) ?_
        refine AllReadyH.cons (o := { dst := some 49, op := Go.Op.call { callee := Go.Callee.value (Go.Operand.func 17), args := #[Go.Operand.tmp 48], argTypes := #[27] }, type := 4, pos := "law.go:100", after := #[{ on := 2, ground := Go.Ground.data }, { on := 1, ground := Go.Ground.chain }], guard := none }) rfl (fun K hK => ?_) AllReadyH.nil
        go_simp
        (go_at_call 17; refine (HX.out.2.2.1 _ (And.left hHeld)).mono ?_; rintro e w9 ⟨rfl, q⟩)
        refine hK.out _ _ ?_ (fun hHeld' => ?_)
        · exact HS.out _ (Keep.trans (And.left hHeld) q)
        clear hK K hHeld
        have hHeld := hHeld'
        clear hHeld'
        try simp only [Act.put, List.setIfInBounds_toArray, List.set_cons_zero, List.set_cons_succ]
        refine wpAnyH_take (i := 4) (oi := { dst := some 50, op := Go.Op.move (Go.Operand.tmp 49), type := 4, pos := "law.go:100", after := #[{ on := 3, ground := Go.Ground.data }, { on := 3, ground := Go.Ground.chain }], guard := none }) (v := ?_) rfl (by kernel_rfl) (by kernel_rfl) (by kernel_rfl) (fun _ _ _ h => h) (Or.inl ⟨by rfl, ?_⟩) (by assumption) ?_
        rotate_left 1
        · (intro w hSw; (try dsimp only at hSw); go_simp; first | done | with_reducible rfl)
        try simp only [Act.put, List.setIfInBounds_toArray, List.set_cons_zero, List.set_cons_succ]
        refine wpAnyH_take (i := 5) (oi := { dst := some 51, op := Go.Op.move (Go.Operand.tmp 1), type := 3, pos := "law.go:100", after := #[{ on := 4, ground := Go.Ground.guard }], guard := some (4, true) }) (v := ?_) rfl (by kernel_rfl) (by kernel_rfl) (by kernel_rfl) (fun _ _ _ h => h) (Or.inl ⟨by rfl, ?_⟩) (by assumption) ?_
        rotate_left 1
        · (intro w hSw; (try dsimp only at hSw); go_simp; first | done | with_reducible rfl)
        try simp only [Act.put, List.setIfInBounds_toArray, List.set_cons_zero, List.set_cons_succ]
        refine wpAnyH_take (i := 6) (oi := { dst := some 52, op := Go.Op.binOp Go.BinOp.gtr 3 (Go.Operand.tmp 51) (Go.Operand.const (Go.Value.int Go.IntKind.i64 0)) 3, type := 4, pos := "law.go:100", after := #[{ on := 5, ground := Go.Ground.data }, { on := 4, ground := Go.Ground.guard }], guard := some (4, true) }) (v := .bool false) rfl (by kernel_rfl) (by kernel_rfl) (by kernel_rfl) (fun _ _ _ h => h) (Or.inl ⟨by rfl, ?_⟩) (by assumption) ?_
        · (intro w hSw; (try dsimp only at hSw); go_simp; first | done | simp [e3] | (simp; omega))
        try simp only [Act.put, List.setIfInBounds_toArray, List.set_cons_zero, List.set_cons_succ]
        refine wpAnyH_take (i := 7) (oi := { dst := some 53, op := Go.Op.pick (Go.Operand.tmp 50) (Go.Operand.tmp 52) (Go.Operand.const (Go.Value.bool false)), type := 4, pos := "law.go:100", after := #[{ on := 4, ground := Go.Ground.data }, { on := 6, ground := Go.Ground.data }], guard := none }) (v := ?_) rfl (by kernel_rfl) (by kernel_rfl) (by kernel_rfl) (fun _ _ _ h => h) (Or.inl ⟨by rfl, ?_⟩) (by assumption) ?_
        rotate_left 1
        · (intro w hSw; (try dsimp only at hSw); go_simp; first | done | with_reducible rfl)
        try simp only [Act.put, List.setIfInBounds_toArray, List.set_cons_zero, List.set_cons_succ]
        refine wpAnyH_take (i := 8) (oi := { dst := some 54, op := Go.Op.binOp Go.BinOp.eql 4 (Go.Operand.tmp 47) (Go.Operand.tmp 53) 4, type := 4, pos := "law.go:100", after := #[{ on := 1, ground := Go.Ground.data }, { on := 7, ground := Go.Ground.data }], guard := none }) (v := ?_) rfl (by kernel_rfl) (by kernel_rfl) (by kernel_rfl) (fun _ _ _ h => h) (Or.inl ⟨by rfl, ?_⟩) (by assumption) ?_
        rotate_left 1
        · (intro w hSw; (try dsimp only at hSw); go_simp; first | done | with_reducible rfl)
        try simp only [Act.put, List.setIfInBounds_toArray, List.set_cons_zero, List.set_cons_succ]
        refine wpAnyH_take (i := 9) (oi := { dst := some 55, op := Go.Op.move (Go.Operand.tmp 54), type := 4, pos := "law.go:100", after := #[{ on := 8, ground := Go.Ground.data }, { on := 4, ground := Go.Ground.chain }], guard := none }) (v := ?_) rfl (by kernel_rfl) (by kernel_rfl) (by kernel_rfl) (fun _ _ _ h => h) (Or.inl ⟨by rfl, ?_⟩) (by assumption) ?_
        rotate_left 1
        · (intro w hSw; (try dsimp only at hSw); go_simp; first | done | with_reducible rfl)
        try simp only [Act.put, List.setIfInBounds_toArray, List.set_cons_zero, List.set_cons_succ]
        refine wpAnyH_take (i := 10) (oi := { dst := some 56, op := Go.Op.load 27 (Go.Operand.tmp 7), type := 27, pos := "law.go:100", after := #[{ on := 9, ground := Go.Ground.guard }], guard := some (9, true) }) (v := ?_) rfl (by kernel_rfl) (by kernel_rfl) (by kernel_rfl) (fun _ _ _ h => h) (Or.inl ⟨by rfl, ?_⟩) (by assumption) ?_
        rotate_left 1
        · (intro w hSw; (try dsimp only at hSw); go_simp; first | done | with_reducible rfl)
        try simp only [Act.put, List.setIfInBounds_toArray, List.set_cons_zero, List.set_cons_succ]
        refine wpAnyH_ready (rs := [11]) (by kernel_rfl) (by simp) ?_
        refine AllReadyH.cons (o := { dst := some 57, op := Go.Op.call { callee := Go.Callee.value (Go.Operand.func 17), args := #[Go.Operand.tmp 56], argTypes := #[27] }, type := 4, pos := "law.go:100", after := #[{ on := 10, ground := Go.Ground.data }, { on := 9, ground := Go.Ground.chain }, { on := 9, ground := Go.Ground.guard }], guard := some (9, true) }) rfl (fun K hK => ?_) AllReadyH.nil
        go_simp
        (go_at_call 17; refine (HX.out.2.2.2.2.2 _ (And.left hHeld)).mono ?_; rintro e w9 ⟨rfl, q⟩)
        refine hK.out _ _ ?_ (fun hHeld' => ?_)
        · exact HS.out _ (Keep.trans (And.left hHeld) q)
        clear hK K hHeld
        have hHeld := hHeld'
        clear hHeld'
        try simp only [Act.put, List.setIfInBounds_toArray, List.set_cons_zero, List.set_cons_succ]
        refine wpAnyH_take (i := 12) (oi := { dst := some 58, op := Go.Op.move (Go.Operand.tmp 57), type := 4, pos := "law.go:100", after := #[{ on := 11, ground := Go.Ground.data }, { on := 11, ground := Go.Ground.chain }, { on := 9, ground := Go.Ground.guard }], guard := some (9, true) }) (v := ?_) rfl (by kernel_rfl) (by kernel_rfl) (by kernel_rfl) (fun _ _ _ h => h) (Or.inl ⟨by rfl, ?_⟩) (by assumption) ?_
        rotate_left 1
        · (intro w hSw; (try dsimp only at hSw); go_simp; first | done | with_reducible rfl)
        try simp only [Act.put, List.setIfInBounds_toArray, List.set_cons_zero, List.set_cons_succ]
        refine wpAnyH_take (i := 13) (oi := { dst := some 59, op := Go.Op.move (Go.Operand.tmp 10), type := 3, pos := "law.go:100", after := #[{ on := 12, ground := Go.Ground.guard }], guard := some (12, false) }) (v := ?_) rfl (by kernel_rfl) (by kernel_rfl) (by kernel_rfl) (fun _ _ _ h => h) (Or.inl ⟨by rfl, ?_⟩) (by assumption) ?_
        rotate_left 1
        · (intro w hSw; (try dsimp only at hSw); go_simp; first | done | with_reducible rfl)
        try simp only [Act.put, List.setIfInBounds_toArray, List.set_cons_zero, List.set_cons_succ]
        refine wpAnyH_take (i := 14) (oi := { dst := some 60, op := Go.Op.binOp Go.BinOp.eql 3 (Go.Operand.tmp 59) (Go.Operand.const (Go.Value.int Go.IntKind.i64 0)) 3, type := 4, pos := "law.go:100", after := #[{ on := 13, ground := Go.Ground.data }, { on := 12, ground := Go.Ground.guard }], guard := some (12, false) }) (v := ?_) rfl (by kernel_rfl) (by kernel_rfl) (by kernel_rfl) (fun _ _ _ h => h) (Or.inl ⟨by rfl, ?_⟩) (by assumption) ?_
        rotate_left 1
        · (intro w hSw; (try dsimp only at hSw); go_simp; first | done | with_reducible rfl)
        try simp only [Act.put, List.setIfInBounds_toArray, List.set_cons_zero, List.set_cons_succ]
        refine wpAnyH_take (i := 15) (oi := { dst := some 61, op := Go.Op.move (Go.Operand.tmp 60), type := 4, pos := "law.go:100", after := #[{ on := 14, ground := Go.Ground.data }, { on := 12, ground := Go.Ground.chain }, { on := 12, ground := Go.Ground.guard }], guard := some (12, false) }) (v := ?_) rfl (by kernel_rfl) (by kernel_rfl) (by kernel_rfl) (fun _ _ _ h => h) (Or.inl ⟨by rfl, ?_⟩) (by assumption) ?_
        rotate_left 1
        · (intro w hSw; (try dsimp only at hSw); go_simp; first | done | with_reducible rfl)
        try simp only [Act.put, List.setIfInBounds_toArray, List.set_cons_zero, List.set_cons_succ]
        refine wpAnyH_take (i := 16) (oi := { dst := some 62, op := Go.Op.move (Go.Operand.tmp 11), type := 3, pos := "law.go:100", after := #[{ on := 15, ground := Go.Ground.guard }], guard := some (15, true) }) (v := ?_) rfl (by kernel_rfl) (by kernel_rfl) (by kernel_rfl) (fun _ _ _ h => h) (Or.inl ⟨by rfl, ?_⟩) (by assumption) ?_
        rotate_left 1
        · (intro w hSw; (try dsimp only at hSw); go_simp; first | done | with_reducible rfl)
        try simp only [Act.put, List.setIfInBounds_toArray, List.set_cons_zero, List.set_cons_succ]
        refine wpAnyH_take (i := 17) (oi := { dst := some 63, op := Go.Op.binOp Go.BinOp.eql 3 (Go.Operand.tmp 62) (Go.Operand.const (Go.Value.int Go.IntKind.i64 0)) 3, type := 4, pos := "law.go:100", after := #[{ on := 16, ground := Go.Ground.data }, { on := 15, ground := Go.Ground.guard }], guard := some (15, true) }) (v := ?_) rfl (by kernel_rfl) (by kernel_rfl) (by kernel_rfl) (fun _ _ _ h => h) (Or.inl ⟨by rfl, ?_⟩) (by assumption) ?_
        rotate_left 1
        · (intro w hSw; (try dsimp only at hSw); go_simp; first | done | with_reducible rfl)
        try simp only [Act.put, List.setIfInBounds_toArray, List.set_cons_zero, List.set_cons_succ]
        refine wpAnyH_take (i := 18) (oi := { dst := some 64, op := Go.Op.pick (Go.Operand.tmp 61) (Go.Operand.tmp 63) (Go.Operand.const (Go.Value.bool false)), type := 4, pos := "law.go:100", after := #[{ on := 15, ground := Go.Ground.data }, { on := 17, ground := Go.Ground.data }, { on := 12, ground := Go.Ground.guard }], guard := some (12, false) }) (v := ?_) rfl (by kernel_rfl) (by kernel_rfl) (by kernel_rfl) (fun _ _ _ h => h) (Or.inl ⟨by rfl, ?_⟩) (by assumption) ?_
        rotate_left 1
        · (intro w hSw; (try dsimp only at hSw); go_simp; first | done | with_reducible rfl)
        try simp only [Act.put, List.setIfInBounds_toArray, List.set_cons_zero, List.set_cons_succ]
        refine wpAnyH_take (i := 19) (oi := { dst := some 65, op := Go.Op.pick (Go.Operand.tmp 58) (Go.Operand.const (Go.Value.bool true)) (Go.Operand.tmp 64), type := 4, pos := "law.go:100", after := #[{ on := 12, ground := Go.Ground.data }, { on := 18, ground := Go.Ground.data }, { on := 9, ground := Go.Ground.guard }], guard := some (9, true) }) (v := ?_) rfl (by kernel_rfl) (by kernel_rfl) (by kernel_rfl) (fun _ _ _ h => h) (Or.inl ⟨by rfl, ?_⟩) (by assumption) ?_
        rotate_left 1
        · (intro w hSw; (try dsimp only at hSw); go_simp; first | done | with_reducible rfl)
        try simp only [Act.put, List.setIfInBounds_toArray, List.set_cons_zero, List.set_cons_succ]
        refine wpAnyH_take (i := 20) (oi := { dst := some 66, op := Go.Op.pick (Go.Operand.tmp 55) (Go.Operand.tmp 65) (Go.Operand.const (Go.Value.bool false)), type := 4, pos := "law.go:100", after := #[{ on := 9, ground := Go.Ground.data }, { on := 19, ground := Go.Ground.data }], guard := none }) (v := ?_) rfl (by kernel_rfl) (by kernel_rfl) (by kernel_rfl) (fun _ _ _ h => h) (Or.inl ⟨by rfl, ?_⟩) (by assumption) ?_
        rotate_left 1
        · (intro w hSw; (try dsimp only at hSw); go_simp; first | done | with_reducible rfl)
        try simp only [Act.put, List.setIfInBounds_toArray, List.set_cons_zero, List.set_cons_succ]
        refine wpAnyH_take (i := 21) (oi := { dst := some 6, op := Go.Op.assign (Go.Operand.tmp 66), type := 4, pos := "law.go:100", after := #[{ on := 20, ground := Go.Ground.data }, { on := 15, ground := Go.Ground.chain }, { on := 0, ground := Go.Ground.phase }, { on := 1, ground := Go.Ground.phase }, { on := 2, ground := Go.Ground.phase }, { on := 3, ground := Go.Ground.phase }, { on := 4, ground := Go.Ground.phase }, { on := 5, ground := Go.Ground.phase }, { on := 6, ground := Go.Ground.phase }, { on := 7, ground := Go.Ground.phase }, { on := 8, ground := Go.Ground.phase }, { on := 9, ground := Go.Ground.phase }, { on := 10, ground := Go.Ground.phase }, { on := 11, ground := Go.Ground.phase }, { on := 12, ground := Go.Ground.phase }, { on := 13, ground := Go.Ground.phase }, { on := 14, ground := Go.Ground.phase }, { on := 15, ground := Go.Ground.phase }, { on := 16, ground := Go.Ground.phase }, { on := 17, ground := Go.Ground.phase }, { on := 18, ground := Go.Ground.phase }, { on := 19, ground := Go.Ground.phase }, { on := 20, ground := Go.Ground.phase }], guard := none }) (v := ?_) rfl (by kernel_rfl) (by kernel_rfl) (by kernel_rfl) (fun _ _ _ h => h) (Or.inl ⟨by rfl, ?_⟩) (by assumption) ?_
        rotate_left 1
        · (intro w hSw; (try dsimp only at hSw); go_simp; first | done | with_reducible rfl)
        try simp only [Act.put, List.setIfInBounds_toArray, List.set_cons_zero, List.set_cons_succ]
        refine wpAnyH_done (by kernel_rfl) ?_ _
        refine NoPanic.normal ?_
        have HK := Lib.hid (H0.out.1.trans hHeld.1)
        clear hHeld
        go_wp2_with fail
        go_ret
        exact ⟨rfl, HK.out⟩
      · subst e1
        subst e2
        subst e4
        subst e5
        have bx0 : (mx == 0) = true := by simp [e6]
        clear e6
        obtain ⟨-, x0, x1, x2, x3, x4, x5, x6, x7, y0, y1, y2, y3, y4, y5, y6, y7⟩ := HS.out _ K6.out
        go_wp2_with fail
        refine wp_region_noPanic ?_
        refine wp_region_held_drew (S := (fun w' => Keep (fun _ => False) W w' ∧ w'.cell? ⟨w.heap.size, 0, none⟩ = some (.int .i64 t.kind) ∧ w'.cell? ⟨w.heap.size, 1, none⟩ = some (.int .u64 t.set.x0) ∧ w'.cell? ⟨w.heap.size, 2, none⟩ = some (.int .u64 t.set.x1) ∧ w'.cell? ⟨w.heap.size, 3, none⟩ = some (.int .u64 t.set.x2) ∧ w'.cell? ⟨w.heap.size, 4, none⟩ = some (.int .u64 t.set.x3) ∧ w'.cell? ⟨w.heap.size, 5, none⟩ = some (.int .i64 t.mn) ∧ w'.cell? ⟨w.heap.size, 6, none⟩ = some (.int .i64 t.mx) ∧ w'.cell? ⟨w.heap.size, 7, none⟩ = some (.slice a t.subs.length c) ∧ w'.cell? ⟨w.heap.size + 2, 0, none⟩ = some (.int .i64 5) ∧ w'.cell? ⟨w.heap.size + 2, 1, none⟩ = some (.int .u64 0) ∧ w'.cell? ⟨w.heap.size + 2, 2, none⟩ = some (.int .u64 0) ∧ w'.cell? ⟨w.heap.size + 2, 3, none⟩ = some (.int .u64 0) ∧ w'.cell? ⟨w.heap.size + 2, 4, none⟩ = some (.int .u64 0) ∧ w'.cell? ⟨w.heap.size + 2, 5, none⟩ = some (.int .i64 mn) ∧ w'.cell? ⟨w.heap.size + 2, 6, none⟩ = some (.int .i64 mx) ∧ w'.cell? ⟨w.heap.size + 2, 7, none⟩ = some (.slice (some ⟨w.heap.size + 1, 0, none⟩) 1 1))) (by kernel_rfl) ?_ (fun hHeld => ?_)
        · exact HS.out _ (K6.out.drew)
        refine wpAnyH_take (i := 0) (oi := { dst := some 46, op := Go.Op.load 27 (Go.Operand.tmp 7), type := 27, pos := "law.go:100", after := #[], guard := none }) (v := ?_) rfl (by kernel_rfl) (by kernel_rfl) (by kernel_rfl) (fun _ _ _ h => h) (Or.inl ⟨by rfl, ?_⟩) (by assumption) ?_
        rotate_left 1
        · (intro w hSw; (try dsimp only at hSw); go_simp; first | done | with_reducible rfl)
        try simp only [Act.put, List.setIfInBounds_toArray, List.set_cons_zero, List.set_cons_succ]
        refine wpAnyH_take (i := 2) (oi := { dst := some 48, op := Go.Op.load 27 (Go.Operand.tmp 3), type := 27, pos := "law.go:100", after := #[], guard := none }) (v := ?_) rfl (by kernel_rfl) (by kernel_rfl) (by kernel_rfl) (fun _ _ _ h => h) (Or.inl ⟨by rfl, ?_⟩) (by assumption) ?_
        rotate_left 1
        · (intro w hSw; (try dsimp only at hSw); go_simp; first | done | with_reducible rfl)
        try simp only [Act.put, List.setIfInBounds_toArray, List.set_cons_zero, List.set_cons_succ]
        refine wpAnyH_ready (rs := [1]) (by kernel_rfl) (by simp) ?_
        refine AllReadyH.cons (o := { dst := some 47, op := Go.Op.call { callee := Go.Callee.value (Go.Operand.func 17), args := #[Go.Operand.tmp 46], argTypes := #[27] }, type := 4, pos := "law.go:100", after := #[{ on := 0, ground := Go.Ground.data }], guard := none }) rfl (fun K hK => ?_) AllReadyH.nil
        go_simp
        (go_at_call 17; refine (HX.out.2.2.2.2.2 _ (And.left hHeld)).mono ?_; rintro e w9 ⟨rfl, q⟩)
        refine hK.out _ _ ?_ (fun hHeld' => ?_)
        · exact HS.out _ (Keep.trans (And.left hHeld) q)
        clear hK K hHeld
        have hHeld := hHeld'
        clear hHeld'
        try simp only [Act.put, List.setIfInBounds_toArray, List.set_cons_zero, List.set_cons_succ]
        refine wpAnyH_ready (rs := [3]) (by kernel_rfl) (by simp) ?_
        refine AllReadyH.cons (o := { dst := some 49, op := Go.Op.call { callee := Go.Callee.value (Go.Operand.func 17), args := #[Go.Operand.tmp 48], argTypes := #[27] }, type := 4, pos := "law.go:100", after := #[{ on := 2, ground := Go.Ground.data }, { on := 1, ground := Go.Ground.chain }], guard := none }) rfl (fun K hK => ?_) AllReadyH.nil
        go_simp
        (go_at_call 17; refine (HX.out.2.2.1 _ (And.left hHeld)).mono ?_; rintro e w9 ⟨rfl, q⟩)
        refine hK.out _ _ ?_ (fun hHeld' => ?_)
        · exact HS.out _ (Keep.trans (And.left hHeld) q)
        clear hK K hHeld
        have hHeld := hHeld'
        clear hHeld'
        try simp only [Act.put, List.setIfInBounds_toArray, List.set_cons_zero, List.set_cons_succ]
        refine wpAnyH_take (i := 4) (oi := { dst := some 50, op := Go.Op.move (Go.Operand.tmp 49), type := 4, pos := "law.go:100", after := #[{ on := 3, ground := Go.Ground.data }, { on := 3, ground := Go.Ground.chain }], guard := none }) (v := ?_) rfl (by kernel_rfl) (by kernel_rfl) (by kernel_rfl) (fun _ _ _ h => h) (Or.inl ⟨by rfl, ?_⟩) (by assumption) ?_
        rotate_left 1
        · (intro w hSw; (try dsimp only at hSw); go_simp; first | done | with_reducible rfl)
        try simp only [Act.put, List.setIfInBounds_toArray, List.set_cons_zero, List.set_cons_succ]
        refine wpAnyH_take (i := 5) (oi := { dst := some 51, op := Go.Op.move (Go.Operand.tmp 1), type := 3, pos := "law.go:100", after := #[{ on := 4, ground := Go.Ground.guard }], guard := some (4, true) }) (v := undef) rfl (by kernel_rfl) (by kernel_rfl) (by kernel_rfl) (fun _ _ _ h => h) (Or.inr ⟨by rfl, rfl⟩) (by assumption) ?_
        try simp only [Act.put, List.setIfInBounds_toArray, List.set_cons_zero, List.set_cons_succ]
        refine wpAnyH_take (i := 6) (oi := { dst := some 52, op := Go.Op.binOp Go.BinOp.gtr 3 (Go.Operand.tmp 51) (Go.Operand.const (Go.Value.int Go.IntKind.i64 0)) 3, type := 4, pos := "law.go:100", after := #[{ on := 5, ground := Go.Ground.data }, { on := 4, ground := Go.Ground.guard }], guard := some (4, true) }) (v := undef) rfl (by kernel_rfl) (by kernel_rfl) (by kernel_rfl) (fun _ _ _ h => h) (Or.inr ⟨by rfl, rfl⟩) (by assumption) ?_
        try simp only [Act.put, List.setIfInBounds_toArray, List.set_cons_zero, List.set_cons_succ]
        refine wpAnyH_take (i := 7) (oi := { dst := some 53, op := Go.Op.pick (Go.Operand.tmp 50) (Go.Operand.tmp 52) (Go.Operand.const (Go.Value.bool false)), type := 4, pos := "law.go:100", after := #[{ on := 4, ground := Go.Ground.data }, { on := 6, ground := Go.Ground.data }], guard := none }) (v := ?_) rfl (by kernel_rfl) (by kernel_rfl) (by kernel_rfl) (fun _ _ _ h => h) (Or.inl ⟨by rfl, ?_⟩) (by assumption) ?_
        rotate_left 1
        · (intro w hSw; (try dsimp only at hSw); go_simp; first | done | with_reducible rfl)
        try simp only [Act.put, List.setIfInBounds_toArray, List.set_cons_zero, List.set_cons_succ]
        refine wpAnyH_take (i := 8) (oi := { dst := some 54, op := Go.Op.binOp Go.BinOp.eql 4 (Go.Operand.tmp 47) (Go.Operand.tmp 53) 4, type := 4, pos := "law.go:100", after := #[{ on := 1, ground := Go.Ground.data }, { on := 7, ground := Go.Ground.data }], guard := none }) (v := ?_) rfl (by kernel_rfl) (by kernel_rfl) (by kernel_rfl) (fun _ _ _ h => h) (Or.inl ⟨by rfl, ?_⟩) (by assumption) ?_
        rotate_left 1
        · (intro w hSw; (try dsimp only at hSw); go_simp; first | done | with_reducible rfl)
        try simp only [Act.put, List.setIfInBounds_toArray, List.set_cons_zero, List.set_cons_succ]
        refine wpAnyH_take (i := 9) (oi := { dst := some 55, op := Go.Op.move (Go.Operand.tmp 54), type := 4, pos := "law.go:100", after := #[{ on := 8, ground := Go.Ground.data }, { on := 4, ground := Go.Ground.chain }], guard := none }) (v := ?_) rfl (by kernel_rfl) (by kernel_rfl) (by kernel_rfl) (fun _ _ _ h => h) (Or.inl ⟨by rfl, ?_⟩) (by assumption) ?_
        rotate_left 1
        · (intro w hSw; (try dsimp only at hSw); go_simp; first | done | with_reducible rfl)
        try simp only [Act.put, List.setIfInBounds_toArray, List.set_cons_zero, List.set_cons_succ]
        refine wpAnyH_take (i := 10) (oi := { dst := some 56, op := Go.Op.load 27 (Go.Operand.tmp 7), type := 27, pos := "law.go:100", after := #[{ on := 9, ground := Go.Ground.guard }], guard := some (9, true) }) (v := ?_) rfl (by kernel_rfl) (by kernel_rfl) (by kernel_rfl) (fun _ _ _ h => h) (Or.inl ⟨by rfl, ?_⟩) (by assumption) ?_
        rotate_left 1
        · (intro w hSw; (try dsimp only at hSw); go_simp; first | done | with_reducible rfl)
        try simp only [Act.put, List.setIfInBounds_toArray, List.set_cons_zero, List.set_cons_succ]
        refine wpAnyH_ready (rs := [11]) (by kernel_rfl) (by simp) ?_
        refine AllReadyH.cons (o := { dst := some 57, op := Go.Op.call { callee := Go.Callee.value (Go.Operand.func 17), args := #[Go.Operand.tmp 56], argTypes := #[27] }, type := 4, pos := "law.go:100", after := #[{ on := 10, ground := Go.Ground.data }, { on := 9, ground := Go.Ground.chain }, { on := 9, ground := Go.Ground.guard }], guard := some (9, true) }) rfl (fun K hK => ?_) AllReadyH.nil
        go_simp
        (go_at_call 17; refine (HX.out.2.2.2.2.2 _ (And.left hHeld)).mono ?_; rintro e w9 ⟨rfl, q⟩)
        refine hK.out _ _ ?_ (fun hHeld' => ?_)
        · exact HS.out _ (Keep.trans (And.left hHeld) q)
        clear hK K hHeld
        have hHeld := hHeld'
        clear hHeld'
        try simp only [Act.put, List.setIfInBounds_toArray, List.set_cons_zero, List.set_cons_succ]
        refine wpAnyH_take (i := 12) (oi := { dst := some 58, op := Go.Op.move (Go.Operand.tmp 57), type := 4, pos := "law.go:100", after := #[{ on := 11, ground := Go.Ground.data }, { on := 11, ground := Go.Ground.chain }, { on := 9, ground := Go.Ground.guard }], guard := some (9, true) }) (v := ?_) rfl (by kernel_rfl) (by kernel_rfl) (by kernel_rfl) (fun _ _ _ h => h) (Or.inl ⟨by rfl, ?_⟩) (by assumption) ?_
        rotate_left 1
        · (intro w hSw; (try dsimp only at hSw); go_simp; first | done | with_reducible rfl)
        try simp only [Act.put, List.setIfInBounds_toArray, List.set_cons_zero, List.set_cons_succ]
        refine wpAnyH_take (i := 13) (oi := { dst := some 59, op := Go.Op.move (Go.Operand.tmp 10), type := 3, pos := "law.go:100", after := #[{ on := 12, ground := Go.Ground.guard }], guard := some (12, false) }) (v := ?_) rfl (by kernel_rfl) (by kernel_rfl) (by kernel_rfl) (fun _ _ _ h => h) (Or.inl ⟨by rfl, ?_⟩) (by assumption) ?_
        rotate_left 1
        · (intro w hSw; (try dsimp only at hSw); go_simp; first | done | with_reducible rfl)
        try simp only [Act.put, List.setIfInBounds_toArray, List.set_cons_zero, List.set_cons_succ]
        refine wpAnyH_take (i := 14) (oi := { dst := some 60, op := Go.Op.binOp Go.BinOp.eql 3 (Go.Operand.tmp 59) (Go.Operand.const (Go.Value.int Go.IntKind.i64 0)) 3, type := 4, pos := "law.go:100", after := #[{ on := 13, ground := Go.Ground.data }, { on := 12, ground := Go.Ground.guard }], guard := some (12, false) }) (v := ?_) rfl (by kernel_rfl) (by kernel_rfl) (by kernel_rfl) (fun _ _ _ h => h) (Or.inl ⟨by rfl, ?_⟩) (by assumption) ?_
        rotate_left 1
        · (intro w hSw; (try dsimp only at hSw); go_simp; first | done | with_reducible rfl)
        try simp only [Act.put, List.setIfInBounds_toArray, List.set_cons_zero, List.set_cons_succ]
        refine wpAnyH_take (i := 15) (oi := { dst := some 61, op := Go.Op.move (Go.Operand.tmp 60), type := 4, pos := "law.go:100", after := #[{ on := 14, ground := Go.Ground.data }, { on := 12, ground := Go.Ground.chain }, { on := 12, ground := Go.Ground.guard }], guard := some (12, false) }) (v := ?_) rfl (by kernel_rfl) (by kernel_rfl) (by kernel_rfl) (fun _ _ _ h => h) (Or.inl ⟨by rfl, ?_⟩) (by assumption) ?_
        rotate_left 1
        · (intro w hSw; (try dsimp only at hSw); go_simp; first | done | with_reducible rfl)
        try simp only [Act.put, List.setIfInBounds_toArray, List.set_cons_zero, List.set_cons_succ]
        refine wpAnyH_take (i := 16) (oi := { dst := some 62, op := Go.Op.move (Go.Operand.tmp 11), type := 3, pos := "law.go:100", after := #[{ on := 15, ground := Go.Ground.guard }], guard := some (15, true) }) (v := ?_) rfl (by kernel_rfl) (by kernel_rfl) (by kernel_rfl) (fun _ _ _ h => h) (Or.inl ⟨by rfl, ?_⟩) (by assumption) ?_
        rotate_left 1
        · (intro w hSw; (try dsimp only at hSw); go_simp; first | done | with_reducible rfl)
        try simp only [Act.put, List.setIfInBounds_toArray, List.set_cons_zero, List.set_cons_succ]
        refine wpAnyH_take (i := 17) (oi := { dst := some 63, op := Go.Op.binOp Go.BinOp.eql 3 (Go.Operand.tmp 62) (Go.Operand.const (Go.Value.int Go.IntKind.i64 0)) 3, type := 4, pos := "law.go:100", after := #[{ on := 16, ground := Go.Ground.data }, { on := 15, ground := Go.Ground.guard }], guard := some (15, true) }) (v := ?_) rfl (by kernel_rfl) (by kernel_rfl) (by kernel_rfl) (fun _ _ _ h => h) (Or.inl ⟨by rfl, ?_⟩) (by assumption) ?_
        rotate_left 1
        · (intro w hSw; (try dsimp only at hSw); go_simp; first | done | with_reducible rfl)
        try simp only [Act.put, List.setIfInBounds_toArray, List.set_cons_zero, List.set_cons_succ]
        refine wpAnyH_take (i := 18) (oi := { dst := some 64, op := Go.Op.pick (Go.Operand.tmp 61) (Go.Operand.tmp 63) (Go.Operand.const (Go.Value.bool false)), type := 4, pos := "law.go:100", after := #[{ on := 15, ground := Go.Ground.data }, { on := 17, ground := Go.Ground.data }, { on := 12, ground := Go.Ground.guard }], guard := some (12, false) }) (v := ?_) rfl (by kernel_rfl) (by kernel_rfl) (by kernel_rfl) (fun _ _ _ h => h) (Or.inl ⟨by rfl, ?_⟩) (by assumption) ?_
        rotate_left 1
        · (intro w hSw; (try dsimp only at hSw); go_simp; first | done | with_reducible rfl)
        try simp only [Act.put, List.setIfInBounds_toArray, List.set_cons_zero, List.set_cons_succ]
        refine wpAnyH_take (i := 19) (oi := { dst := some 65, op := Go.Op.pick (Go.Operand.tmp 58) (Go.Operand.const (Go.Value.bool true)) (Go.Operand.tmp 64), type := 4, pos := "law.go:100", after := #[{ on := 12, ground := Go.Ground.data }, { on := 18, ground := Go.Ground.data }, { on := 9, ground := Go.Ground.guard }], guard := some (9, true) }) (v := ?_) rfl (by kernel_rfl) (by kernel_rfl) (by kernel_rfl) (fun _ _ _ h => h) (Or.inl ⟨by rfl, ?_⟩) (by assumption) ?_
        rotate_left 1
        · (intro w hSw; (try dsimp only at hSw); go_simp; first | done | with_reducible rfl)
        try simp only [Act.put, List.setIfInBounds_toArray, List.set_cons_zero, List.set_cons_succ]
        refine wpAnyH_take (i := 20) (oi := { dst := some 66, op := Go.Op.pick (Go.Operand.tmp 55) (Go.Operand.tmp 65) (Go.Operand.const (Go.Value.bool false)), type := 4, pos := "law.go:100", after := #[{ on := 9, ground := Go.Ground.data }, { on := 19, ground := Go.Ground.data }], guard := none }) (v := ?_) rfl (by kernel_rfl) (by kernel_rfl) (by kernel_rfl) (fun _ _ _ h => h) (Or.inl ⟨by rfl, ?_⟩) (by assumption) ?_
        rotate_left 1
        · (intro w hSw; (try dsimp only at hSw); go_simp; first | done | with_reducible rfl)
        try simp only [Act.put, List.setIfInBounds_toArray, List.set_cons_zero, List.set_cons_succ]
        refine wpAnyH_take (i := 21) (oi := { dst := some 6, op := Go.Op.assign (Go.Operand.tmp 66), type := 4, pos := "law.go:100", after := #[{ on := 20, ground := Go.Ground.data }, { on := 15, ground := Go.Ground.chain }, { on := 0, ground := Go.Ground.phase }, { on := 1, ground := Go.Ground.phase }, { on := 2, ground := Go.Ground.phase }, { on := 3, ground := Go.Ground.phase }, { on := 4, ground := Go.Ground.phase }, { on := 5, ground := Go.Ground.phase }, { on := 6, ground := Go.Ground.phase }, { on := 7, ground := Go.Ground.phase }, { on := 8, ground := Go.Ground.phase }, { on := 9, ground := Go.Ground.phase }, { on := 10, ground := Go.Ground.phase }, { on := 11, ground := Go.Ground.phase }, { on := 12, ground := Go.Ground.phase }, { on := 13, ground := Go.Ground.phase }, { on := 14, ground := Go.Ground.phase }, { on := 15, ground := Go.Ground.phase }, { on := 16, ground := Go.Ground.phase }, { on := 17, ground := Go.Ground.phase }, { on := 18, ground := Go.Ground.phase }, { on := 19, ground := Go.Ground.phase }, { on := 20, ground := Go.Ground.phase }], guard := none }) (v := ?_) rfl (by kernel_rfl) (by kernel_rfl) (by kernel_rfl) (fun _ _ _ h => h) (Or.inl ⟨by rfl, ?_⟩) (by assumption) ?_
        rotate_left 1
        · (intro w hSw; (try dsimp only at hSw); go_simp; first | done | with_reducible rfl)
        try simp only [Act.put, List.setIfInBounds_toArray, List.set_cons_zero, List.set_cons_succ]
        refine wpAnyH_done (by kernel_rfl) ?_ _
        refine NoPanic.normal ?_
        have HK := Lib.hid (H0.out.1.trans hHeld.1)
        clear hHeld
        go_wp2_with fail
        go_ret
        exact ⟨rfl, HK.out⟩
    · have hb : b = false := by
        cases b with
        | true => exact absurd (.inl rfl) hA
        | false => rfl
      have hmx : mx ≠ 0 := fun h => hA (.inr h)
      subst hb
      obtain ⟨x0', xm, ym⟩ := H9.out.big rfl
      have hz := H9.out.z rfl hmx
      have hu := H9.out.u rfl hmx
      have hr0 := H9.out.r0 rfl hmx
      have hr1 := H9.out.r1 rfl hmx
      obtain ⟨mn0, mn20, hxx⟩ := H9.out.bounds
      have bx : (mx == 0) = false := by simp [hmx]
      have hwz : IntKind.i64.wrap (x * mn) = z := by
        have := Int.mul_nonneg x0' mn0
        rw [hz, IntKind.wrap_i64]
        omega
      have hgz : (z == z) = true := by simp
      have hmc : ((mn == 0) = true ∧ r1 = true) ∨ ((mn == 0) = false ∧ r1 = n1) := by
        by_cases h : mn = 0
        · exact .inl ⟨by simp [h], hr0 h⟩
        · exact .inr ⟨by simp [h], hr1 h⟩
      have hyc : ((y == 0) = true ∧ (u == 0) = true) ∨ ((y == 0) = false ∧ y < 0 ∧ (u == -1) = true) ∨ ((y == 0) = false ∧ ¬ y < 0 ∧ mx < 0 ∧ (u == -1) = true) ∨ ((y == 0) = false ∧ ¬ y < 0 ∧ ¬ mx < 0 ∧ IntKind.i64.wrap (y * mx) = u ∧ (u == u) = true) := by
        by_cases h0 : y = 0
        · rw [if_pos h0] at hu
          exact .inl ⟨by simp [h0], by simp [hu]⟩
        · rw [if_neg h0] at hu
          by_cases h1 : y < 0
          · rw [if_pos (.inl h1)] at hu
            exact .inr (.inl ⟨by simp [h0], h1, by simp [hu]⟩)
          · by_cases h2 : mx < 0
            · rw [if_pos (.inr h2)] at hu
              exact .inr (.inr (.inl ⟨by simp [h0], h1, h2, by simp [hu]⟩))
            · rw [if_neg (by omega)] at hu
              have h3 := ym (by omega)
              have h4 := Int.mul_nonneg (show 0 ≤ y by omega) (show 0 ≤ mx by omega)
              exact .inr (.inr (.inr ⟨by simp [h0], h1, h2, by rw [hu, IntKind.wrap_i64]; omega, by simp⟩))
      have HY := Lib.hid hyc
      clear hA hz hu hr0 hr1 ym hxx hmx x0' xm hyc
      obtain ⟨-, x0, x1, x2, x3, x4, x5, x6, x7, y0, y1, y2, y3, y4, y5, y6, y7⟩ := HS.out _ K6.out
      go_wp2_with fail
      refine (HX.out.2.2.2.2.1 w6 K6.out).mono ?_
      rintro e w7 ⟨rfl, q7⟩
      have K7 := Lib.hid (K6.out.trans q7)
      clear q7 x0 x1 x2 x3 x4 x5 x6 x7 y0 y1 y2 y3 y4 y5 y6 y7
      obtain ⟨-, x0, x1, x2, x3, x4, x5, x6, x7, y0, y1, y2, y3, y4, y5, y6, y7⟩ := HS.out _ K7.out
      rcases hmc with ⟨hm0, hr⟩ | ⟨hm0, hr⟩
      · subst hr
        have HK := Lib.hid (H0.out.1.trans K7.out)
        rcases HY.out with ⟨h0, h1⟩ | ⟨h0, h1, h2⟩ | ⟨h0, h1, h2, h3⟩ | ⟨h0, h1, h2, h3, h4⟩
        all_goals
          go_wp2_with fail
          go_ret
          exact ⟨rfl, HK.out⟩
      · subst hr
        go_wp2_with fail
        refine (HX.out.2.2.2.1 w7 K7.out).mono ?_
        rintro e w8 ⟨rfl, q8⟩
        have HK := Lib.hid (H0.out.1.trans (K7.out.trans q8))
        clear q8 x0 x1 x2 x3 x4 x5 x6 x7 y0 y1 y2 y3 y4 y5 y6 y7
        cases r1
        all_goals
          rcases HY.out with ⟨h0, h1⟩ | ⟨h0, h1, h2⟩ | ⟨h0, h1, h2, h3⟩ | ⟨h0, h1, h2, h3, h4⟩
        all_goals
          go_wp2_with fail
          go_ret
          exact ⟨rfl, HK.out⟩
end Go.Proofs.Ytblijgcfelnlmaa.P09
