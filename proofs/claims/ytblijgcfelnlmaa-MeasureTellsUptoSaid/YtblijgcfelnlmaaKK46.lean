/- MeasureTells: the walk. -/
import Derived.Test.YtblijgcfelnlmaaKK45
import Derived.Test.YtblijgcfelnlmaaKK43
import Derived.Test.YtblijgcfelnlmaaKK31
import Derived.Test.YtblijgcfelnlmaaKK30
import Derived.Test.YtblijgcfelnlmaaKK19
namespace Go.Proofs.Ytblijgcfelnlmaa.P09
open Go.RowKit Go.Proofs.Ytblijgcfelnlmaa.Base Go.Proofs.Ytblijgcfelnlmaa.Bytes Go.Proofs.Ytblijgcfelnlmaa.P07 Go.Proofs.Ytblijgcfelnlmaa.P08
open Go.Proofs.Ytblijgcfelnlmaa.Sets (ST)

/-- Of what isn't right. -/
structure Wr (t : T) (a : Option Addr) (c : Nat) (W : World) : Prop where
  size : Calls Try.prog 13 #[nodeV t a c] W fun e w' => e = .returned (.int .i64 0) ∧ Keep (fun _ => False) W w'
  wide : Calls Try.prog 14 #[nodeV t a c] W fun e w' => e = .returned (.int .i64 0) ∧ Keep (fun _ => False) W w'
  length : Calls Try.prog 12 #[nodeV t a c] W fun e w' => e = .returned (.tuple #[.int .i64 0, .int .i64 0]) ∧ Keep (fun _ => False) W w'
  none : Calls Try.prog 17 #[nodeV t a c] W fun e w' => e = .returned (.bool false) ∧ Keep (fun _ => False) W w'
  null : Calls Try.prog 15 #[nodeV t a c] W fun e w' => e = .returned (.bool false) ∧ Keep (fun _ => False) W w'
  first : Calls Try.prog 16 #[nodeV t a c] W fun e w' => e = .returned (.agg #[.int .u64 0, .int .u64 0, .int .u64 0, .int .u64 0]) ∧ Keep (fun _ => False) W w'
theorem wrong_all {t : T} (hs : SOk t) (hr : rightB t = false) (hc : cnt t ≤ 200) (a : Option Addr) (c : Nat) (W : World) (hL : Lie W (fun _ => True) a t.subs) : Wr t a c W := by
  have h1 := msize_any t hs (by omega) a c W hL
  have h2 := mwide_any t hs a c W hL
  have h3 := mlength_any t hs hc a c W hL
  have h4 := mnone_any t hs hc a c W hL
  have h5 := mnull_any t hs hc a c W hL
  have h6 := mfirst_any t hs hc a c W hL
  rw [hr] at h1 h2 h3 h4 h5 h6
  exact ⟨h1, h2, h3, h4, h5, h6⟩

set_option maxRecDepth 100000 in
set_option maxHeartbeats 16000000 in
theorem law_tells (t : T)  (a : Option Addr) (c : Nat) (w : World) (hta : Lie w (fun _ => True) a t.subs) (hcl : t.subs.length ≤ c) (ht : cnt t ≤ 1000000000) (hst : SOk t)  :
    Calls Try.prog 3 #[nodeV t a c] w fun e w' => e = .returned (.bool true) ∧ Keep (fun _ => False) w w' := by
  have q := (Keep.refl (fun _ => False) w).alloc (.cells (ncells t a c) 27)
  have H0 := Lib.hid (And.intro q (show Nd _ w.heap.size t a c from ⟨At.new w _ _, hta.keepF q, hcl⟩))
  have HCT := Lib.hid (And.intro ht hst)
  clear q hta hcl ht hst
  go_enter Try.func3, Try.ntmps3
  go_upto_region 1 with fail
  generalize (w.alloc (.cells (ncells t a c) 27)) = W0 at *
  go_wp2_with fail
  refine (awake_true W0).mono ?_
  rintro e w1 ⟨rfl, q1⟩
  have H1 := Lib.hid (And.intro (H0.out.1.trans q1) (H0.out.2.keep q1))
  clear q1
  obtain ⟨x0, x1, x2, x3, x4, x5, x6, x7⟩ := (cells8 H1.out.2.cell).1
  go_wp2_with fail
  refine (few_any t HCT.out.1 a c w1 H1.out.2.lie).mono ?_
  rintro e w2 ⟨rfl, q2⟩
  have H2 := Lib.hid (And.intro (H1.out.1.trans q2) (H1.out.2.keep q2))
  clear q2 x0 x1 x2 x3 x4 x5 x6 x7
  by_cases h1 : sz t ≤ 200
  case neg =>
    have g1 : decide (sz t ≤ 200) = false := decide_eq_false h1
    rw [g1]
    clear g1 h1
    go_wp2_with fail
    refine (awake_true w2).mono ?_
    rintro e w3 ⟨rfl, q3⟩
    have Q3 := Lib.hid (H2.out.1.trans q3)
    clear q3
    go_wp2_with fail
    go_ret
    exact ⟨rfl, Q3.out⟩
  have g1 : decide (sz t ≤ 200) = true := decide_eq_true h1
  rw [g1]
  have HF1 := Lib.hid (few_cnt h1)
  clear g1 h1
  obtain ⟨x0, x1, x2, x3, x4, x5, x6, x7⟩ := (cells8 H2.out.2.cell).1
  have hset := fun W hL => msets_any t HCT.out.2 (by have := HF1.out; omega) a c W hL
  obtain ⟨M, hM⟩ : ∃ M, (if rightB t = true then setsT t else []) = M := ⟨_, rfl⟩
  rw [hM] at hset
  have HM := Lib.hid hM
  clear hM
  go_wp2_with fail
  refine (hset w2 H2.out.2.lie).mono ?_
  rintro e w3 ⟨v1, rfl, hf1⟩
  have H3 := Lib.hid (And.intro (H2.out.1.trans hf1.q) (And.intro (H2.out.2.keep hf1.q) hf1.ol))
  obtain ⟨ae, ce, rfl, -, -⟩ := hf1.ol.form
  clear hf1 hset x0 x1 x2 x3 x4 x5 x6 x7
  have HA := Lib.hid (fun (W' : World) (q : Keep (fun _ => False) w3 W') => (cells8 (H3.out.2.1.keep q).cell).1)
  have HLI := Lib.hid (fun (W' : World) (q : Keep (fun _ => False) w3 W') => H3.out.2.1.lie.keepF q)
  obtain ⟨x0, x1, x2, x3, x4, x5, x6, x7⟩ := HA.out _ (Keep.refl _ _)
  go_wp2_with fail
  refine (fright_any t HCT.out.1 a c w3 H3.out.2.1.lie).mono ?_
  rintro e w4 ⟨rfl, q4⟩
  have K4 := Lib.hid q4
  clear q4 x0 x1 x2 x3 x4 x5 x6 x7
  obtain ⟨x0, x1, x2, x3, x4, x5, x6, x7⟩ := HA.out _ K4.out
  cases h3 : rightB t with
  | false =>
    have HW := Lib.hid (fun W' (q : Keep (fun _ => False) w3 W') => wrong_all HCT.out.2 h3 HF1.out a c W' (HLI.out W' q))
    have hM := HM.out
    rw [h3, if_neg (by decide)] at hM
    subst hM
    have hes0 : ∀ W, (Op.equalIn 10000 24 (.agg #[.int .u64 0, .int .u64 0, .int .u64 0, .int .u64 0]) (.agg #[.int .u64 0, .int .u64 0, .int .u64 0, .int .u64 0])).run Try.prog W = .ok true W := fun W => by
      have := eq_set ST.none ST.none W
      rw [eqB_refl] at this
      exact this
    clear h3
    go_wp2_with fail
    refine (HW.out w4 K4.out).length.mono ?_
    rintro e w5 ⟨rfl, q5⟩
    have K5 := Lib.hid (K4.out.trans q5)
    clear q5 x0 x1 x2 x3 x4 x5 x6 x7
    obtain ⟨x0, x1, x2, x3, x4, x5, x6, x7⟩ := HA.out _ K5.out
    go_wp2_with fail
    refine (HW.out w5 K5.out).size.mono ?_
    rintro e w6 ⟨rfl, q6⟩
    have K6 := Lib.hid (K5.out.trans q6)
    clear q6 x0 x1 x2 x3 x4 x5 x6 x7
    obtain ⟨x0, x1, x2, x3, x4, x5, x6, x7⟩ := HA.out _ K6.out
    go_wp2_with fail
    refine (HW.out w6 K6.out).wide.mono ?_
    rintro e w7 ⟨rfl, q7⟩
    have K7 := Lib.hid (K6.out.trans q7)
    clear q7 x0 x1 x2 x3 x4 x5 x6 x7
    obtain ⟨x0, x1, x2, x3, x4, x5, x6, x7⟩ := HA.out _ K7.out
    go_wp2_with fail
    refine (HW.out w7 K7.out).null.mono ?_
    rintro e w8 ⟨rfl, q8⟩
    have K8 := Lib.hid (K7.out.trans q8)
    clear q8 x0 x1 x2 x3 x4 x5 x6 x7
    obtain ⟨x0, x1, x2, x3, x4, x5, x6, x7⟩ := HA.out _ K8.out
    go_wp2_with fail
    refine (HW.out w8 K8.out).first.mono ?_
    rintro e w9 ⟨rfl, q9⟩
    have K9 := Lib.hid (K8.out.trans q9)
    clear q9 x0 x1 x2 x3 x4 x5 x6 x7
    obtain ⟨x0, x1, x2, x3, x4, x5, x6, x7⟩ := HA.out _ K9.out
    go_wp2_with fail
    refine (HW.out w9 K9.out).none.mono ?_
    rintro e w10 ⟨rfl, q10⟩
    have K10 := Lib.hid (K9.out.trans q10)
    clear q10 x0 x1 x2 x3 x4 x5 x6 x7
    go_wp2_with fail
    go_ret
    exact ⟨rfl, H3.out.1.trans K10.out⟩
  | true =>
    have hR := (rightB_iff HCT.out.2).1 h3
    have hol := H3.out.2.2
    have hM := HM.out
    rw [h3, if_pos rfl] at hM
    have hc := HF1.out
    obtain ⟨N, hN⟩ : ∃ N, cnt t = N := ⟨_, rfl⟩
    obtain ⟨D, hD⟩ : ∃ D, wd t = D := ⟨_, rfl⟩
    have k1 := fun W' q => size_r hR hc hN a c W' (HLI.out W' q)
    have k2 := fun W' q => wide_r hR hD a c W' (HLI.out W' q)
    have k3 := fun W' q => fsize_any t HCT.out.1 a c W' (HLI.out W' q)
    have k4 := fun W' q => fwide_all _ t (Nat.lt_succ_self _) 12 hR a c W' (HLI.out W' q)
    have k5 := fun W' q => fsets_any t a c W' (HLI.out W' q) (by omega)
    have hlen := setsT_len t
    rw [hM] at k5 hlen
    have hlen2 : M.length ≤ 200 := by omega
    rw [hN] at k3
    rw [hD] at k4
    have HX := Lib.hid (And.intro k1 (And.intro k2 (And.intro k3 (And.intro k4 k5))))
    have HO := Lib.hid hol
    have g1 : ((N : Int) == N) = true := by simp
    have g2 : (D == D) = true := by simp
    clear h3 hR hol hc hN hD k1 k2 k3 k4 k5 hM hlen
    go_wp2_with fail
    refine (HX.out.2.2.2.2 w4 K4.out).mono ?_
    rintro e w5 ⟨v2, rfl, hf2⟩
    have H5 := Lib.hid (And.intro (K4.out.trans hf2.q) hf2.ol)
    obtain ⟨a2, c2, rfl, -, -⟩ := hf2.ol.form
    clear hf2 x0 x1 x2 x3 x4 x5 x6 x7
    go_wp2_with fail
    go_loopg [7, 72] M.length (fun gg s7 i wr => ∃ k : Nat, i = .int .i64 k ∧ k + gg = M.length ∧ Keep (fun _ => False) w5 wr)
    case atStart => exact ⟨0, rfl, by omega, Keep.refl _ _⟩
    case round =>
      obtain ⟨k, rfl, hk, hdr⟩ := hrel
      by_cases hlt : k < M.length
      · have hlt' : (k : Int) < M.length := by omega
        have i0 : (0 : Int) ≤ k := by omega
        obtain ⟨s, hs⟩ : ∃ s, M[k]? = some s := ⟨M[k], List.getElem?_eq_getElem hlt⟩
        have hq := hdr
        obtain ⟨ga, ca, e1, -, -, hca, -⟩ := ((HO.out.keep H5.out.1 (fun _ _ h => h)).keep hq (fun _ _ h => h)).get hs
        obtain ⟨gb, cb, e2, -, -, hcb, -⟩ := (H5.out.2.keep hq (fun _ _ h => h)).get hs
        injection e1 with e1 _ e3
        injection e2 with e2 _ e4
        subst e1 e2 e3 e4
        have y0 := hca 0 (by decide)
        have y1 := hca 1 (by decide)
        have y2 := hca 2 (by decide)
        have y3 := hca 3 (by decide)
        have z0 := hcb 0 (by decide)
        have z1 := hcb 1 (by decide)
        have z2 := hcb 2 (by decide)
        have z3 := hcb 3 (by decide)
        rw [Nat.add_zero] at y0 z0
        have hes : ∀ W, (Op.equalIn 10000 24 (.agg #[.int .u64 (s.w 0), .int .u64 (s.w 1), .int .u64 (s.w 2), .int .u64 (s.w 3)]) (.agg #[.int .u64 (s.w 0), .int .u64 (s.w 1), .int .u64 (s.w 2), .int .u64 (s.w 3)])).run Try.prog W = .ok true W := fun W => by
          have := eq_set s s W
          rw [eqB_refl] at this
          exact this
        have HQ := Lib.hid hdr
        clear hca hcb hq hdr hs
        go_wp2_with fail
        go_quiet (fail)
        go_wp2_with fail
        go_roundg (M.length - (k + 1))
        case measure => omega
        case rel => exact ⟨k + 1, by go_num, by omega, HQ.out.drewN _⟩
      · have hke : k = M.length := by omega
        subst hke
        have hq := hdr
        have hS : ∀ w', Keep (fun _ => False) wr w' → Keep (fun _ => False) wr w' ∧ w'.cell? ⟨w.heap.size, 0, none⟩ = some (.int .i64 t.kind) ∧ w'.cell? ⟨w.heap.size, 1, none⟩ = some (.int .u64 t.set.x0) ∧ w'.cell? ⟨w.heap.size, 2, none⟩ = some (.int .u64 t.set.x1) ∧ w'.cell? ⟨w.heap.size, 3, none⟩ = some (.int .u64 t.set.x2) ∧ w'.cell? ⟨w.heap.size, 4, none⟩ = some (.int .u64 t.set.x3) ∧ w'.cell? ⟨w.heap.size, 5, none⟩ = some (.int .i64 t.mn) ∧ w'.cell? ⟨w.heap.size, 6, none⟩ = some (.int .i64 t.mx) ∧ w'.cell? ⟨w.heap.size, 7, none⟩ = some (.slice a t.subs.length c) := fun w' q' => ⟨q', HA.out _ (H5.out.1.trans (hq.trans q'))⟩
        have HS := Lib.hid hS
        have HQ := Lib.hid (H5.out.1.trans hq)
        clear hS hq hdr
        obtain ⟨-, x0, x1, x2, x3, x4, x5, x6, x7⟩ := HS.out _ (Keep.refl _ _)
        go_wp2_with fail
        go_region_held3 (fun w' => Keep (fun _ => False) wr w' ∧ w'.cell? ⟨w.heap.size, 0, none⟩ = some (.int .i64 t.kind) ∧ w'.cell? ⟨w.heap.size, 1, none⟩ = some (.int .u64 t.set.x0) ∧ w'.cell? ⟨w.heap.size, 2, none⟩ = some (.int .u64 t.set.x1) ∧ w'.cell? ⟨w.heap.size, 3, none⟩ = some (.int .u64 t.set.x2) ∧ w'.cell? ⟨w.heap.size, 4, none⟩ = some (.int .u64 t.set.x3) ∧ w'.cell? ⟨w.heap.size, 5, none⟩ = some (.int .i64 t.mn) ∧ w'.cell? ⟨w.heap.size, 6, none⟩ = some (.int .i64 t.mx) ∧ w'.cell? ⟨w.heap.size, 7, none⟩ = some (.slice a t.subs.length c)) (first | assumption | exact HS.out _ ((Keep.refl _ _).drew) | exact HS.out _ (Keep.trans (And.left (by assumption)) q)) (first
          | (go_at_call 13; refine (HX.out.1 _ (HQ.out.trans (And.left (by assumption)))).mono ?_; rintro e w6 ⟨rfl, q⟩)
          | (go_at_call 14; refine (HX.out.2.1 _ (HQ.out.trans (And.left (by assumption)))).mono ?_; rintro e w6 ⟨rfl, q⟩)
          | (go_at_call 19; refine (HX.out.2.2.1 _ (HQ.out.trans (And.left (by assumption)))).mono ?_; rintro e w6 ⟨rfl, q⟩)
          | (go_at_call 20; refine (HX.out.2.2.2.1 _ (HQ.out.trans (And.left (by assumption)))).mono ?_; rintro e w6 ⟨rfl, q⟩))
        all_goals
          rename_i hh
          have HK := Lib.hid (H3.out.1.trans (HQ.out.trans hh.1))
          clear hh
          go_wp2_with fail
          go_ret
          exact ⟨rfl, HK.out⟩
end Go.Proofs.Ytblijgcfelnlmaa.P09
