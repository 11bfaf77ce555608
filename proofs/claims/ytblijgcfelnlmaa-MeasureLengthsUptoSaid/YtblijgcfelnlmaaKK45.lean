/- Layer 9: the code's measures of right expressions are the document's numbers; an expression in a box; Parse. -/
import Derived.Test.YtblijgcfelnlmaaKK42
import Derived.Test.YtblijgcfelnlmaaKK43
import Derived.Test.YtblijgcfelnlmaaKK35
import Derived.Test.YtblijgcfelnlmaaKK44
import Derived.Test.YtblijgcfelnlmaaKK09
import Derived.Test.YtblijgcfelnlmaaKK33
namespace Go.Proofs.Ytblijgcfelnlmaa.P09
open Go.RowKit Go.Proofs.Ytblijgcfelnlmaa.Base Go.Proofs.Ytblijgcfelnlmaa.Bytes Go.Proofs.Ytblijgcfelnlmaa.P07 Go.Proofs.Ytblijgcfelnlmaa.P08
open Go.Proofs.Ytblijgcfelnlmaa.Sets (ST)

theorem len_is {t : T} (hR : RT 12 t) : (txOf t).len = (leastI t, mostI t) := by
  have hS := tx_same t 12 hR
  have hB := least_bnd t 12 hR
  unfold TX.len
  cases hn : noneB t with
  | true =>
    have hm : mostI t = -1 := by rw [mostI_eq, if_pos hn]
    rw [if_pos (hS.none.trans hn), hB.1 hn, hm]
  | false =>
    rw [if_neg (by rw [hS.none, hn]; decide), hS.least hn]
    cases he : (txOf t).endless with
    | true => rw [if_pos rfl, hS.inf hn he]
    | false => rw [if_neg (by decide), hS.fin hn he]
theorem null_is {t : T} (hR : RT 12 t) : (!(txOf t).none && decide ((txOf t).least = 0)) = nullB t := by
  have hS := tx_same t 12 hR
  rw [nullB_iff hR, hS.none]
  cases hn : noneB t with
  | true => rfl
  | false => rw [hS.least hn]

theorem size_r {t : T} (hR : RT 12 t) (hc : cnt t ≤ 200) {n : Nat} (hn : cnt t = n) (a : Option Addr) (c : Nat) (w : World) (hL : Lie w (fun _ => True) a t.subs) :
    Calls Try.prog 13 #[nodeV t a c] w fun e w' => e = .returned (.int .i64 n) ∧ Keep (fun _ => False) w w' := by
  have hs := RT_sok t 12 hR
  have h := msize_any t hs (by omega) a c w hL
  rw [if_pos ((rightB_iff hs).2 hR), hn] at h
  exact h
theorem wide_r {t : T} (hR : RT 12 t) {n : Int} (hn : wd t = n) (a : Option Addr) (c : Nat) (w : World) (hL : Lie w (fun _ => True) a t.subs) :
    Calls Try.prog 14 #[nodeV t a c] w fun e w' => e = .returned (.int .i64 n) ∧ Keep (fun _ => False) w w' := by
  have hs := RT_sok t 12 hR
  have h := mwide_any t hs a c w hL
  rw [if_pos ((rightB_iff hs).2 hR), hn] at h
  exact h
theorem length_r {t : T} (hR : RT 12 t) (hc : cnt t ≤ 200) {x y : Int} (hx : leastI t = x) (hy : mostI t = y) (a : Option Addr) (c : Nat) (w : World) (hL : Lie w (fun _ => True) a t.subs) :
    Calls Try.prog 12 #[nodeV t a c] w fun e w' => e = .returned (.tuple #[.int .i64 x, .int .i64 y]) ∧ Keep (fun _ => False) w w' := by
  have hs := RT_sok t 12 hR
  have h := mlength_any t hs hc a c w hL
  rw [if_pos ((rightB_iff hs).2 hR), len_is hR, hx, hy] at h
  exact h
theorem none_r {t : T} (hR : RT 12 t) (hc : cnt t ≤ 200) {b : Bool} (hb : noneB t = b) (a : Option Addr) (c : Nat) (w : World) (hL : Lie w (fun _ => True) a t.subs) :
    Calls Try.prog 17 #[nodeV t a c] w fun e w' => e = .returned (.bool b) ∧ Keep (fun _ => False) w w' := by
  have hs := RT_sok t 12 hR
  have h := mnone_any t hs hc a c w hL
  rw [if_pos ((rightB_iff hs).2 hR), (tx_same t 12 hR).none, hb] at h
  exact h
theorem null_r {t : T} (hR : RT 12 t) (hc : cnt t ≤ 200) {b : Bool} (hb : nullB t = b) (a : Option Addr) (c : Nat) (w : World) (hL : Lie w (fun _ => True) a t.subs) :
    Calls Try.prog 15 #[nodeV t a c] w fun e w' => e = .returned (.bool b) ∧ Keep (fun _ => False) w w' := by
  have hs := RT_sok t 12 hR
  have h := mnull_any t hs hc a c w hL
  rw [if_pos ((rightB_iff hs).2 hR), null_is hR, hb] at h
  exact h
theorem first_r {t : T} (hR : RT 12 t) (hc : cnt t ≤ 200) {s : ST} (hf : firstS t = s) (a : Option Addr) (c : Nat) (w : World) (hL : Lie w (fun _ => True) a t.subs) :
    Calls Try.prog 16 #[nodeV t a c] w fun e w' => e = .returned (val s) ∧ Keep (fun _ => False) w w' := by
  have hs := RT_sok t 12 hR
  have h := mfirst_any t hs hc a c w hL
  rw [if_pos ((rightB_iff hs).2 hR), tx_first t 12 hR, hf] at h
  exact h
theorem sets_r {t : T} (hR : RT 12 t) (hc : cnt t ≤ 200) {L : List ST} (hl : setsT t = L) (a : Option Addr) (c : Nat) (w : World) (hL : Lie w (fun _ => True) a t.subs) :
    Calls Try.prog 10 #[nodeV t a c] w fun e w' => ∃ v, e = .returned v ∧ Fr w w' v L := by
  have hs := RT_sok t 12 hR
  have h := msets_any t hs (by omega) a c w hL
  rw [if_pos ((rightB_iff hs).2 hR), hl] at h
  exact h

/-- An expression in block n. -/
structure Nd (W : World) (n : Nat) (t : T) (a : Option Addr) (c : Nat) : Prop where
  cell : At W n 27 (ncells t a c)
  lie : Lie W (fun _ => True) a t.subs
  le : t.subs.length ≤ c
theorem Nd.keep {W W' : World} {n : Nat} {t : T} {a : Option Addr} {c : Nat} (h : Nd W n t a c) (q : Keep (fun _ => False) W W') : Nd W' n t a c := ⟨h.cell.keep q (fun h => h), h.lie.keepF q, h.le⟩
theorem Nd.new {W : World} {t : T} {a : Option Addr} {c : Nat} {ok : Nat → Prop} (hle : t.subs.length ≤ c) (hL : Lie W ok a t.subs) : Nd (W.alloc (.cells (ncells t a c) 27)) W.heap.size t a c :=
  ⟨At.new W _ _, (hL.mono (fun _ _ => trivial)).keepF ((Keep.refl (fun _ => False) W).alloc _), hle⟩
/-- Parse of a text that is right. -/
theorem parse_right9 {F : Nat} {l : List UInt8} {t : T} (h : parse F l = .inr t) (hF : l.length + 2 ≤ F) (hl : l.length ≤ 100000000) (w : World) :
    Calls Try.prog 29 #[P07.str l] w fun e w' => ∃ a c, e = .returned (.tuple #[nodeV t a c, .int .i64 0, .int .i64 0]) ∧ t.subs.length ≤ c ∧ Lie w' (fun k => w.heap.size ≤ k) a t.subs ∧ Keep (fun _ => False) w w' := by
  refine (regex_any F l hF hl w).mono ?_
  rintro e w' ⟨hP, q⟩
  rw [h] at hP
  obtain ⟨v, rfl, a, c, rfl, hle, hL⟩ := hP
  exact ⟨a, c, rfl, hle, hL, q⟩

def awT (F : Nat) (l : List UInt8) : Nat × Int × Bool × Int × Int × Bool × Nat × ST := match parse F l with
  | .inr t => (cnt t, wd t, nullB t, leastI t, mostI t, noneB t, (setsT t).length, firstS t)
  | .inl _ => (0, 0, false, 0, 0, false, 0, .none)
theorem aw1 : awT 11 [97, 123, 50, 44, 51, 125, 124, 98, 42] = (5, 14, true, 0, -1, false, 2, ST.range 97 98) := by kernel_rfl
theorem aw2 : ((awT 5 [97, 91, 93]).1, (awT 5 [97, 91, 93]).2.2.2.1, (awT 5 [97, 91, 93]).2.2.2.2.1, (awT 5 [97, 91, 93]).2.2.2.2.2.1) = (3, -1, -1, true) := by kernel_rfl
theorem aw4 : rightB (.nd 0 zS 0 0 []) = false := by kernel_rfl
end Go.Proofs.Ytblijgcfelnlmaa.P09
/- Layer 9: awake answers true. -/
namespace Go.Proofs.Ytblijgcfelnlmaa.P09
open Go.RowKit Go.Proofs.Ytblijgcfelnlmaa.Base Go.Proofs.Ytblijgcfelnlmaa.Bytes Go.Proofs.Ytblijgcfelnlmaa.P07 Go.Proofs.Ytblijgcfelnlmaa.P08
open Go.Proofs.Ytblijgcfelnlmaa.Sets (ST)

theorem eq_range (W : World) : (Op.equalIn 10000 24 (val (ST.range 97 98)) (val (ST.range 97 98))).run Try.prog W = .ok true W := by
  rw [eq_set, eqB_refl]

set_option maxRecDepth 100000 in
set_option maxHeartbeats 8000000 in
theorem awake_true (w : World) : Calls Try.prog 8 #[] w fun e w' => e = .returned (.bool true) ∧ Keep (fun _ => False) w w' := by
  obtain ⟨t, ht, e1, e2, e3, e4, e5, e6, e7, e8⟩ : ∃ t, parse 11 [97, 123, 50, 44, 51, 125, 124, 98, 42] = .inr t ∧ cnt t = 5 ∧ wd t = 14 ∧ nullB t = true ∧ leastI t = 0 ∧ mostI t = -1 ∧ noneB t = false ∧ (setsT t).length = 2 ∧ firstS t = ST.range 97 98 := by
    have h := aw1
    unfold awT at h
    cases hp : parse 11 [97, 123, 50, 44, 51, 125, 124, 98, 42] with
    | inl p => rw [hp] at h; cases h
    | inr t =>
      rw [hp] at h
      injection h with h1 h
      injection h with h2 h
      injection h with h3 h
      injection h with h4 h
      injection h with h5 h
      injection h with h6 h
      injection h with h7 h8
      exact ⟨t, rfl, h1, h2, h3, h4, h5, h6, h7, h8⟩
  obtain ⟨m, hm, f1, f2, f3, f4⟩ : ∃ m, parse 5 [97, 91, 93] = .inr m ∧ cnt m = 3 ∧ leastI m = -1 ∧ mostI m = -1 ∧ noneB m = true := by
    have h := aw2
    unfold awT at h
    cases hp : parse 5 [97, 91, 93] with
    | inl p => rw [hp] at h; cases h
    | inr m =>
      rw [hp] at h
      injection h with h1 h
      injection h with h2 h
      injection h with h3 h4
      exact ⟨m, rfl, h1, h2, h3, h4⟩
  have hRt := read_right ht
  have hRm := read_right hm
  obtain ⟨LS, hLS⟩ : ∃ LS, setsT t = LS := ⟨_, rfl⟩
  rw [hLS] at e7
  have hzs : SOk (.nd 0 zS 0 0 []) := by rw [SOk, SOkL]; exact ⟨ST.none_ok, trivial⟩
  have z1 := fun W => msize_any (.nd 0 zS 0 0 []) hzs (by decide) none 0 W (.nil _)
  have z2 := fun W => mwide_any (.nd 0 zS 0 0 []) hzs none 0 W (.nil _)
  rw [aw4] at z1 z2
  have HP := Lib.hid (And.intro (fun W => parse_right9 ht (by decide) (by decide) W) (fun W => parse_right9 hm (by decide) (by decide) W))
  have hc : cnt t ≤ 200 := by omega
  have hcm : cnt m ≤ 200 := by omega
  have HT := Lib.hid (And.intro (size_r hRt hc e1) (And.intro (wide_r hRt e2) (And.intro (null_r hRt hc e3) (And.intro (length_r hRt hc e4 e5) (And.intro (none_r hRt hc e6) (And.intro (first_r hRt hc e8) (And.intro (sets_r hRt hc hLS) e7)))))))
  have HM := Lib.hid (And.intro (length_r hRm hcm f2 f3) (none_r hRm hcm f4))
  have HZ := Lib.hid (And.intro z1 z2)
  have hes := eq_range
  obtain ⟨R, hR⟩ : ∃ R, ST.range 97 98 = R := ⟨_, rfl⟩
  have hof := fun W => Bytes.of_any 97 98 (by decide) (by decide) W
  rw [hR] at HT hes hof
  have HO := Lib.hid hof
  clear hRt hRm hc hcm e1 e2 e3 e4 e5 e6 e7 e8 f1 f2 f3 f4 z1 z2 hLS hR ht hm hzs hof
  go_enter Try.func8, Try.ntmps8
  go_wp2_with fail
  refine (HP.out.1 w).mono ?_
  rintro e w1 ⟨a, c, rfl, hle, hLt, q1⟩
  have I1 := Lib.hid (And.intro (Nd.new hle hLt) (q1.alloc (.cells (ncells t a c) 27)))
  clear hle hLt q1
  go_upto_region 2 with fail
  generalize (w1.alloc (.cells (ncells t a c) 27)) = W1 at *
  generalize w1.heap.size = n1 at *
  go_wp2_with fail
  refine (HP.out.2 W1).mono ?_
  rintro e w2 ⟨b, d, rfl, hle, hLm, q2⟩
  have I2 := Lib.hid (And.intro (Nd.new hle hLm) (And.intro ((I1.out.1.keep q2).keep ((Keep.refl (fun _ => False) w2).alloc (.cells (ncells m b d) 27))) ((I1.out.2.trans q2).alloc (.cells (ncells m b d) 27))))
  clear hle hLm q2
  go_upto_region 3 with fail
  generalize (w2.alloc (.cells (ncells m b d) 27)) = W2 at *
  generalize w2.heap.size = n2 at *
  have K2 := Lib.hid (Keep.refl (fun _ => False) W2)
  have HA := Lib.hid (fun (W' : World) (q : Keep (fun _ => False) W2 W') => (cells8 (I2.out.2.1.keep q).cell).1)
  have HB := Lib.hid (fun (W' : World) (q : Keep (fun _ => False) W2 W') => (cells8 (I2.out.1.keep q).cell).1)
  obtain ⟨x0, x1, x2, x3, x4, x5, x6, x7⟩ := HA.out _ K2.out
  go_wp2_with fail
  refine (HT.out.2.2.2.1 a c W2 I2.out.2.1.lie).mono ?_
  rintro e w3 ⟨rfl, q3⟩
  have K3 := Lib.hid (K2.out.trans q3)
  clear q3 x0 x1 x2 x3 x4 x5 x6 x7
  obtain ⟨y0, y1, y2, y3, y4, y5, y6, y7⟩ := HB.out _ K3.out
  go_wp2_with fail
  refine (HM.out.1 b d w3 (I2.out.1.lie.keepF K3.out)).mono ?_
  rintro e w4 ⟨rfl, q4⟩
  have K4 := Lib.hid (K3.out.trans q4)
  clear q4 y0 y1 y2 y3 y4 y5 y6 y7
  obtain ⟨x0, x1, x2, x3, x4, x5, x6, x7⟩ := HA.out _ K4.out
  go_wp2_with fail
  refine (HT.out.1 a c w4 (I2.out.2.1.lie.keepF K4.out)).mono ?_
  rintro e w5 ⟨rfl, q5⟩
  have K5 := Lib.hid (K4.out.trans q5)
  clear q5 x0 x1 x2 x3 x4 x5 x6 x7
  obtain ⟨x0, x1, x2, x3, x4, x5, x6, x7⟩ := HA.out _ K5.out
  go_wp2_with fail
  refine (HT.out.2.1 a c w5 (I2.out.2.1.lie.keepF K5.out)).mono ?_
  rintro e w6 ⟨rfl, q6⟩
  have K6 := Lib.hid (K5.out.trans q6)
  clear q6 x0 x1 x2 x3 x4 x5 x6 x7
  obtain ⟨x0, x1, x2, x3, x4, x5, x6, x7⟩ := HA.out _ K6.out
  go_wp2_with fail
  refine (HT.out.2.2.1 a c w6 (I2.out.2.1.lie.keepF K6.out)).mono ?_
  rintro e w7 ⟨rfl, q7⟩
  have K7 := Lib.hid (K6.out.trans q7)
  clear q7 x0 x1 x2 x3 x4 x5 x6 x7
  obtain ⟨x0, x1, x2, x3, x4, x5, x6, x7⟩ := HA.out _ K7.out
  go_wp2_with fail
  refine (HT.out.2.2.2.2.2.1 a c w7 (I2.out.2.1.lie.keepF K7.out)).mono ?_
  rintro e w8 ⟨rfl, q8⟩
  have K8 := Lib.hid (K7.out.trans q8)
  clear q8 x0 x1 x2 x3 x4 x5 x6 x7
  go_wp2_with fail
  refine (HO.out w8).mono ?_
  rintro e w9 ⟨rfl, q9⟩
  have K9 := Lib.hid (K8.out.trans q9)
  clear q9
  obtain ⟨y0, y1, y2, y3, y4, y5, y6, y7⟩ := HB.out _ K9.out
  go_wp2_with fail
  refine (HM.out.2 b d w9 (I2.out.1.lie.keepF K9.out)).mono ?_
  rintro e w10 ⟨rfl, q10⟩
  have K10 := Lib.hid (K9.out.trans q10)
  clear q10 y0 y1 y2 y3 y4 y5 y6 y7
  obtain ⟨x0, x1, x2, x3, x4, x5, x6, x7⟩ := HA.out _ K10.out
  go_wp2_with fail
  refine (HT.out.2.2.2.2.1 a c w10 (I2.out.2.1.lie.keepF K10.out)).mono ?_
  rintro e w11 ⟨rfl, q11⟩
  have K11 := Lib.hid (K10.out.trans q11)
  clear q11 x0 x1 x2 x3 x4 x5 x6 x7
  obtain ⟨x0, x1, x2, x3, x4, x5, x6, x7⟩ := HA.out _ K11.out
  go_wp2_with fail
  refine (HT.out.2.2.2.2.2.2.1 a c w11 (I2.out.2.1.lie.keepF K11.out)).mono ?_
  rintro e w12 ⟨v, rfl, hfr⟩
  have K12 := Lib.hid (K11.out.trans hfr.q)
  obtain ⟨aL, cL, rfl, -, -⟩ := hfr.ol.form
  rw [HT.out.2.2.2.2.2.2.2]
  clear hfr x0 x1 x2 x3 x4 x5 x6 x7
  go_wp2_with fail
  refine (HZ.out.1 w12).mono ?_
  rintro e w13 ⟨rfl, q13⟩
  have K13 := Lib.hid (K12.out.trans q13)
  clear q13
  go_wp2_with fail
  refine (HZ.out.2 w13).mono ?_
  rintro e w14 ⟨rfl, q14⟩
  have K14 := Lib.hid (I2.out.2.2.trans (K13.out.trans q14))
  clear q14
  go_wp2_with fail
  go_ret
  exact ⟨rfl, K14.out⟩
end Go.Proofs.Ytblijgcfelnlmaa.P09
/- MeasureKnows: the walk. -/
namespace Go.Proofs.Ytblijgcfelnlmaa.P09
open Go.RowKit Go.Proofs.Ytblijgcfelnlmaa.Base Go.Proofs.Ytblijgcfelnlmaa.Bytes Go.Proofs.Ytblijgcfelnlmaa.P07 Go.Proofs.Ytblijgcfelnlmaa.P08
open Go.Proofs.Ytblijgcfelnlmaa.Sets (ST)

set_option maxRecDepth 100000 in
set_option maxHeartbeats 16000000 in
theorem law_knows (t : T) (a : Option Addr) (c : Nat) (w : World) (hta : Lie w (fun _ => True) a t.subs) (hcl : t.subs.length ≤ c) (ht : cnt t ≤ 1000000000) (hst : SOk t) :
    Calls Try.prog 4 #[nodeV t a c] w fun e w' => e = .returned (.bool true) ∧ Keep (fun _ => False) w w' := by
  have q := (Keep.refl (fun _ => False) w).alloc (.cells (ncells t a c) 27)
  have H0 := Lib.hid (And.intro q (show Nd _ w.heap.size t a c from ⟨At.new w _ _, hta.keepF q, hcl⟩))
  have HCT := Lib.hid (And.intro ht hst)
  clear q hta hcl ht hst
  go_enter Try.func4, Try.ntmps4
  go_upto_region 1 with fail
  generalize (w.alloc (.cells (ncells t a c) 27)) = W0 at *
  go_wp2_with fail
  refine (awake_true W0).mono ?_
  rintro e w1 ⟨rfl, q1⟩
  have H1 := Lib.hid (And.intro (H0.out.1.trans q1) (H0.out.2.keep q1))
  clear q1
  obtain ⟨x0, x1, x2, x3, x4, x5, x6, x7⟩ := (cells8 H1.out.2.cell).1
  go_wp2_with fail
  refine (few_any t HCT.out.1 a c w1 H1.out.2.lie).mono ?_
  rintro e w2 ⟨rfl, q2⟩
  have H2 := Lib.hid (And.intro (H1.out.1.trans q2) (H1.out.2.keep q2))
  clear q2 x0 x1 x2 x3 x4 x5 x6 x7
  by_cases h1 : sz t ≤ 200
  case neg =>
    have g1 : decide (sz t ≤ 200) = false := decide_eq_false h1
    rw [g1]
    clear g1 h1
    go_wp2_with fail
    refine (awake_true w2).mono ?_
    rintro e w3 ⟨rfl, q3⟩
    have Q3 := Lib.hid (H2.out.1.trans q3)
    clear q3
    go_wp2_with fail
    go_ret
    exact ⟨rfl, Q3.out⟩
  have g1 : decide (sz t ≤ 200) = true := decide_eq_true h1
  rw [g1]
  have HF1 := Lib.hid (few_cnt h1)
  clear g1 h1
  obtain ⟨x0, x1, x2, x3, x4, x5, x6, x7⟩ := (cells8 H2.out.2.cell).1
  go_wp2_with fail
  refine (fright_any t HCT.out.1 a c w2 H2.out.2.lie).mono ?_
  rintro e w3 ⟨rfl, q3⟩
  have H3 := Lib.hid (And.intro (H2.out.1.trans q3) (H2.out.2.keep q3))
  clear q3 x0 x1 x2 x3 x4 x5 x6 x7
  cases h3 : rightB t with
  | false =>
    clear h3
    go_wp2_with fail
    refine (awake_true w3).mono ?_
    rintro e w4 ⟨rfl, q4⟩
    have Q4 := Lib.hid (H3.out.1.trans q4)
    clear q4
    go_wp2_with fail
    go_ret
    exact ⟨rfl, Q4.out⟩
  | true =>
    have hR := (rightB_iff HCT.out.2).1 h3
    have hc := HF1.out
    have hb : bnd 12 (cnt t) ≤ 9000000000000000000 := by have := bnd_small hc; omega
    obtain ⟨b1, hb1⟩ : ∃ b1, nullB t = b1 := ⟨_, rfl⟩
    obtain ⟨b2, hb2⟩ : ∃ b2, noneB t = b2 := ⟨_, rfl⟩
    obtain ⟨s, hs⟩ : ∃ s, firstS t = s := ⟨_, rfl⟩
    obtain ⟨x, hx⟩ : ∃ x, leastI t = x := ⟨_, rfl⟩
    obtain ⟨y, hy⟩ : ∃ y, mostI t = y := ⟨_, rfl⟩
    have hL := fun W' (q : Keep (fun _ => False) w3 W') => H3.out.2.lie.keepF q
    have k1 := fun W' q => null_r hR hc hb1 a c W' (hL W' q)
    have k2 := fun W' q => none_r hR hc hb2 a c W' (hL W' q)
    have k3 := fun W' q => first_r hR hc hs a c W' (hL W' q)
    have k4 := fun W' q => fnull_any t 12 hR a c W' (hL W' q)
    have k5 := fun W' q => fnone_any t 12 hR a c W' (hL W' q)
    have k6 := fun W' q => ffirst_all _ t (Nat.lt_succ_self _) hc 12 hR a c W' (hL W' q)
    have k7 := fun W' q => fleast_any t 12 hR hb a c W' (hL W' q)
    have k8 := fun W' q => fmost_any t 12 hR hb a c W' (hL W' q)
    have k9 := fun W' q => length_r hR hc hx hy a c W' (hL W' q)
    rw [hb1] at k4
    rw [hb2] at k5
    rw [hs] at k6
    rw [hx] at k7
    rw [hy] at k8
    have hes : ∀ W, (Op.equalIn 10000 24 (val s) (val s)).run Try.prog W = .ok true W := fun W => by rw [eq_set, eqB_refl]
    have g1 : (b1 == b1) = true := by simp
    have g2 : (b2 == b2) = true := by simp
    have g3 : (x == x) = true := by simp
    have g4 : (y == y) = true := by simp
    have HX := Lib.hid (And.intro k1 (And.intro k2 (And.intro k3 (And.intro k4 (And.intro k5 (And.intro k6 (And.intro k7 (And.intro k8 k9))))))))
    have hS : ∀ w', Keep (fun _ => False) w3 w' → Keep (fun _ => False) w3 w' ∧ w'.cell? ⟨w.heap.size, 0, none⟩ = some (.int .i64 t.kind) ∧ w'.cell? ⟨w.heap.size, 1, none⟩ = some (.int .u64 t.set.x0) ∧ w'.cell? ⟨w.heap.size, 2, none⟩ = some (.int .u64 t.set.x1) ∧ w'.cell? ⟨w.heap.size, 3, none⟩ = some (.int .u64 t.set.x2) ∧ w'.cell? ⟨w.heap.size, 4, none⟩ = some (.int .u64 t.set.x3) ∧ w'.cell? ⟨w.heap.size, 5, none⟩ = some (.int .i64 t.mn) ∧ w'.cell? ⟨w.heap.size, 6, none⟩ = some (.int .i64 t.mx) ∧ w'.cell? ⟨w.heap.size, 7, none⟩ = some (.slice a t.subs.length c) := fun w' q' => ⟨q', (cells8 (H3.out.2.keep q').cell).1⟩
    have HS := Lib.hid hS
    clear h3 hR hc hb hb1 hb2 hs hx hy hL k1 k2 k3 k4 k5 k6 k7 k8 k9 hS
    obtain ⟨x0, x1, x2, x3, x4, x5, x6, x7⟩ := (cells8 H3.out.2.cell).1
    go_wp2_with fail
    refine (HX.out.2.2.2.2.2.2.2.2 w3 (Keep.refl _ _)).mono ?_
    rintro e w4 ⟨rfl, q4⟩
    obtain ⟨-, x0, x1, x2, x3, x4, x5, x6, x7⟩ := HS.out w4 q4
    have Q4 := Lib.hid q4
    clear q4
    go_wp2_with fail
    go_region_held3 (fun w' => Keep (fun _ => False) w3 w' ∧ w'.cell? ⟨w.heap.size, 0, none⟩ = some (.int .i64 t.kind) ∧ w'.cell? ⟨w.heap.size, 1, none⟩ = some (.int .u64 t.set.x0) ∧ w'.cell? ⟨w.heap.size, 2, none⟩ = some (.int .u64 t.set.x1) ∧ w'.cell? ⟨w.heap.size, 3, none⟩ = some (.int .u64 t.set.x2) ∧ w'.cell? ⟨w.heap.size, 4, none⟩ = some (.int .u64 t.set.x3) ∧ w'.cell? ⟨w.heap.size, 5, none⟩ = some (.int .i64 t.mn) ∧ w'.cell? ⟨w.heap.size, 6, none⟩ = some (.int .i64 t.mx) ∧ w'.cell? ⟨w.heap.size, 7, none⟩ = some (.slice a t.subs.length c)) (first | assumption | exact HS.out _ (Q4.out.drew) | exact HS.out _ (Keep.trans (And.left (by assumption)) q)) (first
      | (go_at_call 15; refine (HX.out.1 _ (And.left (by assumption))).mono ?_; rintro e w5 ⟨rfl, q⟩)
      | (go_at_call 21; refine (HX.out.2.2.2.1 _ (And.left (by assumption))).mono ?_; rintro e w5 ⟨rfl, q⟩)
      | (go_at_call 17; refine (HX.out.2.1 _ (And.left (by assumption))).mono ?_; rintro e w5 ⟨rfl, q⟩)
      | (go_at_call 22; refine (HX.out.2.2.2.2.1 _ (And.left (by assumption))).mono ?_; rintro e w5 ⟨rfl, q⟩)
      | (go_at_call 16; refine (HX.out.2.2.1 _ (And.left (by assumption))).mono ?_; rintro e w5 ⟨rfl, q⟩)
      | (go_at_call 23; refine (HX.out.2.2.2.2.2.1 _ (And.left (by assumption))).mono ?_; rintro e w5 ⟨rfl, q⟩)
      | (go_at_call 24; refine (HX.out.2.2.2.2.2.2.1 _ (And.left (by assumption))).mono ?_; rintro e w5 ⟨rfl, q⟩)
      | (go_at_call 25; refine (HX.out.2.2.2.2.2.2.2.1 _ (And.left (by assumption))).mono ?_; rintro e w5 ⟨rfl, q⟩))
    all_goals
      rename_i hh
      have HK := Lib.hid (H3.out.1.trans hh.1)
      clear hh
      go_wp2_with fail
      go_ret
      exact ⟨rfl, HK.out⟩
end Go.Proofs.Ytblijgcfelnlmaa.P09
