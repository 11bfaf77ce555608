/- Layer 9: the code's measures of right expressions are the document's numbers; an expression in a box; Parse. -/
import Derived.Test.YtblijgcfelnlmaaKP43
import Derived.Test.YtblijgcfelnlmaaKP45
import Derived.Test.YtblijgcfelnlmaaKP31
import Derived.Test.YtblijgcfelnlmaaKP46
import Derived.Test.YtblijgcfelnlmaaKP07
import Derived.Test.YtblijgcfelnlmaaKP44
namespace Go.Proofs.Ytblijgcfelnlmaa.P09
open Go.RowKit Go.Proofs.Ytblijgcfelnlmaa.Base Go.Proofs.Ytblijgcfelnlmaa.Bytes Go.Proofs.Ytblijgcfelnlmaa.P07 Go.Proofs.Ytblijgcfelnlmaa.P08
open Go.Proofs.Ytblijgcfelnlmaa.Sets (ST)

theorem len_is {t : T} (hR : RT 12 t) : (txOf t).len = (leastI t, mostI t) := by
  have hS := tx_same t 12 hR
  have hB := least_bnd t 12 hR
  unfold TX.len
  cases hn : noneB t with
  | true =>
    have hm : mostI t = -1 := by rw [mostI_eq, if_pos hn]
    rw [if_pos (hS.none.trans hn), hB.1 hn, hm]
  | false =>
    rw [if_neg (by rw [hS.none, hn]; decide), hS.least hn]
    cases he : (txOf t).endless with
    | true => rw [if_pos rfl, hS.inf hn he]
    | false => rw [if_neg (by decide), hS.fin hn he]
theorem null_is {t : T} (hR : RT 12 t) : (!(txOf t).none && decide ((txOf t).least = 0)) = nullB t := by
  have hS := tx_same t 12 hR
  rw [nullB_iff hR, hS.none]
  cases hn : noneB t with
  | true => rfl
  | false => rw [hS.least hn]

theorem size_r {t : T} (hR : RT 12 t) (hc : cnt t ≤ 200) {n : Nat} (hn : cnt t = n) (a : Option Addr) (c : Nat) (w : World) (hL : Lie w (fun _ => True) a t.subs) :
    Calls Try.prog 13 #[nodeV t a c] w fun e w' => e = .returned (.int .i64 n) ∧ Keep (fun _ => False) w w' := by
  have hs := RT_sok t 12 hR
  have h := msize_any t hs (by omega) a c w hL
  rw [if_pos ((rightB_iff hs).2 hR), hn] at h
  exact h
theorem wide_r {t : T} (hR : RT 12 t) {n : Int} (hn : wd t = n) (a : Option Addr) (c : Nat) (w : World) (hL : Lie w (fun _ => True) a t.subs) :
    Calls Try.prog 14 #[nodeV t a c] w fun e w' => e = .returned (.int .i64 n) ∧ Keep (fun _ => False) w w' := by
  have hs := RT_sok t 12 hR
  have h := mwide_any t hs a c w hL
  rw [if_pos ((rightB_iff hs).2 hR), hn] at h
  exact h
theorem length_r {t : T} (hR : RT 12 t) (hc : cnt t ≤ 200) {x y : Int} (hx : leastI t = x) (hy : mostI t = y) (a : Option Addr) (c : Nat) (w : World) (hL : Lie w (fun _ => True) a t.subs) :
    Calls Try.prog 12 #[nodeV t a c] w fun e w' => e = .returned (.tuple #[.int .i64 x, .int .i64 y]) ∧ Keep (fun _ => False) w w' := by
  have hs := RT_sok t 12 hR
  have h := mlength_any t hs hc a c w hL
  rw [if_pos ((rightB_iff hs).2 hR), len_is hR, hx, hy] at h
  exact h
theorem none_r {t : T} (hR : RT 12 t) (hc : cnt t ≤ 200) {b : Bool} (hb : noneB t = b) (a : Option Addr) (c : Nat) (w : World) (hL : Lie w (fun _ => True) a t.subs) :
    Calls Try.prog 17 #[nodeV t a c] w fun e w' => e = .returned (.bool b) ∧ Keep (fun _ => False) w w' := by
  have hs := RT_sok t 12 hR
  have h := mnone_any t hs hc a c w hL
  rw [if_pos ((rightB_iff hs).2 hR), (tx_same t 12 hR).none, hb] at h
  exact h
theorem null_r {t : T} (hR : RT 12 t) (hc : cnt t ≤ 200) {b : Bool} (hb : nullB t = b) (a : Option Addr) (c : Nat) (w : World) (hL : Lie w (fun _ => True) a t.subs) :
    Calls Try.prog 15 #[nodeV t a c] w fun e w' => e = .returned (.bool b) ∧ Keep (fun _ => False) w w' := by
  have hs := RT_sok t 12 hR
  have h := mnull_any t hs hc a c w hL
  rw [if_pos ((rightB_iff hs).2 hR), null_is hR, hb] at h
  exact h
theorem first_r {t : T} (hR : RT 12 t) (hc : cnt t ≤ 200) {s : ST} (hf : firstS t = s) (a : Option Addr) (c : Nat) (w : World) (hL : Lie w (fun _ => True) a t.subs) :
    Calls Try.prog 16 #[nodeV t a c] w fun e w' => e = .returned (val s) ∧ Keep (fun _ => False) w w' := by
  have hs := RT_sok t 12 hR
  have h := mfirst_any t hs hc a c w hL
  rw [if_pos ((rightB_iff hs).2 hR), tx_first t 12 hR, hf] at h
  exact h
theorem sets_r {t : T} (hR : RT 12 t) (hc : cnt t ≤ 200) {L : List ST} (hl : setsT t = L) (a : Option Addr) (c : Nat) (w : World) (hL : Lie w (fun _ => True) a t.subs) :
    Calls Try.prog 10 #[nodeV t a c] w fun e w' => ∃ v, e = .returned v ∧ Fr w w' v L := by
  have hs := RT_sok t 12 hR
  have h := msets_any t hs (by omega) a c w hL
  rw [if_pos ((rightB_iff hs).2 hR), hl] at h
  exact h

/-- An expression in block n. -/
structure Nd (W : World) (n : Nat) (t : T) (a : Option Addr) (c : Nat) : Prop where
  cell : At W n 27 (ncells t a c)
  lie : Lie W (fun _ => True) a t.subs
  le : t.subs.length ≤ c
theorem Nd.keep {W W' : World} {n : Nat} {t : T} {a : Option Addr} {c : Nat} (h : Nd W n t a c) (q : Keep (fun _ => False) W W') : Nd W' n t a c := ⟨h.cell.keep q (fun h => h), h.lie.keepF q, h.le⟩
theorem Nd.new {W : World} {t : T} {a : Option Addr} {c : Nat} {ok : Nat → Prop} (hle : t.subs.length ≤ c) (hL : Lie W ok a t.subs) : Nd (W.alloc (.cells (ncells t a c) 27)) W.heap.size t a c :=
  ⟨At.new W _ _, (hL.mono (fun _ _ => trivial)).keepF ((Keep.refl (fun _ => False) W).alloc _), hle⟩
/-- Parse of a text that is right. -/
theorem parse_right9 {F : Nat} {l : List UInt8} {t : T} (h : parse F l = .inr t) (hF : l.length + 2 ≤ F) (hl : l.length ≤ 100000000) (w : World) :
    Calls Try.prog 29 #[P07.str l] w fun e w' => ∃ a c, e = .returned (.tuple #[nodeV t a c, .int .i64 0, .int .i64 0]) ∧ t.subs.length ≤ c ∧ Lie w' (fun k => w.heap.size ≤ k) a t.subs ∧ Keep (fun _ => False) w w' := by
  refine (regex_any F l hF hl w).mono ?_
  rintro e w' ⟨hP, q⟩
  rw [h] at hP
  obtain ⟨v, rfl, a, c, rfl, hle, hL⟩ := hP
  exact ⟨a, c, rfl, hle, hL, q⟩

def awT (F : Nat) (l : List UInt8) : Nat × Int × Bool × Int × Int × Bool × Nat × ST := match parse F l with
  | .inr t => (cnt t, wd t, nullB t, leastI t, mostI t, noneB t, (setsT t).length, firstS t)
  | .inl _ => (0, 0, false, 0, 0, false, 0, .none)
theorem aw1 : awT 11 [97, 123, 50, 44, 51, 125, 124, 98, 42] = (5, 14, true, 0, -1, false, 2, ST.range 97 98) := by kernel_rfl
theorem aw2 : ((awT 5 [97, 91, 93]).1, (awT 5 [97, 91, 93]).2.2.2.1, (awT 5 [97, 91, 93]).2.2.2.2.1, (awT 5 [97, 91, 93]).2.2.2.2.2.1) = (3, -1, -1, true) := by kernel_rfl
theorem aw4 : rightB (.nd 0 zS 0 0 []) = false := by kernel_rfl
end Go.Proofs.Ytblijgcfelnlmaa.P09
/- Layer 9: awake answers true. -/
namespace Go.Proofs.Ytblijgcfelnlmaa.P09
open Go.RowKit Go.Proofs.Ytblijgcfelnlmaa.Base Go.Proofs.Ytblijgcfelnlmaa.Bytes Go.Proofs.Ytblijgcfelnlmaa.P07 Go.Proofs.Ytblijgcfelnlmaa.P08
open Go.Proofs.Ytblijgcfelnlmaa.Sets (ST)

theorem eq_range (W : World) : (Op.equalIn 10000 24 (val (ST.range 97 98)) (val (ST.range 97 98))).run Try.prog W = .ok true W := by
  rw [eq_set, eqB_refl]

set_option maxRecDepth 100000 in
set_option maxHeartbeats 8000000 in
theorem awake_true (w : World) : Calls Try.prog 8 #[] w fun e w' => e = .returned (.bool true) ∧ Keep (fun _ => False) w w' := by
  obtain ⟨t, ht, e1, e2, e3, e4, e5, e6, e7, e8⟩ : ∃ t, parse 11 [97, 123, 50, 44, 51, 125, 124, 98, 42] = .inr t ∧ cnt t = 5 ∧ wd t = 14 ∧ nullB t = true ∧ leastI t = 0 ∧ mostI t = -1 ∧ noneB t = false ∧ (setsT t).length = 2 ∧ firstS t = ST.range 97 98 := by
    have h := aw1
    unfold awT at h
    cases hp : parse 11 [97, 123, 50, 44, 51, 125, 124, 98, 42] with
    | inl p => rw [hp] at h; cases h
    | inr t =>
      rw [hp] at h
      injection h with h1 h
      injection h with h2 h
      injection h with h3 h
      injection h with h4 h
      injection h with h5 h
      injection h with h6 h
      injection h with h7 h8
      exact ⟨t, rfl, h1, h2, h3, h4, h5, h6, h7, h8⟩
  obtain ⟨m, hm, f1, f2, f3, f4⟩ : ∃ m, parse 5 [97, 91, 93] = .inr m ∧ cnt m = 3 ∧ leastI m = -1 ∧ mostI m = -1 ∧ noneB m = true := by
    have h := aw2
    unfold awT at h
    cases hp : parse 5 [97, 91, 93] with
    | inl p => rw [hp] at h; cases h
    | inr m =>
      rw [hp] at h
      injection h with h1 h
      injection h with h2 h
      injection h with h3 h4
      exact ⟨m, rfl, h1, h2, h3, h4⟩
  have hRt := read_right ht
  have hRm := read_right hm
  obtain ⟨LS, hLS⟩ : ∃ LS, setsT t = LS := ⟨_, rfl⟩
  rw [hLS] at e7
  have hzs : SOk (.nd 0 zS 0 0 []) := by rw [SOk, SOkL]; exact ⟨ST.none_ok, trivial⟩
  have z1 := fun W => msize_any (.nd 0 zS 0 0 []) hzs (by decide) none 0 W (.nil _)
  have z2 := fun W => mwide_any (.nd 0 zS 0 0 []) hzs none 0 W (.nil _)
  rw [aw4] at z1 z2
  have HP := Lib.hid (And.intro (fun W => parse_right9 ht (by decide) (by decide) W) (fun W => parse_right9 hm (by decide) (by decide) W))
  have hc : cnt t ≤ 200 := by omega
  have hcm : cnt m ≤ 200 := by omega
  have HT := Lib.hid (And.intro (size_r hRt hc e1) (And.intro (wide_r hRt e2) (And.intro (null_r hRt hc e3) (And.intro (length_r hRt hc e4 e5) (And.intro (none_r hRt hc e6) (And.intro (first_r hRt hc e8) (And.intro (sets_r hRt hc hLS) e7)))))))
  have HM := Lib.hid (And.intro (length_r hRm hcm f2 f3) (none_r hRm hcm f4))
  have HZ := Lib.hid (And.intro z1 z2)
  have hes := eq_range
  obtain ⟨R, hR⟩ : ∃ R, ST.range 97 98 = R := ⟨_, rfl⟩
  have hof := fun W => Bytes.of_any 97 98 (by decide) (by decide) W
  rw [hR] at HT hes hof
  have HO := Lib.hid hof
  clear hRt hRm hc hcm e1 e2 e3 e4 e5 e6 e7 e8 f1 f2 f3 f4 z1 z2 hLS hR ht hm hzs hof
  go_enter Try.func8, Try.ntmps8
  go_wp2_with fail
  refine (HP.out.1 w).mono ?_
  rintro e w1 ⟨a, c, rfl, hle, hLt, q1⟩
  have I1 := Lib.hid (And.intro (Nd.new hle hLt) (q1.alloc (.cells (ncells t a c) 27)))
  clear hle hLt q1
  go_upto_region 2 with fail
  generalize (w1.alloc (.cells (ncells t a c) 27)) = W1 at *
  generalize w1.heap.size = n1 at *
  go_wp2_with fail
  refine (HP.out.2 W1).mono ?_
  rintro e w2 ⟨b, d, rfl, hle, hLm, q2⟩
  have I2 := Lib.hid (And.intro (Nd.new hle hLm) (And.intro ((I1.out.1.keep q2).keep ((Keep.refl (fun _ => False) w2).alloc (.cells (ncells m b d) 27))) ((I1.out.2.trans q2).alloc (.cells (ncells m b d) 27))))
  clear hle hLm q2
  go_upto_region 3 with fail
  generalize (w2.alloc (.cells (ncells m b d) 27)) = W2 at *
  generalize w2.heap.size = n2 at *
  have K2 := Lib.hid (Keep.refl (fun _ => False) W2)
  have HA := Lib.hid (fun (W' : World) (q : Keep (fun _ => False) W2 W') => (cells8 (I2.out.2.1.keep q).cell).1)
  have HB := Lib.hid (fun (W' : World) (q : Keep (fun _ => False) W2 W') => (cells8 (I2.out.1.keep q).cell).1)
  obtain ⟨x0, x1, x2, x3, x4, x5, x6, x7⟩ := HA.out _ K2.out
  go_wp2_with fail
  refine (HT.out.2.2.2.1 a c W2 I2.out.2.1.lie).mono ?_
  rintro e w3 ⟨rfl, q3⟩
  have K3 := Lib.hid (K2.out.trans q3)
  clear q3 x0 x1 x2 x3 x4 x5 x6 x7
  obtain ⟨y0, y1, y2, y3, y4, y5, y6, y7⟩ := HB.out _ K3.out
  go_wp2_with fail
  refine (HM.out.1 b d w3 (I2.out.1.lie.keepF K3.out)).mono ?_
  rintro e w4 ⟨rfl, q4⟩
  have K4 := Lib.hid (K3.out.trans q4)
  clear q4 y0 y1 y2 y3 y4 y5 y6 y7
  obtain ⟨x0, x1, x2, x3, x4, x5, x6, x7⟩ := HA.out _ K4.out
  go_wp2_with fail
  refine (HT.out.1 a c w4 (I2.out.2.1.lie.keepF K4.out)).mono ?_
  rintro e w5 ⟨rfl, q5⟩
  have K5 := Lib.hid (K4.out.trans q5)
  clear q5 x0 x1 x2 x3 x4 x5 x6 x7
  obtain ⟨x0, x1, x2, x3, x4, x5, x6, x7⟩ := HA.out _ K5.out
  go_wp2_with fail
  refine (HT.out.2.1 a c w5 (I2.out.2.1.lie.keepF K5.out)).mono ?_
  rintro e w6 ⟨rfl, q6⟩
  have K6 := Lib.hid (K5.out.trans q6)
  clear q6 x0 x1 x2 x3 x4 x5 x6 x7
  obtain ⟨x0, x1, x2, x3, x4, x5, x6, x7⟩ := HA.out _ K6.out
  go_wp2_with fail
  refine (HT.out.2.2.1 a c w6 (I2.out.2.1.lie.keepF K6.out)).mono ?_
  rintro e w7 ⟨rfl, q7⟩
  have K7 := Lib.hid (K6.out.trans q7)
  clear q7 x0 x1 x2 x3 x4 x5 x6 x7
  obtain ⟨x0, x1, x2, x3, x4, x5, x6, x7⟩ := HA.out _ K7.out
  go_wp2_with fail
  refine (HT.out.2.2.2.2.2.1 a c w7 (I2.out.2.1.lie.keepF K7.out)).mono ?_
  rintro e w8 ⟨rfl, q8⟩
  have K8 := Lib.hid (K7.out.trans q8)
  clear q8 x0 x1 x2 x3 x4 x5 x6 x7
  go_wp2_with fail
  refine (HO.out w8).mono ?_
  rintro e w9 ⟨rfl, q9⟩
  have K9 := Lib.hid (K8.out.trans q9)
  clear q9
  obtain ⟨y0, y1, y2, y3, y4, y5, y6, y7⟩ := HB.out _ K9.out
  go_wp2_with fail
  refine (HM.out.2 b d w9 (I2.out.1.lie.keepF K9.out)).mono ?_
  rintro e w10 ⟨rfl, q10⟩
  have K10 := Lib.hid (K9.out.trans q10)
  clear q10 y0 y1 y2 y3 y4 y5 y6 y7
  obtain ⟨x0, x1, x2, x3, x4, x5, x6, x7⟩ := HA.out _ K10.out
  go_wp2_with fail
  refine (HT.out.2.2.2.2.1 a c w10 (I2.out.2.1.lie.keepF K10.out)).mono ?_
  rintro e w11 ⟨rfl, q11⟩
  have K11 := Lib.hid (K10.out.trans q11)
  clear q11 x0 x1 x2 x3 x4 x5 x6 x7
  obtain ⟨x0, x1, x2, x3, x4, x5, x6, x7⟩ := HA.out _ K11.out
  go_wp2_with fail
  refine (HT.out.2.2.2.2.2.2.1 a c w11 (I2.out.2.1.lie.keepF K11.out)).mono ?_
  rintro e w12 ⟨v, rfl, hfr⟩
  have K12 := Lib.hid (K11.out.trans hfr.q)
  obtain ⟨aL, cL, rfl, -, -⟩ := hfr.ol.form
  rw [HT.out.2.2.2.2.2.2.2]
  clear hfr x0 x1 x2 x3 x4 x5 x6 x7
  go_wp2_with fail
  refine (HZ.out.1 w12).mono ?_
  rintro e w13 ⟨rfl, q13⟩
  have K13 := Lib.hid (K12.out.trans q13)
  clear q13
  go_wp2_with fail
  refine (HZ.out.2 w13).mono ?_
  rintro e w14 ⟨rfl, q14⟩
  have K14 := Lib.hid (I2.out.2.2.trans (K13.out.trans q14))
  clear q14
  go_wp2_with fail
  go_ret
  exact ⟨rfl, K14.out⟩
end Go.Proofs.Ytblijgcfelnlmaa.P09
/- MeasureParts: what an Alt and a Cat of two say, by their parts; two rows of two expressions in memory, and their boxes. -/
namespace Go.Proofs.Ytblijgcfelnlmaa.P09
open Go.RowKit Go.Proofs.Ytblijgcfelnlmaa.Base Go.Proofs.Ytblijgcfelnlmaa.Bytes Go.Proofs.Ytblijgcfelnlmaa.P07 Go.Proofs.Ytblijgcfelnlmaa.P08
open Go.Proofs.Ytblijgcfelnlmaa.Sets (ST)

def altT (t u : T) : T := .nd 4 .none 0 0 [t, u]
def catT (t u : T) : T := .nd 3 .none 0 0 [t, u]
theorem cnt_mono {p q : Nat → Bool} : ∀ {k : Nat}, (∀ b, b < k → p b = true → q b = true) → Sets.cnt p k ≤ Sets.cnt q k
  | 0, _ => Nat.le_refl _
  | k + 1, h => by
    have ih := cnt_mono (k := k) (fun b hb => h b (by omega))
    have h1 := h k (by omega)
    rw [Sets.cnt, Sets.cnt]
    cases hp : p k with
    | true =>
      rw [h1 hp]
      omega
    | false =>
      cases q k <;> simp <;> omega

/-- What they say. -/
structure Pt (t u : T) (both want : ST) : Prop where
  rt : RT 12 t
  ru : RT 12 u
  ct : cnt t ≤ 200
  cu : cnt u ≤ 200
  fa : firstS (altT t u) = both
  fc : firstS (catT t u) = want
  na : nullB (altT t u) = (nullB t || nullB u)
  nc : nullB (catT t u) = (nullB t && nullB u)
  wa : wd (altT t u) = wd (catT t u)
  le : (Bytes.lst want.has 256).length ≤ (Bytes.lst both.has 256).length
theorem pt_all {t u : T} (ha : RT 12 (altT t u)) (hn : cnt (altT t u) ≤ 200) :
    Pt t u ((firstS t).or (firstS u)) (if noneB t = true ∨ noneB u = true then .none else if nullB t = true then (firstS t).or (firstS u) else firstS t) := by
  have hrt : RT 12 t := RL_get ha.subs (i := 0) rfl
  have hru : RT 12 u := RL_get ha.subs (i := 1) rfl
  have hot := first_ok hrt
  have hou := first_ok hru
  have hcn : cnt (altT t u) = 1 + (cnt t + (cnt u + 0)) := by unfold altT; rw [cnt, cntL, cntL, cntL]
  refine ⟨hrt, hru, by omega, by omega, ?_, ?_, ?_, ?_, ?_, ?_⟩
  · unfold altT
    rw [firstS]
    split
    · rename_i h
      rw [noneB, if_neg (by decide), if_neg (by decide), if_pos rfl, allN, allN, allN, Bool.and_true, Bool.and_eq_true] at h
      rw [firstS_eq t, if_pos h.1, firstS_eq u, if_pos h.2, or_none ST.none_ok]
    · rw [if_neg (by decide), if_neg (by decide), if_pos rfl, altF, altF, altF, none_or hot]
  · unfold catT
    rw [firstS]
    have hN : noneB (.nd 3 ST.none 0 0 [t, u]) = (noneB t || noneB u) := by
      rw [noneB, if_neg (by decide), if_pos rfl, anyN, anyN, anyN, Bool.or_false]
    by_cases h : noneB t = true ∨ noneB u = true
    · rw [if_pos h, if_pos (by rw [hN, Bool.or_eq_true]; exact h)]
    · rw [if_neg h, if_neg (by rw [hN, Bool.or_eq_true]; exact h), if_neg (by decide), if_pos rfl, catF, catF, catF, none_or hot]
      split
      · split <;> rfl
      · rfl
  · rw [Bool.eq_iff_iff]
    show Hs (lens 0 (altT t u)) 0 ↔ _
    unfold altT
    rw [lens, if_neg (by decide), if_neg (by decide), if_neg (by decide), if_pos rfl, altB, altB, altB, hs_or (by rw [lens_length]; unfold orB; rw [OP_length, noB_length]), hs_or (by rw [lens_length, noB_length]), Bool.or_eq_true]
    constructor
    · rintro ((h | h) | h)
      · exact absurd h hs_no
      · exact .inl h
      · exact .inr h
    · rintro (h | h)
      · exact .inl (.inr h)
      · exact .inr h
  · rw [Bool.eq_iff_iff]
    show Hs (lens 0 (catT t u)) 0 ↔ _
    unfold catT
    rw [lens, if_neg (by decide), if_neg (by decide), if_pos rfl, catB, catB, catB, hs_join, Bool.and_eq_true]
    constructor
    · rintro ⟨-, i, j, h1, h2, h3⟩
      obtain ⟨-, i', j', h4, h5, h6⟩ := hs_join.1 h2
      have e1 : j = 0 := by omega
      have e2 : j' = 0 := by omega
      subst e1 e2
      exact ⟨h6, h3⟩
    · rintro ⟨h1, h2⟩
      exact ⟨by rw [joinB_length, oneB0_length]; omega, 0, 0, rfl, hs_join.2 ⟨by rw [oneB0_length]; omega, 0, 0, rfl, hs_one.2 rfl, h1⟩, h2⟩
  · unfold altT catT
    have h4 : ∀ x, wstep 4 0 0 x = x := fun x => by unfold wstep; rw [if_neg (by omega), if_neg (by omega)]
    have h3 : ∀ x, wstep 3 0 0 x = x := fun x => by unfold wstep; rw [if_neg (by omega), if_neg (by omega)]
    rw [wd, wd, wdL, wdL, wdL, wdL, wdL, wdL, h4, h4, h3, h3]
  · rw [Bytes.lst_length, Bytes.lst_length]
    refine cnt_mono (fun b hb h => ?_)
    rw [ST.has_or _ _ b hb]
    split at h
    · rw [ST.has_none] at h
      cases h
    · split at h
      · rw [ST.has_or _ _ b hb] at h
        exact h
      · rw [h, Bool.true_or]

/-- The cells of a row of two. -/
@[reducible] def twoC (t : T) (a : Option Addr) (c : Nat) (u : T) (b : Option Addr) (d : Nat) : Array Value :=
  #[.int .i64 t.kind, .int .u64 t.set.x0, .int .u64 t.set.x1, .int .u64 t.set.x2, .int .u64 t.set.x3, .int .i64 t.mn, .int .i64 t.mx, .slice a t.subs.length c, .int .i64 u.kind, .int .u64 u.set.x0, .int .u64 u.set.x1, .int .u64 u.set.x2, .int .u64 u.set.x3, .int .i64 u.mn, .int .i64 u.mx, .slice b u.subs.length d]
theorem lie_row {W : World} {n : Nat} {t u : T} {a b : Option Addr} {c d : Nat} (h : At W n 27 (twoC t a c u b d)) (ht : Lie W (fun _ => True) a t.subs) (hu : Lie W (fun _ => True) b u.subs) (hc : t.subs.length ≤ c) (hd : u.subs.length ≤ d) :
    Lie W (fun _ => True) (some ⟨n, 0, none⟩) [t, u] := by
  have e : twoC t a c u b d = ncells t a c ++ ncells u b d := by simp [ncells]
  rw [e] at h
  refine .cons n 0 [t, u] (fun i => if i = 0 then a else b) (fun i => if i = 0 then c else d) (by simp) h.lt trivial (fun i s hs => ?_) (fun i s hs j v hv => ?_) (fun i s hs => ?_)
  · match i, hs with
    | 0, hs => simp at hs; subst hs; exact hc
    | 1, hs => simp at hs; subst hs; exact hd
    | i + 2, hs => simp at hs
  · match i, hs with
    | 0, hs =>
      simp at hs
      subst hs
      have hj : j < 8 := (Array.getElem?_eq_some_iff.1 hv).1
      have := h.cell (o := j) (v := v) (by rw [Array.getElem?_append_left (by simpa using hj)]; exact hv)
      simpa using this
    | 1, hs =>
      simp at hs
      subst hs
      have hj : j < 8 := (Array.getElem?_eq_some_iff.1 hv).1
      have := h.cell (o := 8 + j) (v := v) (by rw [Array.getElem?_append_right (by simp)]; simpa using hv)
      simpa using this
    | i + 2, hs => simp at hs
  · match i, hs with
    | 0, hs => simp at hs; subst hs; exact ht
    | 1, hs => simp at hs; subst hs; exact hu
    | i + 2, hs => simp at hs
@[reducible] def kC (k : Int) (s : Nat) : Array Value := #[.int .i64 k, .int .u64 0, .int .u64 0, .int .u64 0, .int .u64 0, .int .i64 0, .int .i64 0, .slice (some ⟨s, 0, none⟩) 2 2]
@[reducible] def zC : Array Value := #[.int .i64 0, .int .u64 0, .int .u64 0, .int .u64 0, .int .u64 0, .int .i64 0, .int .i64 0, .slice none 0 0]
def kput (w : World) (p : Nat) (k : Int) (s : Nat) : World := put8 w p (.int .i64 k) (.int .u64 0) (.int .u64 0) (.int .u64 0) (.int .u64 0) (.int .i64 0) (.int .i64 0) (.slice (some ⟨s, 0, none⟩) 2 2)
theorem kput_at {w : World} {p : Nat} (h : At w p 27 zC) (k : Int) (s : Nat) : At (kput w p k s) p 27 (kC k s) := set8 h _ _ _ _ _ _ _ _
theorem kput_other {w : World} {a p : Nat} {vs : Array Value} (h : At w a 27 vs) (hb : a ≠ p) (k : Int) (s : Nat) : At (kput w p k s) a 27 vs := other8 h hb _ _ _ _ _ _ _ _
theorem kput_keep {W w : World} (h : Keep (fun _ => False) W w) {p : Nat} (hp : W.heap.size ≤ p) (k : Int) (s : Nat) : Keep (fun _ => False) W (kput w p k s) := keep8 h (fun hh => absurd hh (by omega)) _ _ _ _ _ _ _ _
/-- Blocks that were made one behind the other, in the world W's end; the number of those that are there. -/
structure Mk (W w : World) (n : Nat) : Prop where
  size : w.heap.size = W.heap.size + n
  q : Keep (fun _ => False) W w
theorem Mk.start (W : World) : Mk W W.drew 0 := ⟨rfl, (Keep.refl _ _).drew⟩
theorem Mk.alloc {W w : World} {n : Nat} (h : Mk W w n) (vs : Array Value) : Mk W (w.alloc (.cells vs 27)) (n + 1) := ⟨by simp; rw [h.size]; omega, h.q.alloc _⟩
theorem Mk.put {W w : World} {n : Nat} (h : Mk W w n) (i : Nat) (k : Int) (s : Nat) : Mk W (kput w (W.heap.size + i) k s) n := ⟨by unfold kput put8; simpa [World.setCell] using h.size, kput_keep h.q (by omega) k s⟩
theorem Mk.at_ {W w : World} {n : Nat} (h : Mk W w n) (vs : Array Value) : At (w.alloc (.cells vs 27)) (W.heap.size + n) 27 vs := by
  have := At.new w vs 27
  rw [h.size] at this
  exact this
/-- The two rows, the two boxes. -/
structure Par (W w : World) (t : T) (a : Option Addr) (c : Nat) (u : T) (b : Option Addr) (d : Nat) (p5 p6 s1 s2 : Nat) : Prop where
  q : Keep (fun _ => False) W w
  r1 : At w s1 27 (twoC t a c u b d)
  r2 : At w s2 27 (twoC t a c u b d)
  b5 : At w p5 27 (kC 4 s1)
  b6 : At w p6 27 (kC 3 s2)
end Go.Proofs.Ytblijgcfelnlmaa.P09
/- MeasureParts: what has been made so far (two rows, two boxes), in whatever order. -/
namespace Go.Proofs.Ytblijgcfelnlmaa.P09
open Go.RowKit Go.Proofs.Ytblijgcfelnlmaa.Base Go.Proofs.Ytblijgcfelnlmaa.Bytes Go.Proofs.Ytblijgcfelnlmaa.P07 Go.Proofs.Ytblijgcfelnlmaa.P08
open Go.Proofs.Ytblijgcfelnlmaa.Sets (ST)

/-- The rows in the blocks e2, e6; the boxes in e8, e9, with the cells c8, c9. -/
structure Lg (W w : World) (V : Array Value) (e2 e6 e8 e9 : Option Nat) (c8 c9 : Array Value) : Prop where
  q : Keep (fun _ => False) W w
  b2 : ∀ m, e2 = some m → At w m 27 V ∧ W.heap.size ≤ m
  b6 : ∀ m, e6 = some m → At w m 27 V ∧ W.heap.size ≤ m
  b8 : ∀ m, e8 = some m → At w m 27 c8 ∧ W.heap.size ≤ m
  b9 : ∀ m, e9 = some m → At w m 27 c9 ∧ W.heap.size ≤ m
  n82 : ∀ m k, e8 = some m → e2 = some k → k ≠ m
  n86 : ∀ m k, e8 = some m → e6 = some k → k ≠ m
  n89 : ∀ m k, e8 = some m → e9 = some k → k ≠ m
  n92 : ∀ m k, e9 = some m → e2 = some k → k ≠ m
  n96 : ∀ m k, e9 = some m → e6 = some k → k ≠ m
theorem Lg.start {W w : World} (h : Keep (fun _ => False) W w) (V : Array Value) : Lg W w V none none none none zC zC :=
  ⟨h, fun _ h => (by cases h), fun _ h => (by cases h), fun _ h => (by cases h), fun _ h => (by cases h), fun _ _ h => (by cases h), fun _ _ h => (by cases h), fun _ _ h => (by cases h), fun _ _ h => (by cases h), fun _ _ h => (by cases h)⟩
theorem Lg.alloc2 {W w : World} {V : Array Value} {e6 e8 e9 : Option Nat} {c8 c9 : Array Value} (h : Lg W w V none e6 e8 e9 c8 c9) : Lg W (w.alloc (.cells V 27)) V (some w.heap.size) e6 e8 e9 c8 c9 :=
  ⟨h.q.alloc _, fun m e => by cases e; exact ⟨At.new w _ _, h.q.size⟩, fun m e => ⟨(h.b6 m e).1.alloc _, (h.b6 m e).2⟩, fun m e => ⟨(h.b8 m e).1.alloc _, (h.b8 m e).2⟩, fun m e => ⟨(h.b9 m e).1.alloc _, (h.b9 m e).2⟩,
    fun m k e e' => by cases e'; have := (h.b8 m e).1.lt; omega, h.n86, h.n89, fun m k e e' => by cases e'; have := (h.b9 m e).1.lt; omega, h.n96⟩
theorem Lg.alloc6 {W w : World} {V : Array Value} {e2 e8 e9 : Option Nat} {c8 c9 : Array Value} (h : Lg W w V e2 none e8 e9 c8 c9) : Lg W (w.alloc (.cells V 27)) V e2 (some w.heap.size) e8 e9 c8 c9 :=
  ⟨h.q.alloc _, fun m e => ⟨(h.b2 m e).1.alloc _, (h.b2 m e).2⟩, fun m e => by cases e; exact ⟨At.new w _ _, h.q.size⟩, fun m e => ⟨(h.b8 m e).1.alloc _, (h.b8 m e).2⟩, fun m e => ⟨(h.b9 m e).1.alloc _, (h.b9 m e).2⟩,
    h.n82, fun m k e e' => by cases e'; have := (h.b8 m e).1.lt; omega, h.n89, h.n92, fun m k e e' => by cases e'; have := (h.b9 m e).1.lt; omega⟩
theorem Lg.alloc8 {W w : World} {V : Array Value} {e2 e6 e9 : Option Nat} {c8 c9 : Array Value} (h : Lg W w V e2 e6 none e9 c8 c9) : Lg W (w.alloc (.cells zC 27)) V e2 e6 (some w.heap.size) e9 zC c9 :=
  ⟨h.q.alloc _, fun m e => ⟨(h.b2 m e).1.alloc _, (h.b2 m e).2⟩, fun m e => ⟨(h.b6 m e).1.alloc _, (h.b6 m e).2⟩, fun m e => by cases e; exact ⟨At.new w _ _, h.q.size⟩, fun m e => ⟨(h.b9 m e).1.alloc _, (h.b9 m e).2⟩,
    fun m k e e' => by cases e; have := (h.b2 k e').1.lt; omega, fun m k e e' => by cases e; have := (h.b6 k e').1.lt; omega, fun m k e e' => by cases e; have := (h.b9 k e').1.lt; omega, h.n92, h.n96⟩
theorem Lg.alloc9 {W w : World} {V : Array Value} {e2 e6 e8 : Option Nat} {c8 c9 : Array Value} (h : Lg W w V e2 e6 e8 none c8 c9) : Lg W (w.alloc (.cells zC 27)) V e2 e6 e8 (some w.heap.size) c8 zC :=
  ⟨h.q.alloc _, fun m e => ⟨(h.b2 m e).1.alloc _, (h.b2 m e).2⟩, fun m e => ⟨(h.b6 m e).1.alloc _, (h.b6 m e).2⟩, fun m e => ⟨(h.b8 m e).1.alloc _, (h.b8 m e).2⟩, fun m e => by cases e; exact ⟨At.new w _ _, h.q.size⟩,
    h.n82, h.n86, fun m k e e' => by cases e'; have := (h.b8 m e).1.lt; omega, fun m k e e' => by cases e; have := (h.b2 k e').1.lt; omega, fun m k e e' => by cases e; have := (h.b6 k e').1.lt; omega⟩
theorem Lg.put8_ {W w : World} {V : Array Value} {m2 m8 : Nat} {e6 e9 : Option Nat} {c9 : Array Value} (h : Lg W w V (some m2) e6 (some m8) e9 zC c9) : Lg W (kput w m8 4 m2) V (some m2) e6 (some m8) e9 (kC 4 m2) c9 :=
  ⟨kput_keep h.q (h.b8 m8 rfl).2 4 m2, fun m e => ⟨kput_other (h.b2 m e).1 (h.n82 m8 m rfl e) 4 m2, (h.b2 m e).2⟩, fun m e => ⟨kput_other (h.b6 m e).1 (h.n86 m8 m rfl e) 4 m2, (h.b6 m e).2⟩, fun m e => by cases e; exact ⟨kput_at (h.b8 m8 rfl).1 4 m2, (h.b8 m8 rfl).2⟩, fun m e => ⟨kput_other (h.b9 m e).1 (h.n89 m8 m rfl e) 4 m2, (h.b9 m e).2⟩,
    h.n82, h.n86, h.n89, h.n92, h.n96⟩
theorem Lg.put9_ {W w : World} {V : Array Value} {m6 m8 m9 : Nat} {e2 : Option Nat} {c8 : Array Value} (h : Lg W w V e2 (some m6) (some m8) (some m9) c8 zC) : Lg W (kput w m9 3 m6) V e2 (some m6) (some m8) (some m9) c8 (kC 3 m6) :=
  ⟨kput_keep h.q (h.b9 m9 rfl).2 3 m6, fun m e => ⟨kput_other (h.b2 m e).1 (h.n92 m9 m rfl e) 3 m6, (h.b2 m e).2⟩, fun m e => ⟨kput_other (h.b6 m e).1 (h.n96 m9 m rfl e) 3 m6, (h.b6 m e).2⟩, fun m e => by cases e; exact ⟨kput_other (h.b8 m8 rfl).1 (fun e => h.n89 m8 m9 rfl rfl e.symm) 3 m6, (h.b8 m8 rfl).2⟩, fun m e => by cases e; exact ⟨kput_at (h.b9 m9 rfl).1 3 m6, (h.b9 m9 rfl).2⟩,
    h.n82, h.n86, h.n89, h.n92, h.n96⟩
theorem Lg.par {W w : World} {t u : T} {a b : Option Addr} {c d : Nat} {m2 m6 m8 m9 : Nat} (h : Lg W w (twoC t a c u b d) (some m2) (some m6) (some m8) (some m9) (kC 4 m2) (kC 3 m6)) : Par W w t a c u b d m8 m9 m2 m6 :=
  ⟨h.q, (h.b2 m2 rfl).1, (h.b6 m6 rfl).1, (h.b8 m8 rfl).1, (h.b9 m9 rfl).1⟩
end Go.Proofs.Ytblijgcfelnlmaa.P09
