/- MeasureLengths: the walk. -/
import Derived.Test.YtblijgcfelnlmaaKK45
import Derived.Test.YtblijgcfelnlmaaKK35
import Derived.Test.YtblijgcfelnlmaaKK42
namespace Go.Proofs.Ytblijgcfelnlmaa.P09
open Go.RowKit Go.Proofs.Ytblijgcfelnlmaa.Base Go.Proofs.Ytblijgcfelnlmaa.Bytes Go.Proofs.Ytblijgcfelnlmaa.P07 Go.Proofs.Ytblijgcfelnlmaa.P08
open Go.Proofs.Ytblijgcfelnlmaa.Sets (ST)

theorem lens_zero {t : T} {d : Nat} (h : RT d t) (m : Nat) : (lens m t).getD 0 false = nullB t := by
  have hF := lens_facts m t d h
  have hlb := least_bnd t d h
  rw [nullB_iff h, Bool.eq_iff_iff]
  show Hs (lens m t) 0 ↔ _
  rw [Bool.and_eq_true, decide_eq_true_eq]
  cases hn : noneB t with
  | true => exact ⟨fun hh => absurd hh (hF.no hn 0), fun hh => by cases hh.1⟩
  | false =>
    have h0 := hlb.2.1 hn
    constructor
    · intro hh
      have := (hF.lo 0 hh).1
      exact ⟨rfl, by omega⟩
    · rintro ⟨-, h1⟩
      have := hF.at_ hn (by omega)
      rw [h1] at this
      exact this
theorem mod13 (v : Int) : ∃ m : Nat, m ≤ 12 ∧ (IntKind.u64.wrap v).tmod 13 = m := by
  have h0 : 0 ≤ IntKind.u64.wrap v := by rw [IntKind.wrap_u64]; omega
  rw [Int.tmod_eq_emod_of_nonneg h0]
  exact ⟨(IntKind.u64.wrap v % 13).toNat, by omega, by omega⟩

set_option maxRecDepth 100000 in
set_option maxHeartbeats 16000000 in
theorem law_lengths (t : T) (v : Int) (a : Option Addr) (c : Nat) (w : World) (hta : Lie w (fun _ => True) a t.subs) (hcl : t.subs.length ≤ c) (ht : cnt t ≤ 1000000000) (hst : SOk t) (_lo : -9223372036854775808 ≤ v) (_hi : v ≤ 9223372036854775807) :
    Calls Try.prog 5 #[nodeV t a c, .int .i64 v] w fun e w' => e = .returned (.bool true) ∧ Keep (fun _ => False) w w' := by
  have q := (Keep.refl (fun _ => False) w).alloc (.cells (ncells t a c) 27)
  have H0 := Lib.hid (And.intro q (show Nd _ w.heap.size t a c from ⟨At.new w _ _, hta.keepF q, hcl⟩))
  have HCT := Lib.hid (And.intro ht hst)
  obtain ⟨m, hm12, hm⟩ := mod13 v
  clear q hta hcl ht hst
  go_enter Try.func5, Try.ntmps5
  go_upto_region 1 with fail
  generalize (w.alloc (.cells (ncells t a c) 27)) = W0 at *
  have m0 : (0 : Int) ≤ m := by omega
  have m13 : (m : Int) ≤ 12 := by omega
  go_wp2_with fail
  refine (awake_true W0).mono ?_
  rintro e w1 ⟨rfl, q1⟩
  have H1 := Lib.hid (And.intro (H0.out.1.trans q1) (H0.out.2.keep q1))
  clear q1
  obtain ⟨x0, x1, x2, x3, x4, x5, x6, x7⟩ := (cells8 H1.out.2.cell).1
  go_wp2_with fail
  refine (few_any t HCT.out.1 a c w1 H1.out.2.lie).mono ?_
  rintro e w2 ⟨rfl, q2⟩
  have H2 := Lib.hid (And.intro (H1.out.1.trans q2) (H1.out.2.keep q2))
  clear q2 x0 x1 x2 x3 x4 x5 x6 x7
  by_cases h1 : sz t ≤ 200
  case neg =>
    have g1 : decide (sz t ≤ 200) = false := decide_eq_false h1
    rw [g1]
    clear g1 h1
    go_wp2_with fail
    refine (awake_true w2).mono ?_
    rintro e w3 ⟨rfl, q3⟩
    have Q3 := Lib.hid (H2.out.1.trans q3)
    clear q3
    go_wp2_with fail
    go_ret
    exact ⟨rfl, Q3.out⟩
  have g1 : decide (sz t ≤ 200) = true := decide_eq_true h1
  rw [g1]
  have HF1 := Lib.hid (few_cnt h1)
  clear g1 h1
  obtain ⟨x0, x1, x2, x3, x4, x5, x6, x7⟩ := (cells8 H2.out.2.cell).1
  go_wp2_with fail
  refine (fright_any t HCT.out.1 a c w2 H2.out.2.lie).mono ?_
  rintro e w3 ⟨rfl, q3⟩
  have H3 := Lib.hid (And.intro (H2.out.1.trans q3) (H2.out.2.keep q3))
  clear q3 x0 x1 x2 x3 x4 x5 x6 x7
  cases h3 : rightB t with
  | false =>
    clear h3
    go_wp2_with fail
    refine (awake_true w3).mono ?_
    rintro e w4 ⟨rfl, q4⟩
    have Q4 := Lib.hid (H3.out.1.trans q4)
    clear q4
    go_wp2_with fail
    go_ret
    exact ⟨rfl, Q4.out⟩
  | true =>
    have hR := (rightB_iff HCT.out.2).1 h3
    have hc := HF1.out
    have hmb : m + 1 ≤ 1000 := by omega
    clear h3 hm
    obtain ⟨b1, hb1⟩ : ∃ b1, nullB t = b1 := ⟨_, rfl⟩
    obtain ⟨b2, hb2⟩ : ∃ b2, noneB t = b2 := ⟨_, rfl⟩
    obtain ⟨x, hx⟩ : ∃ x, leastI t = x := ⟨_, rfl⟩
    obtain ⟨y, hy⟩ : ∃ y, mostI t = y := ⟨_, rfl⟩
    have hL := fun W' (q : Keep (fun _ => False) w3 W') => H3.out.2.lie.keepF q
    have k1 := fun W' q => null_r hR hc hb1 a c W' (hL W' q)
    have k2 := fun W' q => none_r hR hc hb2 a c W' (hL W' q)
    have k3 := fun W' q => length_r hR hc hx hy a c W' (hL W' q)
    have k4 := fun W' q => flens_all _ t (Nat.lt_succ_self _) 12 hR m hm12 a c W' (hL W' q)
    have hF := lens_facts m t 12 hR
    have hlb := least_bnd t 12 hR
    have hz := lens_zero hR m
    have hll := lens_length m t
    obtain ⟨hno, hlo, hat⟩ := hF
    unfold IsLens at k4
    obtain ⟨LL, hLL⟩ : ∃ LL, lens m t = LL := ⟨_, rfl⟩
    rw [hLL] at hno hlo hat hz hll k4
    rw [hb2] at hno hat hlb
    rw [hx] at hlo hat hlb
    rw [hy] at hlo
    rw [hb1] at hz
    have hsg : (x < 0 ∧ b2 = true) ∨ (¬ x < 0 ∧ b2 = false) := by
      cases b2 with
      | true => exact .inl ⟨by have := hlb.1 rfl; omega, rfl⟩
      | false => exact .inr ⟨by have := hlb.2.1 rfl; omega, rfl⟩
    have HX := Lib.hid (And.intro k1 (And.intro k2 (And.intro k3 k4)))
    have HF := Lib.hid (And.intro hno (And.intro hlo (And.intro hat (And.intro hz hll))))
    have HG := Lib.hid hsg
    clear hR hc hb1 hb2 hx hy hL k1 k2 k3 k4 hno hlo hat hz hll hlb hsg hLL
    obtain ⟨x0, x1, x2, x3, x4, x5, x6, x7⟩ := (cells8 H3.out.2.cell).1
    go_wp2_with fail
    refine (HX.out.2.2.1 w3 (Keep.refl _ _)).mono ?_
    rintro e w4 ⟨rfl, q4⟩
    clear x0 x1 x2 x3 x4 x5 x6 x7
    obtain ⟨x0, x1, x2, x3, x4, x5, x6, x7⟩ := (cells8 (H3.out.2.keep q4).cell).1
    have HK4 := Lib.hid q4
    clear q4
    go_wp2_with fail
    refine (HX.out.2.2.2 w4 HK4.out).mono ?_
    rintro e w5 ⟨g, rfl, hg, hat5, q5⟩
    have H5 := Lib.hid (And.intro (HK4.out.trans q5) hat5)
    clear q5 hat5 x0 x1 x2 x3 x4 x5 x6 x7 hg
    have z0 := H5.out.2.cell (bcells_get (show LL[0]? = some b1 from by rw [← HF.out.2.2.2.1]; exact getD_get (by rw [HF.out.2.2.2.2]; omega)))
    go_wp2_with fail
    clear z0
    go_loopg [8, 9, 37] (m + 1) (fun gg s8 s9 i wr => ∃ k : Nat, i = .int .i64 k ∧ k + gg = m + 1 ∧ Keep (fun _ => False) w5 wr)
    case atStart => exact ⟨0, rfl, by omega, Keep.refl _ _⟩
    case round =>
      obtain ⟨k, rfl, hk, hq⟩ := hrel
      have hA := H5.out.2.keep hq (fun h => h)
      obtain ⟨x0, x1, x2, x3, x4, x5, x6, x7⟩ := (cells8 (H3.out.2.keep (H5.out.1.trans hq)).cell).1
      by_cases hlt : k < m + 1
      · have hlt' : (k : Int) < (m : Int) + 1 := by omega
        have k0 : (0 : Int) ≤ k := by omega
        obtain ⟨is, his⟩ : ∃ b, LL.getD k false = b := ⟨_, rfl⟩
        have hcell := hA.cell (bcells_get (show LL[k]? = some is from by rw [← his]; exact getD_get (by rw [HF.out.2.2.2.2]; omega)))
        have HQ := Lib.hid hq
        have HI := Lib.hid his
        clear hA hq his
        cases is with
        | false =>
          have hne : ¬ (k : Int) = x := fun e => by
            have hb2 : b2 = false := by
              rcases HG.out with h | h
              · omega
              · exact h.2
            have h1 := HF.out.2.2.1 hb2 (by omega)
            unfold Hs at h1
            rw [← e, Int.toNat_natCast, HI.out] at h1
            cases h1
          have hb : ((k : Int) == x) = false := by simp [hne]
          go_wp2_with fail
          go_roundg (m + 1 - (k + 1))
          case measure => omega
          case rel => exact ⟨k + 1, by go_num, by omega, HQ.out⟩
        | true =>
          have h1 := HF.out.2.1 k HI.out
          have hb2 : b2 = false := by
            cases b2 with
            | false => rfl
            | true => exact absurd HI.out (HF.out.1 rfl k)
          have hb3 : ¬ (k : Int) < x := by omega
          have hy : (¬ 0 ≤ y) ∨ (0 ≤ y ∧ ¬ (k : Int) > y) := by omega
          have hxk : ((k : Int) == x) = true ∨ ((k : Int) == x) = false := by cases ((k : Int) == x) <;> simp
          have HB := Lib.hid hb2
          have HY := Lib.hid hy
          clear h1 hb2 hy
          rcases HY.out with hy | ⟨hy, hy2⟩
          all_goals
            go_wp2_with fail
            refine (HX.out.2.1 wr (H5.out.1.trans HQ.out)).mono ?_
            rintro e w6 ⟨rfl, q6⟩
            rw [HB.out]
            have Q6 := Lib.hid (HQ.out.trans q6)
            clear q6 x0 x1 x2 x3 x4 x5 x6 x7 hcell
            rcases hxk with hb | hb
            all_goals
              go_wp2_with fail
              go_roundg (m + 1 - (k + 1))
              case measure => omega
              case rel => exact ⟨k + 1, by go_num, by omega, Q6.out⟩
      · have hke : k = m + 1 := by omega
        subst hke
        have z0 := hA.cell (bcells_get (show LL[0]? = some b1 from by rw [← HF.out.2.2.2.1]; exact getD_get (by rw [HF.out.2.2.2.2]; omega)))
        have hS : ∀ w', Keep (fun _ => False) wr w' → Keep (fun _ => False) wr w' ∧ w'.cell? ⟨w.heap.size, 0, none⟩ = some (.int .i64 t.kind) ∧ w'.cell? ⟨w.heap.size, 1, none⟩ = some (.int .u64 t.set.x0) ∧ w'.cell? ⟨w.heap.size, 2, none⟩ = some (.int .u64 t.set.x1) ∧ w'.cell? ⟨w.heap.size, 3, none⟩ = some (.int .u64 t.set.x2) ∧ w'.cell? ⟨w.heap.size, 4, none⟩ = some (.int .u64 t.set.x3) ∧ w'.cell? ⟨w.heap.size, 5, none⟩ = some (.int .i64 t.mn) ∧ w'.cell? ⟨w.heap.size, 6, none⟩ = some (.int .i64 t.mx) ∧ w'.cell? ⟨w.heap.size, 7, none⟩ = some (.slice a t.subs.length c) ∧ w'.cell? ⟨g, 0, none⟩ = some (.bool b1) := fun w' q' => ⟨q', (cells8 (H3.out.2.keep (H5.out.1.trans (hq.trans q'))).cell).1.1, (cells8 (H3.out.2.keep (H5.out.1.trans (hq.trans q'))).cell).1.2.1, (cells8 (H3.out.2.keep (H5.out.1.trans (hq.trans q'))).cell).1.2.2.1, (cells8 (H3.out.2.keep (H5.out.1.trans (hq.trans q'))).cell).1.2.2.2.1, (cells8 (H3.out.2.keep (H5.out.1.trans (hq.trans q'))).cell).1.2.2.2.2.1, (cells8 (H3.out.2.keep (H5.out.1.trans (hq.trans q'))).cell).1.2.2.2.2.2.1, (cells8 (H3.out.2.keep (H5.out.1.trans (hq.trans q'))).cell).1.2.2.2.2.2.2.1, (cells8 (H3.out.2.keep (H5.out.1.trans (hq.trans q'))).cell).1.2.2.2.2.2.2.2, (hA.keep q' (fun h => h)).cell (bcells_get (show LL[0]? = some b1 from by rw [← HF.out.2.2.2.1]; exact getD_get (by rw [HF.out.2.2.2.2]; omega)))⟩
        have HS := Lib.hid hS
        have HQ := Lib.hid (H5.out.1.trans hq)
        clear hA hq hS
        have g1 : (b1 == b1) = true := by simp
        have g2 : (true == true) = true := rfl
        have g3 : (false == false) = true := rfl
        rcases HG.out with ⟨hx, hb⟩ | ⟨hx, hb⟩
        all_goals
          subst hb
          go_wp2_with fail
          go_region_held3 (fun w' => Keep (fun _ => False) wr w' ∧ w'.cell? ⟨w.heap.size, 0, none⟩ = some (.int .i64 t.kind) ∧ w'.cell? ⟨w.heap.size, 1, none⟩ = some (.int .u64 t.set.x0) ∧ w'.cell? ⟨w.heap.size, 2, none⟩ = some (.int .u64 t.set.x1) ∧ w'.cell? ⟨w.heap.size, 3, none⟩ = some (.int .u64 t.set.x2) ∧ w'.cell? ⟨w.heap.size, 4, none⟩ = some (.int .u64 t.set.x3) ∧ w'.cell? ⟨w.heap.size, 5, none⟩ = some (.int .i64 t.mn) ∧ w'.cell? ⟨w.heap.size, 6, none⟩ = some (.int .i64 t.mx) ∧ w'.cell? ⟨w.heap.size, 7, none⟩ = some (.slice a t.subs.length c) ∧ w'.cell? ⟨g, 0, none⟩ = some (.bool b1)) (first | assumption | exact HS.out _ ((Keep.refl _ _).drew) | exact HS.out _ (Keep.trans (And.left (by assumption)) q)) (first
            | (go_at_call 15; refine (HX.out.1 _ (HQ.out.trans (And.left (by assumption)))).mono ?_; rintro e w6 ⟨rfl, q⟩)
            | (go_at_call 17; refine (HX.out.2.1 _ (HQ.out.trans (And.left (by assumption)))).mono ?_; rintro e w6 ⟨rfl, q⟩))
          all_goals
            rename_i hh
            have HK := Lib.hid (H3.out.1.trans (HQ.out.trans hh.1))
            clear hh
            go_wp2_with fail
            go_ret
            first
              | exact ⟨rfl, HK.out⟩
              | exact ⟨Bytes.ret_bool (by simp [hx]), HK.out⟩
end Go.Proofs.Ytblijgcfelnlmaa.P09
