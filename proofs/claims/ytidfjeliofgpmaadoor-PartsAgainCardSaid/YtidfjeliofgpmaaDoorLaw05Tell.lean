/- PartsTell, over what package parts keeps (Holds). -/
import Derived.Test.YtidfjeliofgpmaaDoorLaw05Nil
import Derived.Deep.LoopGhost
namespace Go.Proofs.YtidfjeliofgpmaaDoor.Parts
open Go.RowKit Go.Proofs.YtidfjeliofgpmaaDoor.Base Go.Proofs.YtidfjeliofgpmaaDoor.Sets Go.Proofs.YtidfjeliofgpmaaDoor.Bytes Go.Proofs.YtidfjeliofgpmaaDoor.SetL Go.Proofs.YtidfjeliofgpmaaDoor.OL Go.Proofs.YtidfjeliofgpmaaDoor.Cls Go.Proofs.YtidfjeliofgpmaaDoor.IL

theorem cnt_no {p : Nat → Bool} : ∀ k, (∀ b, b < k → p b = false) → cnt p k = 0
  | 0, _ => rfl
  | k + 1, h => by
    have i := cnt_no k fun b hb => h b (by omega)
    unfold cnt
    rw [i, h k (by omega)]
    rfl
theorem cnt_yes {p : Nat → Bool} : ∀ k, (∀ b, b < k → p b = true) → cnt p k = k
  | 0, _ => rfl
  | k + 1, h => by
    have i := cnt_yes k fun b hb => h b (by omega)
    unfold cnt
    rw [i, h k (by omega)]
    rfl

/-- The bytes of the first c classes. -/
def sumC (L : List ST) (c : Nat) : Nat := cnt (fun b => decide (cls (key L) b < c)) 256
theorem sumC_0 (L : List ST) : sumC L 0 = 0 := cnt_no 256 fun _ _ => by simp
theorem sumC_all (L : List ST) : sumC L (ncl (key L)) = 256 := cnt_yes 256 fun _ hb => decide_eq_true (cls_lt (key L) hb)
theorem sumC_le (L : List ST) (c : Nat) : sumC L c ≤ 256 := cnt_le _ _
theorem count_ofC (L : List ST) (c : Nat) : (ofC L (c : Int)).count = cnt (fun b => decide (cls (key L) b = c)) 256 := cnt_congr fun b hb => by
  unfold ofC
  rw [has_ofP _ b hb]
  by_cases h : cls (key L) b = c
  · rw [decide_eq_true h, decide_eq_true (by omega)]
  · rw [decide_eq_false h, decide_eq_false (by omega)]
theorem sumC_succ (L : List ST) (c : Nat) : sumC L c + (ofC L (c : Int)).count = sumC L (c + 1) := by
  rw [count_ofC]
  unfold sumC
  rw [cnt_or_and]
  have h1 : cnt (fun b => decide (cls (key L) b < c) && decide (cls (key L) b = c)) 256 = 0 := cnt_no 256 fun b _ => by
    by_cases h : cls (key L) b = c
    · simp [h]
    · simp [h]
  rw [h1, Nat.add_zero]
  exact cnt_congr fun b _ => by
    rw [Bool.eq_iff_iff]
    simp
    omega

set_option maxRecDepth 100000 in
theorem tell_any {PT : World → Value → List ST → Prop} (I : Holds PT) (w : World) (hT : Tab w) (a : Option Addr) (cap : Nat) (L : List ST) (hl : L.length ≤ 9223372036854775807) (hok : ∀ s ∈ L, s.Ok) (hL : SL w a L) :
    Calls Tryd.prog 3 #[.slice a L.length cap] w fun e w' => e = .returned (.bool true) ∧ Keep (fun _ => False) w w' := by
  have HI := Lib.hid I
  clear I
  have HT := Lib.hid (fun (w' : World) (q : Keep (fun _ => False) w w') => hT.keep q)
  have HL := Lib.hid (And.intro hok (fun (w' : World) (q : Keep (fun _ => False) w w') => hL.keep q (fun _ _ h => h)))
  clear hT hok hL
  go_enter Tryd.func3, Tryd.ntmps3
  go_wp2_with fail
  refine (awake_any HI.out w (HT.out _ (Keep.refl _ _))).mono ?_
  rintro e w1 ⟨rfl, q1⟩
  have P1 := Lib.hid q1
  clear q1
  by_cases h30 : L.length ≤ 30
  · have h30' : ¬ (30 : Int) < L.length := by omega
    obtain ⟨v', w2, hrun, hv, q2, hb⟩ := OL.onto (new_none w1) (fun g hg => by cases hg; exact Nat.le_refl _) ((Keep.refl (fun _ => False) w1).alloc _) (cap := cap) (HL.out.2 w1 P1.out) (by simp; omega) 22
    obtain ⟨va, vc, rfl, hsl, -⟩ := hv.form
    have P2 := Lib.hid (And.intro (P1.out.trans q2) hsl)
    clear hv hb q2 hsl P1
    go_wp2_with (at_builtin; refine Lib.wpList_append_run _ rfl _ _ _ _ rfl _ _ rfl rfl _ _ hrun ?_)
    clear hrun
    go_wp2_with fail
    refine (HI.out.cut (L := L) vc (HT.out _ P2.out.1) (by omega) HL.out.1 P2.out.2).mono ?_
    rintro e w3 ⟨v, rfl, hp, q3⟩
    obtain ⟨pa, rfl⟩ := HI.out.form hp
    have P3 := Lib.hid (And.intro (P2.out.1.trans q3) hp)
    clear hp q3 P2
    go_wp2_with fail
    refine (remap_any L a cap (by omega) w3 (HL.out.2 w3 P3.out.1)).mono ?_
    rintro e w4 ⟨rfl, q4⟩
    obtain ⟨M, hM⟩ : ∃ M, M = arr fun i => (cls (key L) i : Int) := ⟨_, rfl⟩
    rw [← hM]
    have hz := run_zeroR
    obtain ⟨zs, hzs⟩ : ∃ zs, zs = arr fun _ => 0 := ⟨_, rfl⟩
    rw [← hzs] at hz
    have sM : zs.size = M.size ∧ (Tryd.prog.info? 26).map (·.size) = some M.size ∧ M.all (·.oneCell') = true := by
      rw [hzs, hM, arr_size, arr_size]
      exact ⟨rfl, sizeR, arr_one _⟩
    have SM := Lib.hid (And.intro sM (And.intro hM (At.new w4 zs 26)))
    have P4 := Lib.hid (And.intro (P3.out.1.trans q4) (HI.out.keep P3.out.2 q4))
    clear P3 q4 hM hzs sM
    go_wp2_with (refine wpList_store_row rfl 26 _ _ rfl w4.heap.size M rfl rfl 26 zs SM.out.2.2 SM.out.1.2.1 SM.out.1.1 SM.out.1.2.2 ?_)
    rw [World.setRow_alloc_new]
    have am := At.new w4 M 26
    have qm := (Keep.refl (fun _ => False) w4).alloc (.cells M 26)
    have P5 := Lib.hid (And.intro (P4.out.1.trans qm) (And.intro (HI.out.keep P4.out.2 qm) (And.intro am SM.out.2.1)))
    clear am qm P4 SM hz
    generalize (w4.alloc (.cells M 26)) = w5 at *
    generalize w4.heap.size = gm at *
    refine (HI.out.remap (HT.out _ P5.out.1) P5.out.2.1).mono ?_
    rintro e w6 ⟨rfl, q6⟩
    obtain ⟨R, hR⟩ : ∃ R, R = arr8 fun i => (cls (key L) i : Int) := ⟨_, rfl⟩
    rw [← hR]
    have hz := run_zero8
    obtain ⟨ys, hys⟩ : ∃ ys, ys = arr8 fun _ => 0 := ⟨_, rfl⟩
    rw [← hys] at hz
    have sR : ys.size = R.size ∧ (Tryd.prog.info? 29).map (·.size) = some R.size ∧ R.all (·.oneCell') = true := by
      rw [hys, hR, arr8_size, arr8_size]
      exact ⟨rfl, size8, arr8_one _⟩
    have SR := Lib.hid (And.intro sR (And.intro hR (At.new w6 ys 29)))
    have P6 := Lib.hid (And.intro (P5.out.1.trans q6) (And.intro (HI.out.keep P5.out.2.1 q6) (And.intro (P5.out.2.2.1.keep q6 (fun h => h)) P5.out.2.2.2)))
    clear P5 q6 hR hys sR
    go_wp2_with (first
      | (refine wpList_store_row rfl 29 _ _ rfl w6.heap.size R rfl rfl 29 ys SR.out.2.2 SR.out.1.2.1 SR.out.1.1 SR.out.1.2.2 ?_; rw [World.setRow_alloc_new])
      )
    have am := At.new w6 R 29
    have qm := (Keep.refl (fun _ => False) w6).alloc (.cells R 29)
    have P7 := Lib.hid (And.intro (P6.out.1.trans qm) (And.intro (HI.out.keep P6.out.2.1 qm) (And.intro (P6.out.2.2.1.keep qm (fun h => h)) (And.intro P6.out.2.2.2 (And.intro am SR.out.2.1)))))
    clear am qm P6 SR hz
    generalize (w6.alloc (.cells R 29)) = w7 at *
    generalize w6.heap.size = gr at *
    go_loopg [32] 256 (fun gg i wr => ∃ k : Nat, i = .int .i64 k ∧ k + gg = 256 ∧ Keep (fun _ => False) w wr ∧ PT wr (.pointer (some pa)) L ∧ At wr gm 26 M ∧ At wr gr 29 R)
    case atStart => exact ⟨0, rfl, rfl, P7.out.1, P7.out.2.1, P7.out.2.2.1, P7.out.2.2.2.2.1⟩
    case round =>
      obtain ⟨k, rfl, hk, hq, hp, hm, hr⟩ := hrel
      by_cases hlt : k < 256
      · have hlt' : (k : Int) < 256 := by omega
        have hcm := hm.cell (o := k) (by rw [P7.out.2.2.2.1]; exact arr_at _ k hlt)
        have hcr := hr.cell (o := k) (by rw [P7.out.2.2.2.2.2]; exact arr8_at _ k hlt)
        have hC := Nat.lt_of_lt_of_le (cls_lt (key L) hlt) (ncl_le (key L))
        have hw8 : IntKind.u8.wrap (k : Int) = k := by rw [IntKind.wrap_u8]; omega
        obtain ⟨C, hCe⟩ : ∃ C, C = cls (key L) k := ⟨_, rfl⟩
        rw [← hCe] at hcm hcr hC
        have hw : IntKind.i64.wrap (C : Int) = C := by rw [IntKind.wrap_i64]; omega
        have H := Lib.hid (And.intro hk (And.intro hq (And.intro hp (And.intro hm (And.intro hr hCe)))))
        clear hk hq hp hm hr hCe
        go_wp2_with fail
        refine (HI.out.class' (HT.out _ H.out.2.1) H.out.2.2.1 hlt).mono ?_
        rintro e w8 ⟨rfl, q8⟩
        rw [← H.out.2.2.2.2.2]
        have H8 := Lib.hid (And.intro (H.out.2.1.trans q8) (And.intro (HI.out.keep H.out.2.2.1 q8) (And.intro (H.out.2.2.2.1.keep q8 (fun h => h)) (H.out.2.2.2.2.1.keep q8 (fun h => h)))))
        clear hcm hcr q8
        have hcm := H8.out.2.2.1.cell (o := k) (by rw [P7.out.2.2.2.1]; exact arr_at _ k hlt)
        have hcr := H8.out.2.2.2.cell (o := k) (by rw [P7.out.2.2.2.2.2]; exact arr8_at _ k hlt)
        rw [← H.out.2.2.2.2.2] at hcm hcr
        go_wp2_with fail
        refine (HI.out.of (c := (C : Int)) (HT.out _ H8.out.1) H8.out.2.1 (by omega) (by omega)).mono ?_
        rintro e w9 ⟨rfl, q9⟩
        have hh : (ofC L (C : Int)).has k = true := by
          unfold ofC
          rw [has_ofP _ k hlt, H.out.2.2.2.2.2]
          exact decide_eq_true rfl
        obtain ⟨S, hS⟩ : ∃ S, S = ofC L (C : Int) := ⟨_, rfl⟩
        rw [← hS] at hh
        rw [← hS]
        have H9 := Lib.hid (And.intro (H8.out.1.trans q9) (And.intro (HI.out.keep H8.out.2.1 q9) (And.intro (H8.out.2.2.1.keep q9 (fun h => h)) (And.intro (H8.out.2.2.2.keep q9 (fun h => h)) (And.intro (show S.Ok by rw [hS]; exact ofC_ok _ _) hh)))))
        clear hcm hcr q9 H8 hS hh
        go_wp2_with fail
        refine (has_any S H9.out.2.2.2.2.1 k hlt w9).mono ?_
        rintro e w10 ⟨rfl, q10⟩
        rw [H9.out.2.2.2.2.2]
        have H10 := Lib.hid (And.intro (H9.out.1.trans q10) (And.intro (HI.out.keep H9.out.2.1 q10) (And.intro (H9.out.2.2.1.keep q10 (fun h => h)) (H9.out.2.2.2.1.keep q10 (fun h => h)))))
        clear q10 H9
        go_wp2_with fail
        go_roundg (256 - (k + 1))
        case measure => have := H.out.1; omega
        case rel => exact ⟨k + 1, by go_num, by have := H.out.1; omega, H10.out.1, H10.out.2.1, H10.out.2.2.1, H10.out.2.2.2⟩
      · have hk256 : k = 256 := by omega
        subst hk256
        have hnl := ncl_le (key L)
        have H := Lib.hid (And.intro hq (And.intro hp hm))
        clear hq hp hm hr hk
        obtain ⟨N, hN⟩ : ∃ N, N = ncl (key L) := ⟨_, rfl⟩
        rw [← hN]
        rw [← hN] at hnl
        have HN := Lib.hid hN
        clear hN
        go_wp2_with fail
        go_loopg [9, 63] N (fun gg x i wr => ∃ c : Nat, x = .int .i64 (sumC L c) ∧ i = .int .i64 c ∧ c + gg = N ∧ Keep (fun _ => False) w wr ∧ PT wr (.pointer (some pa)) L ∧ At wr gm 26 M)
        case atStart => exact ⟨0, by rw [sumC_0]; rfl, rfl, by omega, H.out.1, H.out.2.1, H.out.2.2⟩
        case round =>
          obtain ⟨c, rfl, rfl, hc, hq, hp, hm⟩ := hrel
          by_cases hcl : c < N
          · have hcl' : (c : Int) < N := by omega
            obtain ⟨b, hb, hf, hbc, -⟩ := cls_onto (key L) (c := c) (by rw [← HN.out]; exact hcl)
            have H2 := Lib.hid (And.intro hc (And.intro hq (And.intro hp (And.intro hm (And.intro hf hbc)))))
            clear hc hq hp hm hf hbc
            go_wp2_with fail
            refine (HI.out.sample_is (HT.out _ H2.out.2.1) H2.out.2.2.1 hb H2.out.2.2.2.2.1 (by rw [H2.out.2.2.2.2.2])).mono ?_
            rintro e w11 ⟨rfl, q11⟩
            have H3 := Lib.hid (And.intro (H2.out.2.1.trans q11) (And.intro (HI.out.keep H2.out.2.2.1 q11) (H2.out.2.2.2.1.keep q11 (fun h => h))))
            clear q11
            have hcm := H3.out.2.2.cell (o := b) (by rw [P7.out.2.2.2.1]; exact arr_at _ b hb)
            rw [H2.out.2.2.2.2.2] at hcm
            have hb' : (b : Int) < 256 := by omega
            go_wp2_with fail
            refine (HI.out.of (c := (c : Int)) (HT.out _ H3.out.1) H3.out.2.1 (by omega) (by omega)).mono ?_
            rintro e w12 ⟨rfl, q12⟩
            have hs1 := sumC_succ L c
            have hs2 := sumC_le L (c + 1)
            obtain ⟨S, hS⟩ : ∃ S, S = ofC L (c : Int) := ⟨_, rfl⟩
            rw [← hS] at hs1
            rw [← hS]
            have H4 := Lib.hid (And.intro (H3.out.1.trans q12) (And.intro (HI.out.keep H3.out.2.1 q12) (And.intro (H3.out.2.2.keep q12 (fun h => h)) (show S.Ok by rw [hS]; exact ofC_ok _ _))))
            clear q12 H3 hS hcm
            go_wp2_with fail
            refine (count_any S H4.out.2.2.2 w12).mono ?_
            rintro e w13 ⟨rfl, q13⟩
            obtain ⟨s0, hs0⟩ : ∃ s0, s0 = sumC L c := ⟨_, rfl⟩
            obtain ⟨s1, hs1'⟩ : ∃ s1, s1 = S.count := ⟨_, rfl⟩
            rw [← hs0, ← hs1'] at hs1
            rw [← hs0, ← hs1']
            have hw : IntKind.i64.wrap ((s0 : Int) + s1) = (s0 : Int) + s1 := by rw [IntKind.wrap_i64]; omega
            have H5 := Lib.hid (And.intro (H4.out.1.trans q13) (And.intro (HI.out.keep H4.out.2.1 q13) (And.intro (H4.out.2.2.1.keep q13 (fun h => h)) hs1)))
            clear q13 H4 hs0 hs1' hs1 hs2
            go_wp2_with fail
            go_roundg (N - (c + 1))
            case measure => have := H2.out.1; omega
            case rel => exact ⟨c + 1, by rw [← H5.out.2.2.2]; go_num, by go_num, by have := H2.out.1; omega, H5.out.1, H5.out.2.1, H5.out.2.2.1⟩
          · have hcN : c = N := by omega
            subst hcN
            have hS : sumC L c = 256 := by rw [HN.out]; exact sumC_all L
            rw [hS]
            have H2 := Lib.hid (And.intro hq hp)
            clear hS hq hp hm hc
            go_wp2_with fail
            refine (HI.out.len_is (n := (c : Int)) (HT.out _ H2.out.1) H2.out.2 (by rw [HN.out])).mono ?_
            rintro e w14 ⟨rfl, q14⟩
            have H3 := Lib.hid (H2.out.1.trans q14)
            clear q14 H2
            go_wp2_with fail
            go_ret
            exact ⟨rfl, H3.out⟩
  · have h30' : (30 : Int) < L.length := by omega
    clear h30
    go_wp2_with fail
    refine (awake_any HI.out w1 (HT.out _ P1.out)).mono ?_
    rintro e w2 ⟨rfl, q2⟩
    have P2 := Lib.hid (P1.out.trans q2)
    clear q2 P1
    go_wp2_with fail
    go_ret
    exact ⟨rfl, P2.out⟩
end Go.Proofs.YtidfjeliofgpmaaDoor.Parts
