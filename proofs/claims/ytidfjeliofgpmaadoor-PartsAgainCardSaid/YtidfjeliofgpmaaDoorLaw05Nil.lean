/- PartsNil, over what package parts keeps (Holds). -/
import Derived.Test.YtidfjeliofgpmaaDoorLaw05Awake
import Derived.Test.YtidfjeliofgpmaaDoorEqSet
import Derived.Test.YtidfjeliofgpmaaDoorArr8
namespace Go.Proofs.YtidfjeliofgpmaaDoor.Parts
open Go.RowKit Go.Proofs.YtidfjeliofgpmaaDoor.Base Go.Proofs.YtidfjeliofgpmaaDoor.Sets Go.Proofs.YtidfjeliofgpmaaDoor.Bytes Go.Proofs.YtidfjeliofgpmaaDoor.SetL Go.Proofs.YtidfjeliofgpmaaDoor.OL Go.Proofs.YtidfjeliofgpmaaDoor.Cls Go.Proofs.YtidfjeliofgpmaaDoor.IL

/-- Of a class that there is not. -/
theorem ofC_none {L : List ST} {c : Int} (h : c < 0 ∨ (ncl (key L) : Int) ≤ c) : ofC L c = ST.none := by
  refine ST.ext (ofP_ok _) ST.none_ok fun b hb => ?_
  have := cls_lt (key L) hb
  unfold ofC
  rw [has_ofP _ b hb, ST.has_none]
  exact decide_eq_false (by omega)

theorem eq_zero {u : ST} (h : u = ST.none) (w : World) : (Op.equalIn 10000 35 (val u) (.agg #[.int .u64 0, .int .u64 0, .int .u64 0, .int .u64 0])).run Tryd.prog w = .ok true w := eq_yes h w

set_option maxRecDepth 100000 in
theorem nil_any {PT : World → Value → List ST → Prop} (I : Holds PT) (w : World) (hT : Tab w) (c : Int) (h1 : -9223372036854775808 ≤ c) (h2 : c ≤ 9223372036854775807) (s : ST) (hs : s.Ok) :
    Calls Tryd.prog 6 #[.int .i64 c, val s] w fun e w' => e = .returned (.bool true) ∧ Keep (fun _ => False) w w' := by
  have HI := Lib.hid I
  clear I
  have HT := Lib.hid (fun (w' : World) (q : Keep (fun _ => False) w w') => hT.keep q)
  clear hT
  have HC := Lib.hid (And.intro h1 (And.intro h2 hs))
  clear h1 h2 hs
  go_enter Tryd.func6, Tryd.ntmps6
  go_wp2_with fail
  have a1 := At.new w (cells s) 35
  have q1 := (Keep.refl (fun _ => False) w).alloc (.cells (cells s) 35)
  have P0 := Lib.hid (And.intro q1 a1)
  clear a1 q1
  generalize (w.alloc (.cells (cells s) 35)) = w0 at *
  generalize w.heap.size = g at *
  refine (HI.out.sample0 (HT.out _ P0.out.1) HC.out.1 HC.out.2.1).mono ?_
  rintro e w1 ⟨rfl, q1⟩
  have P1 := Lib.hid (And.intro (P0.out.1.trans q1) (P0.out.2.keep q1 (fun h => h)))
  obtain ⟨⟨c0, c1, c2, c3⟩, -⟩ := cells4 P1.out.2
  clear q1 P0
  go_wp2_with fail
  have sl := (new_one w1 s).form
  have qa := (Keep.refl (fun _ => False) w1).alloc (.cells (cells s) 35)
  generalize (w1.alloc (.cells (cells s) 35)) = w2 at *
  generalize w1.heap.size = g2 at *
  obtain ⟨a', c', e, hsl, -⟩ := sl
  injection e with e1 e3 e2
  clear e3
  subst e1 e2
  refine (HI.out.cut (L := [s]) 1 (HT.out _ (P1.out.1.trans qa)) (by simp) (by intro x hx; rw [List.mem_singleton.1 hx]; exact HC.out.2.2) hsl).mono ?_
  rintro e w3 ⟨v, rfl, hp, q3⟩
  obtain ⟨pa, rfl⟩ := HI.out.form hp
  have P3 := Lib.hid (And.intro (P1.out.1.trans (qa.trans q3)) (And.intro (P1.out.2.keep (qa.trans q3) (fun h => h)) hp))
  clear hsl qa hp q3 P1 c0 c1 c2 c3
  go_wp2_with fail
  refine (HI.out.len (HT.out _ P3.out.1) P3.out.2.2).mono ?_
  rintro e w4 ⟨rfl, q4⟩
  have hn := ncl_le (key [s])
  obtain ⟨N, hN⟩ : ∃ N, N = ncl (key [s]) := ⟨_, rfl⟩
  rw [← hN]
  rw [← hN] at hn
  have P4 := Lib.hid (And.intro (P3.out.1.trans q4) (And.intro (P3.out.2.1.keep q4 (fun h => h)) (And.intro (HI.out.keep P3.out.2.2 q4) hN)))
  clear q4 P3 hN
  go_wp2_with fail
  refine (HI.out.none (c := (N : Int)) (HT.out _ P4.out.1) P4.out.2.2.1 (by omega) (by omega) (.inr (by rw [P4.out.2.2.2]; exact Int.le_refl _))).mono ?_
  rintro e w5 ⟨rfl, q5⟩
  have P5 := Lib.hid (And.intro (P4.out.1.trans q5) (And.intro (P4.out.2.1.keep q5 (fun h => h)) (HI.out.keep P4.out.2.2.1 q5)))
  clear q5 P4
  go_wp2_with fail
  refine (awake_any HI.out w5 (HT.out _ P5.out.1)).mono ?_
  rintro e w6 ⟨rfl, q6⟩
  have P6 := Lib.hid (And.intro (P5.out.1.trans q6) (And.intro (P5.out.2.1.keep q6 (fun h => h)) (HI.out.keep P5.out.2.2 q6)))
  clear q6 P5
  go_wp2_with fail
  refine (HI.out.len0 (HT.out _ P6.out.1)).mono ?_
  rintro e w7 ⟨rfl, q7⟩
  have P7 := Lib.hid (And.intro (P6.out.1.trans q7) (And.intro (P6.out.2.1.keep q7 (fun h => h)) (HI.out.keep P6.out.2.2 q7)))
  clear q7 P6
  go_wp2_with fail
  refine (HI.out.class0 (b := 7) (HT.out _ P7.out.1) (by decide)).mono ?_
  rintro e w8 ⟨rfl, q8⟩
  have P8 := Lib.hid (And.intro (P7.out.1.trans q8) (And.intro (P7.out.2.1.keep q8 (fun h => h)) (HI.out.keep P7.out.2.2 q8)))
  clear q8 P7
  go_wp2_with fail
  refine (HI.out.of0 (HT.out _ P8.out.1) HC.out.1 HC.out.2.1).mono ?_
  rintro e w9 ⟨rfl, q9⟩
  have P9 := Lib.hid (And.intro (P8.out.1.trans q9) (And.intro (P8.out.2.1.keep q9 (fun h => h)) (HI.out.keep P8.out.2.2 q9)))
  clear q9 P8
  obtain ⟨Z, hZ⟩ : ∃ Z, Z = ST.none := ⟨_, rfl⟩
  rw [← hZ]
  have e9 := eq_zero hZ
  clear hZ
  go_wp2_with fail
  clear e9
  refine (HI.out.remap0 (HT.out _ P9.out.1)).mono ?_
  rintro e w10 ⟨rfl, q10⟩
  have P10 := Lib.hid (And.intro (P9.out.1.trans q10) (And.intro (P9.out.2.1.keep q10 (fun h => h)) (HI.out.keep P9.out.2.2 q10)))
  clear q10 P9
  obtain ⟨R, hR⟩ : ∃ R, R = arr8 fun _ => 0 := ⟨_, rfl⟩
  rw [← hR]
  have z10 := run_zero8
  rw [← hR] at z10
  have e10 : ∀ w, (Op.equalIn 10000 29 (.agg R) (.agg R)).run Tryd.prog w = .ok true w := fun w => by
    rw [hR, eq_arr8, (sameTo_iff 256 _ _).2 (fun _ _ => rfl)]
  clear hR
  obtain ⟨⟨c0, c1, c2, c3⟩, -⟩ := cells4 P10.out.2.1
  go_wp2_with fail
  clear e10 z10
  refine (HI.out.classes0 (s := s) (HT.out _ P10.out.1) HC.out.2.2).mono ?_
  rintro e w11 ⟨u, rfl, hu, q11⟩
  obtain ⟨ua, uc, rfl, -⟩ := hu.form
  have P11 := Lib.hid (And.intro (P10.out.1.trans q11) (HI.out.keep P10.out.2.2 q11))
  clear q11 P10 hu
  go_wp2_with fail
  refine (HI.out.of (c := -1) (HT.out _ P11.out.1) P11.out.2 (by decide) (by decide)).mono ?_
  rintro e w12 ⟨rfl, q12⟩
  have P12 := Lib.hid (P11.out.1.trans q12)
  obtain ⟨Y, hY⟩ : ∃ Y, Y = ofC [s] (-1) := ⟨_, rfl⟩
  rw [← hY]
  rw [ofC_none (.inl (by decide))] at hY
  have e12 := eq_zero hY
  clear hY q12 P11
  go_wp2_with fail
  go_ret
  exact ⟨rfl, P12.out⟩
end Go.Proofs.YtidfjeliofgpmaaDoor.Parts
