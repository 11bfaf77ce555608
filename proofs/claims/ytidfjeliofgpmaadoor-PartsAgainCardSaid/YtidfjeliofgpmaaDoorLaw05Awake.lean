/- sievelaw05's awake, over what package parts keeps (Holds). -/
import Derived.Test.YtidfjeliofgpmaaDoorParts
import Derived.Test.YtidfjeliofgpmaaDoorBelow
import Derived.Deep.RegionHeld3
namespace Go.Proofs.YtidfjeliofgpmaaDoor.Parts
open Go.RowKit Go.Proofs.YtidfjeliofgpmaaDoor.Base Go.Proofs.YtidfjeliofgpmaaDoor.Sets Go.Proofs.YtidfjeliofgpmaaDoor.Bytes Go.Proofs.YtidfjeliofgpmaaDoor.SetL Go.Proofs.YtidfjeliofgpmaaDoor.OL Go.Proofs.YtidfjeliofgpmaaDoor.Cls Go.Proofs.YtidfjeliofgpmaaDoor.IL

def LA : List ST := [ST.range 97 99, ST.range 99 122]
def gA (b : Nat) : Nat := if 97 ≤ b ∧ b ≤ 98 then 97 else if b = 99 then 99 else if 100 ≤ b ∧ b ≤ 122 then 100 else 0
def fA (b : Nat) : Nat := if 97 ≤ b ∧ b ≤ 98 then 1 else if b = 99 then 2 else if 100 ≤ b ∧ b ≤ 122 then 3 else 0
theorem aw_rep : ∀ b, b < 256 → rep (key LA) b = gA b := by decide +kernel
theorem aw_0 : cnt (first (key LA)) 0 = 0 := rfl
theorem aw_1 : cnt (first (key LA)) 97 = 1 := by decide +kernel
theorem aw_2 : cnt (first (key LA)) 99 = 2 := by decide +kernel
theorem aw_3 : cnt (first (key LA)) 100 = 3 := by decide +kernel
theorem aw_4 : ncl (key LA) = 4 := by decide +kernel
theorem aw_cls (b : Nat) (h : b < 256) : cls (key LA) b = fA b := by
  unfold cls
  rw [aw_rep b h]
  unfold gA fA
  split
  · exact aw_1
  · split
    · exact aw_2
    · split
      · exact aw_3
      · exact aw_0
theorem aw_count : (ofC LA 1).count = 2 := by
  have h : (ofC LA 1).count = cnt (fun b => decide ((fA b : Int) = 1)) 256 := cnt_congr fun b hb => by
    unfold ofC
    rw [has_ofP _ b hb, aw_cls b hb]
  rw [h]
  decide +kernel
theorem aw_inn (s : ST) (c : Nat) : inn LA s c = (List.range 256).all fun b => !decide (fA b = c) || s.has b := by
  unfold inn
  rw [Bool.eq_iff_iff, List.all_eq_true, List.all_eq_true]
  constructor
  · intro h b hb
    rw [← aw_cls b (List.mem_range.1 hb)]
    exact h b hb
  · intro h b hb
    rw [aw_cls b (List.mem_range.1 hb)]
    exact h b hb
theorem aw_cl : (cl LA (ST.range 97 122)).length = 3 := by
  unfold cl
  rw [List.length_map, aw_4, show inn LA (ST.range 97 122) = (fun c => (List.range 256).all fun b => !decide (fA b = c) || (ST.range 97 122).has b) from funext (aw_inn _)]
  decide +kernel
theorem aw_none : ncl (key []) = 1 := by decide +kernel
theorem aw_ok : ∀ s ∈ LA, s.Ok := by
  intro s hs
  simp [LA] at hs
  rcases hs with rfl | rfl <;> exact ST.range_ok _ _
theorem ofC_ok (L : List ST) (c : Int) : (ofC L c).Ok := ofP_ok _


section
variable {PT : World → Value → List ST → Prop}
theorem Holds.len_is (I : Holds PT) {w : World} {v : Value} {L : List ST} {n : Int} (hT : Tab w) (hp : PT w v L) (h : (ncl (key L) : Int) = n) : Calls Tryd.prog 17 #[v] w fun e w' => e = .returned (.int .i64 n) ∧ Keep (fun _ => False) w w' := by
  rw [← h]
  exact I.len hT hp
theorem Holds.class_is (I : Holds PT) {w : World} {v : Value} {L : List ST} {b : Nat} {n : Int} (hT : Tab w) (hp : PT w v L) (hb : b < 256) (h : (cls (key L) b : Int) = n) : Calls Tryd.prog 12 #[v, .int .u8 b] w fun e w' => e = .returned (.int .i64 n) ∧ Keep (fun _ => False) w w' := by
  rw [← h]
  exact I.class' hT hp hb
theorem Holds.sample_is (I : Holds PT) {w : World} {v : Value} {L : List ST} {b : Nat} {n : Int} (hT : Tab w) (hp : PT w v L) (hb : b < 256) (hf : first (key L) b = true) (h : (cls (key L) b : Int) = n) : Calls Tryd.prog 15 #[v, .int .i64 n] w fun e w' => e = .returned (.tuple #[.int .u8 b, .bool true]) ∧ Keep (fun _ => False) w w' := by
  rw [← h]
  exact I.sample hT hp hb hf
end

set_option maxRecDepth 100000 in
theorem awake_any {PT : World → Value → List ST → Prop} (I : Holds PT) (w : World) (hT : Tab w) : Calls Tryd.prog 8 #[] w fun e w' => e = .returned (.bool true) ∧ Keep (fun _ => False) w w' := by
  have HI := Lib.hid I
  clear I
  have HT := Lib.hid (fun (w' : World) (q : Keep (fun _ => False) w w') => hT.keep q)
  clear hT
  go_enter Tryd.func8, Tryd.ntmps8
  go_wp2_with fail
  refine (of_any 97 99 (by decide) (by decide) _).mono ?_
  rintro e w1 ⟨rfl, q1⟩
  obtain ⟨A, hA⟩ : ∃ A, A = ST.range 97 99 := ⟨_, rfl⟩
  rw [← hA]
  have Q1 := Lib.hid (And.intro q1 hA)
  clear q1 hA
  go_wp2_with fail
  refine (of_any 99 122 (by decide) (by decide) _).mono ?_
  rintro e w2 ⟨rfl, q2⟩
  obtain ⟨B, hB⟩ : ∃ B, B = ST.range 99 122 := ⟨_, rfl⟩
  rw [← hB]
  have Q2 := Lib.hid (And.intro (Q1.out.1.trans q2) (And.intro Q1.out.2 hB))
  clear q2 hB Q1
  go_wp2_with fail
  have sl := (new_two w2 A B).form
  have qa := Q2.out.1.alloc (.cells #[.int .u64 A.x0, .int .u64 A.x1, .int .u64 A.x2, .int .u64 A.x3, .int .u64 B.x0, .int .u64 B.x1, .int .u64 B.x2, .int .u64 B.x3] 35)
  generalize (w2.alloc (.cells #[.int .u64 A.x0, .int .u64 A.x1, .int .u64 A.x2, .int .u64 A.x3, .int .u64 B.x0, .int .u64 B.x1, .int .u64 B.x2, .int .u64 B.x3] 35)) = w3 at *
  generalize w2.heap.size = g at *
  obtain ⟨a', c', e, hsl, -⟩ := sl
  injection e with e1 _ e2
  subst e1 e2
  rw [Q2.out.2.1, Q2.out.2.2] at hsl
  refine (HI.out.cut (L := LA) 2 (HT.out _ qa) (by decide) aw_ok hsl).mono ?_
  rintro e w4 ⟨v, rfl, hp, q4⟩
  obtain ⟨pa, rfl⟩ := HI.out.form hp
  have P4 := Lib.hid (And.intro (qa.trans q4) hp)
  clear hsl qa hp q4 Q2
  go_wp2_with fail
  refine (HI.out.sample_is (b := 100) (HT.out _ P4.out.1) P4.out.2 (by decide) (by unfold first; rw [aw_rep 100 (by decide)]; rfl) (by rw [aw_cls 100 (by decide)]; rfl)).mono ?_
  rintro e w5 ⟨rfl, q5⟩
  have P5 := Lib.hid (And.intro (P4.out.1.trans q5) (HI.out.keep P4.out.2 q5))
  clear q5 P4
  go_wp2_with fail
  refine (HI.out.none (HT.out _ P5.out.1) P5.out.2 (by decide) (by decide) (.inr (by rw [aw_4]; decide))).mono ?_
  rintro e w6 ⟨rfl, q6⟩
  have P6 := Lib.hid (And.intro (P5.out.1.trans q6) (HI.out.keep P5.out.2 q6))
  clear q6 P5
  go_wp2_with fail
  refine (HI.out.len_is (n := 4) (HT.out _ P6.out.1) P6.out.2 (by rw [aw_4]; rfl)).mono ?_
  rintro e w7 ⟨rfl, q7⟩
  have P7 := Lib.hid (And.intro (P6.out.1.trans q7) (HI.out.keep P6.out.2 q7))
  clear q7 P6
  go_wp2_with fail
  refine (HI.out.class_is (b := 33) (n := 0) (HT.out _ P7.out.1) P7.out.2 (by decide) (by rw [aw_cls 33 (by decide)]; rfl)).mono ?_
  rintro e w8 ⟨rfl, q8⟩
  have P8 := Lib.hid (And.intro (P7.out.1.trans q8) (HI.out.keep P7.out.2 q8))
  clear q8 P7
  go_wp2_with fail
  refine (HI.out.class_is (b := 98) (n := 1) (HT.out _ P8.out.1) P8.out.2 (by decide) (by rw [aw_cls 98 (by decide)]; rfl)).mono ?_
  rintro e w9 ⟨rfl, q9⟩
  have P9 := Lib.hid (And.intro (P8.out.1.trans q9) (HI.out.keep P8.out.2 q9))
  clear q9 P8
  go_wp2_with fail
  refine (HI.out.class_is (b := 99) (n := 2) (HT.out _ P9.out.1) P9.out.2 (by decide) (by rw [aw_cls 99 (by decide)]; rfl)).mono ?_
  rintro e w10 ⟨rfl, q10⟩
  have P10 := Lib.hid (And.intro (P9.out.1.trans q10) (HI.out.keep P9.out.2 q10))
  clear q10 P9
  go_wp2_with fail
  refine (HI.out.class_is (b := 122) (n := 3) (HT.out _ P10.out.1) P10.out.2 (by decide) (by rw [aw_cls 122 (by decide)]; rfl)).mono ?_
  rintro e w11 ⟨rfl, q11⟩
  have P11 := Lib.hid (And.intro (P10.out.1.trans q11) (HI.out.keep P10.out.2 q11))
  clear q11 P10
  go_wp2_with fail
  refine (HI.out.of (c := 1) (HT.out _ P11.out.1) P11.out.2 (by decide) (by decide)).mono ?_
  rintro e w12 ⟨rfl, q12⟩
  obtain ⟨C, hC⟩ : ∃ C, C = ofC LA 1 := ⟨_, rfl⟩
  rw [← hC]
  have P12 := Lib.hid (And.intro (P11.out.1.trans q12) (And.intro (HI.out.keep P11.out.2 q12) hC))
  clear q12 P11 hC
  go_wp2_with fail
  refine (count_any C (by rw [P12.out.2.2]; exact ofC_ok _ _) w12).mono ?_
  rintro e w13 ⟨rfl, q13⟩
  rw [show C.count = 2 from by rw [P12.out.2.2]; exact aw_count]
  have P13 := Lib.hid (And.intro (P12.out.1.trans q13) (HI.out.keep P12.out.2.1 q13))
  clear q13 P12
  go_wp2_with fail
  refine (of_any 97 122 (by decide) (by decide) w13).mono ?_
  rintro e w14 ⟨rfl, q14⟩
  obtain ⟨D, hD⟩ : ∃ D, D = ST.range 97 122 := ⟨_, rfl⟩
  rw [← hD]
  have P14 := Lib.hid (And.intro (P13.out.1.trans q14) (And.intro (HI.out.keep P13.out.2 q14) hD))
  clear q14 P13 hD
  go_wp2_with fail
  refine (HI.out.classes (HT.out _ P14.out.1) P14.out.2.1 (s := D) (by rw [P14.out.2.2]; exact ST.range_ok _ _)).mono ?_
  rintro e w15 ⟨u, rfl, hu, q15⟩
  obtain ⟨ua, uc, rfl, -⟩ := hu.form
  rw [show (cl LA D).length = 3 from by rw [P14.out.2.2]; exact aw_cl]
  have P15 := Lib.hid (P14.out.1.trans q15)
  clear q15 P14 hu
  go_wp2_with fail
  refine (HI.out.cut (L := []) 0 (HT.out _ P15.out) (by decide) (by simp) (.inl rfl)).mono ?_
  rintro e w16 ⟨v, rfl, hp, q16⟩
  have P16 := Lib.hid (And.intro (P15.out.trans q16) hp)
  clear q16 P15 hp
  go_wp2_with fail
  refine (HI.out.len_is (n := 1) (HT.out _ P16.out.1) P16.out.2 (by rw [aw_none]; rfl)).mono ?_
  rintro e w17 ⟨rfl, q17⟩
  have P17 := Lib.hid (P16.out.1.trans q17)
  clear q17 P16
  go_wp2_with fail
  go_ret
  exact ⟨rfl, P17.out⟩
end Go.Proofs.YtidfjeliofgpmaaDoor.Parts
