/- The document's fixed answers of layer 4 hold: 'awake' answers true and turns nothing that was there. -/
import Derived.Test.YtdiegmejkipacaaDoorRText
namespace Go.Proofs.YtdiegmejkipacaaDoor.Law04
open Go.RowKit Go.Proofs.YtdiegmejkipacaaDoor.Base Go.Proofs.YtdiegmejkipacaaDoor.Sets Go.Proofs.YtdiegmejkipacaaDoor.PL Go.Proofs.YtdiegmejkipacaaDoor.IL Go.Proofs.YtdiegmejkipacaaDoor.Bytes

/-- a to c. -/
def ac : ST := ST.range 97 99
theorem ac_text : textT ac = [91, 97, 45, 99, 93] := by decide +kernel
theorem xd_text : textT ((ST.one 120).or (ST.one 45)) = [91, 92, 120, 50, 100, 120, 93] := by decide +kernel
theorem ac_count : ac.count = 3 := by decide +kernel
theorem ac_least : leastB ac.has = 97 := by decide +kernel
theorem no_least : leastB ST.none.has = -1 := by decide +kernel
theorem all_text : textT ST.none.not = [46] := by decide +kernel
theorem no_text : textT ST.none = [91, 93] := by decide +kernel
theorem ac_b : ac.has 98 = true := by decide +kernel
theorem ac_d : ac.has 100 = false := by decide +kernel
theorem esc_0 : esc 0 = [92, 120, 48, 48] := by decide +kernel
theorem ac_rgs : rgs ac.has 256 = [(97, 99)] := by decide +kernel

theorem ac_ok : ac.Ok := ST.range_ok _ _
theorem ac_of (w : World) : Calls Tryd.prog 23 #[.int .u8 97, .int .u8 99] w fun e w' => e = .returned (val ac) ∧ Keep (fun _ => False) w w' := of_any 97 99 (by decide) (by decide) w
theorem one_x (w : World) : Calls Tryd.prog 24 #[.int .u8 120] w fun e w' => e = .returned (val (ST.one 120)) ∧ Keep (fun _ => False) w w' := one_any 120 (by decide) w
theorem one_d (w : World) : Calls Tryd.prog 24 #[.int .u8 45] w fun e w' => e = .returned (val (ST.one 45)) ∧ Keep (fun _ => False) w w' := one_any 45 (by decide) w
theorem text_is {s : ST} {l : List UInt8} (h : textT s = l) (hs : s.Ok) (w : World) (hT : Tab w) : Calls Tryd.prog 16 #[val s] w fun e w' => e = .returned (.string ⟨l.toArray⟩) ∧ Keep (fun _ => False) w w' := by
  rw [← h]
  exact text_any s hs w hT
theorem count_is {s : ST} {n : Nat} (h : s.count = n) (hs : s.Ok) (w : World) : Calls Tryd.prog 14 #[val s] w fun e w' => e = .returned (.int .i64 n) ∧ Keep (fun _ => False) w w' := by
  rw [← h]
  exact count_any s hs w
theorem least_is {s : ST} {n : Int} (h : leastB s.has = n) (hs : s.Ok) (w : World) (hT : Tab w) : Calls Tryd.prog 15 #[val s] w fun e w' => e = .returned (.int .i64 n) ∧ Keep (fun _ => False) w w' := by
  rw [← h]
  exact least_any s hs w hT
theorem has_is {s : ST} {b : Nat} {v : Bool} (h : s.has b = v) (hs : s.Ok) (hb : b < 256) (w : World) : Calls Tryd.prog 12 #[val s, .int .u8 b] w fun e w' => e = .returned (.bool v) ∧ Keep (fun _ => False) w w' := by
  rw [← h]
  exact has_any s hs b hb w
theorem esc_is {b : Nat} {l : List UInt8} (h : esc b = l) (hb : b < 256) (w : World) : Calls Tryd.prog 18 #[.int .u8 b] w fun e w' => e = .returned (.string ⟨l.toArray⟩) ∧ Keep (fun _ => False) w w' := by
  rw [← h]
  exact esc_any b hb w

set_option maxRecDepth 100000 in
set_option maxHeartbeats 1000000 in
theorem awake_any (w : World) (hT : Tab w) : Calls Tryd.prog 11 #[] w fun e w' => e = .returned (.bool true) ∧ Keep (fun _ => False) w w' := by
  have f1 := ac_ok
  have f2 := ac_text
  have f3 := ac_count
  have f4 := ac_least
  have f5 := ac_b
  have f6 := ac_d
  have f7 := ac_rgs
  have f8 := ac_of
  generalize ac = r at *
  have F := Lib.hid (And.intro f1 (And.intro f2 (And.intro f3 (And.intro f4 (And.intro f5 (And.intro f6 (And.intro f7 f8)))))))
  clear f1 f2 f3 f4 f5 f6 f7 f8
  have HT := Lib.hid hT
  clear hT
  go_enter Tryd.func11, Tryd.ntmps11
  go_wp2_with fail
  refine (F.out.2.2.2.2.2.2.2 w).mono ?_
  rintro e w1 ⟨rfl, q1⟩
  go_wp2_with fail
  have a1 := At.new w1 (cells r) 24
  have q2 := q1.alloc (.cells (cells r) 24)
  generalize w1.heap.size = b at *
  generalize (w1.alloc (.cells (cells r) 24)) = W at *
  have H := Lib.hid (And.intro a1 q2)
  clear a1 q2 q1
  refine (text_is F.out.2.1 F.out.1 W (HT.out.keep H.out.2)).mono ?_
  rintro e w2 ⟨rfl, q2⟩
  have H2 := Lib.hid (H.out.2.trans q2)
  have A2 := Lib.hid (H.out.1.keep q2 (fun h => h))
  clear q2 H
  go_wp2_with fail
  refine (one_x w2).mono ?_
  rintro e w3 ⟨rfl, q3⟩
  have H3 := Lib.hid (H2.out.trans q3)
  have A3 := Lib.hid (A2.out.keep q3 (fun h => h))
  clear q3 H2 A2
  go_wp2_with fail
  refine (one_d w3).mono ?_
  rintro e w4 ⟨rfl, q4⟩
  have H4 := Lib.hid (H3.out.trans q4)
  have A4 := Lib.hid (A3.out.keep q4 (fun h => h))
  clear q4 H3 A3
  go_wp2_with fail
  refine (or_any _ _ (ST.one_ok 120) (ST.one_ok 45) w4).mono ?_
  rintro e w5 ⟨rfl, q5⟩
  have H5 := Lib.hid (H4.out.trans q5)
  have A5 := Lib.hid (A4.out.keep q5 (fun h => h))
  clear q5 H4 A4
  go_wp2_with fail
  refine (text_is xd_text (ST.or_ok (ST.one_ok 120) (ST.one_ok 45)) w5 (HT.out.keep H5.out)).mono ?_
  rintro e w6 ⟨rfl, q6⟩
  have H6 := Lib.hid (H5.out.trans q6)
  have A6 := Lib.hid (A5.out.keep q6 (fun h => h))
  clear q6 H5 A5
  obtain ⟨⟨c0, c1, c2, c3⟩, -⟩ := cells4 A6.out
  go_wp2_with fail
  refine (count_is F.out.2.2.1 F.out.1 w6).mono ?_
  rintro e w7 ⟨rfl, q7⟩
  have H7 := Lib.hid (H6.out.trans q7)
  have A7 := Lib.hid (A6.out.keep q7 (fun h => h))
  clear q7 H6 A6 c0 c1 c2 c3
  obtain ⟨⟨c0, c1, c2, c3⟩, -⟩ := cells4 A7.out
  go_wp2_with fail
  refine (least_is F.out.2.2.2.1 F.out.1 w7 (HT.out.keep H7.out)).mono ?_
  rintro e w8 ⟨rfl, q8⟩
  have H8 := Lib.hid (H7.out.trans q8)
  have A8 := Lib.hid (A7.out.keep q8 (fun h => h))
  clear q8 H7 A7 c0 c1 c2 c3
  go_wp2_with fail
  refine (least_is no_least ST.none_ok w8 (HT.out.keep H8.out)).mono ?_
  rintro e w9 ⟨rfl, q9⟩
  have H9 := Lib.hid (H8.out.trans q9)
  have A9 := Lib.hid (A8.out.keep q9 (fun h => h))
  clear q9 H8 A8
  go_wp2_with fail
  refine (not_any _ ST.none_ok w9).mono ?_
  rintro e w10 ⟨rfl, q10⟩
  have H10 := Lib.hid (H9.out.trans q10)
  have A10 := Lib.hid (A9.out.keep q10 (fun h => h))
  clear q10 H9 A9
  go_wp2_with fail
  refine (text_is all_text (ST.not_ok _) w10 (HT.out.keep H10.out)).mono ?_
  rintro e w11 ⟨rfl, q11⟩
  have H11 := Lib.hid (H10.out.trans q11)
  have A11 := Lib.hid (A10.out.keep q11 (fun h => h))
  clear q11 H10 A10
  go_wp2_with fail
  refine (text_is no_text ST.none_ok w11 (HT.out.keep H11.out)).mono ?_
  rintro e w12 ⟨rfl, q12⟩
  have H12 := Lib.hid (H11.out.trans q12)
  have A12 := Lib.hid (A11.out.keep q12 (fun h => h))
  clear q12 H11 A11
  obtain ⟨⟨c0, c1, c2, c3⟩, -⟩ := cells4 A12.out
  go_wp2_with fail
  refine (has_is F.out.2.2.2.2.1 F.out.1 (by decide) w12).mono ?_
  rintro e w13 ⟨rfl, q13⟩
  have H13 := Lib.hid (H12.out.trans q13)
  have A13 := Lib.hid (A12.out.keep q13 (fun h => h))
  clear q13 H12 A12 c0 c1 c2 c3
  obtain ⟨⟨c0, c1, c2, c3⟩, -⟩ := cells4 A13.out
  go_wp2_with fail
  refine (has_is F.out.2.2.2.2.2.1 F.out.1 (by decide) w13).mono ?_
  rintro e w14 ⟨rfl, q14⟩
  have H14 := Lib.hid (H13.out.trans q14)
  have A14 := Lib.hid (A13.out.keep q14 (fun h => h))
  clear q14 H13 A13 c0 c1 c2 c3
  go_wp2_with fail
  refine (esc_is esc_0 (by decide) w14).mono ?_
  rintro e w15 ⟨rfl, q15⟩
  have H15 := Lib.hid (H14.out.trans q15)
  have A15 := Lib.hid (A14.out.keep q15 (fun h => h))
  clear q15 H14 A14
  obtain ⟨⟨c0, c1, c2, c3⟩, -⟩ := cells4 A15.out
  go_wp2_with fail
  refine (ranges_any r F.out.1 w15 (HT.out.keep H15.out)).mono ?_
  rintro e w16 ⟨lv, rfl, hp, -, q⟩
  rw [F.out.2.2.2.2.2.2.1] at hp
  obtain ⟨a, cap, rfl, -, -⟩ := hp.form
  have HZ := Lib.hid (H15.out.trans q)
  clear hp q H15 A15 c0 c1 c2 c3
  go_wp2
  go_ret
  exact ⟨rfl, HZ.out⟩
end Go.Proofs.YtdiegmejkipacaaDoor.Law04
