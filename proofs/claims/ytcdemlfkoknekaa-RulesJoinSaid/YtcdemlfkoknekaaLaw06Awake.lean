/- What the laws of layer 6 ask first: the answers that the document fixes. -/
import Derived.Test.YtcdemlfkoknekaaSplit06
import Derived.Test.YtcdemlfkoknekaaJoinC06
namespace Go.Proofs.Ytcdemlfkoknekaa.Ref06
open Go.RowKit Go.Proofs.Ytcdemlfkoknekaa.Base

theorem split_is {l : List UInt8} {R : Nat ⊕ List LN} (h : splitR l = R) (hl : l.length ≤ 9223372036854775807) (w : World) : Calls Try.prog 9 #[str l] w (IsSplitC R w) := by
  rw [← h]
  exact split_any l hl w
theorem join_is {L : List LN} {R : Option (List UInt8)} (h : joinR L = R) {a : Option Addr} {k cap : Nat} (hk : L.length = k) (hcap : k ≤ cap) (hl : k ≤ 30) (hb : ∀ r ∈ L, r.name.length ≤ 2000 ∧ r.text.length ≤ 2000) (w : World) (hL : LS w a L) :
    Calls Try.prog 12 #[.slice a k cap] w (IsJoinC R w) := by
  subst hk
  rw [← h]
  exact join_any L a cap hcap hl hb w hL

set_option maxRecDepth 100000 in
set_option maxHeartbeats 4000000 in
theorem awake_any (w : World) : Calls Try.prog 8 #[] w fun e w' => e = .returned (.bool true) ∧ Keep (fun _ => False) w w' := by
  have C1 := Lib.hid (fun w => split_is aw1 (by simp) w)
  have C2 := Lib.hid (fun w => split_is aw2 (by simp) w)
  have C3 := Lib.hid (fun w => split_is aw3 (by simp) w)
  have N1 := Lib.hid (fun w => cname_is (by simp) aw6 w)
  have N2 := Lib.hid (fun w => cname_is (by simp) aw7 w)
  go_enter Try.func8, Try.ntmps8
  go_wp2_with fail
  refine (C1.out w).mono ?_
  rintro e w1 ⟨v1, n1, s1, rfl, q1, hc⟩
  rcases hc with ⟨b, hb, -⟩ | ⟨out, ho, hv, rfl, rfl⟩
  · cases hb
  injection ho with ho
  subst ho
  obtain ⟨a1, cap1, rfl, hcap, -, -⟩ := hv.form2
  have H1 := Lib.hid (And.intro hv q1)
  have HC := Lib.hid hcap
  clear hv q1 hcap
  go_wp2_with fail
  refine (C2.out w1).mono ?_
  rintro e w2 ⟨v2, n2, s2, rfl, q2, hc⟩
  rcases hc with ⟨b, hb, rfl, rfl, rfl⟩ | ⟨out, ho, -⟩
  case inr => cases ho
  injection hb with hb
  subst hb
  have H2 := Lib.hid (And.intro (H1.out.1.keep q2 (fun _ _ h => h)) (H1.out.2.trans q2))
  clear q2 H1
  go_wp2_with fail
  refine (C3.out w2).mono ?_
  rintro e w3 ⟨v3, n3, s3, rfl, q3, hc⟩
  rcases hc with ⟨b, hb, rfl, rfl, rfl⟩ | ⟨out, ho, -⟩
  case inr => cases ho
  injection hb with hb
  subst hb
  have H3 := Lib.hid (And.intro (H2.out.1.keep q3 (fun _ _ h => h)) (H2.out.2.trans q3))
  clear q3 H2
  have hj : ∀ w, LS w a1 [⟨[105, 100], [91, 97, 45, 122, 93, 43], 7⟩] → Calls Try.prog 12 #[.slice a1 1 cap1] w (IsJoinC (some [105, 100, 58, 91, 97, 45, 122, 93, 43, 10]) w) := fun w h => join_is (k := 1) aw4 rfl HC.out (by omega) (by simp) w h
  have HJ := Lib.hid hj
  clear hj
  have hls3 : LS w3 a1 [⟨[105, 100], [91, 97, 45, 122, 93, 43], 7⟩] := by
    obtain ⟨a, cap, he, -, h, -⟩ := H3.out.1.form2
    injection he with he
    rw [he]
    exact h
  have L3 := Lib.hid hls3
  clear hls3
  go_wp2_with fail
  refine (HJ.out w3 L3.out).mono ?_
  rintro e w4 ⟨q4, rfl⟩
  have hls4 := L3.out.keep q4 (fun _ _ h => h)
  have H4 := Lib.hid (And.intro hls4 (H3.out.2.trans q4))
  clear q4 H3 L3 hls4
  go_wp2_with fail
  refine (join_is (k := 0) aw5 rfl (Nat.zero_le _) (by omega) (by simp) w4 (.inl rfl)).mono ?_
  rintro e w5 ⟨q5, rfl⟩
  have hls5 := H4.out.1.keep q5 (fun _ _ h => h)
  obtain ⟨bl, off, rfl, -, c0, c1, c2⟩ := hls5.get (i := 0) rfl
  simp only [Nat.zero_mul, Nat.add_zero] at c0 c1 c2
  have H5 := Lib.hid (H4.out.2.trans q5)
  clear q5 H4 hls5
  go_wp2_with fail
  refine (N1.out _).mono ?_
  rintro e w6 ⟨rfl, q6⟩
  have H6 := Lib.hid (H5.out.trans q6)
  clear q6 H5
  go_wp2_with fail
  refine (N2.out _).mono ?_
  rintro e w7 ⟨rfl, q7⟩
  have H7 := Lib.hid (H6.out.trans q7)
  clear q7 H6
  go_wp2_with fail
  go_ret
  exact ⟨rfl, H7.out⟩
end Go.Proofs.Ytcdemlfkoknekaa.Ref06
