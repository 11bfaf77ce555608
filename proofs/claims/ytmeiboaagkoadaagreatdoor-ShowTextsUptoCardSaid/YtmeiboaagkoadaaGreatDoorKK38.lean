/- The document's number and times (layer 8). -/
import Derived.Test.YtmeiboaagkoadaaGreatDoorKK34
import Derived.Test.YtmeiboaagkoadaaGreatDoorKK30
namespace Go.Proofs.YtmeiboaagkoadaaGreatDoor.P08
open Go.RowKit Go.Proofs.YtmeiboaagkoadaaGreatDoor.Base Go.Proofs.YtmeiboaagkoadaaGreatDoor.Bytes Go.Proofs.YtmeiboaagkoadaaGreatDoor.P07
open Go.Proofs.YtmeiboaagkoadaaGreatDoor.Sets (ST)

theorem num_len (n : Nat) : (numT n).length ≤ 2 := by
  unfold numT
  split <;> simp

set_option maxRecDepth 100000 in
set_option maxHeartbeats 1000000 in
theorem fnum_one (n : Nat) (hn : n < 10) (w : World) : Calls Tryz.prog 42 #[.int .i64 n] w fun e w' => e = .returned (Bytes.str [UInt8.ofNat (48 + n)]) ∧ Keep (fun _ => False) w w' := by
  have c := Bytes.conv1 (48 + n) (by omega) w
  rw [show (((48 + n : Nat)) : Int) = 48 + (n : Int) from by omega] at c
  obtain ⟨u, hu⟩ : ∃ u, UInt8.ofNat (48 + n) = u := ⟨_, rfl⟩
  rw [hu] at c ⊢
  clear hu
  have h1 : (n : Int) < 10 := by omega
  have j1 : IntKind.i64.wrap (48 + (n : Int)) = 48 + (n : Int) := by rw [IntKind.wrap_i64]; omega
  have j2 : IntKind.u8.wrap (48 + (n : Int)) = 48 + (n : Int) := by rw [IntKind.wrap_u8]; omega
  go_enter Tryz.func42, Tryz.ntmps42
  go_wp2_with fail
  go_ret
  exact ⟨rfl, (Keep.refl _ _).alloc _⟩

set_option maxRecDepth 100000 in
set_option maxHeartbeats 1000000 in
theorem fnum_any (n : Nat) (hn : n ≤ 20) (w : World) : Calls Tryz.prog 42 #[.int .i64 n] w fun e w' => e = .returned (Bytes.str (numT n)) ∧ Keep (fun _ => False) w w' := by
  by_cases h : n < 10
  · unfold numT
    rw [if_pos h]
    exact fnum_one n h w
  · have he : Bytes.str (numT n) = Bytes.str ([UInt8.ofNat (48 + n / 10)] ++ [UInt8.ofNat (48 + n % 10)]) := by rw [numT, if_neg h]; rfl
    have HE := Lib.hid he
    clear he
    have h1 : ¬ (n : Int) < 10 := by omega
    have j0 : IntKind.i64.wrap ((n : Int) / 10) = (n : Int) / 10 := by rw [IntKind.wrap_i64]; omega
    have j1 : IntKind.i64.wrap ((n : Int) % 10) = (n : Int) % 10 := by rw [IntKind.wrap_i64]; omega
    have k1 := fun w => fnum_one (n / 10) (by omega) w
    have k2 := fun w => fnum_one (n % 10) (by omega) w
    obtain ⟨u, hu⟩ : ∃ u, UInt8.ofNat (48 + n / 10) = u := ⟨_, rfl⟩
    obtain ⟨v, hv⟩ : ∃ v, UInt8.ofNat (48 + n % 10) = v := ⟨_, rfl⟩
    rw [hu] at k1 HE
    rw [hv] at k2 HE
    clear hu hv
    rw [show (((n / 10 : Nat)) : Int) = (n : Int) / 10 from by omega] at k1
    rw [show (((n % 10 : Nat)) : Int) = (n : Int) % 10 from by omega] at k2
    have HK := Lib.hid (And.intro k1 k2)
    clear k1 k2
    go_enter Tryz.func42, Tryz.ntmps42
    go_wp2_with fail
    refine (HK.out.1 _).mono ?_
    rintro e w1 ⟨rfl, q1⟩
    go_wp2_with fail
    refine (HK.out.2 _).mono ?_
    rintro e w2 ⟨rfl, q2⟩
    have HQ := Lib.hid (q1.trans q2)
    clear q1 q2
    go_wp2
    go_ret
    exact ⟨by rw [HE.out]; exact Bytes.ret_str (Bytes.str_append _ _), HQ.out⟩

set_option maxRecDepth 100000 in
set_option maxHeartbeats 1000000 in
theorem ftimes_any (lo hi : Int) (h0 : 0 ≤ lo) (h1 : lo ≤ 20) (h2 : hi = -1 ∨ lo ≤ hi ∧ hi ≤ 20) (w : World) : Calls Tryz.prog 23 #[.int .i64 lo, .int .i64 hi] w fun e w' => e = .returned (Bytes.str (times lo hi)) ∧ Keep (fun _ => False) w w' := by
  have hlo : ((lo.toNat : Nat) : Int) = lo := Int.toNat_of_nonneg h0
  have k1 := fun w => fnum_any lo.toNat (by omega) w
  rw [hlo] at k1
  have k2 : hi ≠ -1 → ∀ w, Calls Tryz.prog 42 #[.int .i64 hi] w fun e w' => e = .returned (Bytes.str (numT hi.toNat)) ∧ Keep (fun _ => False) w w' := fun h w => by
    have := fnum_any hi.toNat (by omega) w
    rw [Int.toNat_of_nonneg (by omega)] at this
    exact this
  have HK := Lib.hid (And.intro k1 k2)
  have l1 := num_len lo.toNat
  have l2 := num_len hi.toNat
  clear k1 k2 hlo
  unfold times
  by_cases a1 : lo = 0 ∧ hi = -1
  · obtain ⟨rfl, rfl⟩ := a1
    rw [if_pos ⟨rfl, rfl⟩]
    go_enter Tryz.func23, Tryz.ntmps23
    go_wp2_with fail
    go_ret
    exact ⟨rfl, Keep.refl _ _⟩
  · rw [if_neg a1]
    by_cases a2 : lo = 1 ∧ hi = -1
    · obtain ⟨rfl, rfl⟩ := a2
      rw [if_pos ⟨rfl, rfl⟩]
      go_enter Tryz.func23, Tryz.ntmps23
      go_wp2_with fail
      go_ret
      exact ⟨rfl, Keep.refl _ _⟩
    · rw [if_neg a2]
      by_cases a3 : lo = 0 ∧ hi = 1
      · obtain ⟨rfl, rfl⟩ := a3
        rw [if_pos ⟨rfl, rfl⟩]
        go_enter Tryz.func23, Tryz.ntmps23
        go_wp2_with fail
        go_ret
        exact ⟨rfl, Keep.refl _ _⟩
      · rw [if_neg a3]
        have n1 : ¬ 9223372036854775807 < 1 + (numT lo.toNat).length := by omega
        have n2 : ¬ 9223372036854775807 < 1 + (numT lo.toNat).length + 2 := by omega
        have n3 : ¬ 9223372036854775807 < 1 + (numT lo.toNat).length + 1 := by omega
        have n4 : ¬ 9223372036854775807 < 1 + (numT hi.toNat).length := by omega
        have n5 : ¬ 9223372036854775807 < 1 + (numT lo.toNat).length + (1 + (numT hi.toNat).length) := by omega
        have n6 : ¬ 9223372036854775807 < 1 + (numT lo.toNat).length + (1 + (numT hi.toNat).length) + 1 := by omega
        by_cases a4 : hi = -1
        · have HE := Lib.hid (And.intro a1 (And.intro a2 a3))
          rw [if_pos a4]
          subst a4
          have b1 : (lo == 0) = false := by simp; omega
          have b2 : (lo == 1) = false := by simp; omega
          clear a1 a2 a3
          go_enter Tryz.func23, Tryz.ntmps23
          go_wp2_with fail
          refine (HK.out.1 _).mono ?_
          rintro e w1 ⟨rfl, q1⟩
          have HQ := Lib.hid q1
          clear q1
          go_wp2
          go_ret
          exact ⟨Bytes.ret_str (ByteArray.ext (by simp)), HQ.out⟩
        · rw [if_neg a4]
          have b4 : (hi == -1) = false := by simp; omega
          have HA := Lib.hid (HK.out.2 a4)
          have H3 := Lib.hid a3
          have b0 : ((lo == 0) = false ∧ (lo == 1) = false) ∨ ((lo == 0) = false ∧ (lo == 1) = true) ∨ ((lo == 0) = true ∧ (lo == 1) = false ∧ (hi == 1) = false) := by
            by_cases z : lo = 0
            · exact .inr (.inr ⟨by simp [z], by simp [z], by simp; omega⟩)
            · by_cases y : lo = 1
              · exact .inr (.inl ⟨by simp [z], by simp [y]⟩)
              · exact .inl ⟨by simp [z], by simp [y]⟩
          by_cases a5 : lo < hi
          · rw [if_pos a5]
            have a6 : ¬ hi ≤ lo := by omega
            clear a1 a2 a3 h2
            rcases b0 with ⟨b0, b1⟩ | ⟨b0, b1⟩ | ⟨b0, b1, b2⟩
            all_goals
              go_enter Tryz.func23, Tryz.ntmps23
              go_wp2_with fail
              refine (HK.out.1 _).mono ?_
              rintro e w1 ⟨rfl, q1⟩
              go_wp2_with fail
              refine (HA.out _).mono ?_
              rintro e w2 ⟨rfl, q2⟩
              have HQ := Lib.hid (q1.trans q2)
              clear q1 q2
              go_wp2
              go_ret
              exact ⟨Bytes.ret_str (ByteArray.ext (by simp)), HQ.out⟩
          · rw [if_neg a5]
            have a6 : hi ≤ lo := by omega
            clear a1 a2 a3 h2
            rcases b0 with ⟨b0, b1⟩ | ⟨b0, b1⟩ | ⟨b0, b1, b2⟩
            all_goals
              go_enter Tryz.func23, Tryz.ntmps23
              go_wp2_with fail
              refine (HK.out.1 _).mono ?_
              rintro e w1 ⟨rfl, q1⟩
              have HQ := Lib.hid q1
              clear q1
              go_wp2
              go_ret
              exact ⟨Bytes.ret_str (ByteArray.ext (by simp)), HQ.out⟩
end Go.Proofs.YtmeiboaagkoadaaGreatDoor.P08
