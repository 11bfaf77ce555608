/- Package rules: Name, which ranges over the text's bytes. -/
import Derived.Test.YtmeiboaagkoadaaGreatDoorKK06
import Derived.Lib.ConvBytes
namespace Go.Proofs.YtmeiboaagkoadaaGreatDoor.Ref06
open Go.RowKit Go.Proofs.YtmeiboaagkoadaaGreatDoor.Base

theorem keep_bytes (w : World) (e : TypeId) (s : ByteArray) : Keep (fun _ => False) w (Lib.bytesWorld w e s) :=
  ⟨rfl, rfl, rfl, by rw [Lib.bytesWorld_size]; omega, fun k hk _ => Lib.bytesWorld_at_old w e s k hk⟩

set_option maxRecDepth 100000 in
set_option maxHeartbeats 2000000 in
theorem cname_any (l : List UInt8) (hl : l.length ≤ 9223372036854775807) (w : World) : Calls Tryz.prog 65 #[str l] w fun e w' => e = .returned (.bool (nameL l)) ∧ Keep (fun _ => False) w w' := by
  have hs := size_str l
  have hcv := fun w => Lib.run_convert_string_bytes (P := Tryz.prog) w 9 65 5 ⟨l.toArray⟩ (u := .string) Tryz.underlying9 Tryz.underlying65 Tryz.underlying5
  have hcell := fun w j hj => Lib.bytesWorld_cell w 5 ⟨l.toArray⟩ j hj
  have hkeep := fun w => keep_bytes w 5 ⟨l.toArray⟩
  rw [hs] at hcell
  have hcell' : ∀ (w : World) (k : Nat), k < l.length → (Lib.bytesWorld w 5 ⟨l.toArray⟩).cell? ⟨w.heap.size, k, none⟩ = some (.int .u8 (byteAt l k)) := fun w k hk => by
    rw [hcell w k hk]
    unfold byteAt
    rw [show (ByteArray.mk l.toArray).data.toList = l from rfl, List.getD_eq_getElem?_getD]
  clear hcell
  obtain ⟨B, hB⟩ : ∃ B : ByteArray, (⟨l.toArray⟩ : ByteArray) = B := ⟨_, rfl⟩
  unfold str
  rw [hB] at hs hcell' ⊢
  simp only [hB] at hcv hkeep
  clear hB
  have hcv1 := hcv w
  rw [hs] at hcv1
  have hc1 := hcell' w
  have hk1 := hkeep w
  obtain ⟨cap, hcap⟩ : ∃ c, grownCap w l.length 0 5 = c := ⟨_, rfl⟩
  rw [hcap] at hcv1
  obtain ⟨W, hW⟩ : ∃ W, Lib.bytesWorld w 5 B = W := ⟨_, rfl⟩
  rw [hW] at hcv1 hc1 hk1
  have HW := Lib.hid (And.intro hc1 hk1)
  clear hcv hcell' hkeep hc1 hk1 hcap hW
  obtain ⟨v, hv⟩ : ∃ v, nameL l = v := ⟨_, rfl⟩
  rw [hv]
  have HV := Lib.hid hv
  clear hv
  by_cases h1 : l.length < 1
  · have h1' : (l.length : Int) < 1 := by omega
    go_enter Tryz.func65, Tryz.ntmps65
    go_wp2_with fail
    go_ret
    exact ⟨ret_bool (by rw [← HV.out]; unfold nameL; rw [decide_eq_false (by omega), Bool.and_false]), Keep.refl _ _⟩
  · have h1' : ¬ (l.length : Int) < 1 := by omega
    by_cases h12 : 12 < l.length
    · have h12' : (12 : Int) < l.length := by omega
      go_enter Tryz.func65, Tryz.ntmps65
      go_wp2_with fail
      go_ret
      exact ⟨ret_bool (by rw [← HV.out]; unfold nameL; rw [decide_eq_false (by omega), Bool.and_false]), Keep.refl _ _⟩
    · have h12' : ¬ (12 : Int) < l.length := by omega
      have hn : nameL l = l.all fun c => letB c.toNat := by unfold nameL; rw [decide_eq_true (by omega), Bool.and_true]
      have HN := Lib.hid hn
      clear hn
      go_enter Tryz.func65, Tryz.ntmps65
      go_wp2_with fail
      go_loopg [16] l.length (fun gg i wr => ∃ k : Nat, i = .int .i64 k ∧ k + gg = l.length ∧ allTo l k = true ∧ W = wr)
      case atStart => exact ⟨0, rfl, by omega, allTo_0 l, rfl⟩
      case round =>
        obtain ⟨k, rfl, hk, hE, rfl⟩ := hrel
        have HK := Lib.hid hE
        clear hE
        by_cases hlt : k < l.length
        · have hlt' : (k : Int) < l.length := by omega
          have hi := HW.out.1 k hlt
          have hb := byteAt_lt l k
          have hsu := allTo_succ hlt
          obtain ⟨x, hx⟩ : ∃ x, letB (byteAt l k) = x := ⟨_, rfl⟩
          have hno := fun e : letB (byteAt l k) = false => all_no hlt e
          have HX := Lib.hid (And.intro hx (And.intro hsu hno))
          clear hx hsu hno
          generalize byteAt l k = c at *
          go_wp2_with fail
          refine (inName_is hb HX.out.1 W).mono ?_
          rintro e w' ⟨rfl, rfl⟩
          cases x
          · go_wp2_with fail
            go_ret
            exact ⟨ret_bool (by rw [← HV.out, HN.out, HX.out.2.2 HX.out.1]), HW.out.2⟩
          · go_wp2_with fail
            go_roundg (l.length - (k + 1))
            case measure => omega
            case rel => exact ⟨k + 1, by go_num, by omega, by rw [HX.out.2.1, HK.out, HX.out.1]; rfl, rfl⟩
        · have hke : k = l.length := by omega
          subst hke
          have hall : nameL l = true := by rw [HN.out, ← allTo_end]; exact HK.out
          have HA := Lib.hid hall
          clear hall
          generalize l.length = n at *
          go_wp2_with fail
          go_ret
          exact ⟨ret_bool (by rw [← HV.out, HA.out]), HW.out.2⟩

theorem cname_is {l : List UInt8} {v : Bool} (hl : l.length ≤ 9223372036854775807) (h : nameL l = v) (w : World) : Calls Tryz.prog 65 #[str l] w fun e w' => e = .returned (.bool v) ∧ Keep (fun _ => False) w w' := by
  rw [← h]
  exact cname_any l hl w
end Go.Proofs.YtmeiboaagkoadaaGreatDoor.Ref06
