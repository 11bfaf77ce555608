/- RulesRemarks: the walk. -/
import Derived.Test.YtcdemlfkoknekaaLaw06Split
namespace Go.Proofs.Ytcdemlfkoknekaa.Ref06
open Go.RowKit Go.Proofs.Ytcdemlfkoknekaa.Base

theorem LN.off_name (n : Nat) (r : LN) : (LN.off n r).name = r.name := rfl
theorem LN.off_text (n : Nat) (r : LN) : (LN.off n r).text = r.text := rfl
theorem LN.off_place (n : Nat) (r : LN) : (LN.off n r).place = r.place + n := rfl

theorem wrong_le {l : List UInt8} : ∀ f a out b, splitF l f a out = .inl b → b ≤ l.length
  | 0, a, out, b, h => by cases h
  | f + 1, a, out, b, h => by
    rw [splitF] at h
    split at h
    · cases h
    · rename_i ha
      have hle := endN_le (l := l) (a := a) (by omega)
      split at h
      · exact wrong_le f _ out b h
      · split at h
        · injection h with h
          have := scan_le l (endN l a) 12 a (endN_ge l a)
          unfold nmEnd at h
          omega
        · split at h
          · injection h with h
            omega
          · exact wrong_le f _ _ b h
theorem wrong_split {l : List UInt8} {b : Nat} (h : splitR l = .inl b) : b ≤ 1000 := by
  unfold splitR at h
  split at h
  · injection h with h
    omega
  · cases hF : splitF l (l.length + 1) 0 [] with
    | inl c =>
      rw [hF] at h
      injection h with h
      have := wrong_le _ _ _ _ hF
      omega
    | inr o =>
      rw [hF] at h
      cases o with
      | nil =>
        injection h with h
        omega
      | cons r rs => cases h

set_option maxRecDepth 100000 in
set_option maxHeartbeats 4000000 in
theorem remarks_law (l x : List UInt8) (hbl : l.length ≤ 140737488355328) (hbx : x.length ≤ 140737488355328) (w : World) : Calls Try.prog 7 #[str l, str x] w fun e w' => e = .returned (.bool true) ∧ Keep (fun _ => False) w w' := by
  have hs := size_str l
  have hs2 := size_str x
  have hw : IntKind.i64.wrap ((l.length : Int) + x.length) = (l.length : Int) + x.length := by rw [IntKind.wrap_i64]; omega
  by_cases hl : 900 < l.length + x.length
  · have hl' : (900 : Int) < (l.length : Int) + x.length := by omega
    obtain ⟨B, hB⟩ : ∃ B : ByteArray, (⟨l.toArray⟩ : ByteArray) = B := ⟨_, rfl⟩
    obtain ⟨D, hD⟩ : ∃ D : ByteArray, (⟨x.toArray⟩ : ByteArray) = D := ⟨_, rfl⟩
    unfold str
    rw [hB] at hs ⊢
    rw [hD] at hs2 ⊢
    clear hB hD
    go_enter Try.func7, Try.ntmps7
    go_wp2_with fail
    refine (awake_any w).mono ?_
    rintro e w1 ⟨rfl, q1⟩
    have Q1 := Lib.hid q1
    clear q1
    go_wp2_with fail
    refine (awake_any w1).mono ?_
    rintro e w2 ⟨rfl, q2⟩
    have Q2 := Lib.hid (Q1.out.trans q2)
    clear q2
    go_wp2_with fail
    go_ret
    exact ⟨rfl, Q2.out⟩
  · have hl' : ¬ (900 : Int) < (l.length : Int) + x.length := by omega
    have hl2 : l.length + x.length ≤ 900 := by omega
    obtain ⟨R, hR⟩ : ∃ R, splitR l = R := ⟨_, rfl⟩
    have hsp := fun w => split_is hR (by omega) w
    have hrem := fun hx => remark x l hx hl2
    rw [hR] at hrem
    have hsp2 := fun hx w => split_is (hrem hx) (by simp; omega) w
    have hix := index_run x
    have t1 := str_append [35] x
    have t2 := str_append ([35] ++ x) [10, 10]
    have t3 := str_append ([35] ++ x ++ [10, 10]) l
    have z1 := size_str ([35] ++ x)
    have z2 := size_str ([35] ++ x ++ [10, 10])
    rw [show ([35] ++ x : List UInt8).length = x.length + 1 from by simp] at z1
    rw [show ([35] ++ x ++ [10, 10] : List UInt8).length = x.length + 3 from by simp] at z2
    obtain ⟨B, hB⟩ : ∃ B : ByteArray, (⟨l.toArray⟩ : ByteArray) = B := ⟨_, rfl⟩
    obtain ⟨D, hD⟩ : ∃ D : ByteArray, (⟨x.toArray⟩ : ByteArray) = D := ⟨_, rfl⟩
    obtain ⟨B1, hB1⟩ : ∃ D : ByteArray, (⟨([35] ++ x).toArray⟩ : ByteArray) = D := ⟨_, rfl⟩
    obtain ⟨B2, hB2⟩ : ∃ D : ByteArray, (⟨([35] ++ x ++ [10, 10]).toArray⟩ : ByteArray) = D := ⟨_, rfl⟩
    obtain ⟨B3, hB3⟩ : ∃ D : ByteArray, (⟨([35] ++ x ++ [10, 10] ++ l).toArray⟩ : ByteArray) = D := ⟨_, rfl⟩
    have hstr : str l = .string B := by unfold str; rw [hB]
    have hstr2 : str x = .string D := by unfold str; rw [hD]
    have hstr3 : str ([35] ++ x ++ [10, 10] ++ l) = .string B3 := by unfold str; rw [hB3]
    rw [hstr] at hsp ⊢
    rw [hstr2] at hix ⊢
    rw [hstr3] at hsp2
    rw [hB] at hs
    rw [hD] at hs2
    rw [hB1] at z1
    rw [hB2] at z2
    rw [hD, hB1] at t1
    rw [hB1, hB2] at t2
    rw [hB2, hB, hB3] at t3
    have H := Lib.hid (And.intro hsp (And.intro hsp2 (And.intro hix hR)))
    clear hsp hrem hsp2 hix hR hstr hstr2 hstr3 hB hD hB1 hB2 hB3 hbl hbx
    go_enter Try.func7, Try.ntmps7
    go_wp2_with fail
    refine (awake_any w).mono ?_
    rintro e w1 ⟨rfl, q1⟩
    have Q1 := Lib.hid q1
    clear q1
    go_wp2_with fail
    go_loopg [27] x.length (fun gg i wr => ∃ k : Nat, i = .int .i64 k ∧ k + gg = x.length ∧ (∀ j, j < k → byteAt x j ≠ 10) ∧ w1 = wr)
    case atStart => exact ⟨0, rfl, by omega, fun j hj => absurd hj (Nat.not_lt_zero _), rfl⟩
    case round =>
      obtain ⟨k, rfl, hk, hE, rfl⟩ := hrel
      have HE := Lib.hid hE
      clear hE
      by_cases hlt : k < x.length
      · have hlt' : (k : Int) < x.length := by omega
        have hi := H.out.2.2.1 k hlt
        by_cases h10 : byteAt x k = 10
        · rw [h10] at hi
          go_wp2_with fail
          go_ret
          exact ⟨rfl, Q1.out⟩
        · have HG := Lib.hid h10
          obtain ⟨c, hc⟩ : ∃ c, byteAt x k = c := ⟨_, rfl⟩
          rw [hc] at hi h10
          have hc10 : ((c : Int) == 10) = false := by simp; omega
          clear hc h10
          go_wp2_with fail
          go_roundg (x.length - (k + 1))
          case measure => omega
          case rel =>
            refine ⟨k + 1, by go_num, by omega, fun j hj => ?_, rfl⟩
            by_cases e : j = k
            · rw [e]; exact HG.out
            · exact HE.out j (by omega)
      · have hke : k = x.length := by omega
        subst hke
        have HS2 := Lib.hid (H.out.2.1 HE.out)
        clear HE
        go_wp2_with fail
        refine (H.out.1 w1).mono ?_
        rintro e w2 ⟨v, n, s, rfl, q2, hc⟩
        have HC := Lib.hid (And.intro hc (Q1.out.trans q2))
        clear hc q2
        cases R with
        | inl b =>
          rcases HC.out.1 with ⟨b1, hb1, rfl, rfl, rfl⟩ | ⟨out, ho, -⟩
          case inr => cases ho
          injection hb1 with hb1
          subst hb1
          have hble : b ≤ 1000 := wrong_split H.out.2.2.2
          go_wp2_with fail
          refine (HS2.out w2).mono ?_
          rintro e w3 ⟨v2, n2, s2, rfl, q3, hc2⟩
          rcases hc2 with ⟨b2, hb2, rfl, rfl, rfl⟩ | ⟨out, ho, -⟩
          case inr => cases ho
          injection hb2 with hb2
          subst hb2
          have HQ := Lib.hid (HC.out.2.trans q3)
          have hw3 : IntKind.i64.wrap ((b : Int) + ((x.length : Int) + 3)) = (b : Int) + ((x.length : Int) + 3) := by rw [IntKind.wrap_i64]; omega
          clear q3
          go_wp2_with fail
          go_loopg [76] 0 (fun gg i wr => i = .int .i64 0 ∧ w3 = wr)
          case atStart => exact ⟨rfl, rfl⟩
          case round =>
            obtain ⟨rfl, rfl⟩ := hrel
            go_wp2_with fail
            go_ret
            exact ⟨rfl, HQ.out⟩
        | inr out =>
          rcases HC.out.1 with ⟨b1, hb1, -⟩ | ⟨out1, ho1, hv1, rfl, rfl⟩
          · cases hb1
          injection ho1 with ho1
          subst ho1
          have hpl := placed_split H.out.2.2.2
          have h30 : out.length ≤ 1000000 := by have := hpl.2.1; omega
          obtain ⟨a1, cap1, rfl, -, hls1, -⟩ := hv1.form2
          have HL1 := Lib.hid (And.intro hls1 hpl)
          clear hv1 hls1 hpl
          go_wp2_with fail
          refine (HS2.out w2).mono ?_
          rintro e w3 ⟨v2, n2, s2, rfl, q3, hc2⟩
          rcases hc2 with ⟨b2, hb2, -⟩ | ⟨out2, ho2, hv2, rfl, rfl⟩
          · cases hb2
          injection ho2 with ho2
          subst ho2
          obtain ⟨a2, cap2, rfl, -, hls2, -⟩ := hv2.form2
          rw [List.length_map]
          have HL := Lib.hid (And.intro (HL1.out.1.keep q3 (fun _ _ h => h)) (And.intro hls2 HL1.out.2))
          have HQ := Lib.hid (HC.out.2.trans q3)
          clear q3 hv2 hls2 HL1
          go_wp2_with fail
          go_loopg [76] out.length (fun gg i wr => ∃ k : Nat, i = .int .i64 k ∧ k + gg = out.length ∧ Keep (fun _ => False) w3 wr)
          case atStart => exact ⟨0, rfl, by omega, Keep.refl _ _⟩
          case round =>
            obtain ⟨k, rfl, hk, hq⟩ := hrel
            by_cases hlt : k < out.length
            · have hlt' : (k : Int) < out.length := by omega
              obtain ⟨r, hr⟩ : ∃ r, out[k]? = some r := ⟨out[k], List.getElem?_eq_getElem hlt⟩
              have hr2 : (out.map (LN.off (x.length + 3)))[k]? = some (LN.off (x.length + 3) r) := by rw [List.getElem?_map, hr]; rfl
              obtain ⟨bl1, off1, rfl, -, c0, c1, c2⟩ := (HL.out.1.keep hq (fun _ _ h => h)).get hr
              obtain ⟨bl2, off2, rfl, -, d0, d1, d2⟩ := (HL.out.2.1.keep hq (fun _ _ h => h)).get hr2
              obtain ⟨p, hp1, hp2, -⟩ := HL.out.2.2.2.2 r (List.mem_of_getElem? hr)
              have hp4 := HL.out.2.2.1
              rw [LN.off_name] at d0
              rw [LN.off_text] at d1
              rw [LN.off_place, hp1, show (p : Int) + (x.length + 3 : Nat) = (p : Int) + ((x.length : Int) + 3) from by omega] at d2
              rw [hp1] at c2
              have hw3 : IntKind.i64.wrap ((p : Int) + ((x.length : Int) + 3)) = (p : Int) + ((x.length : Int) + 3) := by rw [IntKind.wrap_i64]; omega
              have HQ2 := Lib.hid hq
              have i1 : (0 : Int) ≤ k := by omega
              clear hq hr hr2 hp1
              go_wp2_with fail
              go_quiet (fail)
              go_wp2_with fail
              go_roundg (out.length - (k + 1))
              case measure => omega
              case rel => exact ⟨k + 1, by go_num, by omega, HQ2.out.drewN _⟩
            · have hke : k = out.length := by omega
              subst hke
              have HQ2 := Lib.hid hq
              clear hq
              go_wp2_with fail
              go_ret
              exact ⟨rfl, HQ.out.trans HQ2.out⟩
end Go.Proofs.Ytcdemlfkoknekaa.Ref06
