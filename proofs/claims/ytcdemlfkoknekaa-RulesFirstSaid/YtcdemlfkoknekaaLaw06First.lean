/- RulesFirst: the walk. -/
import Derived.Test.YtcdemlfkoknekaaLaw06Awake
namespace Go.Proofs.Ytcdemlfkoknekaa.Ref06
open Go.RowKit Go.Proofs.Ytcdemlfkoknekaa.Base

theorem first_split {l m : List UInt8} {b : Nat} (hl : l.length + m.length ≤ 1000) (h : splitR l = .inl b) (hb : b < l.length) (hn : endN l b < l.length) : splitR (l.take (endN l b + 1) ++ m) = .inl b := by
  obtain ⟨n, hn'⟩ : ∃ n, endN l b = n := ⟨_, rfl⟩
  have h10 := (endN_spec l b (by omega)).2 hn
  have hbn := endN_ge l b
  rw [hn'] at h10 hn hbn ⊢
  have hF : splitF l (l.length + 1) 0 [] = .inl b := by
    unfold splitR at h
    rw [if_neg (by omega)] at h
    cases hF : splitF l (l.length + 1) 0 [] with
    | inl c =>
      rw [hF] at h
      injection h with h
      rw [h]
    | inr o =>
      rw [hF] at h
      cases o with
      | nil =>
        injection h with h
        omega
      | cons r rs => cases h
  have htl : (l.take (n + 1)).length = n + 1 := by rw [List.length_take]; omega
  have hlen : (l.take (n + 1) ++ m).length = n + 1 + m.length := by rw [List.length_append, htl]
  have hp : l.take (n + 1) = (l.take (n + 1) ++ m).take (n + 1) := by
    conv => rhs; rw [List.take_append_of_le_length (by omega), List.take_take, Nat.min_self]
  have hG := first (m := l.take (n + 1) ++ m) hn (by omega) h10 hp _ ((l.take (n + 1) ++ m).length + 1) 0 [] (by omega) (by omega) hF hbn
  unfold splitR
  rw [if_neg (by omega), hG]
  rfl

theorem slice_to (l : List UInt8) (hi : Nat) (h2 : hi ≤ l.length) (w : World) : (Instr.slice 9 (str l) none (some (.int .i64 hi)) none).run Try.prog w = .ok (str (l.take hi)) w := by
  have hs := size_str l
  have e := sub_cut l 0 hi
  have e2 : sub l 0 hi = l.take hi := rfl
  rw [e2] at e
  have a3 : (0 : Int) ≤ hi := by omega
  simp [Instr.slice, Instr.sliceBounds, Instr.sliceBound, run_underlying (P := Try.prog) Try.underlying9, asIntOf, hs, e, h2, a3, go_sem]

set_option maxRecDepth 100000 in
set_option maxHeartbeats 4000000 in
theorem first_law (l m : List UInt8) (hbl : l.length ≤ 140737488355328) (hbm : m.length ≤ 140737488355328) (w : World) : Calls Try.prog 5 #[str l, str m] w fun e w' => e = .returned (.bool true) ∧ Keep (fun _ => False) w w' := by
  have hs := size_str l
  have hs2 := size_str m
  have hw : IntKind.i64.wrap ((l.length : Int) + m.length) = (l.length : Int) + m.length := by rw [IntKind.wrap_i64]; omega
  by_cases hl : 1000 < l.length + m.length
  · have hl' : (1000 : Int) < (l.length : Int) + m.length := by omega
    obtain ⟨B, hB⟩ : ∃ B : ByteArray, (⟨l.toArray⟩ : ByteArray) = B := ⟨_, rfl⟩
    obtain ⟨D, hD⟩ : ∃ D : ByteArray, (⟨m.toArray⟩ : ByteArray) = D := ⟨_, rfl⟩
    unfold str
    rw [hB] at hs ⊢
    rw [hD] at hs2 ⊢
    clear hB hD
    go_enter Try.func5, Try.ntmps5
    go_wp2_with fail
    refine (awake_any w).mono ?_
    rintro e w1 ⟨rfl, q1⟩
    have Q1 := Lib.hid q1
    clear q1
    go_wp2_with fail
    refine (awake_any w1).mono ?_
    rintro e w2 ⟨rfl, q2⟩
    have Q2 := Lib.hid (Q1.out.trans q2)
    clear q2
    go_wp2_with fail
    go_ret
    exact ⟨rfl, Q2.out⟩
  · have hl' : ¬ (1000 : Int) < (l.length : Int) + m.length := by omega
    have hl2 : l.length + m.length ≤ 1000 := by omega
    obtain ⟨R, hR⟩ : ∃ R, splitR l = R := ⟨_, rfl⟩
    have hsp := fun w => split_is hR (by omega) w
    have hfirst := fun b (h : R = .inl b) => first_split (m := m) (b := b) hl2 (by rw [hR, h])
    have hix := index_run l
    have hst := slice_to l
    have hap := fun k => str_append (l.take k) m
    have hsz : ∀ k, (l.take k).length ≤ 1000 := fun k => by rw [List.length_take]; omega
    have htk := fun k => size_str (l.take k)
    obtain ⟨B, hB⟩ : ∃ B : ByteArray, (⟨l.toArray⟩ : ByteArray) = B := ⟨_, rfl⟩
    obtain ⟨D, hD⟩ : ∃ D : ByteArray, (⟨m.toArray⟩ : ByteArray) = D := ⟨_, rfl⟩
    have hstr : str l = .string B := by unfold str; rw [hB]
    have hstr2 : str m = .string D := by unfold str; rw [hD]
    rw [hstr] at hsp hix hst ⊢
    rw [hstr2]
    rw [hB] at hs
    rw [hD] at hs2
    simp only [hD] at hap
    have H := Lib.hid (And.intro hsp (And.intro hfirst (And.intro hix (And.intro hst (And.intro hap (And.intro hsz htk))))))
    clear hsp hfirst hix hst hap hsz htk hR hstr hstr2 hB hD hbl hbm
    go_enter Try.func5, Try.ntmps5
    go_wp2_with fail
    refine (awake_any w).mono ?_
    rintro e w1 ⟨rfl, q1⟩
    have Q1 := Lib.hid q1
    clear q1
    go_wp2_with fail
    refine (H.out.1 w1).mono ?_
    rintro e w2 ⟨v, n, s, rfl, q2, hc⟩
    have Q2 := Lib.hid (Q1.out.trans q2)
    clear q2
    rcases hc with ⟨b, hb, rfl, rfl, rfl⟩ | ⟨out, ho, -, rfl, rfl⟩
    case inr =>
      go_wp2_with fail
      go_ret
      exact ⟨rfl, Q2.out⟩
    case inl =>
      have HB := Lib.hid hb
      clear hb
      by_cases hbl : b < l.length
      · have hbl' : ¬ (l.length : Int) ≤ b := by omega
        go_wp2_with fail
        go_loopg [8] (l.length - b) (fun gg i wr => ∃ k : Nat, i = .int .i64 k ∧ k + gg = l.length ∧ b ≤ k ∧ endN l k = endN l b ∧ w2 = wr)
        case atStart => exact ⟨b, rfl, by omega, Nat.le_refl _, rfl, rfl⟩
        case round =>
          obtain ⟨k, rfl, hk, hbk, hE, rfl⟩ := hrel
          have HE := Lib.hid hE
          clear hE
          by_cases hlt : k < l.length
          · have hlt' : (k : Int) < l.length := by omega
            have hi := H.out.2.2.1 k hlt
            by_cases h10 : byteAt l k = 10
            · have hst := endN_stop hlt h10
              rw [HE.out] at hst
              have hres := H.out.2.1 b HB.out hbl
              rw [hst] at hres
              have hsp := fun w => split_is (hres hlt) (by rw [List.length_append]; have := H.out.2.2.2.2.2.1 (k + 1); omega) w
              have hsl := H.out.2.2.2.1 (k + 1) (by omega)
              have hap := H.out.2.2.2.2.1 (k + 1)
              have hz := H.out.2.2.2.2.2.2 (k + 1)
              have hz2 := H.out.2.2.2.2.2.1 (k + 1)
              rw [h10] at hi
              have hne : ((k : Int) == l.length) = false := by simp; omega
              have hw2 : IntKind.i64.wrap ((k : Int) + 1) = (k : Int) + 1 := by rw [IntKind.wrap_i64]; omega
              rw [show ((k + 1 : Nat) : Int) = (k : Int) + 1 from rfl] at hsl
              obtain ⟨T, hT⟩ : ∃ T, l.take (k + 1) = T := ⟨_, rfl⟩
              rw [hT] at hsp hsl hap hz hz2
              obtain ⟨BT, hBT⟩ : ∃ B : ByteArray, (⟨T.toArray⟩ : ByteArray) = B := ⟨_, rfl⟩
              obtain ⟨BR, hBR⟩ : ∃ B : ByteArray, (⟨(T ++ m).toArray⟩ : ByteArray) = B := ⟨_, rfl⟩
              have hst1 : str T = .string BT := by unfold str; rw [hBT]
              have hst2 : str (T ++ m) = .string BR := by unfold str; rw [hBR]
              rw [hst1] at hsl
              rw [hst2] at hsp
              rw [hBT] at hap hz
              rw [hBR] at hap
              have HS := Lib.hid hsp
              clear hsp hT hBT hBR hst1 hst2 hres hst h10
              go_wp2_with fail
              refine (HS.out w2).mono ?_
              rintro e w3 ⟨v3, n3, s3, rfl, q3, hc3⟩
              rcases hc3 with ⟨b3, hb3, rfl, rfl, rfl⟩ | ⟨out, ho, -⟩
              case inr => cases ho
              injection hb3 with hb3
              subst hb3
              have Q3 := Lib.hid (Q2.out.trans q3)
              clear q3
              go_wp2_with fail
              go_ret
              exact ⟨ret_bool (by simp), Q3.out⟩
            · have hgo := endN_go hlt h10
              have HG := Lib.hid hgo
              obtain ⟨c, hc⟩ : ∃ c, byteAt l k = c := ⟨_, rfl⟩
              rw [hc] at hi h10
              have hc10 : ((c : Int) != 10) = true := by simp; omega
              clear hgo hc h10
              go_wp2_with fail
              go_roundg (l.length - (k + 1))
              case measure => omega
              case rel => exact ⟨k + 1, by go_num, by omega, by omega, by rw [← HG.out]; exact HE.out, rfl⟩
          · have hke : k = l.length := by omega
            have hke' : ¬ (k : Int) < l.length := by omega
            have heq : ((k : Int) == l.length) = true := by simp; omega
            clear hke
            go_wp2_with fail
            go_ret
            exact ⟨rfl, Q2.out⟩
      · have hbl' : (l.length : Int) ≤ b := by omega
        go_wp2_with fail
        go_ret
        exact ⟨rfl, Q2.out⟩
end Go.Proofs.Ytcdemlfkoknekaa.Ref06
