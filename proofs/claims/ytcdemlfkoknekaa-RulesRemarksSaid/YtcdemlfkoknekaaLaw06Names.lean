/- RulesNames: the walk. -/
import Derived.Test.YtcdemlfkoknekaaLaw06Awake
namespace Go.Proofs.Ytcdemlfkoknekaa.Ref06
open Go.RowKit Go.Proofs.Ytcdemlfkoknekaa.Base

set_option maxRecDepth 100000 in
set_option maxHeartbeats 4000000 in
theorem names_law (l : List UInt8) (hbig : l.length ≤ 9223372036854775807) (w : World) : Calls Try.prog 6 #[str l] w fun e w' => e = .returned (.bool true) ∧ Keep (fun _ => False) w w' := by
  have hs := size_str l
  by_cases hl : 300 < l.length
  · have hl' : (300 : Int) < l.length := by omega
    obtain ⟨B, hB⟩ : ∃ B : ByteArray, (⟨l.toArray⟩ : ByteArray) = B := ⟨_, rfl⟩
    unfold str
    rw [hB] at hs ⊢
    clear hB
    go_enter Try.func6, Try.ntmps6
    go_wp2_with fail
    refine (awake_any w).mono ?_
    rintro e w1 ⟨rfl, q1⟩
    have Q1 := Lib.hid q1
    clear q1
    go_wp2_with fail
    refine (awake_any w1).mono ?_
    rintro e w2 ⟨rfl, q2⟩
    have Q2 := Lib.hid (Q1.out.trans q2)
    clear q2
    go_wp2_with fail
    go_ret
    exact ⟨rfl, Q2.out⟩
  · have hl' : ¬ (300 : Int) < l.length := by omega
    obtain ⟨ok, hok⟩ : ∃ ok, nameL l = ok := ⟨_, rfl⟩
    have hn1 := fun w => name_is hok (by omega) w
    have hn2 := fun w => cname_is (by omega) hok w
    obtain ⟨R, hR⟩ : ∃ R, splitR (l ++ [58, 120]) = R := ⟨_, rfl⟩
    have hsp := fun w => split_is hR (by simp; omega) w
    have hone : ok = true → R = .inr [⟨l, [120], (l.length + 1 : Nat)⟩] := fun h => by rw [← hR]; exact split_one l (hok.trans h)
    have t1 := str_append l [58, 120]
    have hs2 := size_str (l ++ [58, 120])
    obtain ⟨B, hB⟩ : ∃ B : ByteArray, (⟨l.toArray⟩ : ByteArray) = B := ⟨_, rfl⟩
    obtain ⟨D, hD⟩ : ∃ D : ByteArray, (⟨(l ++ [58, 120]).toArray⟩ : ByteArray) = D := ⟨_, rfl⟩
    have hstr : str l = .string B := by unfold str; rw [hB]
    have hstr2 : str (l ++ [58, 120]) = .string D := by unfold str; rw [hD]
    rw [hstr] at hn1 hn2 ⊢
    rw [hstr2] at hsp
    rw [hB] at hs t1
    rw [hD] at t1 hs2
    have H := Lib.hid (And.intro hn1 (And.intro hn2 (And.intro hsp (And.intro hone hstr))))
    clear hn1 hn2 hsp hone hok hR hB hD hstr hstr2 hs2
    go_enter Try.func6, Try.ntmps6
    go_wp2_with fail
    refine (awake_any w).mono ?_
    rintro e w1 ⟨rfl, q1⟩
    have Q1 := Lib.hid q1
    clear q1
    go_wp2_with fail
    refine (H.out.2.2.1 w1).mono ?_
    rintro e w2 ⟨v, n, s, rfl, q2, hc⟩
    have HC := Lib.hid (And.intro hc (Q1.out.trans q2))
    clear hc q2
    go_wp2_with fail
    refine (H.out.1 w2).mono ?_
    rintro e w3 ⟨rfl, rfl⟩
    cases ok
    · go_wp2_with fail
      refine (H.out.2.1 w2).mono ?_
      rintro e w4 ⟨rfl, q4⟩
      have Q4 := Lib.hid (HC.out.2.trans q4)
      clear q4
      go_wp2_with fail
      go_ret
      exact ⟨rfl, Q4.out⟩
    · have hRe := H.out.2.2.2.1 rfl
      rcases HC.out.1 with ⟨b, hb, -⟩ | ⟨out, ho, hv, rfl, rfl⟩
      · rw [hRe] at hb
        cases hb
      · rw [hRe] at ho
        injection ho with ho
        subst ho
        obtain ⟨a, cap, rfl, -, hls, -⟩ := hv.form2
        have HL := Lib.hid hls
        clear hv hls hRe
        go_wp2_with fail
        refine (H.out.2.1 w2).mono ?_
        rintro e w4 ⟨rfl, q4⟩
        obtain ⟨bl, off, rfl, -, c0, -, -⟩ := (HL.out.keep q4 (fun _ _ h => h)).get (i := 0) rfl
        simp only [Nat.zero_mul, Nat.add_zero] at c0
        rw [H.out.2.2.2.2] at c0
        have Q4 := Lib.hid (HC.out.2.trans q4)
        clear q4
        go_wp2_with fail
        go_ret
        exact ⟨rfl, Q4.out⟩
end Go.Proofs.Ytcdemlfkoknekaa.Ref06
