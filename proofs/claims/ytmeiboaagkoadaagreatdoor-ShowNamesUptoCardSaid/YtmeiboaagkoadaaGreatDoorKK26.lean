/- Package rules: Split, line by line in a labelled loop, against the document's. -/
import Derived.Test.YtmeiboaagkoadaaGreatDoorKK06
import Derived.Test.YtmeiboaagkoadaaGreatDoorKK25
import Derived.Test.YtmeiboaagkoadaaGreatDoorKK12
import Derived.WalkMore
namespace Go.Proofs.YtmeiboaagkoadaaGreatDoor.Ref06
open Go.RowKit Go.Proofs.YtmeiboaagkoadaaGreatDoor.Base

theorem splitF_end {l : List UInt8} {a : Nat} (h : l.length ≤ a) : ∀ f out, splitF l f a out = .inr out
  | 0, out => rfl
  | f + 1, out => by
    rw [splitF]
    by_cases h1 : l.length < a
    · rw [if_pos h1]
    · rw [if_neg h1, endN_out h, if_pos (.inl rfl)]
      cases f with
      | zero => rfl
      | succ f => rw [splitF, if_pos (by omega)]

/-- What the code's Split answers. -/
def IsSplitC (R : Nat ⊕ List LN) (w : World) (e : Ending) (w' : World) : Prop := ∃ v n s, e = .returned (.tuple #[v, .int .i64 n, .int .i64 s]) ∧ Keep (fun _ => False) w w' ∧ ((∃ b : Nat, R = .inl b ∧ v = .slice none 0 0 ∧ n = b ∧ s = 6) ∨ (∃ out, R = .inr out ∧ OLr w' v out ∧ n = 0 ∧ s = 0))

set_option maxRecDepth 100000 in
set_option maxHeartbeats 4000000 in
theorem split_any (l : List UInt8) (hbig : l.length ≤ 9223372036854775807) (w : World) : Calls Tryz.prog 26 #[str l] w (IsSplitC (splitR l) w) := by
  have hs := size_str l
  have hix := index_run l
  have hsl := slice_run l
  obtain ⟨B, hB⟩ : ∃ B : ByteArray, (⟨l.toArray⟩ : ByteArray) = B := ⟨_, rfl⟩
  have hstr : str l = .string B := by unfold str; rw [hB]
  rw [hstr] at hix hsl
  rw [hB] at hs
  rw [hstr]
  have HB := Lib.hid (And.intro hstr (And.intro hix hsl))
  clear hB hix hsl hstr
  by_cases hlen : 1000 < l.length
  · have hR : splitR l = .inl 1000 := by unfold splitR; rw [if_pos hlen]
    rw [hR]
    have hlen' : (1000 : Int) < l.length := by omega
    go_enter Tryz.func26, Tryz.ntmps26
    go_wp2_with fail
    go_step3
    go_wp2_with fail
    rw [Exit.noGoto_ret]
    exact bodyPost_ret (v := .tuple #[.slice none 0 0, .int .i64 1000, .int .i64 6]) (by simp [results, Tryz.results26, go_sem]) rfl ⟨_, _, _, rfl, Keep.refl _ _, .inl ⟨1000, rfl, rfl, rfl, rfl⟩⟩
  · have hlen' : ¬ (1000 : Int) < l.length := by omega
    obtain ⟨R, hR⟩ : ∃ R, splitR l = R := ⟨_, rfl⟩
    obtain ⟨F, hF⟩ : ∃ F, splitF l (l.length + 1) 0 [] = F := ⟨_, rfl⟩
    have hRF : R = last l.length F := by rw [← hR, ← hF]; unfold splitR; rw [if_neg hlen]
    rw [hR]
    have HR := Lib.hid (And.intro hRF hF)
    clear hR hRF hF
    have h1000 : l.length ≤ 1000 := by omega
    clear hbig
    go_enter Tryz.func26, Tryz.ntmps26
    go_wp2_with fail
    go_step3
    go_wp2_with fail
    go_step3
    go_wp2_with fail
    go_loopg [2, 5, 6] (l.length + 1) (fun gg u i _ wr => ∃ (a : Nat) (out : List LN), i = .int .i64 a ∧ l.length + 1 ≤ a + gg ∧ a ≤ l.length + 1 ∧ out.length ≤ 8 ∧ OLr wr u out ∧ (∀ g, u.ownBlock = some g → w.heap.size ≤ g) ∧ Keep (fun _ => False) w wr ∧ splitF l gg a out = F)
    case atStart => exact ⟨0, [], rfl, by omega, by omega, by simp, OLr.nil _, fun g hg => (by cases hg), Keep.refl _ _, HR.out.2⟩
    case round =>
      obtain ⟨a, out, rfl, hag, hal, ho8, hu, hb, hq, hE⟩ := hrel
      by_cases hlt : a < l.length
      · have hlt' : (a : Int) < l.length := by omega
        obtain ⟨f, rfl⟩ : ∃ f, gk = f + 1 := ⟨gk - 1, by omega⟩
        rw [splitF, if_neg (by omega)] at hE
        have hge := endN_ge l a
        have hle := endN_le (l := l) (a := a) (by omega)
        have hend := fun w => lineEnd_any l (by omega) a (by omega) w
        rw [HB.out.1] at hend
        obtain ⟨t, ht⟩ : ∃ t, endN l a = t := ⟨_, rfl⟩
        rw [ht] at hE hge hle hend
        have HEnd := Lib.hid hend
        clear hend ht
        by_cases hskip : a = t ∨ byteAt l a = 35
        · rw [if_pos hskip] at hE
          have H := Lib.hid (And.intro hag (And.intro hu (And.intro hb (And.intro hq (And.intro hE ho8)))))
          clear hag hu hb hq hE
          by_cases hat : a = t
          · have hat' : ((a : Int) == t) = true := by simp; omega
            have HAT := Lib.hid hat
            clear hat hskip
            go_wp2_with fail
            refine (HEnd.out wr).mono ?_
            rintro e w2 ⟨rfl, rfl⟩
            go_wp2_with fail
            go_roundg f
            case measure => omega
            case rel => exact ⟨t + 1, out, by go_num, by have := H.out.1; omega, by omega, H.out.2.2.2.2.2, H.out.2.1, H.out.2.2.1, H.out.2.2.2.1, H.out.2.2.2.2.1⟩
          · have hat' : ((a : Int) == t) = false := by simp; omega
            have h35 : byteAt l a = 35 := by
              rcases hskip with h | h
              · exact absurd h hat
              · exact h
            have hi := HB.out.2.1 a (by omega)
            rw [h35] at hi
            have HAT := Lib.hid hat
            clear hat hskip h35
            go_wp2_with fail
            refine (HEnd.out wr).mono ?_
            rintro e w2 ⟨rfl, rfl⟩
            go_wp2_with fail
            go_roundg f
            case measure => omega
            case rel => exact ⟨t + 1, out, by go_num, by have := H.out.1; omega, by omega, H.out.2.2.2.2.2, H.out.2.1, H.out.2.2.1, H.out.2.2.2.1, H.out.2.2.2.2.1⟩
        · rw [if_neg hskip] at hE
          have hat : a ≠ t := fun h => hskip (.inl h)
          have hat2 : a < t := by omega
          have hat' : ((a : Int) == t) = false := by simp; omega
          have hi := HB.out.2.1 a (by omega)
          obtain ⟨c, hc⟩ : ∃ c, byteAt l a = c := ⟨_, rfl⟩
          have hc35 : ((c : Int) == 35) = false := by
            have : c ≠ 35 := fun h => hskip (.inr (hc.trans h))
            simp; omega
          rw [hc] at hi
          obtain ⟨I, hI⟩ : ∃ I, nmEnd l a t = I := ⟨_, rfl⟩
          have hbd : bad l a t = bad' l I a t := by unfold bad; rw [hI]
          have hln : lineOf l a t = ⟨sub l a I, sub l (I + 1) t, (I + 1 : Nat)⟩ := by unfold lineOf; rw [hI]
          rw [hbd, hln, hI] at hE
          have hI' : scan l t 12 a = I := hI
          have HI := Lib.hid hI'
          have H := Lib.hid (And.intro hag (And.intro hu (And.intro hb (And.intro hq hE))))
          have HX := Lib.hid (And.intro hskip (And.intro hat hc))
          obtain ⟨ua, uc, rfl, hls, -⟩ := hu.form
          have HLS := Lib.hid hls
          clear hag hb hq hE hskip hat hc hI hI' hbd hln hls hu
          go_wp2_with fail
          refine (HEnd.out wr).mono ?_
          rintro e w2 ⟨rfl, rfl⟩
          go_wp2_with fail
          clear hi hc35
          generalize wr = W at *
          go_loopg [2, 7] (t - a) (fun gg u i wr => ∃ k : Nat, u = .slice ua out.length uc ∧ i = .int .i64 k ∧ a ≤ k ∧ k + gg = t ∧ k ≤ a + 12 ∧ scan l t (a + 12 - k) k = I ∧ W = wr)
          case atStart => exact ⟨a, rfl, rfl, Nat.le_refl _, by omega, by omega, by rw [Nat.add_sub_cancel_left]; exact HI.out, rfl⟩
          case round =>
            obtain ⟨k, rfl, rfl, hak, hk, hk12, hS, rfl⟩ := hrel
            have HS := Lib.hid hS
            clear hS
            by_cases hkt : k < t
            · have hkt' : (k : Int) < t := by omega
              have hi := HB.out.2.1 k (by omega)
              have hb := byteAt_lt l k
              obtain ⟨c', hc'⟩ : ∃ c', byteAt l k = c' := ⟨_, rfl⟩
              rw [hc'] at hi hb
              by_cases hcol : c' = 58 ∧ a < k
              · obtain ⟨rfl, hak2⟩ := hcol
                have hak2' : (a : Int) < k := by omega
                have hkI : k = I := by rw [← HS.out, scan_no (by rw [hc']; decide)]
                subst hkI
                have hbd : bad' l k a t = false := by
                  unfold bad'
                  rw [hc', decide_eq_false (by omega), decide_eq_false (by omega), decide_eq_false (by omega)]
                  rfl
                have hE := H.out.2.2.2.2
                rw [hbd, if_neg (by simp)] at hE
                have s1 := fun w => HB.out.2.2 a k (by omega) (by omega) w
                obtain ⟨v, hv⟩ : ∃ v, mayB out (sub l a k) = v := ⟨_, rfl⟩
                have hmay := may_any out ua uc (sub l a k) (by omega) W HLS.out
                rw [hv] at hmay
                have hline := fun w => line_any l (by omega) a k t (by omega) (by omega) hle w
                rw [HB.out.1] at hline
                obtain ⟨X, hX⟩ : ∃ X, sub l a k = X := ⟨_, rfl⟩
                obtain ⟨Y, hY⟩ : ∃ Y, sub l (k + 1) t = Y := ⟨_, rfl⟩
                rw [hX] at s1 hmay hline hE hv
                rw [hY] at hline hE
                have hfind : (findL out X = true ∨ out.length = 8) ↔ v = false := by
                  rw [← hv]
                  unfold mayB
                  cases findL out X <;> simp <;> omega
                have HM := Lib.hid (And.intro hmay (And.intro hline (And.intro hE hfind)))
                clear hmay hline hE hfind hv hX hY hc' hbd hb
                cases v
                · have hRa : R = .inl a := by
                    have hE := HM.out.2.2.1
                    rw [if_pos (HM.out.2.2.2.2 rfl)] at hE
                    rw [HR.out.1, ← hE]
                    rfl
                  have HRa := Lib.hid hRa
                  clear hRa
                  go_wp2_with fail
                  refine HM.out.1.mono ?_
                  rintro e w3 ⟨rfl, q3⟩
                  have Q3 := Lib.hid q3
                  clear q3
                  go_wp2_with fail
                  try rw [Exit.noGoto_ret]
                  exact bodyPost_ret (v := .tuple #[.slice none 0 0, .int .i64 a, .int .i64 6]) (by simp [results, Tryz.results26, go_sem]) rfl ⟨_, _, _, rfl, H.out.2.2.2.1.trans Q3.out, .inl ⟨a, HRa.out, rfl, rfl, rfl⟩⟩
                · obtain ⟨r, hr⟩ : ∃ r : LN, (⟨X, Y, (k + 1 : Nat)⟩ : LN) = r := ⟨_, rfl⟩
                  have hE2 : splitF l f (t + 1) (out ++ [r]) = F := by
                    have hE := HM.out.2.2.1
                    rw [if_neg (fun h => by have := HM.out.2.2.2.1 h; cases this), hr] at hE
                    exact hE
                  have hl2 : ∀ w, Calls Tryz.prog 49 #[.string B, .int .i64 a, .int .i64 k, .int .i64 t] w fun e w' => e = .returned (lineV r.name r.text r.place) ∧ Keep (fun _ => False) w w' := by rw [← hr]; exact HM.out.2.1
                  have hn8 : out.length ≠ 8 := fun h => by have := HM.out.2.2.2.1 (.inr h); cases this
                  have HE2 := Lib.hid (And.intro hE2 (And.intro hl2 hn8))
                  clear hE2 hl2 hr hn8
                  go_wp2_with fail
                  refine HM.out.1.mono ?_
                  rintro e w3 ⟨rfl, q3⟩
                  have Q3 := Lib.hid q3
                  clear q3
                  go_wp2_with fail
                  refine (HE2.out.2.1 _).mono ?_
                  rintro e w4 ⟨rfl, q4⟩
                  have h44 := H.out.2.1.keep (Q3.out.trans q4) (fun _ _ h => h)
                  have q44 := H.out.2.2.2.1.trans (Q3.out.trans q4)
                  obtain ⟨v', w5, hrun, hv5, q5, hb5⟩ := h44.push r (by omega) 55
                  have hq5 : Keep (fun _ => False) w w5 := q44.next q5 (fun i hi hl => by have := H.out.2.2.1 i hi; omega)
                  have hb6 : ∀ g, v'.ownBlock = some g → w.heap.size ≤ g := fun g hg => by
                    rcases hb5 g hg with h | h
                    · exact H.out.2.2.1 g h
                    · exact Nat.le_trans q44.size h
                  have hl9 : (out ++ [r]).length ≤ 8 := by have := HE2.out.2.2; simp; omega
                  have H5 := Lib.hid (And.intro hv5 (And.intro hb6 (And.intro hq5 hl9)))
                  clear q4 h44 q44 hv5 q5 hb5 hq5 hb6 hl9
                  go_wp2_with (at_builtin; refine Lib.wpList_append_run _ rfl _ _ _ _ rfl _ _ rfl rfl _ _ hrun ?_)
                  clear hrun
                  go_wp2_with fail
                  go_roundg f
                  case measure => omega
                  case rel => exact ⟨t + 1, out ++ [r], by go_num, by have := H.out.1; omega, by omega, H5.out.2.2.2, H5.out.1, H5.out.2.1, H5.out.2.2.1, HE2.out.1⟩
              · obtain ⟨x, hx⟩ : ∃ x, letB c' = x := ⟨_, rfl⟩
                have hin := fun w => inName_is hb hx w
                have HIn := Lib.hid (And.intro hin (And.intro hx hc'))
                clear hin hx hc'
                by_cases hstop : x = false ∨ k = a + 12
                · have hkI : k = I := by
                    rw [← HS.out]
                    rcases hstop with h | h
                    · rw [scan_no (by rw [HIn.out.2.2, HIn.out.2.1, h])]
                    · rw [h, Nat.sub_self]; rfl
                  subst hkI
                  have hbd : bad' l k a t = true := by
                    unfold bad'
                    rw [HIn.out.2.2]
                    by_cases h58 : c' = 58
                    · have : k = a := by
                        rcases Nat.lt_or_ge a k with h | h
                        · exact absurd ⟨h58, h⟩ hcol
                        · omega
                      rw [decide_eq_true this]
                      simp
                    · rw [decide_eq_true h58]
                      simp
                  have hRk : R = .inl k := by
                    have hE := H.out.2.2.2.2
                    rw [if_pos hbd] at hE
                    rw [HR.out.1, ← hE]
                    rfl
                  have HRk := Lib.hid hRk
                  clear hRk hbd
                  cases x
                  · by_cases h58 : c' = 58
                    · subst h58
                      have hka : ¬ (a : Int) < k := fun h => hcol ⟨rfl, by omega⟩
                      clear hcol hstop
                      go_wp2_with fail
                      refine (HIn.out.1 W).mono ?_
                      rintro e w3 ⟨rfl, rfl⟩
                      go_wp2_with fail
                      try rw [Exit.noGoto_ret]
                      exact bodyPost_ret (v := .tuple #[.slice none 0 0, .int .i64 k, .int .i64 6]) (by simp [results, Tryz.results26, go_sem]) rfl ⟨_, _, _, rfl, H.out.2.2.2.1, .inl ⟨k, HRk.out, rfl, rfl, rfl⟩⟩
                    · have h58' : ((c' : Int) == 58) = false := by simp; omega
                      clear hcol hstop h58
                      go_wp2_with fail
                      refine (HIn.out.1 W).mono ?_
                      rintro e w3 ⟨rfl, rfl⟩
                      go_wp2_with fail
                      try rw [Exit.noGoto_ret]
                      exact bodyPost_ret (v := .tuple #[.slice none 0 0, .int .i64 k, .int .i64 6]) (by simp [results, Tryz.results26, go_sem]) rfl ⟨_, _, _, rfl, H.out.2.2.2.1, .inl ⟨k, HRk.out, rfl, rfl, rfl⟩⟩
                  · have h58 : c' ≠ 58 := fun h => by have := HIn.out.2.1; rw [h] at this; cases this
                    have h58' : ((c' : Int) == 58) = false := by simp; omega
                    have hk12' : k = a + 12 := by
                      rcases hstop with h | h
                      · cases h
                      · exact h
                    have h12 : ((k : Int) - a == 12) = true := by simp; omega
                    clear hcol hstop h58 hk12'
                    go_wp2_with fail
                    refine (HIn.out.1 W).mono ?_
                    rintro e w3 ⟨rfl, rfl⟩
                    go_wp2_with fail
                    try rw [Exit.noGoto_ret]
                    exact bodyPost_ret (v := .tuple #[.slice none 0 0, .int .i64 k, .int .i64 6]) (by simp [results, Tryz.results26, go_sem]) rfl ⟨_, _, _, rfl, H.out.2.2.2.1, .inl ⟨k, HRk.out, rfl, rfl, rfl⟩⟩
                · have hxt : x = true := by cases x with | true => rfl | false => exact absurd (.inl rfl) hstop
                  have hk13 : k ≠ a + 12 := fun h => hstop (.inr h)
                  subst hxt
                  have h58 : c' ≠ 58 := fun h => by have := HIn.out.2.1; rw [h] at this; cases this
                  have h58' : ((c' : Int) == 58) = false := by simp; omega
                  have h12 : ((k : Int) - a == 12) = false := by simp; omega
                  have hS2 : scan l t (a + 12 - (k + 1)) (k + 1) = I := by
                    have hS := HS.out
                    rw [show a + 12 - k = (a + 12 - (k + 1)) + 1 from by omega, scan_go hkt (by rw [HIn.out.2.2, HIn.out.2.1])] at hS
                    exact hS
                  have HS2 := Lib.hid hS2
                  clear hcol hstop h58 hS2
                  go_wp2_with fail
                  refine (HIn.out.1 W).mono ?_
                  rintro e w3 ⟨rfl, rfl⟩
                  go_wp2_with fail
                  go_roundg (t - (k + 1))
                  case measure => omega
                  case rel => exact ⟨k + 1, rfl, by go_num, by omega, by omega, by omega, HS2.out, rfl⟩
            · have hkt' : ¬ (k : Int) < t := by omega
              have hkI : k = I := by rw [← HS.out, scan_out hkt]
              subst hkI
              have hke : k = t := by omega
              subst hke
              have hbd : bad' l k a k = true := by unfold bad'; simp
              have hRk : R = .inl k := by
                have hE := H.out.2.2.2.2
                rw [if_pos hbd] at hE
                rw [HR.out.1, ← hE]
                rfl
              have HRk := Lib.hid hRk
              clear hRk hbd
              go_wp2_with fail
              try rw [Exit.noGoto_ret]
              exact bodyPost_ret (v := .tuple #[.slice none 0 0, .int .i64 k, .int .i64 6]) (by simp [results, Tryz.results26, go_sem]) rfl ⟨_, _, _, rfl, H.out.2.2.2.1, .inl ⟨k, HRk.out, rfl, rfl, rfl⟩⟩
      · have hEF : F = .inr out := by rw [← hE, splitF_end (by omega)]
        have hRo : R = last l.length (.inr out) := by rw [HR.out.1, hEF]
        have hlt' : ¬ (a : Int) < l.length := by omega
        have H := Lib.hid (And.intro hu (And.intro hb (And.intro hq hRo)))
        obtain ⟨ua, uc, rfl, -, -⟩ := hu.form
        clear hag hu hb hq hE hEF hRo
        cases out with
        | nil =>
          have hn0 : ((([] : List LN).length : Int) == 0) = true := rfl
          go_wp2_with fail
          try rw [Exit.noGoto_ret]
          exact bodyPost_ret (v := .tuple #[.slice none 0 0, .int .i64 l.length, .int .i64 6]) (by simp [results, Tryz.results26, go_sem]) rfl ⟨_, _, _, rfl, H.out.2.2.1, .inl ⟨l.length, H.out.2.2.2, rfl, rfl, rfl⟩⟩
        | cons r rs =>
          have hRr : R = .inr (r :: rs) := H.out.2.2.2
          have HRr := Lib.hid hRr
          clear hRr
          have hn0 : (((r :: rs).length : Int) == 0) = false := by simp; omega
          generalize r :: rs = out at *
          go_wp2_with fail
          try rw [Exit.noGoto_ret]
          exact bodyPost_ret (v := .tuple #[.slice ua out.length uc, .int .i64 0, .int .i64 0]) (by simp [results, Tryz.results26, go_sem]) rfl ⟨_, _, _, rfl, H.out.2.2.1, .inr ⟨out, HRr.out, H.out.1, rfl, rfl⟩⟩
end Go.Proofs.YtmeiboaagkoadaaGreatDoor.Ref06
