/- Contracts of the document's inside and Text, and of bytes256's Text. -/
import Derived.Test.YtdiegmejkipacaaDoorSpans
namespace Go.Proofs.YtdiegmejkipacaaDoor.Bytes
open Go.RowKit Go.Proofs.YtdiegmejkipacaaDoor.Base Go.Proofs.YtdiegmejkipacaaDoor.Sets Go.Proofs.YtdiegmejkipacaaDoor.PL Go.Proofs.YtdiegmejkipacaaDoor.IL

theorem str_eq {a b : ByteArray} (h : a = b) : Value.string a = Value.string b := by rw [h]

set_option maxRecDepth 100000 in
theorem inside_any (s : ST) (w : World) : Calls Tryd.prog 28 #[val s] w fun e w' => e = .returned (str (spansT (rgs s.has 256))) ∧ Keep (fun _ => False) w w' := by
  go_enter Tryd.func28, Tryd.ntmps28
  go_wp2_with fail
  have a1 := At.new w (cells s) 24
  have q := (Keep.refl (fun _ => False) w).alloc (.cells (cells s) 24)
  have A1 := Lib.hid q
  obtain ⟨⟨c0, c1, c2, c3⟩, -⟩ := cells4 a1
  clear a1 q
  generalize (w.alloc (.cells (cells s) 24)) = W at *
  go_wp2_with fail
  refine (rranges_any s W).mono ?_
  rintro e w1 ⟨lv, rfl, hp, -, q1⟩
  have hq := A1.out.trans q1
  have hl := rgs_le s.has 256
  have hord := (rgs_ok s.has 256).ord
  obtain ⟨L, hL⟩ : ∃ L, L = rgs s.has 256 := ⟨_, rfl⟩
  rw [← hL] at hp hl hord
  have HL := Lib.hid hL
  clear hL
  obtain ⟨a, cap, rfl, -, -⟩ := hp.form
  have H := Lib.hid (And.intro hp (And.intro hq hord))
  clear hp q1 hq hord c0 c1 c2 c3 A1
  go_wp2_with fail
  go_loopg [3, 5] L.length (fun gg t i wr => ∃ k : Nat, i = .int .i64 k ∧ k + gg = L.length ∧ t = str (spansT (L.take k)) ∧ PL wr (.slice a L.length cap) L ∧ Keep (fun _ => False) w wr)
  case atStart => exact ⟨0, rfl, by omega, rfl, H.out.1, H.out.2.1⟩
  case round =>
    obtain ⟨k, rfl, hk, rfl, hp, hq⟩ := hrel
    by_cases hlt : k < L.length
    · obtain ⟨r, hr⟩ : ∃ r, L[k]? = some r := ⟨L[k], List.getElem?_eq_getElem hlt⟩
      obtain ⟨g, rfl, d0, d1⟩ := PL.get hp hr
      obtain ⟨hr1, hr2⟩ := H.out.2.2 r (List.mem_of_getElem? hr)
      have i0 : (0 : Int) ≤ (k : Int) := by omega
      have i1 : (k : Int) < (L.length : Int) := by omega
      have ht := spansT_take hr
      have hlen : (spansT (L.take k)).length ≤ 2304 := by
        have h1 := spansT_len (L.take k)
        have h3 : (L.take k).length ≤ 256 := by rw [List.length_take]; omega
        omega
      obtain ⟨x, y⟩ := r
      have HR := Lib.hid (And.intro hk (And.intro hp (And.intro hq ht)))
      clear hk hp hq hr ht
      dsimp only at d0 d1 hr1 hr2
      go_wp2_with fail
      go_quiet (fail)
      go_wp2_with fail
      have qd := (Keep.refl (fun _ => False) wr).drewN nq
      generalize wr.drewN nq = wd at *
      refine (resc_any x (by omega) wd).mono ?_
      rintro e w2 ⟨rfl, q2⟩
      have hq2 := (HR.out.2.2.1.trans qd).trans q2
      have hp2 := HR.out.2.1.keep (qd.trans q2) (fun _ _ h => h)
      have H2 := Lib.hid (And.intro HR.out.1 (And.intro hq2 (And.intro hp2 HR.out.2.2.2)))
      clear hq2 hp2 HR qd q2 d0 d1
      generalize spansT (L.take k) = T at *
      have l1 := esc_len x
      have l2 := esc_len y
      have n0 : ¬ 9223372036854775807 < T.length + (esc x).length := by omega
      by_cases h0 : y = x
      · have g0 : ¬ ((x : Int) + 1 < (y : Int)) := by omega
        have g1 : ¬ ((x : Int) < (y : Int)) := by omega
        have he : spanT x y = esc x := by rw [spanT, if_pos h0]
        have HE := Lib.hid he
        clear he h0
        go_wp2_with fail
        go_roundg (L.length - (k + 1))
        case measure => have := H2.out.1; omega
        case rel =>
          obtain ⟨hk, hq, hp, ht⟩ := H2.out
          refine ⟨k + 1, by go_num, by omega, ?_, hp, hq⟩
          rw [ht, HE.out]
          exact str_eq (str_append _ _)
      · have g1 : (x : Int) < (y : Int) := by omega
        by_cases h1 : y = x + 1
        · have g0 : ¬ ((x : Int) + 1 < (y : Int)) := by omega
          have he : spanT x y = esc x ++ esc y := by rw [spanT, if_neg h0, if_pos h1]
          have HE := Lib.hid he
          clear he h0 h1
          go_wp2_with fail
          refine (resc_any y (by omega) w2).mono ?_
          rintro e w3 ⟨rfl, q3⟩
          have H3 := Lib.hid q3
          clear q3
          have n1 : ¬ 9223372036854775807 < T.length + (esc x).length + (esc y).length := by omega
          go_wp2_with fail
          go_roundg (L.length - (k + 1))
          case measure => have := H2.out.1; omega
          case rel =>
            obtain ⟨hk, hq, hp, ht⟩ := H2.out
            refine ⟨k + 1, by go_num, by omega, ?_, hp.keep H3.out (fun _ _ h => h), hq.trans H3.out⟩
            rw [ht, HE.out]
            exact str_eq (ByteArray.ext (by simp))
        · have g0 : (x : Int) + 1 < (y : Int) := by omega
          have he : spanT x y = esc x ++ [45] ++ esc y := by rw [spanT, if_neg h0, if_neg h1]
          have HE := Lib.hid he
          clear he h0 h1
          have n2 : ¬ 9223372036854775807 < T.length + (esc x).length + 1 := by omega
          go_wp2_with fail
          refine (resc_any y (by omega) w2).mono ?_
          rintro e w3 ⟨rfl, q3⟩
          have H3 := Lib.hid q3
          clear q3
          have n1 : ¬ 9223372036854775807 < T.length + (esc x).length + 1 + (esc y).length := by omega
          go_wp2_with fail
          go_roundg (L.length - (k + 1))
          case measure => have := H2.out.1; omega
          case rel =>
            obtain ⟨hk, hq, hp, ht⟩ := H2.out
            refine ⟨k + 1, by go_num, by omega, ?_, hp.keep H3.out (fun _ _ h => h), hq.trans H3.out⟩
            rw [ht, HE.out]
            exact str_eq (ByteArray.ext (by simp))
    · have hkl : k = L.length := by omega
      subst hkl
      have ht : spansT (L.take L.length) = spansT (rgs s.has 256) := by rw [List.take_length, HL.out]
      have HR := Lib.hid (And.intro hq ht)
      clear hp hq hk ht
      go_wp2
      go_ret
      exact ⟨ret_str (by rw [HR.out.2]), HR.out.1⟩

/-- A set, as a class. -/
def textT (s : ST) : List UInt8 :=
  if s.count = 256 then [46] else if s.count = 1 then esc (nxt s.has 0) else if s.count ≤ 128 then 91 :: (spansT (rgs s.has 256) ++ [93]) else 91 :: 94 :: (spansT (rgs s.not.has 256) ++ [93])

set_option maxRecDepth 100000 in
theorem text_any (s : ST) (hs : s.Ok) (w : World) (hT : Tab w) : Calls Tryd.prog 16 #[val s] w fun e w' => e = .returned (str (textT s)) ∧ Keep (fun _ => False) w w' := by
  go_enter Tryd.func16, Tryd.ntmps16
  go_wp2_with fail
  have a1 := At.new w (cells s) 24
  have q1 := (Keep.refl (fun _ => False) w).alloc (.cells (cells s) 24)
  have A1 := Lib.hid (And.intro a1 q1)
  clear a1 q1
  generalize (w.alloc (.cells (cells s) 24)) = W at *
  obtain ⟨⟨c0, c1, c2, c3⟩, -⟩ := cells4 A1.out.1
  go_wp2_with fail
  refine (count_any s hs W).mono ?_
  rintro e w1 ⟨rfl, q1⟩
  have hq := A1.out.2.trans q1
  have ha := A1.out.1.keep q1 (fun h => h)
  clear c0 c1 c2 c3 A1 q1
  obtain ⟨⟨c0, c1, c2, c3⟩, -⟩ := cells4 ha
  have H := Lib.hid (And.intro hq (hT.keep hq))
  clear hq ha hT
  have hnl := nxt_lt_iff s.has
  have hcl := s.count_le
  have hcc : s.count = cnt s.has 256 := rfl
  by_cases h256 : s.count = 256
  · have he : str (textT s) = str [46] := by rw [textT, if_pos h256]
    have HE := Lib.hid he
    have hb : ((s.count : Int) == 256) = true := by rw [h256]; rfl
    clear he h256 hnl hcc
    go_wp2
    go_ret
    exact ⟨by rw [HE.out]; rfl, H.out.1⟩
  · have hb : ((s.count : Int) == 256) = false := by simp; omega
    by_cases h1 : s.count = 1
    · have he : str (textT s) = str (esc (nxt s.has 0)) := by rw [textT, if_neg h256, if_pos h1]
      have HE := Lib.hid he
      have hb1 : ((s.count : Int) == 1) = true := by rw [h1]; rfl
      have hn : nxt s.has 0 < 256 := hnl.2 (by omega)
      have hlo : leastB s.has = (nxt s.has 0 : Int) := by rw [leastB, if_pos hn]
      clear he h256 h1 hnl hcc
      go_wp2_with fail
      have hle := least_any s hs w1 H.out.2
      rw [hlo] at hle
      refine hle.mono ?_
      rintro e w2 ⟨rfl, q2⟩
      have hea := esc_any (nxt s.has 0) hn w2
      have HQ := Lib.hid (H.out.1.trans q2)
      clear hle hlo q2
      generalize nxt s.has 0 = m at *
      have hm : (m : Int) < 256 := by omega
      go_wp2_with fail
      refine hea.mono ?_
      rintro e w3 ⟨rfl, q3⟩
      have HQ3 := Lib.hid (HQ.out.trans q3)
      clear q3 hea
      go_wp2
      go_ret
      exact ⟨by rw [HE.out]; rfl, HQ3.out⟩
    · have hb1 : ((s.count : Int) == 1) = false := by simp; omega
      by_cases h128 : s.count ≤ 128
      · have he : str (textT s) = str (91 :: (spansT (rgs s.has 256) ++ [93])) := by rw [textT, if_neg h256, if_neg h1, if_pos h128]
        have HE := Lib.hid he
        have hb2 : ((s.count : Int) ≤ 128) := by omega
        have hlen := spansT_len (rgs s.has 256)
        have hrl := rgs_le s.has 256
        clear he h256 h1 hnl hcc h128
        go_wp2_with fail
        refine (spans_any s hs w1 H.out.2).mono ?_
        rintro e w2 ⟨rfl, q2⟩
        have HQ := Lib.hid (H.out.1.trans q2)
        clear q2
        generalize spansT (rgs s.has 256) = T at *
        have n1 : ¬ 9223372036854775807 < 1 + T.length := by omega
        have n2 : ¬ 9223372036854775807 < 1 + T.length + 1 := by omega
        go_wp2
        go_ret
        exact ⟨by rw [HE.out]; exact ret_str (ByteArray.ext (by simp)), HQ.out⟩
      · have he : str (textT s) = str (91 :: 94 :: (spansT (rgs s.not.has 256) ++ [93])) := by rw [textT, if_neg h256, if_neg h1, if_neg h128]
        have HE := Lib.hid he
        have hb2 : ¬ ((s.count : Int) ≤ 128) := by omega
        have hlen := spansT_len (rgs s.not.has 256)
        have hrl := rgs_le s.not.has 256
        clear he h256 h1 hnl hcc h128
        go_wp2_with fail
        refine (not_any s hs w1).mono ?_
        rintro e w2 ⟨rfl, q2⟩
        have HQ2 := Lib.hid (And.intro (H.out.1.trans q2) (H.out.2.keep q2))
        clear q2
        go_wp2_with fail
        refine (spans_any s.not (ST.not_ok s) w2 HQ2.out.2).mono ?_
        rintro e w3 ⟨rfl, q3⟩
        have HQ := Lib.hid (HQ2.out.1.trans q3)
        clear q3
        generalize spansT (rgs s.not.has 256) = T at *
        have n1 : ¬ 9223372036854775807 < 2 + T.length := by omega
        have n2 : ¬ 9223372036854775807 < 2 + T.length + 1 := by omega
        go_wp2
        go_ret
        exact ⟨by rw [HE.out]; exact ret_str (ByteArray.ext (by simp)), HQ.out⟩

end Go.Proofs.YtdiegmejkipacaaDoor.Bytes
