/- Contract of the document's Text. -/
import Derived.Test.YtdiegmejkipacaaDoorText
namespace Go.Proofs.YtdiegmejkipacaaDoor.Bytes
open Go.RowKit Go.Proofs.YtdiegmejkipacaaDoor.Base Go.Proofs.YtdiegmejkipacaaDoor.Sets Go.Proofs.YtdiegmejkipacaaDoor.PL Go.Proofs.YtdiegmejkipacaaDoor.IL

set_option maxRecDepth 100000 in
theorem rtext_any (s : ST) (hs : s.Ok) (w : World) : Calls Tryd.prog 17 #[val s] w fun e w' => e = .returned (str (textT s)) ∧ Keep (fun _ => False) w w' := by
  go_enter Tryd.func17, Tryd.ntmps17
  go_wp2_with fail
  have a1 := At.new w (cells s) 24
  have q1 := (Keep.refl (fun _ => False) w).alloc (.cells (cells s) 24)
  have A1 := Lib.hid (And.intro a1 q1)
  clear a1 q1
  generalize (w.alloc (.cells (cells s) 24)) = W at *
  obtain ⟨⟨c0, c1, c2, c3⟩, -⟩ := cells4 A1.out.1
  go_wp2_with fail
  refine (list_any s W).mono ?_
  rintro e w1 ⟨lv, rfl, hi, -, q1⟩
  have hq := A1.out.2.trans q1
  have ha := A1.out.1.keep q1 (fun h => h)
  clear c0 c1 c2 c3 A1 q1
  obtain ⟨⟨c0, c1, c2, c3⟩, -⟩ := cells4 ha
  have hlen : (lst s.has 256).length = s.count := lst_length _ _
  have hnl := nxt_lt_iff s.has
  have hhd := lst_head s.has
  have hcl := s.count_le
  have hcc : s.count = cnt s.has 256 := rfl
  obtain ⟨a, cap, hv, hcell⟩ := hi.form
  rw [hlen] at hv
  subst hv
  have H := Lib.hid hq
  clear hq ha hi hlen
  by_cases h256 : s.count = 256
  · have he : str (textT s) = str [46] := by rw [textT, if_pos h256]
    have HE := Lib.hid he
    have hb : ((s.count : Int) == 256) = true := by rw [h256]; rfl
    clear he h256 hnl hcc hhd hcell
    go_wp2
    go_ret
    exact ⟨by rw [HE.out]; rfl, H.out⟩
  · have hb : ((s.count : Int) == 256) = false := by simp; omega
    by_cases h1 : s.count = 1
    · have he : str (textT s) = str (esc (nxt s.has 0)) := by rw [textT, if_neg h256, if_pos h1]
      have HE := Lib.hid he
      have hb1 : ((s.count : Int) == 1) = true := by rw [h1]; rfl
      have hn : nxt s.has 0 < 256 := hnl.2 (by omega)
      obtain ⟨g, -, rfl, hc0⟩ := hcell 0 _ (hhd hn)
      have i1 : (0 : Int) < (s.count : Int) := by omega
      have hea := resc_any (nxt s.has 0) hn w1
      clear he h256 hnl hcc hhd hcell hcl
      generalize nxt s.has 0 = m at *
      rw [h1] at *
      go_wp2_with fail
      refine hea.mono ?_
      rintro e w3 ⟨rfl, q3⟩
      have HQ3 := Lib.hid (H.out.trans q3)
      clear q3 hea
      go_wp2
      go_ret
      exact ⟨by rw [HE.out]; rfl, HQ3.out⟩
    · have hb1 : ((s.count : Int) == 1) = false := by simp; omega
      by_cases h128 : s.count ≤ 128
      · have he : str (textT s) = str (91 :: (spansT (rgs s.has 256) ++ [93])) := by rw [textT, if_neg h256, if_neg h1, if_pos h128]
        have HE := Lib.hid he
        have hb2 : ((s.count : Int) ≤ 128) := by omega
        have hlen := spansT_len (rgs s.has 256)
        have hrl := rgs_le s.has 256
        clear he h256 h1 hnl hcc h128 hhd hcell
        go_wp2_with fail
        refine (inside_any s w1).mono ?_
        rintro e w2 ⟨rfl, q2⟩
        have HQ := Lib.hid (H.out.trans q2)
        clear q2
        generalize spansT (rgs s.has 256) = T at *
        have n1 : ¬ 9223372036854775807 < 1 + T.length := by omega
        have n2 : ¬ 9223372036854775807 < 1 + T.length + 1 := by omega
        go_wp2
        go_ret
        exact ⟨by rw [HE.out]; exact ret_str (ByteArray.ext (by simp)), HQ.out⟩
      · have he : str (textT s) = str (91 :: 94 :: (spansT (rgs s.not.has 256) ++ [93])) := by rw [textT, if_neg h256, if_neg h1, if_neg h128]
        have HE := Lib.hid he
        have hb2 : ¬ ((s.count : Int) ≤ 128) := by omega
        have hlen := spansT_len (rgs s.not.has 256)
        have hrl := rgs_le s.not.has 256
        clear he h256 h1 hnl hcc h128 hhd hcell
        go_wp2_with fail
        refine (rnot_any s hs w1).mono ?_
        rintro e w2 ⟨rfl, q2⟩
        have HQ2 := Lib.hid (H.out.trans q2)
        clear q2
        go_wp2_with fail
        refine (inside_any s.not w2).mono ?_
        rintro e w3 ⟨rfl, q3⟩
        have HQ := Lib.hid (HQ2.out.trans q3)
        clear q3
        generalize spansT (rgs s.not.has 256) = T at *
        have n1 : ¬ 9223372036854775807 < 2 + T.length := by omega
        have n2 : ¬ 9223372036854775807 < 2 + T.length + 1 := by omega
        go_wp2
        go_ret
        exact ⟨by rw [HE.out]; exact ret_str (ByteArray.ext (by simp)), HQ.out⟩

end Go.Proofs.YtdiegmejkipacaaDoor.Bytes
