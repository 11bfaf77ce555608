/- The code's reader (layer 7): number, numbers, times. -/
import Derived.Test.YthcjfgfbeollpaaKG10
import Derived.Test.YthcjfgfbeollpaaKG12
import Derived.Test.YthcjfgfbeollpaaKG08
import Derived.Test.YthcjfgfbeollpaaKG03
import Derived.Deep.CutBlock
import Derived.Deep.DeepCutAuto
namespace Go.Proofs.Ythcjfgfbeollpaa.P07
open Go.RowKit Go.Proofs.Ythcjfgfbeollpaa.Base

/-- A number's value. -/
@[reducible] def VI (_ : World) (v : Value) (x : Int) : Prop := v = .int .i64 x

/-- Where a number ends: what it is, or that it is wrong. -/
theorem max_end {l : List UInt8} {s : PS} {k : Nat} {m : Int} (hb : s.bad = none) (he : num l s = (numAt l s k, if k = 0 then s.fail s.pos else s.on k)) :
    if k = 0 ∨ numAt l s k < m ∨ 20 < numAt l s k then (maxC m l s).2.bad = some s.pos else maxC m l s = (numAt l s k, s.on k) := by
  unfold maxC number
  rw [he]
  dsimp only
  have hon : (s.on k).bad = none := hb
  by_cases h0 : k = 0
  · subst h0
    rw [if_pos (.inl rfl)]
    have e1 : (if (if (0 : Nat) = 0 then s.fail s.pos else s.on 0).bad = none ∧ 20 < numAt l s 0 then (if (0 : Nat) = 0 then s.fail s.pos else s.on 0).fail s.pos else (if (0 : Nat) = 0 then s.fail s.pos else s.on 0)) = s.fail s.pos := by
      rw [if_pos rfl, if_neg (by rw [bad_fail hb]; simp)]
    rw [e1, if_neg (by rw [bad_fail hb]; simp)]
    exact bad_fail hb _
  · rw [if_neg h0]
    by_cases h20 : 20 < numAt l s k
    · have e1 : (if (s.on k).bad = none ∧ 20 < numAt l s k then (s.on k).fail s.pos else s.on k) = (s.on k).fail s.pos := if_pos ⟨hon, h20⟩
      rw [if_pos (.inr (.inr h20)), e1, if_neg (by rw [bad_fail hon]; simp)]
      exact bad_fail hon _
    · have e1 : (if (s.on k).bad = none ∧ 20 < numAt l s k then (s.on k).fail s.pos else s.on k) = s.on k := if_neg (fun h => h20 h.2)
      rw [e1]
      by_cases hm : numAt l s k < m
      · rw [if_pos (.inr (.inl hm)), if_pos ⟨hon, hm⟩]
        exact bad_fail hon _
      · rw [if_neg (by rintro (h | h | h) <;> contradiction), if_neg (fun h => hm h.2)]

set_option maxRecDepth 100000 in
set_option maxHeartbeats 4000000 in
theorem rnumber_any (b : Nat) (l : List UInt8) (s : PS) (m : Int) (hb : s.bad = none) (hp : s.pos ≤ l.length) (hl : l.length ≤ 100000000) (w : World) (h : Rd w b l s) :
    Calls Try.prog 135 #[.pointer (some ⟨b, 0, none⟩), .int .i64 m] w (Outs w b l VI (maxC m l s)) := by
  have hME := fun k he => max_end (l := l) (s := s) (k := k) (m := m) hb he
  obtain ⟨r, hr⟩ : ∃ r, maxC m l s = r := ⟨_, rfl⟩
  rw [hr] at hME ⊢
  have c1 : w.cell? ⟨b, 1, none⟩ = some (.int .i64 s.pos) := At.cell h (o := 1) rfl
  have H := Lib.hid (And.intro h (And.intro hME hb))
  clear h hr hME hb
  go_enter Try.func135, Try.ntmps135
  go_wp2_with fail
  clear c1
  go_loopg [6] 2 (fun gg n wr => ∃ k : Nat, n = .int .i64 (numAt l s k) ∧ k + gg = 2 ∧ digs l s k ∧ s.pos + k ≤ l.length ∧ Rd wr b l (s.on k) ∧ Keep (fun i => i = b) w wr)
  case atStart => exact ⟨0, rfl, rfl, digs_0 l s, by omega, H.out.1, Keep.refl _ _⟩
  case round =>
    obtain ⟨k, rfl, hk, hd, hpk, hrd, hq⟩ := hrel
    have hrg := numAt_range hd
    obtain ⟨g, hg⟩ : ∃ g : Bool, decide (k < 2 ∧ isDig (nxt l (s.on k)) = true) = g := ⟨_, rfl⟩
    have II := Lib.hid (And.intro hd (And.intro hrd (And.intro hq hg)))
    have c0 : wr.cell? ⟨b, 0, none⟩ = some (str l) := At.cell hrd (o := 0) rfl
    have c1 : wr.cell? ⟨b, 1, none⟩ = some (.int .i64 ((s.pos : Int) + k)) := by
      have := At.cell hrd (o := 1) rfl
      rw [this]
      rfl
    have hs := size_str l
    have hix := index_run l (s.pos + k)
    obtain ⟨B, hB⟩ : ∃ B : ByteArray, (⟨l.toArray⟩ : ByteArray) = B := ⟨_, rfl⟩
    unfold str at c0 hix
    rw [hB] at hs c0 hix
    have HSTR := Lib.hid (show str l = .string B from by unfold str; rw [hB])
    rw [show ((s.pos + k : Nat) : Int) = (s.pos : Int) + k from by omega] at hix
    obtain ⟨n, hn⟩ : ∃ n, numAt l s k = n := ⟨_, rfl⟩
    have HN := Lib.hid hn
    rw [hn] at hrg ⊢
    have hnx : s.pos + k < l.length → nxt l (s.on k) = byteAt l (s.pos + k) := fun h => by unfold nxt; rw [if_pos ⟨H.out.2.2, h⟩]; rfl
    have hnf : ¬ s.pos + k < l.length → nxt l (s.on k) = -1 := fun h => nxt_fin (by show l.length ≤ s.pos + k; omega)
    have hbt := byteAt_lt l (s.pos + k)
    clear hd hrd hq hg hB hn
    have w2 : IntKind.i64.wrap ((s.pos : Int) + 2) = (s.pos : Int) + 2 := by rw [IntKind.wrap_i64]; omega
    go_upto_region 2 with fail
    go_cut [53] (fun x53 wx => x53 = .bool g ∧ Drawn wr wx)
    case first =>
      by_cases hlt : s.pos + k < l.length
      · have i1 := hix hlt
        have hlt' : (s.pos : Int) + k < l.length := by omega
        have hnx := hnx hlt
        clear hix hnf
        generalize byteAt l (s.pos + k) = u at *
        by_cases hk2 : k < 2
        · have hk2' : (s.pos : Int) + k < (s.pos : Int) + 2 := by omega
          by_cases h48 : 48 ≤ u
          · have h48' : (48 : Int) ≤ (u : Int) := by omega
            by_cases h57 : u ≤ 57
            · have h57' : (u : Int) ≤ 57 := by omega
              have HX := Lib.hid (show true = g from by rw [← II.out.2.2.2, hnx]; exact (decide_eq_true ⟨hk2, decide_eq_true ⟨h48', h57'⟩⟩).symm)
              clear hnx
              go_quiet (fail)
              go_wp2_with fail
              go_meet
              case rel => exact ⟨by rw [HX.out], ⟨_, rfl⟩⟩
            · have h57' : ¬ (u : Int) ≤ 57 := by omega
              have HX := Lib.hid (show false = g from by rw [← II.out.2.2.2, hnx]; exact (decide_eq_false (fun h => h57' (dig_range h.2).2)).symm)
              clear hnx
              go_quiet (fail)
              go_wp2_with fail
              go_meet
              case rel => exact ⟨by rw [HX.out], ⟨_, rfl⟩⟩
          · have h48' : ¬ (48 : Int) ≤ (u : Int) := by omega
            have HX := Lib.hid (show false = g from by rw [← II.out.2.2.2, hnx]; exact (decide_eq_false (fun h => h48' (dig_range h.2).1)).symm)
            clear hnx
            go_quiet (fail)
            go_wp2_with fail
            go_meet
            case rel => exact ⟨by rw [HX.out], ⟨_, rfl⟩⟩
        · have hk2' : ¬ (s.pos : Int) + k < (s.pos : Int) + 2 := by omega
          have HX := Lib.hid (show false = g from by rw [← II.out.2.2.2]; exact (decide_eq_false (fun h => hk2 h.1)).symm)
          clear hnx
          go_quiet (fail)
          go_wp2_with fail
          go_meet
          case rel => exact ⟨by rw [HX.out], ⟨_, rfl⟩⟩
      · have hlt' : ¬ (s.pos : Int) + k < l.length := by omega
        have HX := Lib.hid (show false = g from by rw [← II.out.2.2.2, hnf hlt]; exact (decide_eq_false (fun h => by have := (dig_range h.2).1; omega)).symm)
        clear hix hnf hnx
        go_quiet (fail)
        go_wp2_with fail
        go_meet
        case rel => exact ⟨by rw [HX.out], ⟨_, rfl⟩⟩
    case rest =>
      obtain ⟨rfl, ⟨nd, rfl⟩⟩ := hcut
      have J := Lib.hid (And.intro (show Rd (wr.drewN nd) b l (s.on k) from II.out.2.1) (II.out.2.2.1.drewN nd))
      clear c0 c1
      generalize wr.drewN nd = wc at *
      have c1 : wc.cell? ⟨b, 1, none⟩ = some (.int .i64 ((s.pos : Int) + k)) := by
        have := At.cell J.out.1 (o := 1) rfl
        rw [this]
        rfl
      cases g with
      | true =>
        obtain ⟨hk2, hdig⟩ := of_decide_eq_true II.out.2.2.2
        have hlt : s.pos + k < l.length := by
          rcases Nat.lt_or_ge (s.pos + k) l.length with h | h
          · exact h
          · rw [hnf (by omega)] at hdig
            exact absurd hdig (by decide)
        have i1 := hix hlt
        have hds := digs_succ II.out.1 hk2 hdig
        have hnx := hnx hlt
        have hna : numAt l s (k + 1) = 10 * numAt l s k + nxt l (s.on k) - 48 := by rw [numAt]
        obtain ⟨d1, d2⟩ := dig_range hdig
        rw [hnx] at d1 d2 hna
        have c0 : wc.cell? ⟨b, 0, none⟩ = some (.string B) := by
          have := At.cell J.out.1 (o := 0) (v := str l) rfl
          rw [this, HSTR.out]
        have f1 := At.frozen J.out.1 1
        have HD := Lib.hid (And.intro hds hna)
        clear hds hna hnx hnf hix hdig
        generalize byteAt l (s.pos + k) = u at *
        have w3 : IntKind.i64.wrap (10 * n) = 10 * n := by rw [IntKind.wrap_i64]; omega
        have w4 : IntKind.u8.wrap ((u : Int) - 48) = (u : Int) - 48 := by rw [IntKind.wrap_u8]; omega
        have w5 : IntKind.i64.wrap ((u : Int) - 48) = (u : Int) - 48 := by rw [IntKind.wrap_i64]; omega
        have w6 : IntKind.i64.wrap (10 * n + ((u : Int) - 48)) = 10 * n + ((u : Int) - 48) := by rw [IntKind.wrap_i64]; omega
        have w7 : IntKind.i64.wrap ((s.pos : Int) + k + 1) = (s.pos : Int) + k + 1 := by rw [IntKind.wrap_i64]; omega
        go_wp2_with fail
        go_quiet (fail)
        go_wp2_with fail
        go_roundg (2 - (k + 1))
        case measure => omega
        case rel =>
          refine ⟨k + 1, ?_, by omega, HD.out.1, by omega, ?_, (J.out.2.drewN _).setCell (p := ⟨b, 1, none⟩) (fun _ => rfl) _⟩
          · rw [HD.out.2, HN.out]
            congr 1
            omega
          · have := At.set J.out.1 1 (.int .i64 ((s.pos : Int) + k + 1))
            exact this
      | false =>
        have hend := num_end II.out.1 (by
          rcases Nat.lt_or_ge k 2 with h2 | h2
          · right
            have := of_decide_eq_false II.out.2.2.2
            rw [Bool.eq_false_iff]
            exact fun h => this ⟨h2, h⟩
          · left
            omega)
        have hme := H.out.2.1 k hend
        rw [HN.out] at hme
        clear hend hix hnx hnf hbt
        by_cases h0 : k = 0
        · rw [if_pos (.inl h0)] at hme
          have HM := Lib.hid hme
          have e0 : ((s.pos : Int) + k == s.pos) = true := by simp; omega
          clear hme h0
          go_wp2_with fail
          exact ⟨rfl, Outs.gave (x := s.pos) HM.out J.out.2⟩
        · have e0 : ((s.pos : Int) + k == s.pos) = false := by simp; omega
          by_cases h1 : n < m
          · rw [if_pos (.inr (.inl h1))] at hme
            have HM := Lib.hid hme
            clear hme h0
            go_wp2_with fail
            exact ⟨rfl, Outs.gave (x := s.pos) HM.out J.out.2⟩
          · by_cases h2 : 20 < n
            · rw [if_pos (.inr (.inr h2))] at hme
              have HM := Lib.hid hme
              clear hme h0
              go_wp2_with fail
              exact ⟨rfl, Outs.gave (x := s.pos) HM.out J.out.2⟩
            · rw [if_neg (by rintro (h | h | h) <;> contradiction)] at hme
              have HM := Lib.hid hme
              clear hme h0
              go_wp2_with fail
              go_ret
              exact Outs.ok (by rw [HM.out]; exact H.out.2.2) (by rw [HM.out]; rfl) (by rw [HM.out]; exact J.out.1) J.out.2

theorem num_nonneg (l : List UInt8) (s : PS) : 0 ≤ (num l s).1 := by
  unfold num numB
  split
  · rename_i h
    have h1 := dig_range h
    unfold num2 numB2
    split
    · rename_i h2
      have h3 := dig_range h2
      dsimp only
      omega
    · dsimp only
      omega
  · dsimp only
    omega
theorem max_zero (l : List UInt8) (s : PS) : maxC 0 l s = number l s := by
  have h : 0 ≤ (number l s).1 := num_nonneg l s
  unfold maxC
  rw [if_neg (fun h1 => absurd h1.2 (by omega))]
theorem maxC_pos {mn : Int} {l : List UInt8} {s : PS} (hb : s.bad = none) (hp : s.pos ≤ l.length) (h : (maxC mn l s).2.bad = none) : (maxC mn l s).2.pos ≤ l.length := by
  unfold maxC at h ⊢
  by_cases hc : (number l s).2.bad = none ∧ (number l s).1 < mn
  · rw [if_pos hc] at h
    exact absurd h (fail_never _ _)
  · rw [if_neg hc] at h ⊢
    exact number_sharp.toTame.pos_le hb hp h

/-- Two numbers' value. -/
@[reducible] def VP (_ : World) (v : Value) (x : Int × Int) : Prop := v = .tuple #[.int .i64 x.1, .int .i64 x.2]

set_option maxRecDepth 100000 in
set_option maxHeartbeats 4000000 in
theorem rnumbers_any (b : Nat) (l : List UInt8) (s : PS) (hb : s.bad = none) (hp : s.pos ≤ l.length) (hl : l.length ≤ 100000000) (w : World) (h : Rd w b l s) :
    Calls Try.prog 125 #[.pointer (some ⟨b, 0, none⟩)] w (Outs w b l VP (braces l s)) := by
  have hn := fun W h1 => rnumber_any b l s 0 hb hp hl W h1
  rw [max_zero] at hn
  have hp1 := fun h => number_sharp.toTame.pos_le (l := l) (s := s) hb hp h
  have hr : braces l s = (((number l s).1, (cmaP (number l s).1 l (number l s).2).1), (must 125 l (cmaP (number l s).1 l (number l s).2).2).2) := rfl
  have hbd : ∀ x, (number l s).2.bad = some x → (braces l s).2.bad = some x := fun x h => by
    rw [hr]
    exact (must_tame 125 (by decide)).bad l _ x ((cma_tame _).bad l _ x h)
  obtain ⟨r, hrr⟩ : ∃ r, braces l s = r := ⟨_, rfl⟩
  rw [hrr] at hr hbd ⊢
  obtain ⟨⟨n, s1⟩, h1⟩ : ∃ q, number l s = q := ⟨_, rfl⟩
  rw [h1] at hn hp1 hr hbd
  dsimp only at hp1 hr hbd
  have HC := Lib.hid (And.intro hn (And.intro hp1 (And.intro hr (And.intro hbd h))))
  clear h hn hp1 hr hbd hrr h1 hb hp
  go_enter Try.func125, Try.ntmps125
  go_wp2_with fail
  refine (HC.out.1 w HC.out.2.2.2.2).mono ?_
  intro e w2 hO
  rcases hO.split with ⟨hb2, v, rfl, hv, h2, q2⟩ | ⟨x, hb2, rfl, q2⟩
  · unfold VI at hv
    subst hv
    have H2 := Lib.hid (And.intro h2 q2)
    have hpos := HC.out.2.1 hb2
    have hr := HC.out.2.2.1
    dsimp only at hb2 hr hpos
    clear hO
    by_cases h44 : nxt l s1 = 44
    · have hlt := nxt_lt (l := l) (s := s1) (by omega)
      have ht := take_yes b 44 l s1 h44 hl w2 h2
      have hbA : s1.adv.bad = none := hb2
      have hpA : s1.adv.pos ≤ l.length := hlt.2
      unfold cmaP cmaB maxP maxB at hr
      rw [if_pos h44] at hr
      by_cases h125 : nxt l s1.adv = 125
      · rw [if_pos h125] at hr
        have hmu : (must 125 l s1.adv).2 = s1.adv.adv := by unfold must; rw [if_pos h125]
        rw [hmu] at hr
        have ht2 := fun W h => take_yes b 125 l s1.adv h125 hl W h
        have HD := Lib.hid (And.intro ht (And.intro ht2 (And.intro hr hbA)))
        clear h2 q2 h44 ht hr h125 hmu ht2 hb2 hbA
        go_wp2_with fail
        refine HD.out.1.mono ?_
        rintro e w3 ⟨rfl, h3, q3⟩
        have H3 := Lib.hid (And.intro h3 (H2.out.2.trans q3))
        clear h3 q3
        go_wp2_with fail
        refine (HD.out.2.1 w3 H3.out.1).mono ?_
        rintro e w4 ⟨rfl, h4, q4⟩
        have H4 := Lib.hid (And.intro h4 (H3.out.2.trans q4))
        clear h4 q4
        go_wp2_with fail
        refine bodyPost_ret (v := .tuple #[.int .i64 n, .int .i64 (-1)]) (by simp [results, Try.results125, go_sem]) rfl ?_
        exact Outs.ok (by rw [HD.out.2.2.1]; exact HD.out.2.2.2) (by rw [HD.out.2.2.1]) (by rw [HD.out.2.2.1]; exact H4.out.1) H4.out.2
      · rw [if_neg h125] at hr
        have ht2 := fun W h => take_no b 125 l s1.adv hbA h125 W h
        have hnu := fun W h => rnumber_any b l s1.adv n hbA hpA hl W h
        have hmp := fun h => maxC_pos (mn := n) (l := l) (s := s1.adv) hbA hpA h
        obtain ⟨⟨m, s2⟩, hm⟩ : ∃ q, maxC n l s1.adv = q := ⟨_, rfl⟩
        rw [hm] at hr hnu hmp
        dsimp only at hr hmp
        have HD := Lib.hid (And.intro ht (And.intro ht2 (And.intro hr (And.intro hnu hmp))))
        clear h2 q2 h44 ht hr h125 ht2 hb2 hbA hpA hnu hmp hm
        go_wp2_with fail
        refine HD.out.1.mono ?_
        rintro e w3 ⟨rfl, h3, q3⟩
        have H3 := Lib.hid (And.intro h3 (H2.out.2.trans q3))
        clear h3 q3
        go_wp2_with fail
        refine (HD.out.2.1 w3 H3.out.1).mono ?_
        rintro e w4 ⟨rfl, h4, q4⟩
        have H4 := Lib.hid (And.intro h4 (H3.out.2.trans q4))
        clear h4 q4
        go_wp2_with fail
        refine (HD.out.2.2.2.1 w4 H4.out.1).mono ?_
        intro e w5 hO
        rcases hO.split with ⟨hb5, v, rfl, hv, h5, q5⟩ | ⟨x, hb5, rfl, q5⟩
        · unfold VI at hv
          subst hv
          have H5 := Lib.hid (And.intro (rmust_any b 125 l s2 hb5 hl w5 h5) (H4.out.2.trans q5))
          clear hb5 h5 q5 hO
          go_wp2_with fail
          refine H5.out.1.mono ?_
          intro e w6 hO
          rcases hO.split with ⟨hb6, v, rfl, hv, h6, q6⟩ | ⟨x, hb6, rfl, q6⟩
          · subst hv
            have H6 := Lib.hid (And.intro hb6 (And.intro h6 (H5.out.2.trans q6)))
            clear hb6 h6 q6 hO
            go_wp2_with fail
            refine bodyPost_ret (v := .tuple #[.int .i64 n, .int .i64 m]) (by simp [results, Try.results125, go_sem]) rfl ?_
            exact Outs.ok (by rw [HD.out.2.2.1]; exact H6.out.1) (by rw [HD.out.2.2.1]) (by rw [HD.out.2.2.1]; exact H6.out.2.1) H6.out.2.2
          · have H6 := Lib.hid (And.intro hb6 (H5.out.2.trans q6))
            clear hb6 q6 hO
            go_wp2_with fail
            exact ⟨rfl, Outs.gave (x := x) (by rw [HD.out.2.2.1]; exact H6.out.1) H6.out.2⟩
        · have H5 := Lib.hid (And.intro hb5 (H4.out.2.trans q5))
          clear hb5 q5 hO
          go_wp2_with fail
          exact ⟨rfl, Outs.gave (x := x) (by rw [HD.out.2.2.1]; exact (must_tame 125 (by decide)).bad l _ x H5.out.1) H5.out.2⟩
    · have ht := take_no b 44 l s1 hb2 h44 w2 h2
      unfold cmaP cmaB at hr
      rw [if_neg h44] at hr
      have HD := Lib.hid (And.intro ht (And.intro hr hb2))
      clear h2 q2 h44 ht hr hb2
      go_wp2_with fail
      refine HD.out.1.mono ?_
      rintro e w3 ⟨rfl, h3, q3⟩
      have H5 := Lib.hid (And.intro (rmust_any b 125 l s1 HD.out.2.2 hl w3 h3) (H2.out.2.trans q3))
      clear h3 q3
      go_wp2_with fail
      refine H5.out.1.mono ?_
      intro e w6 hO
      rcases hO.split with ⟨hb6, v, rfl, hv, h6, q6⟩ | ⟨x, hb6, rfl, q6⟩
      · subst hv
        have H6 := Lib.hid (And.intro hb6 (And.intro h6 (H5.out.2.trans q6)))
        clear hb6 h6 q6 hO
        go_wp2_with fail
        refine bodyPost_ret (v := .tuple #[.int .i64 n, .int .i64 n]) (by simp [results, Try.results125, go_sem]) rfl ?_
        exact Outs.ok (by rw [HD.out.2.1]; exact H6.out.1) (by rw [HD.out.2.1]) (by rw [HD.out.2.1]; exact H6.out.2.1) H6.out.2.2
      · have H6 := Lib.hid (And.intro hb6 (H5.out.2.trans q6))
        clear hb6 q6 hO
        go_wp2_with fail
        exact ⟨rfl, Outs.gave (x := x) (by rw [HD.out.2.1]; exact H6.out.1) H6.out.2⟩
  · have H2 := Lib.hid (And.intro hb2 q2)
    clear hb2 q2 hO
    go_wp2_with fail
    exact ⟨rfl, Outs.gave (x := x) (HC.out.2.2.2.1 _ H2.out.1) H2.out.2⟩

/-- What a sign says: none, or how often. -/
@[reducible] def VT (a : T) (_ : World) (v : Value) (t : T) : Prop := (v = .tuple #[.int .i64 0, .int .i64 0, .bool false] ∧ t = a) ∨ ∃ mn mx : Int, v = .tuple #[.int .i64 mn, .int .i64 mx, .bool true] ∧ t = repT a mn mx

set_option maxRecDepth 100000 in
set_option maxHeartbeats 4000000 in
theorem rtimes_any (b : Nat) (l : List UInt8) (s : PS) (a : T) (hb : s.bad = none) (hl : l.length ≤ 100000000) (w : World) (h : Rd w b l s) :
    Calls Try.prog 118 #[.pointer (some ⟨b, 0, none⟩)] w (Outs w b l (VT a) (sgB a (nxt l s) l s)) := by
  obtain ⟨c, hc⟩ : ∃ c, nxt l s = c := ⟨_, rfl⟩
  have hr : sgB a c l s = sgB a c l s := rfl
  rw [hc]
  obtain ⟨r, hrr⟩ : ∃ r, sgB a c l s = r := ⟨_, rfl⟩
  rw [hrr]
  rw [hrr] at hr
  unfold sgB at hrr
  have HB := Lib.hid (And.intro h hb)
  by_cases h42 : c = 42
  · rw [if_pos h42] at hrr
    have HC := Lib.hid (And.intro (take_yes b 42 l s (by rw [hc, h42]; rfl) hl w h) hrr)
    clear h hrr hr hc h42 hb
    go_enter Try.func118, Try.ntmps118
    go_wp2_with fail
    refine HC.out.1.mono ?_
    rintro e w3 ⟨rfl, h3, q3⟩
    have H3 := Lib.hid (And.intro h3 q3)
    clear h3 q3
    go_wp2_with fail
    refine bodyPost_ret (v := .tuple #[.int .i64 0, .int .i64 (-1), .bool true]) (by simp [results, Try.results118, go_sem]) rfl ?_
    exact Outs.ok (by rw [← HC.out.2]; exact HB.out.2) (by rw [← HC.out.2]; exact .inr ⟨0, -1, rfl, rfl⟩) (by rw [← HC.out.2]; exact H3.out.1) H3.out.2
  have T1 := Lib.hid (fun W h => take_no b 42 l s hb (by rw [hc]; exact h42) W h)
  rw [if_neg h42] at hrr
  by_cases h43 : c = 43
  · rw [if_pos h43] at hrr
    have HC := Lib.hid (And.intro (fun W h => take_yes b 43 l s (by rw [hc, h43]; rfl) hl W h) hrr)
    clear h hrr hr hc h42 h43 hb
    go_enter Try.func118, Try.ntmps118
    go_wp2_with fail
    refine (T1.out w HB.out.1).mono ?_
    rintro e w2 ⟨rfl, h2, q2⟩
    have H2 := Lib.hid (And.intro h2 q2)
    clear h2 q2
    go_wp2_with fail
    refine (HC.out.1 w2 H2.out.1).mono ?_
    rintro e w3 ⟨rfl, h3, q3⟩
    have H3 := Lib.hid (And.intro h3 (H2.out.2.trans q3))
    clear h3 q3
    go_wp2_with fail
    refine bodyPost_ret (v := .tuple #[.int .i64 1, .int .i64 (-1), .bool true]) (by simp [results, Try.results118, go_sem]) rfl ?_
    exact Outs.ok (by rw [← HC.out.2]; exact HB.out.2) (by rw [← HC.out.2]; exact .inr ⟨1, -1, rfl, rfl⟩) (by rw [← HC.out.2]; exact H3.out.1) H3.out.2
  have T2 := Lib.hid (fun W h => take_no b 43 l s hb (by rw [hc]; exact h43) W h)
  rw [if_neg h43] at hrr
  by_cases h63 : c = 63
  · rw [if_pos h63] at hrr
    have HC := Lib.hid (And.intro (fun W h => take_yes b 63 l s (by rw [hc, h63]; rfl) hl W h) hrr)
    clear h hrr hr hc h42 h43 h63 hb
    go_enter Try.func118, Try.ntmps118
    go_wp2_with fail
    refine (T1.out w HB.out.1).mono ?_
    rintro e w1 ⟨rfl, h2, q2⟩
    have H1 := Lib.hid (And.intro h2 q2)
    clear h2 q2
    go_wp2_with fail
    refine (T2.out w1 H1.out.1).mono ?_
    rintro e w2 ⟨rfl, h2, q2⟩
    have H2 := Lib.hid (And.intro h2 (H1.out.2.trans q2))
    clear h2 q2
    go_wp2_with fail
    refine (HC.out.1 w2 H2.out.1).mono ?_
    rintro e w3 ⟨rfl, h3, q3⟩
    have H3 := Lib.hid (And.intro h3 (H2.out.2.trans q3))
    clear h3 q3
    go_wp2_with fail
    refine bodyPost_ret (v := .tuple #[.int .i64 0, .int .i64 1, .bool true]) (by simp [results, Try.results118, go_sem]) rfl ?_
    exact Outs.ok (by rw [← HC.out.2]; exact HB.out.2) (by rw [← HC.out.2]; exact .inr ⟨0, 1, rfl, rfl⟩) (by rw [← HC.out.2]; exact H3.out.1) H3.out.2
  have T3 := Lib.hid (fun W h => take_no b 63 l s hb (by rw [hc]; exact h63) W h)
  rw [if_neg h63] at hrr
  by_cases h123 : c = 123
  · rw [if_pos h123] at hrr
    have hlt := nxt_lt (l := l) (s := s) (by omega)
    have hbr := fun W h => rnumbers_any b l s.adv hb hlt.2 hl W h
    obtain ⟨⟨⟨mn, mx⟩, s2⟩, hq⟩ : ∃ q, braces l s.adv = q := ⟨_, rfl⟩
    rw [hq] at hbr hrr
    have HC := Lib.hid (And.intro (fun W h => take_yes b 123 l s (by rw [hc, h123]; rfl) hl W h) (And.intro hrr hbr))
    clear h hrr hr hc h42 h43 h63 h123 hb hlt hbr hq
    go_enter Try.func118, Try.ntmps118
    go_wp2_with fail
    refine (T1.out w HB.out.1).mono ?_
    rintro e w1 ⟨rfl, h2, q2⟩
    have H1 := Lib.hid (And.intro h2 q2)
    clear h2 q2
    go_wp2_with fail
    refine (T2.out w1 H1.out.1).mono ?_
    rintro e w2 ⟨rfl, h2, q2⟩
    have H2 := Lib.hid (And.intro h2 (H1.out.2.trans q2))
    clear h2 q2
    go_wp2_with fail
    refine (T3.out w2 H2.out.1).mono ?_
    rintro e w3 ⟨rfl, h2, q2⟩
    have H3 := Lib.hid (And.intro h2 (H2.out.2.trans q2))
    clear h2 q2
    go_wp2_with fail
    refine (HC.out.1 w3 H3.out.1).mono ?_
    rintro e w4 ⟨rfl, h3, q3⟩
    have H4 := Lib.hid (And.intro h3 (H3.out.2.trans q3))
    clear h3 q3
    go_wp2_with fail
    refine (HC.out.2.2 w4 H4.out.1).mono ?_
    intro e w5 hO
    rcases hO.split with ⟨hb5, v, rfl, hv, h5, q5⟩ | ⟨x, hb5, rfl, q5⟩
    · unfold VP at hv
      subst hv
      have H5 := Lib.hid (And.intro hb5 (And.intro h5 (H4.out.2.trans q5)))
      clear hb5 h5 q5 hO
      go_wp2_with fail
      refine bodyPost_ret (v := .tuple #[.int .i64 mn, .int .i64 mx, .bool true]) (by simp [results, Try.results118, go_sem]) rfl ?_
      exact Outs.ok (by rw [← HC.out.2.1]; exact H5.out.1) (by rw [← HC.out.2.1]; exact .inr ⟨mn, mx, rfl, rfl⟩) (by rw [← HC.out.2.1]; exact H5.out.2.1) H5.out.2.2
    · have H5 := Lib.hid (And.intro hb5 (H4.out.2.trans q5))
      clear hb5 q5 hO
      go_wp2_with fail
      exact ⟨rfl, Outs.gave (x := x) (by rw [← HC.out.2.1]; exact H5.out.1) H5.out.2⟩
  have T4 := Lib.hid (fun W h => take_no b 123 l s hb (by rw [hc]; exact h123) W h)
  rw [if_neg h123] at hrr
  have HC := Lib.hid hrr
  clear h hrr hr hc h42 h43 h63 h123 hb
  go_enter Try.func118, Try.ntmps118
  go_wp2_with fail
  refine (T1.out w HB.out.1).mono ?_
  rintro e w1 ⟨rfl, h2, q2⟩
  have H1 := Lib.hid (And.intro h2 q2)
  clear h2 q2
  go_wp2_with fail
  refine (T2.out w1 H1.out.1).mono ?_
  rintro e w2 ⟨rfl, h2, q2⟩
  have H2 := Lib.hid (And.intro h2 (H1.out.2.trans q2))
  clear h2 q2
  go_wp2_with fail
  refine (T3.out w2 H2.out.1).mono ?_
  rintro e w3 ⟨rfl, h2, q2⟩
  have H3 := Lib.hid (And.intro h2 (H2.out.2.trans q2))
  clear h2 q2
  go_wp2_with fail
  refine (T4.out w3 H3.out.1).mono ?_
  rintro e w4 ⟨rfl, h3, q3⟩
  have H4 := Lib.hid (And.intro h3 (H3.out.2.trans q3))
  clear h3 q3
  go_wp2_with fail
  refine bodyPost_ret (v := .tuple #[.int .i64 0, .int .i64 0, .bool false]) (by simp [results, Try.results118, go_sem]) rfl ?_
  exact Outs.ok (by rw [← HC.out]; exact HB.out.2) (by rw [← HC.out]; exact .inl ⟨rfl, rfl⟩) (by rw [← HC.out]; exact H4.out.1) H4.out.2
end Go.Proofs.Ythcjfgfbeollpaa.P07
