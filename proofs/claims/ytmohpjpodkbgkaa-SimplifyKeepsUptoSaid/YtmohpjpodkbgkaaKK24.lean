/- Contracts of bytes256's spans and Text, and of the document's inside and Text. -/
import Derived.Test.YtmohpjpodkbgkaaKK23
import Derived.Lib.UnsafeStr
namespace Go.Proofs.Ytmohpjpodkbgkaa.Bytes
open Go.RowKit Go.Proofs.Ytmohpjpodkbgkaa.Base Go.Proofs.Ytmohpjpodkbgkaa.Sets Go.Proofs.Ytmohpjpodkbgkaa.PL Go.Proofs.Ytmohpjpodkbgkaa.IL

/-- The ranges, as they stand in a class. -/
def spansT (L : List (Nat × Nat)) : List UInt8 := L.flatMap fun r => spanT r.1 r.2

theorem spanT_len (a b : Nat) : (spanT a b).length ≤ 9 := by
  have h1 := esc_len a
  have h2 := esc_len b
  unfold spanT
  split
  · omega
  · split
    · rw [List.length_append]; omega
    · simp only [List.length_append, List.length_cons, List.length_nil]; omega

theorem spansT_len : ∀ L, (spansT L).length ≤ 9 * L.length
  | [] => Nat.le_refl _
  | r :: L => by
    have := spansT_len L
    have := spanT_len r.1 r.2
    unfold spansT at *
    rw [List.flatMap_cons, List.length_append, List.length_cons]
    omega

theorem spansT_take {L : List (Nat × Nat)} {k : Nat} {r : Nat × Nat} (h : L[k]? = some r) : spansT (L.take (k + 1)) = spansT (L.take k) ++ spanT r.1 r.2 := by
  rw [List.take_add_one, h]
  unfold spansT
  rw [List.flatMap_append]
  simp

theorem PL.get {w : World} {a : Option Addr} {n cap : Nat} {L : List (Nat × Nat)} (h : PL w (.slice a n cap) L) {k : Nat} {r : Nat × Nat} (hr : L[k]? = some r) :
    ∃ g, a = some ⟨g, 0, none⟩ ∧ w.cell? ⟨g, k * 2, none⟩ = some (.int .u8 r.1) ∧ w.cell? ⟨g, k * 2 + 1, none⟩ = some (.int .u8 r.2) := by
  obtain ⟨a', cap', e, -, hc⟩ := h.form
  injection e with e1 _ _
  subst e1
  obtain ⟨g, -, ha, d0, d1, -⟩ := hc k r hr
  rw [show 2 * k = k * 2 from by omega] at d0
  rw [show 2 * k + 1 = k * 2 + 1 from by omega] at d1
  exact ⟨g, ha, d0, d1⟩

theorem PL.at_ {w : World} {g n cap : Nat} {L : List (Nat × Nat)} (h : PL w (.slice (some ⟨g, 0, none⟩) n cap) L) : ∃ cur, At w g 74 cur := by
  rcases h.2 with ⟨hv, _⟩ | ⟨g', cap', cur', hv, _, hg, _⟩
  · cases hv
  · injection hv with e1 _ _
    injection e1 with e1
    injection e1 with e1
    subst e1
    exact ⟨cur', hg⟩

theorem at_ne {w : World} {b b' : Nat} {t t' : TypeId} {vs vs' : Array Value} (h : At w b t vs) (h' : At w b' t' vs') (ht : t ≠ t') : b ≠ b' := fun e => by
  subst e
  unfold At at h h'
  rw [h] at h'
  injection h' with h'
  injection h' with _ h' _
  exact ht h'

theorem byteCells_append (a b : List UInt8) : Lib.byteCells (a ++ b) = Lib.byteCells a ++ Lib.byteCells b := by simp [Lib.byteCells]

theorem keep_below {a b c : World} (h : Keep (fun _ => False) a b) (k : Below a.heap.size b c) : Keep (fun _ => False) a c :=
  ⟨k.os.trans h.os, k.tape.trans h.tape, k.output.trans h.output, Nat.le_trans h.size k.size, fun i hi _ => (k.block i hi).trans (h.block i hi (fun x => x))⟩

end Go.Proofs.Ytmohpjpodkbgkaa.Bytes
/- Contracts of the document's inside and Text, and of bytes256's Text. -/
namespace Go.Proofs.Ytmohpjpodkbgkaa.Bytes
open Go.RowKit Go.Proofs.Ytmohpjpodkbgkaa.Base Go.Proofs.Ytmohpjpodkbgkaa.Sets Go.Proofs.Ytmohpjpodkbgkaa.PL Go.Proofs.Ytmohpjpodkbgkaa.IL

theorem str_eq {a b : ByteArray} (h : a = b) : Value.string a = Value.string b := by rw [h]

set_option maxRecDepth 100000 in
theorem inside_any (s : ST) (w : World) : Calls Try.prog 47 #[val s] w fun e w' => e = .returned (str (spansT (rgs s.has 256))) ∧ Keep (fun _ => False) w w' := by
  go_enter Try.func47, Try.ntmps47
  go_wp2_with fail
  have a1 := At.new w (cells s) 24
  have q := (Keep.refl (fun _ => False) w).alloc (.cells (cells s) 24)
  have A1 := Lib.hid q
  obtain ⟨⟨c0, c1, c2, c3⟩, -⟩ := cells4 a1
  clear a1 q
  generalize (w.alloc (.cells (cells s) 24)) = W at *
  go_wp2_with fail
  refine (rranges_any s W).mono ?_
  rintro e w1 ⟨lv, rfl, hp, -, q1⟩
  have hq := A1.out.trans q1
  have hl := rgs_le s.has 256
  have hord := (rgs_ok s.has 256).ord
  obtain ⟨L, hL⟩ : ∃ L, L = rgs s.has 256 := ⟨_, rfl⟩
  rw [← hL] at hp hl hord
  have HL := Lib.hid hL
  clear hL
  obtain ⟨a, cap, rfl, -, -⟩ := hp.form
  have H := Lib.hid (And.intro hp (And.intro hq hord))
  clear hp q1 hq hord c0 c1 c2 c3 A1
  go_wp2_with fail
  go_loopg [3, 5] L.length (fun gg t i wr => ∃ k : Nat, i = .int .i64 k ∧ k + gg = L.length ∧ t = str (spansT (L.take k)) ∧ PL wr (.slice a L.length cap) L ∧ Keep (fun _ => False) w wr)
  case atStart => exact ⟨0, rfl, by omega, rfl, H.out.1, H.out.2.1⟩
  case round =>
    obtain ⟨k, rfl, hk, rfl, hp, hq⟩ := hrel
    by_cases hlt : k < L.length
    · obtain ⟨r, hr⟩ : ∃ r, L[k]? = some r := ⟨L[k], List.getElem?_eq_getElem hlt⟩
      obtain ⟨g, rfl, d0, d1⟩ := PL.get hp hr
      obtain ⟨hr1, hr2⟩ := H.out.2.2 r (List.mem_of_getElem? hr)
      have i0 : (0 : Int) ≤ (k : Int) := by omega
      have i1 : (k : Int) < (L.length : Int) := by omega
      have ht := spansT_take hr
      have hlen : (spansT (L.take k)).length ≤ 2304 := by
        have h1 := spansT_len (L.take k)
        have h3 : (L.take k).length ≤ 256 := by rw [List.length_take]; omega
        omega
      obtain ⟨x, y⟩ := r
      have HR := Lib.hid (And.intro hk (And.intro hp (And.intro hq ht)))
      clear hk hp hq hr ht
      dsimp only at d0 d1 hr1 hr2
      go_wp2_with fail
      go_quiet (fail)
      go_wp2_with fail
      have qd := (Keep.refl (fun _ => False) wr).drewN nq
      generalize wr.drewN nq = wd at *
      refine (resc_any x (by omega) wd).mono ?_
      rintro e w2 ⟨rfl, q2⟩
      have hq2 := (HR.out.2.2.1.trans qd).trans q2
      have hp2 := HR.out.2.1.keep (qd.trans q2) (fun _ _ h => h)
      have H2 := Lib.hid (And.intro HR.out.1 (And.intro hq2 (And.intro hp2 HR.out.2.2.2)))
      clear hq2 hp2 HR qd q2 d0 d1
      generalize spansT (L.take k) = T at *
      have l1 := esc_len x
      have l2 := esc_len y
      have n0 : ¬ 9223372036854775807 < T.length + (esc x).length := by omega
      by_cases h0 : y = x
      · have g0 : ¬ ((x : Int) + 1 < (y : Int)) := by omega
        have g1 : ¬ ((x : Int) < (y : Int)) := by omega
        have he : spanT x y = esc x := by rw [spanT, if_pos h0]
        have HE := Lib.hid he
        clear he h0
        go_wp2_with fail
        go_roundg (L.length - (k + 1))
        case measure => have := H2.out.1; omega
        case rel =>
          obtain ⟨hk, hq, hp, ht⟩ := H2.out
          refine ⟨k + 1, by go_num, by omega, ?_, hp, hq⟩
          rw [ht, HE.out]
          exact str_eq (str_append _ _)
      · have g1 : (x : Int) < (y : Int) := by omega
        by_cases h1 : y = x + 1
        · have g0 : ¬ ((x : Int) + 1 < (y : Int)) := by omega
          have he : spanT x y = esc x ++ esc y := by rw [spanT, if_neg h0, if_pos h1]
          have HE := Lib.hid he
          clear he h0 h1
          go_wp2_with fail
          refine (resc_any y (by omega) w2).mono ?_
          rintro e w3 ⟨rfl, q3⟩
          have H3 := Lib.hid q3
          clear q3
          have n1 : ¬ 9223372036854775807 < T.length + (esc x).length + (esc y).length := by omega
          go_wp2_with fail
          go_roundg (L.length - (k + 1))
          case measure => have := H2.out.1; omega
          case rel =>
            obtain ⟨hk, hq, hp, ht⟩ := H2.out
            refine ⟨k + 1, by go_num, by omega, ?_, hp.keep H3.out (fun _ _ h => h), hq.trans H3.out⟩
            rw [ht, HE.out]
            exact str_eq (ByteArray.ext (by simp))
        · have g0 : (x : Int) + 1 < (y : Int) := by omega
          have he : spanT x y = esc x ++ [45] ++ esc y := by rw [spanT, if_neg h0, if_neg h1]
          have HE := Lib.hid he
          clear he h0 h1
          have n2 : ¬ 9223372036854775807 < T.length + (esc x).length + 1 := by omega
          go_wp2_with fail
          refine (resc_any y (by omega) w2).mono ?_
          rintro e w3 ⟨rfl, q3⟩
          have H3 := Lib.hid q3
          clear q3
          have n1 : ¬ 9223372036854775807 < T.length + (esc x).length + 1 + (esc y).length := by omega
          go_wp2_with fail
          go_roundg (L.length - (k + 1))
          case measure => have := H2.out.1; omega
          case rel =>
            obtain ⟨hk, hq, hp, ht⟩ := H2.out
            refine ⟨k + 1, by go_num, by omega, ?_, hp.keep H3.out (fun _ _ h => h), hq.trans H3.out⟩
            rw [ht, HE.out]
            exact str_eq (ByteArray.ext (by simp))
    · have hkl : k = L.length := by omega
      subst hkl
      have ht : spansT (L.take L.length) = spansT (rgs s.has 256) := by rw [List.take_length, HL.out]
      have HR := Lib.hid (And.intro hq ht)
      clear hp hq hk ht
      go_wp2
      go_ret
      exact ⟨ret_str (by rw [HR.out.2]), HR.out.1⟩

/-- A set, as a class. -/
def textT (s : ST) : List UInt8 :=
  if s.count = 256 then [46] else if s.count = 1 then esc (nxt s.has 0) else if s.count ≤ 128 then 91 :: (spansT (rgs s.has 256) ++ [93]) else 91 :: 94 :: (spansT (rgs s.not.has 256) ++ [93])

end Go.Proofs.Ytmohpjpodkbgkaa.Bytes
/- Contract of the document's Text. -/
namespace Go.Proofs.Ytmohpjpodkbgkaa.Bytes
open Go.RowKit Go.Proofs.Ytmohpjpodkbgkaa.Base Go.Proofs.Ytmohpjpodkbgkaa.Sets Go.Proofs.Ytmohpjpodkbgkaa.PL Go.Proofs.Ytmohpjpodkbgkaa.IL

set_option maxRecDepth 100000 in
theorem rtext_any (s : ST) (hs : s.Ok) (w : World) : Calls Try.prog 33 #[val s] w fun e w' => e = .returned (str (textT s)) ∧ Keep (fun _ => False) w w' := by
  go_enter Try.func33, Try.ntmps33
  go_wp2_with fail
  have a1 := At.new w (cells s) 24
  have q1 := (Keep.refl (fun _ => False) w).alloc (.cells (cells s) 24)
  have A1 := Lib.hid (And.intro a1 q1)
  clear a1 q1
  generalize (w.alloc (.cells (cells s) 24)) = W at *
  obtain ⟨⟨c0, c1, c2, c3⟩, -⟩ := cells4 A1.out.1
  go_wp2_with fail
  refine (list_any s W).mono ?_
  rintro e w1 ⟨lv, rfl, hi, -, q1⟩
  have hq := A1.out.2.trans q1
  have ha := A1.out.1.keep q1 (fun h => h)
  clear c0 c1 c2 c3 A1 q1
  obtain ⟨⟨c0, c1, c2, c3⟩, -⟩ := cells4 ha
  have hlen : (lst s.has 256).length = s.count := lst_length _ _
  have hnl := nxt_lt_iff s.has
  have hhd := lst_head s.has
  have hcl := s.count_le
  have hcc : s.count = cnt s.has 256 := rfl
  obtain ⟨a, cap, hv, hcell⟩ := hi.form
  rw [hlen] at hv
  subst hv
  have H := Lib.hid hq
  clear hq ha hi hlen
  by_cases h256 : s.count = 256
  · have he : str (textT s) = str [46] := by rw [textT, if_pos h256]
    have HE := Lib.hid he
    have hb : ((s.count : Int) == 256) = true := by rw [h256]; rfl
    clear he h256 hnl hcc hhd hcell
    go_wp2
    go_ret
    exact ⟨by rw [HE.out]; rfl, H.out⟩
  · have hb : ((s.count : Int) == 256) = false := by simp; omega
    by_cases h1 : s.count = 1
    · have he : str (textT s) = str (esc (nxt s.has 0)) := by rw [textT, if_neg h256, if_pos h1]
      have HE := Lib.hid he
      have hb1 : ((s.count : Int) == 1) = true := by rw [h1]; rfl
      have hn : nxt s.has 0 < 256 := hnl.2 (by omega)
      obtain ⟨g, -, rfl, hc0⟩ := hcell 0 _ (hhd hn)
      have i1 : (0 : Int) < (s.count : Int) := by omega
      have hea := resc_any (nxt s.has 0) hn w1
      clear he h256 hnl hcc hhd hcell hcl
      generalize nxt s.has 0 = m at *
      rw [h1] at *
      go_wp2_with fail
      refine hea.mono ?_
      rintro e w3 ⟨rfl, q3⟩
      have HQ3 := Lib.hid (H.out.trans q3)
      clear q3 hea
      go_wp2
      go_ret
      exact ⟨by rw [HE.out]; rfl, HQ3.out⟩
    · have hb1 : ((s.count : Int) == 1) = false := by simp; omega
      by_cases h128 : s.count ≤ 128
      · have he : str (textT s) = str (91 :: (spansT (rgs s.has 256) ++ [93])) := by rw [textT, if_neg h256, if_neg h1, if_pos h128]
        have HE := Lib.hid he
        have hb2 : ((s.count : Int) ≤ 128) := by omega
        have hlen := spansT_len (rgs s.has 256)
        have hrl := rgs_le s.has 256
        clear he h256 h1 hnl hcc h128 hhd hcell
        go_wp2_with fail
        refine (inside_any s w1).mono ?_
        rintro e w2 ⟨rfl, q2⟩
        have HQ := Lib.hid (H.out.trans q2)
        clear q2
        generalize spansT (rgs s.has 256) = T at *
        have n1 : ¬ 9223372036854775807 < 1 + T.length := by omega
        have n2 : ¬ 9223372036854775807 < 1 + T.length + 1 := by omega
        go_wp2
        go_ret
        exact ⟨by rw [HE.out]; exact ret_str (ByteArray.ext (by simp)), HQ.out⟩
      · have he : str (textT s) = str (91 :: 94 :: (spansT (rgs s.not.has 256) ++ [93])) := by rw [textT, if_neg h256, if_neg h1, if_neg h128]
        have HE := Lib.hid he
        have hb2 : ¬ ((s.count : Int) ≤ 128) := by omega
        have hlen := spansT_len (rgs s.not.has 256)
        have hrl := rgs_le s.not.has 256
        clear he h256 h1 hnl hcc h128 hhd hcell
        go_wp2_with fail
        refine (rnot_any s hs w1).mono ?_
        rintro e w2 ⟨rfl, q2⟩
        have HQ2 := Lib.hid (H.out.trans q2)
        clear q2
        go_wp2_with fail
        refine (inside_any s.not w2).mono ?_
        rintro e w3 ⟨rfl, q3⟩
        have HQ := Lib.hid (HQ2.out.trans q3)
        clear q3
        generalize spansT (rgs s.not.has 256) = T at *
        have n1 : ¬ 9223372036854775807 < 2 + T.length := by omega
        have n2 : ¬ 9223372036854775807 < 2 + T.length + 1 := by omega
        go_wp2
        go_ret
        exact ⟨by rw [HE.out]; exact ret_str (ByteArray.ext (by simp)), HQ.out⟩

end Go.Proofs.Ytmohpjpodkbgkaa.Bytes
