/- RulesSplit: the walk. -/
import Derived.Test.YtcdemlfkoknekaaLaw06Awake
namespace Go.Proofs.Ytcdemlfkoknekaa.Ref06
open Go.RowKit Go.Proofs.Ytcdemlfkoknekaa.Base

/-- A rule's text stands where it says. -/
def Placed (l : List UInt8) (r : LN) : Prop := ∃ p : Nat, r.place = p ∧ p + r.text.length ≤ l.length ∧ sub l p (p + r.text.length) = r.text

theorem placed_line {l : List UInt8} {a : Nat} (ha : a ≤ l.length) (hb : bad l a (endN l a) = false) : Placed l (lineOf l a (endN l a)) := by
  have hge := endN_ge l a
  have hle := endN_le ha
  have h1 : nmEnd l a (endN l a) ≤ endN l a := scan_le l _ 12 a hge
  have h2 : nmEnd l a (endN l a) ≠ endN l a := fun e => by
    unfold bad bad' at hb
    rw [e] at hb
    simp at hb
  have hlen : (sub l (nmEnd l a (endN l a) + 1) (endN l a)).length = endN l a - (nmEnd l a (endN l a) + 1) := by
    unfold sub
    rw [List.length_drop, List.length_take, Nat.min_eq_left hle]
  refine ⟨nmEnd l a (endN l a) + 1, rfl, ?_, ?_⟩
  · show _ + (sub l (nmEnd l a (endN l a) + 1) (endN l a)).length ≤ _
    rw [hlen]
    omega
  · show sub l _ (_ + (sub l (nmEnd l a (endN l a) + 1) (endN l a)).length) = sub l (nmEnd l a (endN l a) + 1) (endN l a)
    rw [hlen, show nmEnd l a (endN l a) + 1 + (endN l a - (nmEnd l a (endN l a) + 1)) = endN l a from by omega]

theorem placed_all {l : List UInt8} : ∀ f a out out', (∀ r ∈ out, Placed l r) → splitF l f a out = .inr out' → ∀ r ∈ out', Placed l r
  | 0, a, out, out', h, hs => by
    injection hs with hs
    subst hs
    exact h
  | f + 1, a, out, out', h, hs => by
    rw [splitF] at hs
    split at hs
    · injection hs with hs
      subst hs
      exact h
    · rename_i ha
      split at hs
      · exact placed_all f _ out out' h hs
      · split at hs
        · cases hs
        · rename_i hb
          split at hs
          · cases hs
          · refine placed_all f _ _ out' (fun r hr => ?_) hs
            rcases List.mem_append.1 hr with hr | hr
            · exact h r hr
            · rw [List.mem_singleton.1 hr]
              exact placed_line (by omega) (by simpa using hb)

theorem few_all {l : List UInt8} : ∀ f a out out', out.length ≤ 8 → splitF l f a out = .inr out' → out'.length ≤ 8
  | 0, a, out, out', h, hs => by
    injection hs with hs
    rw [← hs]
    exact h
  | f + 1, a, out, out', h, hs => by
    rw [splitF] at hs
    split at hs
    · injection hs with hs
      rw [← hs]
      exact h
    · split at hs
      · exact few_all f _ out out' h hs
      · split at hs
        · cases hs
        · split at hs
          · cases hs
          · rename_i h8
            refine few_all f _ _ out' ?_ hs
            have : out.length ≠ 8 := fun e => h8 (.inr e)
            rw [List.length_append, List.length_singleton]
            omega

theorem placed_split {l : List UInt8} {out : List LN} (h : splitR l = .inr out) : l.length ≤ 1000 ∧ out.length ≤ 8 ∧ ∀ r ∈ out, Placed l r := by
  unfold splitR at h
  split at h
  · cases h
  · refine ⟨by omega, ?_⟩
    cases hF : splitF l (l.length + 1) 0 [] with
    | inl b => rw [hF] at h; cases h
    | inr o =>
      have := And.intro (few_all _ _ _ _ (by simp) hF) (placed_all _ _ _ _ (by simp) hF)
      rw [hF] at h
      cases o with
      | nil => cases h
      | cons r rs =>
        injection h with h
        rw [← h]
        exact this

set_option maxRecDepth 100000 in
set_option maxHeartbeats 4000000 in
theorem split_law (l : List UInt8) (hbig : l.length ≤ 9223372036854775807) (w : World) : Calls Try.prog 3 #[str l] w fun e w' => e = .returned (.bool true) ∧ Keep (fun _ => False) w w' := by
  have hs := size_str l
  by_cases hl : 3000 < l.length
  · have hl' : (3000 : Int) < l.length := by omega
    obtain ⟨B, hB⟩ : ∃ B : ByteArray, (⟨l.toArray⟩ : ByteArray) = B := ⟨_, rfl⟩
    unfold str
    rw [hB] at hs ⊢
    clear hB
    go_enter Try.func3, Try.ntmps3
    go_wp2_with fail
    refine (awake_any w).mono ?_
    rintro e w1 ⟨rfl, q1⟩
    have Q1 := Lib.hid q1
    clear q1
    go_wp2_with fail
    refine (awake_any w1).mono ?_
    rintro e w2 ⟨rfl, q2⟩
    have Q2 := Lib.hid (Q1.out.trans q2)
    clear q2
    go_wp2_with fail
    go_ret
    exact ⟨rfl, Q2.out⟩
  · have hl' : ¬ (3000 : Int) < l.length := by omega
    obtain ⟨R, hR⟩ : ∃ R, splitR l = R := ⟨_, rfl⟩
    have hsp := fun w => split_is hR hbig w
    have hsr := fun w => rsplit_any l w
    rw [hR] at hsr
    have hsl := slice_run l
    obtain ⟨B, hB⟩ : ∃ B : ByteArray, (⟨l.toArray⟩ : ByteArray) = B := ⟨_, rfl⟩
    have hstr : str l = .string B := by unfold str; rw [hB]
    rw [hstr] at hsp hsr hsl ⊢
    rw [hB] at hs
    have H := Lib.hid (And.intro hsp (And.intro hsr (And.intro hsl hR)))
    clear hsp hsr hsl hR hstr hB
    go_enter Try.func3, Try.ntmps3
    go_wp2_with fail
    refine (awake_any w).mono ?_
    rintro e w1 ⟨rfl, q1⟩
    have Q1 := Lib.hid q1
    clear q1
    go_wp2_with fail
    refine (H.out.1 w1).mono ?_
    rintro e w2 ⟨v, n, s, rfl, q2, hc⟩
    have HC := Lib.hid (And.intro hc (Q1.out.trans q2))
    clear hc q2
    go_wp2_with fail
    refine (H.out.2.1 w2).mono ?_
    rintro e w3 ⟨v2, n2, rfl, q3, hc2⟩
    have HC2 := Lib.hid (And.intro hc2 (And.intro q3 (HC.out.2.trans q3)))
    clear hc2 q3
    cases R with
    | inl b =>
      rcases HC.out.1 with ⟨b1, hb1, rfl, rfl, rfl⟩ | ⟨out, ho, -⟩
      case inr => cases ho
      rcases HC2.out.1 with ⟨b2, hb2, rfl, rfl⟩ | ⟨out, ho, -⟩
      case inr => cases ho
      injection hb1 with hb1
      injection hb2 with hb2
      subst hb1 hb2
      have i0 : (0 : Int) ≤ b := by omega
      go_wp2_with fail
      go_ret
      exact ⟨ret_bool (by simp), HC2.out.2.2⟩
    | inr out =>
      rcases HC.out.1 with ⟨b1, hb1, -⟩ | ⟨out1, ho1, hv1, rfl, rfl⟩
      · cases hb1
      rcases HC2.out.1 with ⟨b2, hb2, -⟩ | ⟨out2, ho2, hv2, rfl⟩
      · cases hb2
      injection ho1 with ho1
      injection ho2 with ho2
      subst ho1 ho2
      have hpl := placed_split H.out.2.2.2
      obtain ⟨a1, cap1, rfl, hc1, hls1, -⟩ := (hv1.keep HC2.out.2.1 (fun _ _ h => h)).form2
      obtain ⟨a2, cap2, rfl, hls2, -⟩ := hv2.form
      have h30 : out.length ≤ 1000000 := by have := hpl.2.1; omega
      have HL := Lib.hid (And.intro hls1 (And.intro hls2 hpl))
      clear hv1 hv2 hls1 hls2 hpl hc1
      have HQ := Lib.hid HC2.out.2.2
      have i0 : ¬ (0 : Int) ≤ -1 := by omega
      go_wp2_with fail
      go_loopg [57] out.length (fun gg i wr => ∃ k : Nat, i = .int .i64 k ∧ k + gg = out.length ∧ Keep (fun _ => False) w3 wr)
      case atStart => exact ⟨0, rfl, by omega, Keep.refl _ _⟩
      case round =>
        obtain ⟨k, rfl, hk, hq⟩ := hrel
        by_cases hlt : k < out.length
        · have hlt' : (k : Int) < out.length := by omega
          obtain ⟨r, hr⟩ : ∃ r, out[k]? = some r := ⟨out[k], List.getElem?_eq_getElem hlt⟩
          obtain ⟨bl1, off1, rfl, -, c0, c1, c2⟩ := (HL.out.1.keep hq (fun _ _ h => h)).get hr
          obtain ⟨bl2, off2, rfl, -, d0, d1, d2⟩ := (HL.out.2.1.keep hq (fun _ _ h => h)).get hr
          obtain ⟨p, hp1, hp2, hp3⟩ := HL.out.2.2.2.2 r (List.mem_of_getElem? hr)
          have hp4 := HL.out.2.2.1
          have hsz := size_str r.text
          have hsl := fun w => H.out.2.2.1 p (p + r.text.length) (by omega) hp2 w
          rw [hp3, show ((p + r.text.length : Nat) : Int) = (p : Int) + r.text.length from by omega] at hsl
          rw [hp1] at c2 d2
          have hw : IntKind.i64.wrap ((p : Int) + r.text.length) = (p : Int) + r.text.length := by rw [IntKind.wrap_i64]; omega
          have HQ2 := Lib.hid hq
          have i1 : (0 : Int) ≤ k := by omega
          clear hq hr hp3 hp1
          go_wp2_with fail
          go_quiet (fail)
          go_wp2_with fail
          go_roundg (out.length - (k + 1))
          case measure => omega
          case rel => exact ⟨k + 1, by go_num, by omega, HQ2.out.drewN _⟩
        · have hke : k = out.length := by omega
          subst hke
          have HQ2 := Lib.hid hq
          clear hq
          go_wp2_with fail
          go_ret
          exact ⟨rfl, HQ.out.trans HQ2.out⟩
end Go.Proofs.Ytcdemlfkoknekaa.Ref06
