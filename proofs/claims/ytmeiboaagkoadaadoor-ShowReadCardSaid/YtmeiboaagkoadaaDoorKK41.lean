/- The document's Text (layer 8). -/
import Derived.Test.YtmeiboaagkoadaaDoorKK40
import Derived.Test.YtmeiboaagkoadaaDoorKK33
import Derived.Test.YtmeiboaagkoadaaDoorKK04
namespace Go.Proofs.YtmeiboaagkoadaaDoor.P08
open Go.RowKit Go.Proofs.YtmeiboaagkoadaaDoor.Base Go.Proofs.YtmeiboaagkoadaaDoor.P07
open Go.Proofs.YtmeiboaagkoadaaDoor.Sets (ST rgs rgs_ok rgs_le)
open Go.Proofs.YtmeiboaagkoadaaDoor.Bytes (val)

/-! The same class, as layer 4 has it. -/
theorem esc_eq : ∀ b, b < 256 → P08.esc b = Bytes.esc b := by decide +kernel
theorem spanT_eq {a b : Nat} (h : a ≤ b) (hb : b < 256) : P08.spanT a b = Bytes.spanT a b := by
  unfold P08.spanT Bytes.spanT
  rw [esc_eq a (by omega), esc_eq b hb]
theorem spansT_eq : ∀ L : List (Nat × Nat), (∀ r, r ∈ L → r.1 ≤ r.2 ∧ r.2 < 256) → P08.spansT L = Bytes.spansT L
  | [], _ => rfl
  | r :: L, h => by
    have h1 := h r (by simp)
    rw [spansT_cons, spansT_eq L fun x hx => h x (List.mem_cons_of_mem _ hx), spanT_eq h1.1 h1.2]
    simp [Bytes.spansT]
theorem textT_eq {s : ST} (hs : s.Ok) : P08.textT s = Bytes.textT s := by
  unfold P08.textT Bytes.textT
  rw [spansT_eq _ (rgs_ok s.has 256).ord, spansT_eq _ (rgs_ok s.not.has 256).ord]
  by_cases h : s.count = 1
  · rw [esc_eq _ (single hs h).1]
  · rw [if_neg h, if_neg h]
theorem textT_len {s : ST} (hs : s.Ok) : (P08.textT s).length ≤ 2310 := by
  rw [textT_eq hs]
  unfold Bytes.textT
  have h1 := Bytes.spansT_len (rgs s.has 256)
  have h2 := rgs_le s.has 256
  have h3 := Bytes.spansT_len (rgs s.not.has 256)
  have h4 := rgs_le s.not.has 256
  split
  · simp
  · split
    · have := Bytes.esc_len (Sets.nxt s.has 0)
      omega
    · split
      · simp
        omega
      · simp
        omega
theorem times_len (lo hi : Int) : (times lo hi).length ≤ 7 := by
  unfold times
  have h1 := num_len lo.toNat
  have h2 := num_len hi.toNat
  split
  · simp
  · split
    · simp
    · split
      · simp
      · split
        · simp
          omega
        · split
          · simp
            omega
          · simp
            omega
theorem br_le (b : Bool) (u : List UInt8) : (br b u).length ≤ u.length + 2 := by
  cases b
  · simp [br]
  · simp [br]
mutual
/-- How long a text may be. -/
theorem txt_len : ∀ t : T, SOk t → (txt t).length + 3 ≤ 2400 * cnt t
  | .nd k s mn mx l, h => by
    rw [SOk] at h
    rw [txt_eq, cnt]
    have h1 := textT_len h.1
    have h2 := times_len mn mx
    have h3 := subT_len l k true h.2
    split
    · omega
    · rw [List.length_append]
      split
      · omega
      · simp
        omega
theorem subT_len : ∀ (l : List T) (k : Int) (b : Bool), SOkL l → (subT k b l).length ≤ 2400 * cntL l
  | [], k, b, _ => by rw [subT_nil]; simp
  | t :: l, k, b, h => by
    obtain ⟨h1, h2⟩ := SOk_cons h
    have h3 := txt_len t h1
    have h4 := subT_len l k false h2
    have h5 := br_le (rnd k t.kind) (txt t)
    rw [subT_cons, cntL, List.length_append, List.length_append]
    split
    · simp
      omega
    · simp
      omega
end
theorem subT_append (k : Int) : ∀ (L : List T) (b : Bool) (t : T), subT k b (L ++ [t]) = subT k b L ++ ((if k = 4 ∧ (b = false ∨ L ≠ []) then [124] else []) ++ br (rnd k t.kind) (txt t))
  | [], b, t => by
    rw [List.nil_append, subT_cons, subT_nil, subT_nil, List.append_nil, List.nil_append]
    simp
  | s :: L, b, t => by
    rw [List.cons_append, subT_cons, subT_append k L false t, subT_cons]
    simp
end Go.Proofs.YtmeiboaagkoadaaDoor.P08
/- The code's sign (layer 8). -/
namespace Go.Proofs.YtmeiboaagkoadaaDoor.P08
open Go.RowKit Go.Proofs.YtmeiboaagkoadaaDoor.Base Go.Proofs.YtmeiboaagkoadaaDoor.Bytes Go.Proofs.YtmeiboaagkoadaaDoor.P07
open Go.Proofs.YtmeiboaagkoadaaDoor.Sets (ST)

theorem dec_num : ∀ i, i < 21 → Lib.decDigits i = numT i := by decide +kernel
theorem itoa_any (n : Int) (h0 : 0 ≤ n) (h1 : n ≤ 20) (w : World) : Calls Tryd.prog 47 #[.int .i64 n] w fun e w' => e = .returned (Bytes.str (numT n.toNat)) ∧ w = w' := by
  have h := Lay.Tryd.strconv_Itoa_small n.toNat (by omega) w
  rw [Int.toNat_of_nonneg h0, dec_num _ (by omega)] at h
  refine h.mono ?_
  rintro e w' ⟨rfl, rfl⟩
  exact ⟨rfl, rfl⟩

set_option maxRecDepth 100000 in
set_option maxHeartbeats 2000000 in
theorem sign_any (lo hi : Int) (h0 : 0 ≤ lo) (h1 : lo ≤ 20) (h2 : hi = -1 ∨ lo ≤ hi ∧ hi ≤ 20) (w : World) : Calls Tryd.prog 29 #[.int .i64 lo, .int .i64 hi] w fun e w' => e = .returned (Bytes.str (times lo hi)) ∧ Keep (fun _ => False) w w' := by
  have k1 := fun w => itoa_any lo h0 h1 w
  have k2 : hi ≠ -1 → ∀ w, Calls Tryd.prog 47 #[.int .i64 hi] w fun e w' => e = .returned (Bytes.str (numT hi.toNat)) ∧ w = w' := fun h w => itoa_any hi (by omega) (by omega) w
  have HK := Lib.hid (And.intro k1 k2)
  have l1 := num_len lo.toNat
  have l2 := num_len hi.toNat
  clear k1 k2
  unfold times
  by_cases a1 : lo = 0 ∧ hi = -1
  · obtain ⟨rfl, rfl⟩ := a1
    rw [if_pos ⟨rfl, rfl⟩]
    go_enter Tryd.func29, Tryd.ntmps29
    go_wp2_with fail
    refine (HK.out.1 _).mono ?_
    rintro e w1 ⟨rfl, rfl⟩
    go_wp2_with fail
    go_ret
    exact ⟨rfl, Keep.refl _ _⟩
  · rw [if_neg a1]
    by_cases a2 : lo = 1 ∧ hi = -1
    · obtain ⟨rfl, rfl⟩ := a2
      rw [if_pos ⟨rfl, rfl⟩]
      go_enter Tryd.func29, Tryd.ntmps29
      go_wp2_with fail
      refine (HK.out.1 _).mono ?_
      rintro e w1 ⟨rfl, rfl⟩
      go_wp2_with fail
      go_ret
      exact ⟨rfl, Keep.refl _ _⟩
    · rw [if_neg a2]
      by_cases a3 : lo = 0 ∧ hi = 1
      · obtain ⟨rfl, rfl⟩ := a3
        rw [if_pos ⟨rfl, rfl⟩]
        go_enter Tryd.func29, Tryd.ntmps29
        go_wp2_with fail
        refine (HK.out.1 _).mono ?_
        rintro e w1 ⟨rfl, rfl⟩
        go_wp2_with fail
        go_ret
        exact ⟨rfl, Keep.refl _ _⟩
      · rw [if_neg a3]
        have n1 : ¬ 9223372036854775807 < 1 + (numT lo.toNat).length := by omega
        have n2 : ¬ 9223372036854775807 < 1 + (numT lo.toNat).length + 2 := by omega
        have n3 : ¬ 9223372036854775807 < 1 + (numT lo.toNat).length + 1 := by omega
        have n4 : ¬ 9223372036854775807 < 1 + (numT lo.toNat).length + 1 + (numT hi.toNat).length := by omega
        have n5 : ¬ 9223372036854775807 < 1 + (numT lo.toNat).length + 1 + (numT hi.toNat).length + 1 := by omega
        by_cases a4 : hi = -1
        · rw [if_pos a4]
          subst a4
          have b1 : (lo == 0) = false := by simp; omega
          have b2 : (lo == 1) = false := by simp; omega
          have b3 : ((-1 : Int) == lo) = false := by simp; omega
          clear a1 a2 a3
          go_enter Tryd.func29, Tryd.ntmps29
          go_wp2_with fail
          refine (HK.out.1 _).mono ?_
          rintro e w1 ⟨rfl, rfl⟩
          go_wp2_with fail
          go_ret
          exact ⟨Bytes.ret_str (ByteArray.ext (by simp)), Keep.refl _ _⟩
        · rw [if_neg a4]
          have b4 : (hi == -1) = false := by simp; omega
          have HA := Lib.hid (HK.out.2 a4)
          have H3 := Lib.hid a3
          have b0 : ((lo == 0) = false ∧ (lo == 1) = false) ∨ ((lo == 0) = false ∧ (lo == 1) = true) ∨ ((lo == 0) = true ∧ (lo == 1) = false ∧ (hi == 1) = false) := by
            by_cases z : lo = 0
            · exact .inr (.inr ⟨by simp [z], by simp [z], by simp; omega⟩)
            · by_cases y : lo = 1
              · exact .inr (.inl ⟨by simp [z], by simp [y]⟩)
              · exact .inl ⟨by simp [z], by simp [y]⟩
          by_cases a5 : lo < hi
          · rw [if_pos a5]
            have a6 : (hi == lo) = false := by simp; omega
            clear a1 a2 a3 h2
            rcases b0 with ⟨b0, b1⟩ | ⟨b0, b1⟩ | ⟨b0, b1, b2⟩
            all_goals
              go_enter Tryd.func29, Tryd.ntmps29
              go_wp2_with fail
              refine (HK.out.1 _).mono ?_
              rintro e w1 ⟨rfl, rfl⟩
              go_wp2_with fail
              refine (HA.out _).mono ?_
              rintro e w2 ⟨rfl, rfl⟩
              go_wp2
              go_ret
              exact ⟨Bytes.ret_str (ByteArray.ext (by simp)), Keep.refl _ _⟩
          · rw [if_neg a5]
            have e6 : hi = lo := by omega
            subst e6
            have a6 : (hi == hi) = true := by simp
            clear a1 a2 a3 h2
            rcases b0 with ⟨b0, b1⟩ | ⟨b0, b1⟩ | ⟨b0, b1, b2⟩
            all_goals
              go_enter Tryd.func29, Tryd.ntmps29
              go_wp2_with fail
              refine (HK.out.1 _).mono ?_
              rintro e w1 ⟨rfl, rfl⟩
              go_wp2_with fail
              go_ret
              exact ⟨Bytes.ret_str (ByteArray.ext (by simp)), Keep.refl _ _⟩
end Go.Proofs.YtmeiboaagkoadaaDoor.P08
/- The document's Text (layer 8): the walk. -/
namespace Go.Proofs.YtmeiboaagkoadaaDoor.P08
open Go.RowKit Go.Proofs.YtmeiboaagkoadaaDoor.Base Go.Proofs.YtmeiboaagkoadaaDoor.P07
open Go.Proofs.YtmeiboaagkoadaaDoor.Sets (ST)
open Go.Proofs.YtmeiboaagkoadaaDoor.Bytes (val)

mutual
theorem RT_sok : ∀ (t : T) (d : Nat), RT d t → SOk t
  | .nd k s mn mx l, d, h => by
    have := h.bare
    rw [SOk]
    exact ⟨this.2.1, RL_sok l d k this.2.2⟩
theorem RL_sok : ∀ (l : List T) (d : Nat) (k : Int), RL d k l → SOkL l
  | [], d, k, h => by rw [SOkL]; trivial
  | t :: l, d, k, h => by
    obtain ⟨h1, h2⟩ := RL_cons h
    rw [SOkL]
    exact ⟨RT_sok t d (IS.rt (k := k) h1), RL_sok l d k h2⟩
end
theorem RL_get {d : Nat} {k : Int} : ∀ {L : List T} {i : Nat} {s : T}, RL d k L → L[i]? = some s → RT d s := fun hR h => sub_right hR _ (List.mem_of_getElem? h)
theorem RT.subs {d : Nat} {t : T} (h : RT d t) : RL d t.kind t.subs := by
  cases t
  exact h.bare.2.2
/-- The text up to the i-th part, and one more. -/
theorem subT_take {k : Int} {L : List T} {i : Nat} {s : T} (h : L[i]? = some s) : subT k true (L.take (i + 1)) = subT k true (L.take i) ++ ((if k = 4 ∧ i ≠ 0 then [124] else []) ++ br (rnd k s.kind) (txt s)) := by
  have hi : i < L.length := by
    rcases Nat.lt_or_ge i L.length with h1 | h1
    · exact h1
    · rw [List.getElem?_eq_none h1] at h
      cases h
  rw [List.take_add_one, h]
  show subT k true (L.take i ++ [s]) = _
  rw [subT_append]
  by_cases h0 : i = 0
  · subst h0
    simp
  · have : L.take i ≠ [] := by
      intro e
      have := congrArg List.length e
      rw [List.length_take] at this
      simp at this
      rcases this with h1 | h1
      · exact h0 h1
      · rw [h1] at hi
        simp at hi
    simp [h0, this]
theorem subT_pre (k : Int) (b : Bool) : ∀ (L : List T) (i : Nat), (subT k b (L.take i)).length ≤ (subT k b L).length
  | [], i => by simp
  | t :: L, 0 => by rw [List.take_zero, subT_nil]; exact Nat.zero_le _
  | t :: L, i + 1 => by
    rw [List.take_succ_cons, subT_cons, subT_cons, List.length_append, List.length_append, List.length_append, List.length_append]
    have := subT_pre k false L i
    omega
theorem txt_kind2 {t : T} (h : t.kind = 2) : txt t = textT t.set := by
  cases t
  change _ = 2 at h
  rw [txt_eq]
  exact if_pos h
theorem txt_sub {t : T} (h : t.kind ≠ 2) : txt t = subT t.kind true t.subs ++ (if t.kind = 5 then times t.mn t.mx else []) := by
  cases t
  change _ ≠ 2 at h
  rw [txt_eq]
  exact if_neg h

end Go.Proofs.YtmeiboaagkoadaaDoor.P08
