/- The document's Text (layer 8). -/
import Derived.Test.YtmeiboaagkoadaaGreatDoorKK38
import Derived.Test.YtmeiboaagkoadaaGreatDoorKK31
import Derived.Test.YtmeiboaagkoadaaGreatDoorKK04
import Derived.Test.YtmeiboaagkoadaaGreatDoorKK35
import Derived.Test.YtmeiboaagkoadaaGreatDoorKK24
import Derived.Test.YtmeiboaagkoadaaGreatDoorKK15
import Derived.Test.YtmeiboaagkoadaaGreatDoorKK33
import Derived.Test.YtmeiboaagkoadaaGreatDoorKK06
namespace Go.Proofs.YtmeiboaagkoadaaGreatDoor.P08
open Go.RowKit Go.Proofs.YtmeiboaagkoadaaGreatDoor.Base Go.Proofs.YtmeiboaagkoadaaGreatDoor.P07
open Go.Proofs.YtmeiboaagkoadaaGreatDoor.Sets (ST rgs rgs_ok rgs_le)
open Go.Proofs.YtmeiboaagkoadaaGreatDoor.Bytes (val)

/-! The same class, as layer 4 has it. -/
theorem esc_eq : ∀ b, b < 256 → P08.esc b = Bytes.esc b := by decide +kernel
theorem spanT_eq {a b : Nat} (h : a ≤ b) (hb : b < 256) : P08.spanT a b = Bytes.spanT a b := by
  unfold P08.spanT Bytes.spanT
  rw [esc_eq a (by omega), esc_eq b hb]
theorem spansT_eq : ∀ L : List (Nat × Nat), (∀ r, r ∈ L → r.1 ≤ r.2 ∧ r.2 < 256) → P08.spansT L = Bytes.spansT L
  | [], _ => rfl
  | r :: L, h => by
    have h1 := h r (by simp)
    rw [spansT_cons, spansT_eq L fun x hx => h x (List.mem_cons_of_mem _ hx), spanT_eq h1.1 h1.2]
    simp [Bytes.spansT]
theorem textT_eq {s : ST} (hs : s.Ok) : P08.textT s = Bytes.textT s := by
  unfold P08.textT Bytes.textT
  rw [spansT_eq _ (rgs_ok s.has 256).ord, spansT_eq _ (rgs_ok s.not.has 256).ord]
  by_cases h : s.count = 1
  · rw [esc_eq _ (single hs h).1]
  · rw [if_neg h, if_neg h]
theorem textT_len {s : ST} (hs : s.Ok) : (P08.textT s).length ≤ 2310 := by
  rw [textT_eq hs]
  unfold Bytes.textT
  have h1 := Bytes.spansT_len (rgs s.has 256)
  have h2 := rgs_le s.has 256
  have h3 := Bytes.spansT_len (rgs s.not.has 256)
  have h4 := rgs_le s.not.has 256
  split
  · simp
  · split
    · have := Bytes.esc_len (Sets.nxt s.has 0)
      omega
    · split
      · simp
        omega
      · simp
        omega
theorem times_len (lo hi : Int) : (times lo hi).length ≤ 7 := by
  unfold times
  have h1 := num_len lo.toNat
  have h2 := num_len hi.toNat
  split
  · simp
  · split
    · simp
    · split
      · simp
      · split
        · simp
          omega
        · split
          · simp
            omega
          · simp
            omega
theorem br_le (b : Bool) (u : List UInt8) : (br b u).length ≤ u.length + 2 := by
  cases b
  · simp [br]
  · simp [br]
mutual
/-- How long a text may be. -/
theorem txt_len : ∀ t : T, SOk t → (txt t).length + 3 ≤ 2400 * cnt t
  | .nd k s mn mx l, h => by
    rw [SOk] at h
    rw [txt_eq, cnt]
    have h1 := textT_len h.1
    have h2 := times_len mn mx
    have h3 := subT_len l k true h.2
    split
    · omega
    · rw [List.length_append]
      split
      · omega
      · simp
        omega
theorem subT_len : ∀ (l : List T) (k : Int) (b : Bool), SOkL l → (subT k b l).length ≤ 2400 * cntL l
  | [], k, b, _ => by rw [subT_nil]; simp
  | t :: l, k, b, h => by
    obtain ⟨h1, h2⟩ := SOk_cons h
    have h3 := txt_len t h1
    have h4 := subT_len l k false h2
    have h5 := br_le (rnd k t.kind) (txt t)
    rw [subT_cons, cntL, List.length_append, List.length_append]
    split
    · simp
      omega
    · simp
      omega
end
theorem subT_append (k : Int) : ∀ (L : List T) (b : Bool) (t : T), subT k b (L ++ [t]) = subT k b L ++ ((if k = 4 ∧ (b = false ∨ L ≠ []) then [124] else []) ++ br (rnd k t.kind) (txt t))
  | [], b, t => by
    rw [List.nil_append, subT_cons, subT_nil, subT_nil, List.append_nil, List.nil_append]
    simp
  | s :: L, b, t => by
    rw [List.cons_append, subT_cons, subT_append k L false t, subT_cons]
    simp
end Go.Proofs.YtmeiboaagkoadaaGreatDoor.P08
/- The code's sign (layer 8). -/
namespace Go.Proofs.YtmeiboaagkoadaaGreatDoor.P08
open Go.RowKit Go.Proofs.YtmeiboaagkoadaaGreatDoor.Base Go.Proofs.YtmeiboaagkoadaaGreatDoor.Bytes Go.Proofs.YtmeiboaagkoadaaGreatDoor.P07
open Go.Proofs.YtmeiboaagkoadaaGreatDoor.Sets (ST)

theorem dec_num : ∀ i, i < 21 → Lib.decDigits i = numT i := by decide +kernel
theorem itoa_any (n : Int) (h0 : 0 ≤ n) (h1 : n ≤ 20) (w : World) : Calls Tryz.prog 57 #[.int .i64 n] w fun e w' => e = .returned (Bytes.str (numT n.toNat)) ∧ w = w' := by
  have h := Lay.Tryz.strconv_Itoa_small n.toNat (by omega) w
  rw [Int.toNat_of_nonneg h0, dec_num _ (by omega)] at h
  refine h.mono ?_
  rintro e w' ⟨rfl, rfl⟩
  exact ⟨rfl, rfl⟩

set_option maxRecDepth 100000 in
set_option maxHeartbeats 2000000 in
theorem sign_any (lo hi : Int) (h0 : 0 ≤ lo) (h1 : lo ≤ 20) (h2 : hi = -1 ∨ lo ≤ hi ∧ hi ≤ 20) (w : World) : Calls Tryz.prog 32 #[.int .i64 lo, .int .i64 hi] w fun e w' => e = .returned (Bytes.str (times lo hi)) ∧ Keep (fun _ => False) w w' := by
  have k1 := fun w => itoa_any lo h0 h1 w
  have k2 : hi ≠ -1 → ∀ w, Calls Tryz.prog 57 #[.int .i64 hi] w fun e w' => e = .returned (Bytes.str (numT hi.toNat)) ∧ w = w' := fun h w => itoa_any hi (by omega) (by omega) w
  have HK := Lib.hid (And.intro k1 k2)
  have l1 := num_len lo.toNat
  have l2 := num_len hi.toNat
  clear k1 k2
  unfold times
  by_cases a1 : lo = 0 ∧ hi = -1
  · obtain ⟨rfl, rfl⟩ := a1
    rw [if_pos ⟨rfl, rfl⟩]
    go_enter Tryz.func32, Tryz.ntmps32
    go_wp2_with fail
    refine (HK.out.1 _).mono ?_
    rintro e w1 ⟨rfl, rfl⟩
    go_wp2_with fail
    go_ret
    exact ⟨rfl, Keep.refl _ _⟩
  · rw [if_neg a1]
    by_cases a2 : lo = 1 ∧ hi = -1
    · obtain ⟨rfl, rfl⟩ := a2
      rw [if_pos ⟨rfl, rfl⟩]
      go_enter Tryz.func32, Tryz.ntmps32
      go_wp2_with fail
      refine (HK.out.1 _).mono ?_
      rintro e w1 ⟨rfl, rfl⟩
      go_wp2_with fail
      go_ret
      exact ⟨rfl, Keep.refl _ _⟩
    · rw [if_neg a2]
      by_cases a3 : lo = 0 ∧ hi = 1
      · obtain ⟨rfl, rfl⟩ := a3
        rw [if_pos ⟨rfl, rfl⟩]
        go_enter Tryz.func32, Tryz.ntmps32
        go_wp2_with fail
        refine (HK.out.1 _).mono ?_
        rintro e w1 ⟨rfl, rfl⟩
        go_wp2_with fail
        go_ret
        exact ⟨rfl, Keep.refl _ _⟩
      · rw [if_neg a3]
        have n1 : ¬ 9223372036854775807 < 1 + (numT lo.toNat).length := by omega
        have n2 : ¬ 9223372036854775807 < 1 + (numT lo.toNat).length + 2 := by omega
        have n3 : ¬ 9223372036854775807 < 1 + (numT lo.toNat).length + 1 := by omega
        have n4 : ¬ 9223372036854775807 < 1 + (numT lo.toNat).length + 1 + (numT hi.toNat).length := by omega
        have n5 : ¬ 9223372036854775807 < 1 + (numT lo.toNat).length + 1 + (numT hi.toNat).length + 1 := by omega
        by_cases a4 : hi = -1
        · rw [if_pos a4]
          subst a4
          have b1 : (lo == 0) = false := by simp; omega
          have b2 : (lo == 1) = false := by simp; omega
          have b3 : ((-1 : Int) == lo) = false := by simp; omega
          clear a1 a2 a3
          go_enter Tryz.func32, Tryz.ntmps32
          go_wp2_with fail
          refine (HK.out.1 _).mono ?_
          rintro e w1 ⟨rfl, rfl⟩
          go_wp2_with fail
          go_ret
          exact ⟨Bytes.ret_str (ByteArray.ext (by simp)), Keep.refl _ _⟩
        · rw [if_neg a4]
          have b4 : (hi == -1) = false := by simp; omega
          have HA := Lib.hid (HK.out.2 a4)
          have H3 := Lib.hid a3
          have b0 : ((lo == 0) = false ∧ (lo == 1) = false) ∨ ((lo == 0) = false ∧ (lo == 1) = true) ∨ ((lo == 0) = true ∧ (lo == 1) = false ∧ (hi == 1) = false) := by
            by_cases z : lo = 0
            · exact .inr (.inr ⟨by simp [z], by simp [z], by simp; omega⟩)
            · by_cases y : lo = 1
              · exact .inr (.inl ⟨by simp [z], by simp [y]⟩)
              · exact .inl ⟨by simp [z], by simp [y]⟩
          by_cases a5 : lo < hi
          · rw [if_pos a5]
            have a6 : (hi == lo) = false := by simp; omega
            clear a1 a2 a3 h2
            rcases b0 with ⟨b0, b1⟩ | ⟨b0, b1⟩ | ⟨b0, b1, b2⟩
            all_goals
              go_enter Tryz.func32, Tryz.ntmps32
              go_wp2_with fail
              refine (HK.out.1 _).mono ?_
              rintro e w1 ⟨rfl, rfl⟩
              go_wp2_with fail
              refine (HA.out _).mono ?_
              rintro e w2 ⟨rfl, rfl⟩
              go_wp2
              go_ret
              exact ⟨Bytes.ret_str (ByteArray.ext (by simp)), Keep.refl _ _⟩
          · rw [if_neg a5]
            have e6 : hi = lo := by omega
            subst e6
            have a6 : (hi == hi) = true := by simp
            clear a1 a2 a3 h2
            rcases b0 with ⟨b0, b1⟩ | ⟨b0, b1⟩ | ⟨b0, b1, b2⟩
            all_goals
              go_enter Tryz.func32, Tryz.ntmps32
              go_wp2_with fail
              refine (HK.out.1 _).mono ?_
              rintro e w1 ⟨rfl, rfl⟩
              go_wp2_with fail
              go_ret
              exact ⟨Bytes.ret_str (ByteArray.ext (by simp)), Keep.refl _ _⟩
end Go.Proofs.YtmeiboaagkoadaaGreatDoor.P08
/- The document's Text (layer 8): the walk. -/
namespace Go.Proofs.YtmeiboaagkoadaaGreatDoor.P08
open Go.RowKit Go.Proofs.YtmeiboaagkoadaaGreatDoor.Base Go.Proofs.YtmeiboaagkoadaaGreatDoor.P07
open Go.Proofs.YtmeiboaagkoadaaGreatDoor.Sets (ST)
open Go.Proofs.YtmeiboaagkoadaaGreatDoor.Bytes (val)

mutual
theorem RT_sok : ∀ (t : T) (d : Nat), RT d t → SOk t
  | .nd k s mn mx l, d, h => by
    have := h.bare
    rw [SOk]
    exact ⟨this.2.1, RL_sok l d k this.2.2⟩
theorem RL_sok : ∀ (l : List T) (d : Nat) (k : Int), RL d k l → SOkL l
  | [], d, k, h => by rw [SOkL]; trivial
  | t :: l, d, k, h => by
    obtain ⟨h1, h2⟩ := RL_cons h
    rw [SOkL]
    exact ⟨RT_sok t d (IS.rt (k := k) h1), RL_sok l d k h2⟩
end
theorem RL_get {d : Nat} {k : Int} : ∀ {L : List T} {i : Nat} {s : T}, RL d k L → L[i]? = some s → RT d s := fun hR h => sub_right hR _ (List.mem_of_getElem? h)
theorem RT.subs {d : Nat} {t : T} (h : RT d t) : RL d t.kind t.subs := by
  cases t
  exact h.bare.2.2
/-- The text up to the i-th part, and one more. -/
theorem subT_take {k : Int} {L : List T} {i : Nat} {s : T} (h : L[i]? = some s) : subT k true (L.take (i + 1)) = subT k true (L.take i) ++ ((if k = 4 ∧ i ≠ 0 then [124] else []) ++ br (rnd k s.kind) (txt s)) := by
  have hi : i < L.length := by
    rcases Nat.lt_or_ge i L.length with h1 | h1
    · exact h1
    · rw [List.getElem?_eq_none h1] at h
      cases h
  rw [List.take_add_one, h]
  show subT k true (L.take i ++ [s]) = _
  rw [subT_append]
  by_cases h0 : i = 0
  · subst h0
    simp
  · have : L.take i ≠ [] := by
      intro e
      have := congrArg List.length e
      rw [List.length_take] at this
      simp at this
      rcases this with h1 | h1
      · exact h0 h1
      · rw [h1] at hi
        simp at hi
    simp [h0, this]
theorem subT_pre (k : Int) (b : Bool) : ∀ (L : List T) (i : Nat), (subT k b (L.take i)).length ≤ (subT k b L).length
  | [], i => by simp
  | t :: L, 0 => by rw [List.take_zero, subT_nil]; exact Nat.zero_le _
  | t :: L, i + 1 => by
    rw [List.take_succ_cons, subT_cons, subT_cons, List.length_append, List.length_append, List.length_append, List.length_append]
    have := subT_pre k false L i
    omega
theorem txt_kind2 {t : T} (h : t.kind = 2) : txt t = textT t.set := by
  cases t
  change _ = 2 at h
  rw [txt_eq]
  exact if_pos h
theorem txt_sub {t : T} (h : t.kind ≠ 2) : txt t = subT t.kind true t.subs ++ (if t.kind = 5 then times t.mn t.mx else []) := by
  cases t
  change _ ≠ 2 at h
  rw [txt_eq]
  exact if_neg h

set_option maxRecDepth 100000 in
set_option maxHeartbeats 2000000 in
theorem ftext_step (n : Nat) (ih : ∀ (t : T), SizeOf.sizeOf t < n → cnt t ≤ 1000000 → ∀ (d : Nat), RT d t → ∀ (a : Option Addr) (c : Nat) (w : World), Lie w (fun _ => True) a t.subs → Calls Tryz.prog 11 #[nodeV t a c] w fun e w' => e = .returned (Bytes.str (txt t)) ∧ Keep (fun _ => False) w w')
    (t : T) (hn : SizeOf.sizeOf t < n + 1) (hc : cnt t ≤ 1000000) (d : Nat) (hR : RT d t) (a : Option Addr) (c : Nat) (w : World) (hL : Lie w (fun _ => True) a t.subs) :
    Calls Tryz.prog 11 #[nodeV t a c] w fun e w' => e = .returned (Bytes.str (txt t)) ∧ Keep (fun _ => False) w w' := by
  have hlen := hL.len
  have a0 := At.new w (ncells t a c) 27
  have q := (Keep.refl (fun _ => False) w).alloc (.cells (ncells t a c) 27)
  by_cases hk : t.kind = 2
  · obtain ⟨s, hs, e, he⟩ := kind2 hR hk
    have ht : txt t = Bytes.textT t.set := by
      rw [he, textT_eq hs]
      rw [e]
      rfl
    have hso : t.set.Ok := by rw [e]; exact hs
    have HE := Lib.hid (And.intro ht q)
    have ek : (t.kind == 2) = true := by simp [hk]
    clear hk e he ht q hL ih hR hs
    go_enter Tryz.func11, Tryz.ntmps11
    go_wp2_with fail
    refine (Bytes.rtext_any t.set hso _).mono ?_
    rintro e w1 ⟨rfl, q1⟩
    have HQ := Lib.hid (HE.out.2.trans q1)
    clear q1
    go_wp2
    go_ret
    exact ⟨by rw [HE.out.1]; rfl, HQ.out⟩
  · have ek : (t.kind == 2) = false := by simp [hk]
    have hsok := RT_sok t d hR
    have hsl : SOkL t.subs := by
      cases t
      rw [SOk] at hsok
      exact hsok.2
    have hcl : cntL t.subs ≤ 1000000 := by rw [cnt_eq] at hc; omega
    have hbl : ∀ k, (subT t.kind true (t.subs.take k)).length ≤ 2400000000 := fun k => by
      have h1 := subT_pre t.kind true t.subs k
      have h2 := subT_len t.subs t.kind true hsl
      omega
    have hsub := fun (s : T) (i : Nat) (h : t.subs[i]? = some s) => RL_get hR.subs h
    have H0 := Lib.hid (And.intro a0 (And.intro q (And.intro hL ih)))
    have HD := Lib.hid (And.intro hbl (And.intro (txt_sub hk) (And.intro hR hsub)))
    clear q hL hbl ih hsub hR hsl hsok
    have hnn := hn
    clear hn hk
    go_enter Tryz.func11, Tryz.ntmps11
    go_wp2_with fail
    generalize (w.alloc (.cells (ncells t a c) 27)) = W at *
    go_loopg [3, 4] t.subs.length (fun gg u i wr => ∃ (k : Nat) (U : List UInt8), i = .int .i64 k ∧ k + gg = t.subs.length ∧ u = Bytes.str U ∧ U = subT t.kind true (t.subs.take k) ∧ Keep (fun _ => False) W wr)
    case atStart => exact ⟨0, [], rfl, by omega, rfl, by rw [List.take_zero, subT_nil], Keep.refl _ _⟩
    case round =>
      obtain ⟨k, U, rfl, hk, rfl, hU, hq⟩ := hrel
      have A0 := a0.keep hq (fun h => h)
      have c0 : wr.cell? ⟨w.heap.size, 0, none⟩ = some (.int .i64 t.kind) := A0.cell (o := 0) rfl
      have c1 : wr.cell? ⟨w.heap.size, 1, none⟩ = some (.int .u64 t.set.x0) := A0.cell (o := 1) rfl
      have c2 : wr.cell? ⟨w.heap.size, 2, none⟩ = some (.int .u64 t.set.x1) := A0.cell (o := 2) rfl
      have c3 : wr.cell? ⟨w.heap.size, 3, none⟩ = some (.int .u64 t.set.x2) := A0.cell (o := 3) rfl
      have c4 : wr.cell? ⟨w.heap.size, 4, none⟩ = some (.int .u64 t.set.x3) := A0.cell (o := 4) rfl
      have c5 : wr.cell? ⟨w.heap.size, 5, none⟩ = some (.int .i64 t.mn) := A0.cell (o := 5) rfl
      have c6 : wr.cell? ⟨w.heap.size, 6, none⟩ = some (.int .i64 t.mx) := A0.cell (o := 6) rfl
      have c7 : wr.cell? ⟨w.heap.size, 7, none⟩ = some (.slice a t.subs.length c) := A0.cell (o := 7) rfl
      have hm := HD.out.1 k
      rw [← hU] at hm
      by_cases hlt : k < t.subs.length
      · have hlt' : (k : Int) < t.subs.length := by omega
        obtain ⟨s, hs⟩ : ∃ s, t.subs[k]? = some s := ⟨t.subs[k], List.getElem?_eq_getElem hlt⟩
        have LL := Lib.hid (H0.out.2.2.1.keepF (H0.out.2.1.trans hq))
        obtain ⟨bl, off, a1, e1, rfl, -, hbl, -, L1, C1⟩ := LL.out.get hs
        obtain ⟨d0, d1, d2, d3, d4, d5, d6, d7⟩ := ncell C1
        have hsl := sub_less hs
        have hcs := cntL_le hs
        have hRs := HD.out.2.2.2 s k hs
        have hcall := H0.out.2.2.2 s (by omega) (by omega) d hRs a1 e1 wr L1
        have hVl := txt_len s (RT_sok s d hRs)
        obtain ⟨V, hV⟩ : ∃ V, txt s = V := ⟨_, rfl⟩
        have hpre := subT_take (k := t.kind) hs
        rw [← hU, hV] at hpre
        rw [hV] at hVl hcall
        have HQ := Lib.hid (And.intro hq (And.intro hcall (And.intro hpre (And.intro C1 hbl))))
        clear hq hcall hpre hs L1 C1 A0 hbl hU hV
        have i0 : (0 : Int) ≤ k := by omega
        go_wp2_with fail
        refine HQ.out.2.1.mono ?_
        rintro e w2 ⟨rfl, q2⟩
        have QQ := Lib.hid (And.intro (HQ.out.1.trans q2) q2)
        have A0 := a0.keep QQ.out.1 (fun h => h)
        have C2 := ncells_keep HQ.out.2.2.2.1 q2 HQ.out.2.2.2.2
        have hS : ∀ w', Keep (fun _ => False) w2 w' → Keep (fun _ => False) w2 w' ∧ w'.cell? ⟨w.heap.size, 0, none⟩ = some (.int .i64 t.kind) ∧ w'.cell? ⟨w.heap.size, 1, none⟩ = some (.int .u64 t.set.x0) ∧ w'.cell? ⟨w.heap.size, 2, none⟩ = some (.int .u64 t.set.x1) ∧ w'.cell? ⟨w.heap.size, 3, none⟩ = some (.int .u64 t.set.x2) ∧ w'.cell? ⟨w.heap.size, 4, none⟩ = some (.int .u64 t.set.x3) ∧ w'.cell? ⟨w.heap.size, 5, none⟩ = some (.int .i64 t.mn) ∧ w'.cell? ⟨w.heap.size, 6, none⟩ = some (.int .i64 t.mx) ∧ w'.cell? ⟨w.heap.size, 7, none⟩ = some (.slice (some ⟨bl, off, none⟩) t.subs.length c) ∧ w'.cell? ⟨bl, off + k * 8, none⟩ = some (.int .i64 s.kind) ∧ w'.cell? ⟨bl, off + k * 8 + 1, none⟩ = some (.int .u64 s.set.x0) ∧ w'.cell? ⟨bl, off + k * 8 + 2, none⟩ = some (.int .u64 s.set.x1) ∧ w'.cell? ⟨bl, off + k * 8 + 3, none⟩ = some (.int .u64 s.set.x2) ∧ w'.cell? ⟨bl, off + k * 8 + 4, none⟩ = some (.int .u64 s.set.x3) ∧ w'.cell? ⟨bl, off + k * 8 + 5, none⟩ = some (.int .i64 s.mn) ∧ w'.cell? ⟨bl, off + k * 8 + 6, none⟩ = some (.int .i64 s.mx) ∧ w'.cell? ⟨bl, off + k * 8 + 7, none⟩ = some (.slice a1 s.subs.length e1) := fun w' q' => by
          have e1 := fun j v h => (q'.cell (a := ⟨bl, off + k * 8 + j, none⟩) (World.block_lt_of_cell? w2 _ (C2 j v h)) (fun h => h)).trans (C2 j v h)
          have e0 := A0.keep q' (fun h => h)
          exact ⟨q', e0.cell (o := 0) rfl, e0.cell (o := 1) rfl, e0.cell (o := 2) rfl, e0.cell (o := 3) rfl, e0.cell (o := 4) rfl, e0.cell (o := 5) rfl, e0.cell (o := 6) rfl, e0.cell (o := 7) rfl, e1 0 _ rfl, e1 1 _ rfl, e1 2 _ rfl, e1 3 _ rfl, e1 4 _ rfl, e1 5 _ rfl, e1 6 _ rfl, e1 7 _ rfl⟩
        have HS := Lib.hid hS
        have HR := Lib.hid (fun W' => fround_any t s (some ⟨bl, off, none⟩) c a1 e1 W')
        obtain ⟨r, hr⟩ : ∃ r, rnd t.kind s.kind = r := ⟨_, rfl⟩
        have hpr := HQ.out.2.2.1
        rw [hr] at hpr HR
        have HP := Lib.hid hpr
        clear A0 q2 d0 d1 d2 d3 d4 d5 d6 d7 C2 hS hr hpr c0 c1 c2 c3 c4 c5 c6 c7
        go_wp2_with fail
        go_region_held3 (fun w' => Keep (fun _ => False) w2 w' ∧ w'.cell? ⟨w.heap.size, 0, none⟩ = some (.int .i64 t.kind) ∧ w'.cell? ⟨w.heap.size, 1, none⟩ = some (.int .u64 t.set.x0) ∧ w'.cell? ⟨w.heap.size, 2, none⟩ = some (.int .u64 t.set.x1) ∧ w'.cell? ⟨w.heap.size, 3, none⟩ = some (.int .u64 t.set.x2) ∧ w'.cell? ⟨w.heap.size, 4, none⟩ = some (.int .u64 t.set.x3) ∧ w'.cell? ⟨w.heap.size, 5, none⟩ = some (.int .i64 t.mn) ∧ w'.cell? ⟨w.heap.size, 6, none⟩ = some (.int .i64 t.mx) ∧ w'.cell? ⟨w.heap.size, 7, none⟩ = some (.slice (some ⟨bl, off, none⟩) t.subs.length c) ∧ w'.cell? ⟨bl, off + k * 8, none⟩ = some (.int .i64 s.kind) ∧ w'.cell? ⟨bl, off + k * 8 + 1, none⟩ = some (.int .u64 s.set.x0) ∧ w'.cell? ⟨bl, off + k * 8 + 2, none⟩ = some (.int .u64 s.set.x1) ∧ w'.cell? ⟨bl, off + k * 8 + 3, none⟩ = some (.int .u64 s.set.x2) ∧ w'.cell? ⟨bl, off + k * 8 + 4, none⟩ = some (.int .u64 s.set.x3) ∧ w'.cell? ⟨bl, off + k * 8 + 5, none⟩ = some (.int .i64 s.mn) ∧ w'.cell? ⟨bl, off + k * 8 + 6, none⟩ = some (.int .i64 s.mx) ∧ w'.cell? ⟨bl, off + k * 8 + 7, none⟩ = some (.slice a1 s.subs.length e1)) (first | exact HS.out _ ((Keep.refl _ _).drew) | exact HS.out _ (Keep.trans (And.left (by assumption)) q)) (first
          | (go_at_call 22; refine (HR.out _).mono ?_; rintro e w2 ⟨rfl, q⟩))
        all_goals
          rename_i hh
          have HK := Lib.hid (QQ.out.1.trans hh.1)
          have ck := hh.2.1
          clear hh
          have n1 : ¬ 9223372036854775807 < 1 + V.length := by omega
          have n2 : ¬ 9223372036854775807 < 1 + V.length + 1 := by omega
          have n3 : ¬ 9223372036854775807 < U.length + 1 := by omega
          have n4 : ¬ 9223372036854775807 < U.length + V.length := by omega
          have n5 : ¬ 9223372036854775807 < U.length + 1 + V.length := by omega
          have n6 : ¬ 9223372036854775807 < U.length + (1 + V.length + 1) := by omega
          have n7 : ¬ 9223372036854775807 < U.length + 1 + (1 + V.length + 1) := by omega
          have hh4 : ((t.kind == 4) = true ∧ 0 < (k : Int) ∧ t.kind = 4 ∧ k ≠ 0) ∨ ((t.kind == 4) = true ∧ ¬ 0 < (k : Int) ∧ k = 0) ∨ ((t.kind == 4) = false ∧ t.kind ≠ 4) := by
            by_cases z : t.kind = 4
            · by_cases y : k = 0
              · exact .inr (.inl ⟨by simp [z], by omega, y⟩)
              · exact .inl ⟨by simp [z], by omega, z, y⟩
            · exact .inr (.inr ⟨by simp [z], z⟩)
          rcases hh4 with ⟨z1, z2, z3⟩ | ⟨z1, z2, z3⟩ | ⟨z1, z3⟩
          · have hp := HP.out
            rw [if_pos z3] at hp
            cases r
            all_goals
              have EP := Lib.hid (And.intro HK.out hp)
              clear hp z3
              go_wp2_with fail
              go_roundg (t.subs.length - (k + 1))
              case measure => omega
              case rel => exact ⟨k + 1, _, by go_num, by omega, Bytes.str_eq (ByteArray.ext (by simp [br])), EP.out.2.symm, EP.out.1⟩
          · have hp := HP.out
            rw [if_neg (by simp [z3])] at hp
            cases r
            all_goals
              have EP := Lib.hid (And.intro HK.out hp)
              clear hp z3
              go_wp2_with fail
              go_roundg (t.subs.length - (k + 1))
              case measure => omega
              case rel => exact ⟨k + 1, _, by go_num, by omega, Bytes.str_eq (ByteArray.ext (by simp [br])), EP.out.2.symm, EP.out.1⟩
          · have hp := HP.out
            rw [if_neg (by simp [z3])] at hp
            cases r
            all_goals
              have EP := Lib.hid (And.intro HK.out hp)
              clear hp z3
              go_wp2_with fail
              go_roundg (t.subs.length - (k + 1))
              case measure => omega
              case rel => exact ⟨k + 1, _, by go_num, by omega, Bytes.str_eq (ByteArray.ext (by simp [br])), EP.out.2.symm, EP.out.1⟩
      · have hke : k = t.subs.length := by omega
        subst hke
        rw [List.take_length] at hU
        have HQ := Lib.hid (And.intro hq hU)
        by_cases z : t.kind = 5
        · have z1 : (t.kind == 5) = true := by simp [z]
          obtain ⟨x, lo, hi, et, b0, b1, b2, -, -⟩ := kind5 HD.out.2.2.1 z
          have em : t.mn = lo ∧ t.mx = hi := by rw [et]; exact ⟨rfl, rfl⟩
          have HT := Lib.hid (fun W' => ftimes_any t.mn t.mx (by rw [em.1]; exact b0) (by rw [em.1]; exact b1) (by rw [em.1, em.2]; exact b2) W')
          have hl7 := times_len t.mn t.mx
          have hx := HD.out.2.1
          rw [if_pos z, ← hU] at hx
          have HX := Lib.hid hx
          have n4 : ¬ 9223372036854775807 < U.length + (times t.mn t.mx).length := by omega
          clear hx et em b0 b1 b2 z hU hq A0
          go_wp2_with fail
          refine (HT.out _).mono ?_
          rintro e w2 ⟨rfl, q2⟩
          have Q2 := Lib.hid q2
          clear q2
          go_wp2
          go_ret
          exact ⟨by rw [HX.out]; exact Bytes.ret_str (Bytes.str_append _ _), H0.out.2.1.trans (HQ.out.1.trans Q2.out)⟩
        · have z1 : (t.kind == 5) = false := by simp [z]
          have hx := HD.out.2.1
          rw [if_neg z, List.append_nil, ← hU] at hx
          have HX := Lib.hid hx
          clear hx hU hq A0 z
          go_wp2_with fail
          go_ret
          exact ⟨by rw [HX.out]; rfl, H0.out.2.1.trans HQ.out.1⟩
theorem ftext_all : ∀ (n : Nat) (t : T), SizeOf.sizeOf t < n → cnt t ≤ 1000000 → ∀ (d : Nat), RT d t → ∀ (a : Option Addr) (c : Nat) (w : World), Lie w (fun _ => True) a t.subs → Calls Tryz.prog 11 #[nodeV t a c] w fun e w' => e = .returned (Bytes.str (txt t)) ∧ Keep (fun _ => False) w w'
  | 0, _, h => absurd h (Nat.not_lt_zero _)
  | n + 1, t, h => fun hc d hR a c w hL => ftext_step n (ftext_all n) t h hc d hR a c w hL
/-- THE DOCUMENT'S TEXT, of a right expression. -/
theorem ftext_any (t : T) (hc : cnt t ≤ 1000000) (d : Nat) (hR : RT d t) (a : Option Addr) (c : Nat) (w : World) (hL : Lie w (fun _ => True) a t.subs) : Calls Tryz.prog 11 #[nodeV t a c] w fun e w' => e = .returned (Bytes.str (txt t)) ∧ Keep (fun _ => False) w w' :=
  ftext_all _ t (Nat.lt_succ_self _) hc d hR a c w hL
end Go.Proofs.YtmeiboaagkoadaaGreatDoor.P08
/- The code's closure that goes down (layer 8): it writes a right expression's text behind what a builder holds. -/
namespace Go.Proofs.YtmeiboaagkoadaaGreatDoor.P08
open Go.RowKit Go.Proofs.YtmeiboaagkoadaaGreatDoor.Base Go.Proofs.YtmeiboaagkoadaaGreatDoor.Bytes Go.Proofs.YtmeiboaagkoadaaGreatDoor.P07
open Go.Proofs.YtmeiboaagkoadaaGreatDoor.Sets (ST)
open Go.Proofs.YtmeiboaagkoadaaGreatDoor.Ref06 (write_bd writeByte_bd string_bd)

theorem tab_keep {S : Nat → Prop} {w w' : World} (h : Tab w) (q : Keep S w w') (hS : ¬ S 0) : Tab w' := fun j hj => by
  have hc := h j hj
  exact (q.cell (a := ⟨0, j, none⟩) (World.block_lt_of_cell? w _ hc) hS).trans hc

/-- The function's own value, in the variable in block g; the builder in block b. -/
@[reducible] def downV (b g : Nat) : Value := .func (.func 27) #[] #[.pointer (some ⟨b, 0, none⟩), .pointer (some ⟨g, 0, none⟩)]
/-- The builder in block b holds U, the variable in block g the function. -/
structure TB (w : World) (B b g : Nat) (U : List UInt8) : Prop where
  bd : ∃ v, Ref06.Bd w B b v (Lib.byteCells U)
  fn : At w g 68 #[downV b g]
  ne : g ≠ b
  low : B ≤ g
  le : B ≤ w.heap.size
  tab : Tab w
  tlt : 0 < B
theorem TB.keepF {w w' : World} {B b g : Nat} {U : List UInt8} (h : TB w B b g U) (q : Keep (fun _ => False) w w') : TB w' B b g U := by
  obtain ⟨v, hv⟩ := h.bd
  exact ⟨⟨v, hv.keep q (fun _ h => h)⟩, h.fn.keep q (fun h => h), h.ne, h.low, Nat.le_trans h.le q.size, h.tab.keep q, h.tlt⟩
/-- What writing leaves. -/
theorem TB.wrote {w w' : World} {B b g : Nat} {U V : List UInt8} {v v' : Value} {bs : List Value} (h : TB w B b g U) (hv : Ref06.Bd w B b v (Lib.byteCells U)) (h' : Ref06.Bd w' B b v' bs) (e : bs = Lib.byteCells V) (q : Keep (fun k => k = b ∨ v.ownBlock = some k) w w') :
    TB w' B b g V ∧ Keep (fun k => B ≤ k) w w' := by
  subst e
  have hb : ∀ k, (k = b ∨ v.ownBlock = some k) → B ≤ k := fun k hk => by
    rcases hk with rfl | hk
    · exact hv.base
    · exact Ref06.own_base hv.own hk
  have qB := q.mono hb
  exact ⟨⟨⟨v', h'⟩, hv.side h.fn (by decide) h.ne q, h.ne, h.low, Nat.le_trans h.le q.size, tab_keep h.tab qB (by have := h.tlt; omega), h.tlt⟩, qB⟩
theorem TB.str {w : World} {B b g : Nat} {U : List UInt8} (h : TB w B b g U) (l : List UInt8) (hlen : U.length + l.length ≤ 140737488355328) :
    Calls Tryz.prog 28 #[.pointer (some ⟨b, 0, none⟩), Bytes.str l] w fun e w' => e = .returned (.tuple #[.int .i64 l.length, .nilIface]) ∧ TB w' B b g (U ++ l) ∧ Keep (fun k => B ≤ k) w w' := by
  obtain ⟨v, hv⟩ := h.bd
  refine (write_bd B b v _ l w hv (by rw [Lib.byteCells_length]; omega) h.le).mono ?_
  rintro e w' ⟨rfl, v', h', q⟩
  exact ⟨rfl, h.wrote hv h' (by simp [Lib.byteCells]) q⟩
theorem TB.byte {w : World} {B b g : Nat} {U : List UInt8} (h : TB w B b g U) (c : UInt8) (x : Int) (hx : (c.toNat : Int) = x) (hlen : U.length + 1 ≤ 140737488355328) :
    Calls Tryz.prog 30 #[.pointer (some ⟨b, 0, none⟩), .int .u8 x] w fun e w' => e = .returned .nilIface ∧ TB w' B b g (U ++ [c]) ∧ Keep (fun k => B ≤ k) w w' := by
  subst hx
  obtain ⟨v, hv⟩ := h.bd
  refine (writeByte_bd B b v _ (c.toNat : Int) w hv (by rw [Lib.byteCells_length]; omega) h.le).mono ?_
  rintro e w' ⟨rfl, v', h', q⟩
  exact ⟨rfl, h.wrote hv h' (by simp [Lib.byteCells]) q⟩

/-- What the closure does with an expression. -/
def DownOk (t : T) : Prop := ∀ (bl o : Nat) (a : Option Addr) (c : Nat) (w : World) (B b g : Nat) (U : List UInt8), NodeP w bl o t a c → bl < B → Lie w (fun k => k < B) a t.subs → TB w B b g U → U.length + (txt t).length ≤ 3000000000 →
  Calls Tryz.prog 27 #[.pointer (some ⟨bl, o, none⟩), .pointer (some ⟨b, 0, none⟩), .pointer (some ⟨g, 0, none⟩)] w fun e w' => e = .returned (.tuple #[]) ∧ TB w' B b g (U ++ txt t) ∧ Keep (fun k => B ≤ k) w w'

set_option maxRecDepth 100000 in
set_option maxHeartbeats 4000000 in
theorem down_class (t : T) (d : Nat) (hR : RT d t) (hk : t.kind = 2) : DownOk t := fun bl o a c w B b g U hP hb hL hT hlen => by
  obtain ⟨s, hs, e, he⟩ := kind2 hR hk
  have hl0 : t.subs.length = 0 := by rw [e]; rfl
  have ht : txt t = Bytes.textT t.set := by
    rw [he, textT_eq hs]
    rw [e]
    rfl
  have hso : t.set.Ok := by rw [e]; exact hs
  obtain ⟨c0, c1, c2, c3, c4, -, -, -⟩ := hP.eight
  have ek : (t.kind == 2) = true := by simp [hk]
  have ek5 : (t.kind == 5) = false := by simp [hk]
  rw [ht] at hlen ⊢
  have HT := Lib.hid (And.intro hT (And.intro hP hlen))
  clear hk he e hL hR hs ht hT hP hlen
  go_enter Tryz.func27, Tryz.ntmps27
  go_wp2_with fail
  refine (Bytes.text_any t.set hso _ HT.out.1.tab).mono ?_
  rintro e w1 ⟨rfl, q1⟩
  have T1 := Lib.hid (HT.out.1.keepF q1)
  have P1 := Lib.hid (HT.out.2.1.keepF q1)
  have Q1 := Lib.hid q1
  clear q1 c0 c1 c2 c3 c4
  go_wp2_with fail
  refine (T1.out.str (Bytes.textT t.set) (by have := HT.out.2.2; omega)).mono ?_
  rintro e w2 ⟨rfl, t2, q2⟩
  have hP2 := P1.out.keep q2 (by omega)
  obtain ⟨c0, -, -, -, -, -, -, c7⟩ := hP2.eight
  rw [hl0] at c7
  have H2 := Lib.hid (And.intro t2 (And.intro (((Q1.out.mono (fun _ h => h.elim)) : Keep (fun k => B ≤ k) w w1).trans q2) hP2))
  clear t2 q2 hP2
  go_wp2_with fail
  go_loopg [4, 5, 22] 0 (fun gg s4 s5 i wr => i = .int .i64 0 ∧ wr = w2)
  case atStart => exact ⟨rfl, rfl⟩
  case round =>
    obtain ⟨rfl, rfl⟩ := hrel
    go_wp2_with fail
    go_end0
    exact ⟨rfl, H2.out.1, H2.out.2.1⟩

/-- How one part lengthens the text. -/
theorem part_len {k : Int} {L : List T} {i : Nat} {s : T} (h : L[i]? = some s) (M : Nat) (hM : (subT k true L).length ≤ M) : (subT k true (L.take i)).length + ((if k = 4 ∧ i ≠ 0 then [124] else []) ++ br (rnd k s.kind) (txt s) : List UInt8).length ≤ M := by
  have h1 := subT_take (k := k) h
  have h2 := subT_pre k true L (i + 1)
  rw [h1, List.length_append] at h2
  omega

set_option maxRecDepth 100000 in
set_option maxHeartbeats 4000000 in
theorem down_other (n : Nat) (ih : ∀ (t : T), SizeOf.sizeOf t < n → ∀ d, RT d t → DownOk t) (t : T) (hn : SizeOf.sizeOf t < n + 1) (d : Nat) (hR : RT d t) (hk : t.kind ≠ 2) : DownOk t := fun bl o a c w B b g U hP hb hL hT hlen => by
  have hlen0 := hL.len
  have htx := txt_sub hk
  have hsub := fun (s : T) (i : Nat) (h : t.subs[i]? = some s) => RL_get hR.subs h
  have ek : (t.kind == 2) = false := by simp [hk]
  have hbl : (subT t.kind true t.subs).length ≤ 3000000000 - U.length := by
    rw [htx, List.length_append] at hlen
    omega
  have hU : U.length ≤ 3000000000 := by omega
  obtain ⟨c0, -, -, -, -, -, -, c7⟩ := hP.eight
  have HD := Lib.hid (And.intro hP (And.intro hL (And.intro hT (And.intro hlen (And.intro hsub (And.intro htx (And.intro hR (And.intro hbl ih))))))))
  clear hP hL hT hlen hsub htx hR hbl ih
  have HK := Lib.hid hk
  have HN := Lib.hid hn
  clear hk hn
  go_enter Tryz.func27, Tryz.ntmps27
  go_wp2_with fail
  clear c0 c7
  go_loopg [4, 5, 22] t.subs.length (fun gg s4 s5 i wr => ∃ (k : Nat) (V : List UInt8), i = .int .i64 k ∧ k + gg = t.subs.length ∧ V = subT t.kind true (t.subs.take k) ∧ TB wr B b g (U ++ V) ∧ Keep (fun k => B ≤ k) w wr)
  case atStart => exact ⟨0, [], rfl, by omega, by rw [List.take_zero, subT_nil], by rw [List.append_nil]; exact HD.out.2.2.1, Keep.refl _ _⟩
  case round =>
    obtain ⟨k, V, rfl, hk, hV, hT, hq⟩ := hrel
    have hP := HD.out.1.keep hq (by omega)
    obtain ⟨c0, -, -, -, -, c5, c6, c7⟩ := hP.eight
    by_cases hlt : k < t.subs.length
    · have hlt' : (k : Int) < t.subs.length := by omega
      obtain ⟨s, hs⟩ : ∃ s, t.subs[k]? = some s := ⟨t.subs[k], List.getElem?_eq_getElem hlt⟩
      have hLw := HD.out.2.1.keep hq (fun k h1 h2 => by omega)
      have LL := Lib.hid hLw
      obtain ⟨b2, off, a1, e1, rfl, hb2, hbl2, -, L1, C1⟩ := LL.out.get hs
      have N1 : NodeP wr b2 (off + k * 8) s a1 e1 := ⟨hbl2, C1⟩
      obtain ⟨d0, -⟩ := N1.eight
      have hsl := sub_less hs
      have hcall := HD.out.2.2.2.2.2.2.2.2 s (by have := HN.out; omega) d (HD.out.2.2.2.2.1 s k hs)
      have hpre := subT_take (k := t.kind) hs
      have hpl := part_len (k := t.kind) hs _ HD.out.2.2.2.2.2.2.2.1
      rw [← hV] at hpre hpl
      obtain ⟨X, hX⟩ : ∃ X, txt s = X := ⟨_, rfl⟩
      obtain ⟨r, hr⟩ : ∃ r, rnd t.kind s.kind = r := ⟨_, rfl⟩
      unfold DownOk at hcall
      rw [hX, hr] at hpre hpl
      rw [hX] at hcall
      have i0 : (0 : Int) ≤ k := by omega
      have ha4 : ((t.kind == 4) = true ∧ 0 < (k : Int) ∧ t.kind = 4 ∧ k ≠ 0) ∨ ((t.kind == 4) = true ∧ ¬ 0 < (k : Int) ∧ k = 0) ∨ ((t.kind == 4) = false ∧ t.kind ≠ 4) := by
        by_cases z : t.kind = 4
        · by_cases y : k = 0
          · exact .inr (.inl ⟨by simp [z], by omega, y⟩)
          · exact .inl ⟨by simp [z], by omega, z, y⟩
        · exact .inr (.inr ⟨by simp [z], z⟩)
      have HA := Lib.hid (And.intro hcall (And.intro N1 (And.intro L1 (And.intro hr (And.intro hV (And.intro hT (And.intro hq hP)))))))
      clear hcall N1 L1 C1 hr hV hT hq hP hX hs
      have HV := Lib.hid hpre
      have HW := Lib.hid hpl
      clear hpre hpl
      rcases ha4 with ⟨z1, z2, z3⟩ | ⟨z1, z2, z3⟩ | ⟨z1, z3⟩
      · have hp := HV.out
        have hw := HW.out
        rw [if_pos z3] at hp hw
        have HP := Lib.hid (And.intro hp hw)
        clear hp hw z3
        go_wp2_with fail
        refine (HA.out.2.2.2.2.2.1.byte 124 124 rfl (by rw [List.length_append]; have := HP.out.2; simp at this; omega)).mono ?_
        rintro e wx ⟨rfl, tx, qx⟩
        have TX := Lib.hid (And.intro tx (And.intro qx (show (U ++ V ++ [124]).length = U.length + V.length + 1 from by simp; omega)))
        clear tx qx c0 c5 c6 c7 d0
        have hPx := HA.out.2.2.2.2.2.2.2.keep TX.out.2.1 (by omega)
        have Nx := HA.out.2.1.keep TX.out.2.1 (by omega)
        have Lx := HA.out.2.2.1.keep TX.out.2.1 (fun k h1 h2 => by omega)
        obtain ⟨c0, -, -, -, -, -, -, c7⟩ := hPx.eight
        obtain ⟨d0, -⟩ := Nx.eight
        have kg : wx.cell? ⟨g, 0, none⟩ = some (downV b g) := TX.out.1.fn.cell (o := 0) rfl
        have HX := Lib.hid (And.intro hPx (And.intro Nx Lx))
        clear hPx Nx Lx
        go_wp2_with fail
        go_quiet ((go_at_call 31; exact quiet_same (brk_is HA.out.2.2.2.1 _)))
        cases r
        · have hn : U.length + V.length + 1 + X.length ≤ 3000000000 := by
            have := HP.out.2
            simp [br] at this
            omega
          go_wp2_with fail
          refine (HA.out.1 b2 (off + k * 8) a1 e1 _ B b g (U ++ V ++ [124]) (HX.out.2.1.keepF ((Keep.refl _ _).drewN nq)) hb2 (HX.out.2.2.keepF ((Keep.refl _ _).drewN nq)) (TX.out.1.keepF ((Keep.refl _ _).drewN nq)) (by have := TX.out.2.2; omega)).mono ?_
          rintro e w2 ⟨rfl, t2, q2⟩
          have H2 := Lib.hid (And.intro t2 (HA.out.2.2.2.2.2.2.1.trans (TX.out.2.1.trans (((Keep.refl _ _).drewN nq).trans q2))))
          clear t2 q2 c0 c7 d0 kg
          go_wp2_with fail
          go_roundg (t.subs.length - (k + 1))
          case measure => omega
          case rel =>
            refine ⟨k + 1, _, by go_num, by omega, rfl, ?_, H2.out.2⟩
            rw [HP.out.1]
            have h := H2.out.1
            simp only [br, List.append_assoc, List.cons_append, List.nil_append] at h ⊢
            exact h
        · have hn : U.length + V.length + 1 + X.length + 2 ≤ 3000000000 := by
            have := HP.out.2
            simp [br] at this
            omega
          go_wp2_with fail
          refine ((TX.out.1.keepF ((Keep.refl _ _).drewN nq)).byte 40 40 rfl (by have := TX.out.2.2; omega)).mono ?_
          rintro e w3 ⟨rfl, t3, q3⟩
          have qx := ((Keep.refl (fun k => B ≤ k) wx).drewN nq).trans q3
          have hP3 := HX.out.1.keep qx (by omega)
          have N3 := HX.out.2.1.keep qx (by omega)
          have L3 := HX.out.2.2.keep qx (fun k h1 h2 => by omega)
          have kg3 : w3.cell? ⟨g, 0, none⟩ = some (downV b g) := t3.fn.cell (o := 0) rfl
          have H3 := Lib.hid (And.intro t3 (And.intro (HA.out.2.2.2.2.2.2.1.trans (TX.out.2.1.trans qx)) (And.intro hP3 (And.intro N3 L3))))
          clear t3 q3 qx hP3 N3 L3 c0 c7 d0 kg
          go_wp2_with fail
          refine (HA.out.1 b2 (off + k * 8) a1 e1 w3 B b g _ H3.out.2.2.2.1 hb2 H3.out.2.2.2.2 H3.out.1 (by rw [List.length_append]; have := TX.out.2.2; simp only [List.length_singleton]; omega)).mono ?_
          rintro e w4 ⟨rfl, t4, q4⟩
          have H4 := Lib.hid (And.intro t4 (H3.out.2.1.trans q4))
          clear t4 q4 kg3
          go_wp2_with fail
          refine (H4.out.1.byte 41 41 rfl (by rw [List.length_append, List.length_append]; have := TX.out.2.2; simp only [List.length_singleton]; omega)).mono ?_
          rintro e w5 ⟨rfl, t5, q5⟩
          have H5 := Lib.hid (And.intro t5 (H4.out.2.trans q5))
          clear t5 q5
          go_wp2_with fail
          go_roundg (t.subs.length - (k + 1))
          case measure => omega
          case rel =>
            refine ⟨k + 1, _, by go_num, by omega, rfl, ?_, H5.out.2⟩
            rw [HP.out.1]
            have h := H5.out.1
            simp only [br, List.append_assoc, List.cons_append, List.nil_append] at h ⊢
            exact h
      · have hp := HV.out
        have hw := HW.out
        rw [if_neg (by omega)] at hp hw
        have HP := Lib.hid (And.intro hp hw)
        clear hp hw z3
        have TX := Lib.hid (And.intro HA.out.2.2.2.2.2.1 (And.intro (Keep.refl (fun k => B ≤ k) wr) (show (U ++ V).length = U.length + V.length from by simp)))
        clear c0 c5 c6 c7 d0
        have hPx := HA.out.2.2.2.2.2.2.2.keep TX.out.2.1 (by omega)
        have Nx := HA.out.2.1.keep TX.out.2.1 (by omega)
        have Lx := HA.out.2.2.1.keep TX.out.2.1 (fun k h1 h2 => by omega)
        obtain ⟨c0, -, -, -, -, -, -, c7⟩ := hPx.eight
        obtain ⟨d0, -⟩ := Nx.eight
        have kg : wr.cell? ⟨g, 0, none⟩ = some (downV b g) := TX.out.1.fn.cell (o := 0) rfl
        have HX := Lib.hid (And.intro hPx (And.intro Nx Lx))
        clear hPx Nx Lx
        go_wp2_with fail
        go_quiet ((go_at_call 31; exact quiet_same (brk_is HA.out.2.2.2.1 _)))
        cases r
        · have hn : U.length + V.length + 0 + X.length ≤ 3000000000 := by
            have := HP.out.2
            simp [br] at this
            omega
          go_wp2_with fail
          refine (HA.out.1 b2 (off + k * 8) a1 e1 _ B b g (U ++ V) (HX.out.2.1.keepF ((Keep.refl _ _).drewN nq)) hb2 (HX.out.2.2.keepF ((Keep.refl _ _).drewN nq)) (TX.out.1.keepF ((Keep.refl _ _).drewN nq)) (by have := TX.out.2.2; omega)).mono ?_
          rintro e w2 ⟨rfl, t2, q2⟩
          have H2 := Lib.hid (And.intro t2 (HA.out.2.2.2.2.2.2.1.trans (TX.out.2.1.trans (((Keep.refl _ _).drewN nq).trans q2))))
          clear t2 q2 c0 c7 d0 kg
          go_wp2_with fail
          go_roundg (t.subs.length - (k + 1))
          case measure => omega
          case rel =>
            refine ⟨k + 1, _, by go_num, by omega, rfl, ?_, H2.out.2⟩
            rw [HP.out.1]
            have h := H2.out.1
            simp only [br, List.append_assoc, List.nil_append] at h ⊢
            exact h
        · have hn : U.length + V.length + 0 + X.length + 2 ≤ 3000000000 := by
            have := HP.out.2
            simp [br] at this
            omega
          go_wp2_with fail
          refine ((TX.out.1.keepF ((Keep.refl _ _).drewN nq)).byte 40 40 rfl (by have := TX.out.2.2; omega)).mono ?_
          rintro e w3 ⟨rfl, t3, q3⟩
          have qx := ((Keep.refl (fun k => B ≤ k) wr).drewN nq).trans q3
          have hP3 := HX.out.1.keep qx (by omega)
          have N3 := HX.out.2.1.keep qx (by omega)
          have L3 := HX.out.2.2.keep qx (fun k h1 h2 => by omega)
          have kg3 : w3.cell? ⟨g, 0, none⟩ = some (downV b g) := t3.fn.cell (o := 0) rfl
          have H3 := Lib.hid (And.intro t3 (And.intro (HA.out.2.2.2.2.2.2.1.trans (TX.out.2.1.trans qx)) (And.intro hP3 (And.intro N3 L3))))
          clear t3 q3 qx hP3 N3 L3 c0 c7 d0 kg
          go_wp2_with fail
          refine (HA.out.1 b2 (off + k * 8) a1 e1 w3 B b g _ H3.out.2.2.2.1 hb2 H3.out.2.2.2.2 H3.out.1 (by rw [List.length_append]; have := TX.out.2.2; simp only [List.length_singleton]; omega)).mono ?_
          rintro e w4 ⟨rfl, t4, q4⟩
          have H4 := Lib.hid (And.intro t4 (H3.out.2.1.trans q4))
          clear t4 q4 kg3
          go_wp2_with fail
          refine (H4.out.1.byte 41 41 rfl (by rw [List.length_append, List.length_append]; have := TX.out.2.2; simp only [List.length_singleton]; omega)).mono ?_
          rintro e w5 ⟨rfl, t5, q5⟩
          have H5 := Lib.hid (And.intro t5 (H4.out.2.trans q5))
          clear t5 q5
          go_wp2_with fail
          go_roundg (t.subs.length - (k + 1))
          case measure => omega
          case rel =>
            refine ⟨k + 1, _, by go_num, by omega, rfl, ?_, H5.out.2⟩
            rw [HP.out.1]
            have h := H5.out.1
            simp only [br, List.append_assoc, List.cons_append, List.nil_append] at h ⊢
            exact h
      · have hp := HV.out
        have hw := HW.out
        rw [if_neg (by omega)] at hp hw
        have HP := Lib.hid (And.intro hp hw)
        clear hp hw z3
        have TX := Lib.hid (And.intro HA.out.2.2.2.2.2.1 (And.intro (Keep.refl (fun k => B ≤ k) wr) (show (U ++ V).length = U.length + V.length from by simp)))
        clear c0 c5 c6 c7 d0
        have hPx := HA.out.2.2.2.2.2.2.2.keep TX.out.2.1 (by omega)
        have Nx := HA.out.2.1.keep TX.out.2.1 (by omega)
        have Lx := HA.out.2.2.1.keep TX.out.2.1 (fun k h1 h2 => by omega)
        obtain ⟨c0, -, -, -, -, -, -, c7⟩ := hPx.eight
        obtain ⟨d0, -⟩ := Nx.eight
        have kg : wr.cell? ⟨g, 0, none⟩ = some (downV b g) := TX.out.1.fn.cell (o := 0) rfl
        have HX := Lib.hid (And.intro hPx (And.intro Nx Lx))
        clear hPx Nx Lx
        go_wp2_with fail
        go_quiet ((go_at_call 31; exact quiet_same (brk_is HA.out.2.2.2.1 _)))
        cases r
        · have hn : U.length + V.length + 0 + X.length ≤ 3000000000 := by
            have := HP.out.2
            simp [br] at this
            omega
          go_wp2_with fail
          refine (HA.out.1 b2 (off + k * 8) a1 e1 _ B b g (U ++ V) (HX.out.2.1.keepF ((Keep.refl _ _).drewN nq)) hb2 (HX.out.2.2.keepF ((Keep.refl _ _).drewN nq)) (TX.out.1.keepF ((Keep.refl _ _).drewN nq)) (by have := TX.out.2.2; omega)).mono ?_
          rintro e w2 ⟨rfl, t2, q2⟩
          have H2 := Lib.hid (And.intro t2 (HA.out.2.2.2.2.2.2.1.trans (TX.out.2.1.trans (((Keep.refl _ _).drewN nq).trans q2))))
          clear t2 q2 c0 c7 d0 kg
          go_wp2_with fail
          go_roundg (t.subs.length - (k + 1))
          case measure => omega
          case rel =>
            refine ⟨k + 1, _, by go_num, by omega, rfl, ?_, H2.out.2⟩
            rw [HP.out.1]
            have h := H2.out.1
            simp only [br, List.append_assoc, List.nil_append] at h ⊢
            exact h
        · have hn : U.length + V.length + 0 + X.length + 2 ≤ 3000000000 := by
            have := HP.out.2
            simp [br] at this
            omega
          go_wp2_with fail
          refine ((TX.out.1.keepF ((Keep.refl _ _).drewN nq)).byte 40 40 rfl (by have := TX.out.2.2; omega)).mono ?_
          rintro e w3 ⟨rfl, t3, q3⟩
          have qx := ((Keep.refl (fun k => B ≤ k) wr).drewN nq).trans q3
          have hP3 := HX.out.1.keep qx (by omega)
          have N3 := HX.out.2.1.keep qx (by omega)
          have L3 := HX.out.2.2.keep qx (fun k h1 h2 => by omega)
          have kg3 : w3.cell? ⟨g, 0, none⟩ = some (downV b g) := t3.fn.cell (o := 0) rfl
          have H3 := Lib.hid (And.intro t3 (And.intro (HA.out.2.2.2.2.2.2.1.trans (TX.out.2.1.trans qx)) (And.intro hP3 (And.intro N3 L3))))
          clear t3 q3 qx hP3 N3 L3 c0 c7 d0 kg
          go_wp2_with fail
          refine (HA.out.1 b2 (off + k * 8) a1 e1 w3 B b g _ H3.out.2.2.2.1 hb2 H3.out.2.2.2.2 H3.out.1 (by rw [List.length_append]; have := TX.out.2.2; simp only [List.length_singleton]; omega)).mono ?_
          rintro e w4 ⟨rfl, t4, q4⟩
          have H4 := Lib.hid (And.intro t4 (H3.out.2.1.trans q4))
          clear t4 q4 kg3
          go_wp2_with fail
          refine (H4.out.1.byte 41 41 rfl (by rw [List.length_append, List.length_append]; have := TX.out.2.2; simp only [List.length_singleton]; omega)).mono ?_
          rintro e w5 ⟨rfl, t5, q5⟩
          have H5 := Lib.hid (And.intro t5 (H4.out.2.trans q5))
          clear t5 q5
          go_wp2_with fail
          go_roundg (t.subs.length - (k + 1))
          case measure => omega
          case rel =>
            refine ⟨k + 1, _, by go_num, by omega, rfl, ?_, H5.out.2⟩
            rw [HP.out.1]
            have h := H5.out.1
            simp only [br, List.append_assoc, List.cons_append, List.nil_append] at h ⊢
            exact h
    · have hke : k = t.subs.length := by omega
      subst hke
      rw [List.take_length] at hV
      by_cases z : t.kind = 5
      · have z1 : (t.kind == 5) = true := by simp [z]
        obtain ⟨x, lo, hi, et, b0, b1, b2, -, -⟩ := kind5 HD.out.2.2.2.2.2.2.1 z
        have em : t.mn = lo ∧ t.mx = hi := by rw [et]; exact ⟨rfl, rfl⟩
        have HS := Lib.hid (fun W' => sign_any t.mn t.mx (by rw [em.1]; exact b0) (by rw [em.1]; exact b1) (by rw [em.1, em.2]; exact b2) W')
        have hl7 := times_len t.mn t.mx
        have hx := HD.out.2.2.2.2.2.1
        rw [if_pos z, ← hV] at hx
        have hv9 := HD.out.2.2.2.2.2.2.2.1
        rw [← hV] at hv9
        have hbb : (U ++ V).length + (times t.mn t.mx).length ≤ 140737488355328 := by
          rw [List.length_append]
          omega
        have HX := Lib.hid (And.intro hx (And.intro hT (And.intro hq hbb)))
        clear hx hT hq hP et em b0 b1 b2 z hV hl7 hv9 hbb
        go_wp2_with fail
        go_region_with (first
          | (go_at_call 32; refine (HS.out _).mono ?_; rintro e w6 ⟨rfl, q6⟩; have T6 := Lib.hid (And.intro (HX.out.2.1.keepF (((Keep.refl (fun _ => False) wr).drew).trans q6)) (HX.out.2.2.1.drew.trans (q6.mono (fun _ h => h.elim)))); clear q6)
          | (go_at_call 28; refine (T6.out.1.str (times t.mn t.mx) HX.out.2.2.2).mono ?_; rintro e w7 ⟨rfl, t7, q7⟩; have H7 := Lib.hid (And.intro t7 (T6.out.2.trans q7)); clear t7 q7))
        all_goals
          go_wp2_with fail
          go_end0
          exact ⟨rfl, by rw [HX.out.1, ← List.append_assoc]; exact H7.out.1, H7.out.2⟩
      · have z1 : (t.kind == 5) = false := by simp [z]
        have hx := HD.out.2.2.2.2.2.1
        rw [if_neg z, List.append_nil, ← hV] at hx
        have HX := Lib.hid (And.intro hx (And.intro hT hq))
        clear hx hV hT hq hP z
        go_wp2_with fail
        go_end0
        exact ⟨rfl, by rw [HX.out.1]; exact HX.out.2.1, HX.out.2.2⟩
theorem down_all : ∀ (n : Nat) (t : T), SizeOf.sizeOf t < n → ∀ d, RT d t → DownOk t
  | 0, _, h => absurd h (Nat.not_lt_zero _)
  | n + 1, t, h => fun d hR => by
    by_cases hk : t.kind = 2
    · exact down_class t d hR hk
    · exact down_other n (down_all n) t h d hR hk
/-- The blocks of a tree lie in the world. -/
theorem lie_below {w : World} {ok : Nat → Prop} {a : Option Addr} {L : List T} (h : Lie w ok a L) : Lie w (fun k => k < w.heap.size) a L := by
  induction h with
  | nil a => exact .nil a
  | cons bl off L A C hL hb hok hC hc _ ih => exact .cons bl off L A C hL hb hb hC hc ih
end Go.Proofs.YtmeiboaagkoadaaGreatDoor.P08
/- Rules in memory (layer 8): a slice of rules at an address; one of the program's own. -/
namespace Go.Proofs.YtmeiboaagkoadaaGreatDoor.P08
open Go.RowKit Go.Proofs.YtmeiboaagkoadaaGreatDoor.Base Go.Proofs.YtmeiboaagkoadaaGreatDoor.P07
open Go.Proofs.YtmeiboaagkoadaaGreatDoor.Sets (ST)

/-- A rule, plain. -/
structure RU where
  nm : List UInt8
  re : T
/-- Its nine cells. -/
@[reducible] def rcells (x : RU) (a : Option Addr) (c : Nat) : Array Value := #[Bytes.str x.nm, .int .i64 x.re.kind, .int .u64 x.re.set.x0, .int .u64 x.re.set.x1, .int .u64 x.re.set.x2, .int .u64 x.re.set.x3, .int .i64 x.re.mn, .int .i64 x.re.mx, .slice a x.re.subs.length c]
theorem infoU : (Tryz.prog.info? 38).map (fun i => (i.zero, i.size, i.bytes)) = some (some (.agg #[.string ⟨#[]⟩, .int .i64 0, .int .u64 0, .int .u64 0, .int .u64 0, .int .u64 0, .int .i64 0, .int .i64 0, .slice none 0 0]), 9, 96) := by kernel_rfl

/-- The rules L lie at a, in blocks that ok lets by. -/
def RS (w : World) (ok : Nat → Prop) (a : Option Addr) (L : List RU) : Prop :=
  L = [] ∨ ∃ (bl off : Nat) (A : Nat → Option Addr) (C : Nat → Nat), a = some ⟨bl, off, none⟩ ∧ bl < w.heap.size ∧ ok bl ∧ ∀ i x, L[i]? = some x → x.re.subs.length ≤ C i ∧ Lie w ok (A i) x.re.subs ∧ ∀ j v, (rcells x (A i) (C i))[j]? = some v → w.cell? ⟨bl, off + i * 9 + j, none⟩ = some v
theorem RS.keep {S : Nat → Prop} {w w' : World} {ok : Nat → Prop} (q : Keep S w w') (hS : ∀ b, ok b → ¬ S b) {a : Option Addr} {L : List RU} (h : RS w ok a L) : RS w' ok a L := by
  rcases h with h | ⟨bl, off, A, C, rfl, hb, hok, h⟩
  · exact .inl h
  · exact .inr ⟨bl, off, A, C, rfl, Nat.lt_of_lt_of_le hb q.size, hok, fun i x hx => ⟨(h i x hx).1, (h i x hx).2.1.keep q hS, fun j v hv => (q.cell (a := ⟨bl, off + i * 9 + j, none⟩) hb (hS bl hok)).trans ((h i x hx).2.2 j v hv)⟩⟩
theorem RS.keepF {w w' : World} {ok : Nat → Prop} (q : Keep (fun _ => False) w w') {a : Option Addr} {L : List RU} (h : RS w ok a L) : RS w' ok a L := h.keep q (fun _ _ h => h)
theorem RS.mono {w : World} {ok ok' : Nat → Prop} (hk : ∀ b, ok b → ok' b) {a : Option Addr} {L : List RU} (h : RS w ok a L) : RS w ok' a L := by
  rcases h with h | ⟨bl, off, A, C, rfl, hb, hok, h⟩
  · exact .inl h
  · exact .inr ⟨bl, off, A, C, rfl, hb, hk _ hok, fun i x hx => ⟨(h i x hx).1, (h i x hx).2.1.mono hk, (h i x hx).2.2⟩⟩
theorem RS.get {w : World} {ok : Nat → Prop} {a : Option Addr} {L : List RU} (h : RS w ok a L) {i : Nat} {x : RU} (hx : L[i]? = some x) :
    ∃ bl off a' c', a = some ⟨bl, off, none⟩ ∧ bl < w.heap.size ∧ ok bl ∧ x.re.subs.length ≤ c' ∧ Lie w ok a' x.re.subs ∧ ∀ j v, (rcells x a' c')[j]? = some v → w.cell? ⟨bl, off + i * 9 + j, none⟩ = some v := by
  rcases h with rfl | ⟨bl, off, A, C, rfl, hb, hok, h⟩
  · simp at hx
  · exact ⟨bl, off, A i, C i, rfl, hb, hok, (h i x hx).1, (h i x hx).2.1, (h i x hx).2.2⟩
/-- Its cells, one by one. -/
theorem rnine {w : World} {bl o : Nat} {x : RU} {a : Option Addr} {c : Nat} (h : ∀ j v, (rcells x a c)[j]? = some v → w.cell? ⟨bl, o + j, none⟩ = some v) :
    w.cell? ⟨bl, o, none⟩ = some (Bytes.str x.nm) ∧ w.cell? ⟨bl, o + 1, none⟩ = some (.int .i64 x.re.kind) ∧ w.cell? ⟨bl, o + 1 + 1, none⟩ = some (.int .u64 x.re.set.x0) ∧ w.cell? ⟨bl, o + 1 + 2, none⟩ = some (.int .u64 x.re.set.x1) ∧ w.cell? ⟨bl, o + 1 + 3, none⟩ = some (.int .u64 x.re.set.x2) ∧ w.cell? ⟨bl, o + 1 + 4, none⟩ = some (.int .u64 x.re.set.x3) ∧ w.cell? ⟨bl, o + 1 + 5, none⟩ = some (.int .i64 x.re.mn) ∧ w.cell? ⟨bl, o + 1 + 6, none⟩ = some (.int .i64 x.re.mx) ∧ w.cell? ⟨bl, o + 1 + 7, none⟩ = some (.slice a x.re.subs.length c) :=
  ⟨h 0 _ rfl, h 1 _ rfl, h 2 _ rfl, h 3 _ rfl, h 4 _ rfl, h 5 _ rfl, h 6 _ rfl, h 7 _ rfl, h 8 _ rfl⟩

@[reducible] def flatU (X : List (RU × Option Addr × Nat)) : List Value := X.flatMap fun x => (rcells x.1 x.2.1 x.2.2).toList
theorem flatU_length (X : List (RU × Option Addr × Nat)) : (flatU X).length = X.length * 9 := by
  induction X with
  | nil => rfl
  | cons x X ih =>
    unfold flatU at *
    rw [List.flatMap_cons, List.length_append, ih, List.length_cons]
    simp
    omega
theorem flatU_at : ∀ (X : List (RU × Option Addr × Nat)) (i : Nat) (x : RU × Option Addr × Nat), X[i]? = some x → ∀ j v, (rcells x.1 x.2.1 x.2.2)[j]? = some v → (flatU X)[i * 9 + j]? = some v
  | [], i, x, h, _, _, _ => by simp at h
  | y :: X, 0, x, h, j, v, hv => by
    simp at h
    subst h
    have e : flatU (y :: X) = (rcells y.1 y.2.1 y.2.2).toList ++ flatU X := rfl
    have hj : j < 9 := (Array.getElem?_eq_some_iff.1 hv).1
    rw [e, Nat.zero_mul, Nat.zero_add, List.getElem?_append_left (by simpa using hj)]
    simpa using hv
  | y :: X, i + 1, x, h, j, v, hv => by
    have ih := flatU_at X i x (by simpa using h) j v hv
    have e : flatU (y :: X) = (rcells y.1 y.2.1 y.2.2).toList ++ flatU X := rfl
    rw [e, List.getElem?_append_right (by simp; omega), ← ih]
    congr 1
    simp
    omega

/-- The slice v is a list of the rules X, of the program's own, in a block that ok lets by; their parts lie in other blocks. -/
def OUX (w : World) (ok : Nat → Prop) (v : Value) (X : List (RU × Option Addr × Nat)) : Prop :=
  w.ownsRow 0 38 9 v X.length (flatU X) ∧ (∀ g, v.ownBlock = some g → ok g) ∧ ∀ x ∈ X, x.1.re.subs.length ≤ x.2.2 ∧ Lie w (fun k => ok k ∧ v.ownBlock ≠ some k) x.2.1 x.1.re.subs
def OU (w : World) (ok : Nat → Prop) (v : Value) (L : List RU) : Prop := ∃ X, OUX w ok v X ∧ X.map (·.1) = L
theorem OU.nil (w : World) (ok : Nat → Prop) : OU w ok (.slice none 0 0) [] := ⟨[], ⟨⟨rfl, .inl ⟨rfl, rfl⟩⟩, fun g hg => (by cases hg), by simp⟩, rfl⟩
theorem OU.keep {S : Nat → Prop} {w w' : World} {ok : Nat → Prop} {v : Value} {L : List RU} (h : OU w ok v L) (q : Keep S w w') (hS : ∀ b, ok b → ¬ S b) : OU w' ok v L := by
  obtain ⟨X, ⟨h1, h2, h3⟩, h4⟩ := h
  refine ⟨X, ⟨⟨h1.1, ?_⟩, h2, fun x hx => ⟨(h3 x hx).1, (h3 x hx).2.keep q (fun b hb => hS b hb.1)⟩⟩, h4⟩
  rcases h1.2 with h | ⟨g, cap, cur, rfl, hb, hg, r⟩
  · exact .inl h
  · refine .inr ⟨g, cap, cur, rfl, hb, ?_, r⟩
    have : At w g 38 cur := hg
    exact this.keep q (hS g (h2 g rfl))
theorem OU.keepF {w w' : World} {ok : Nat → Prop} {v : Value} {L : List RU} (h : OU w ok v L) (q : Keep (fun _ => False) w w') : OU w' ok v L := h.keep q (fun _ _ h => h)
/-- As an argument. -/
theorem OU.form {w : World} {ok : Nat → Prop} {v : Value} {L : List RU} (h : OU w ok v L) : ∃ a cap, v = .slice a L.length cap ∧ L.length ≤ cap ∧ RS w ok a L := by
  obtain ⟨X, ⟨h1, h2, h3⟩, rfl⟩ := h
  rcases h1.2 with ⟨rfl, h0⟩ | ⟨g, cap, cur, rfl, _, hg, h5, h6, h7, h8⟩
  · have e : X = [] := List.eq_nil_of_length_eq_zero h0
    subst e
    exact ⟨none, 0, rfl, Nat.zero_le _, .inl rfl⟩
  · have ha : At w g 38 cur := hg
    refine ⟨_, cap, by rw [List.length_map], by rw [List.length_map]; exact h5, .inr ⟨g, 0, (fun i => (X[i]?.map (·.2.1)).getD none), (fun i => (X[i]?.map (·.2.2)).getD 0), rfl, ha.lt, h2 g rfl, fun i t ht => ?_⟩⟩
    rw [List.getElem?_map] at ht
    obtain ⟨x, hx, rfl⟩ := Option.map_eq_some_iff.1 ht
    simp only [hx, Option.map_some, Option.getD_some]
    refine ⟨(h3 x (List.mem_of_getElem? hx)).1, (h3 x (List.mem_of_getElem? hx)).2.mono (fun _ h => h.1), fun j v hv => ?_⟩
    have hj : j < 9 := (Array.getElem?_eq_some_iff.1 hv).1
    have hi : i < X.length := (List.getElem?_eq_some_iff.1 hx).1
    refine ha.cell ?_
    have h9 := flatU_at X i x hx j v hv
    have h10 : (cur.toList.take (X.length * 9))[i * 9 + j]? = (flatU X)[i * 9 + j]? := by rw [h8]
    rw [List.getElem?_take_of_lt (by omega), h9] at h10
    rw [Nat.zero_add]
    simpa using h10

/-- append of one rule, laid by the call itself. -/
theorem OU.push {w : World} {ok : Nat → Prop} {v : Value} {L : List RU} (h : OU w ok v L) (t : RU) (a : Option Addr) (c : Nat) (hc : t.re.subs.length ≤ c) (hl : Lie w (fun k => ok k ∧ v.ownBlock ≠ some k) a t.re.subs)
    (hlen : (L.length + 1) * 96 ≤ 140737488355328) (hok : ∀ g, w.heap.size ≤ g → ok g) (ty : TypeId) :
    ∃ v' w', (Builtin.append_ #[39, 39] ty #[v, .slice (some ⟨w.heap.size, 0, none⟩) 1 1]).run Tryz.prog (w.alloc (.cells (rcells t a c) 38)) = .ok v' w' ∧ OU w' ok v' (L ++ [t]) ∧ Keep (fun b => v.ownBlock = some b) w w' ∧ (∀ g, v'.ownBlock = some g → v.ownBlock = some g ∨ w.heap.size ≤ g) := by
  obtain ⟨X, ⟨h1, h2, h3⟩, rfl⟩ := h
  have qa := (Keep.refl (fun _ => False) w).alloc (.cells (rcells t a c) 38)
  have ha := At.new w (rcells t a c) 38
  have hown : (w.alloc (.cells (rcells t a c) 38)).ownsRow 0 38 9 v X.length (flatU X) := by
    refine ⟨h1.1, ?_⟩
    rcases h1.2 with h | ⟨g, cap, cur, rfl, hb, hg, r⟩
    · exact .inl h
    · refine .inr ⟨g, cap, cur, rfl, hb, ?_, r⟩
      have : At w g 38 cur := hg
      exact this.keep qa (fun h => h)
  obtain ⟨i0, hi0, hz0, hz1, hz2⟩ := info_parts infoU
  rw [List.length_map] at hlen
  obtain ⟨v', w', hrun, g2, g3, _, g5⟩ := run_append_own_at (P := Tryz.prog) (w.alloc (.cells (rcells t a c) 38)) 0 39 ty 38 i0 (.agg #[.string ⟨#[]⟩, .int .i64 0, .int .u64 0, .int .u64 0, .int .u64 0, .int .u64 0, .int .i64 0, .int .i64 0, .slice none 0 0]) 9 96 Tryz.underlying39 hi0 hz0 hz1 hz2 rfl (by omega) v X.length (flatU X) hown ⟨w.heap.size, 0, none⟩ 1 1 (rcells t a c).toList rfl
    (fun j u hu => by
      have := ha.cell (o := j) (v := u) (by simpa using hu)
      have e : (⟨w.heap.size, 0, none⟩ : Addr).add j = ⟨w.heap.size, j, none⟩ := by
        unfold Addr.add
        split
        · rename_i hz
          rw [hz]
        · simp
      rw [e]
      exact this)
    (by intro u hu; simp at hu; rcases hu with rfl | rfl | rfl | rfl | rfl | rfl | rfl | rfl | rfl <;> rfl) (by simp only [maxLen]; omega) (by omega) (Nat.zero_le _)
  have q : Keep (fun b => v.ownBlock = some b) w w' := (qa.mono (fun _ h => h.elim)).trans (nkeep_grown g3)
  have hbl : ∀ g, v'.ownBlock = some g → v.ownBlock = some g ∨ w.heap.size ≤ g := fun g hg => by
    rcases g5 with g5 | g5
    · exact .inl (by rw [← g5]; exact hg)
    · rw [g5] at hg
      injection hg with hg
      simp at hg
      exact .inr (by omega)
  have hlie : ∀ {a : Option Addr} {M : List T}, Lie w (fun k => ok k ∧ v.ownBlock ≠ some k) a M → Lie w' (fun k => ok k ∧ v'.ownBlock ≠ some k) a M := fun {a M} h => by
    have h1 : Lie w (fun k => (ok k ∧ v.ownBlock ≠ some k) ∧ k < w.heap.size) a M := by
      induction h with
      | nil a => exact .nil a
      | cons bl off L A C hL hb hok hC hc _ ih => exact .cons bl off L A C hL hb ⟨hok, hb⟩ hC hc ih
    refine (h1.keep q (fun b hb e => hb.1.2 e)).mono (fun k hk => ⟨hk.1.1, fun e => ?_⟩)
    rcases hbl k e with h | h
    · exact hk.1.2 h
    · have := hk.2
      omega
  refine ⟨v', w', hrun, ⟨X ++ [(t, a, c)], ⟨?_, fun g hg => ?_, fun x hx => ?_⟩, by simp⟩, q, hbl⟩
  · rw [List.length_append]
    have e : flatU (X ++ [(t, a, c)]) = flatU X ++ (rcells t a c).toList := by
      unfold flatU
      rw [List.flatMap_append]
      simp
    rw [e]
    exact g2
  · rcases hbl g hg with h | h
    · exact h2 g h
    · exact hok g h
  · rcases List.mem_append.1 hx with hx | hx
    · exact ⟨(h3 x hx).1, hlie (h3 x hx).2⟩
    · rw [List.mem_singleton.1 hx]
      exact ⟨hc, hlie hl⟩
end Go.Proofs.YtmeiboaagkoadaaGreatDoor.P08
