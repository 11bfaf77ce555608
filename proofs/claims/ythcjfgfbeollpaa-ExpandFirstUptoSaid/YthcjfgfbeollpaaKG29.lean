/- The document's None (layer 9), of right expressions. -/
import Derived.Test.YthcjfgfbeollpaaKG28
namespace Go.Proofs.Ythcjfgfbeollpaa.P09
open Go.RowKit Go.Proofs.Ythcjfgfbeollpaa.Base Go.Proofs.Ythcjfgfbeollpaa.Bytes Go.Proofs.Ythcjfgfbeollpaa.P07 Go.Proofs.Ythcjfgfbeollpaa.P08
open Go.Proofs.Ythcjfgfbeollpaa.Sets (ST)

theorem sub_RT {d : Nat} {t : T} (h : RT d t) {i : Nat} {s : T} (hs : t.subs[i]? = some s) : RT d s := RL_get h.subs hs
theorem kind5_one {d : Nat} {t : T} (h : RT d t) (hk : t.kind = 5) : ∃ s, t.subs = [s] ∧ 0 ≤ t.mn ∧ t.mn ≤ 20 ∧ (t.mx = -1 ∨ t.mn ≤ t.mx ∧ t.mx ≤ 20) ∧ (if rnd 5 s.kind then 1 ≤ d ∧ RT (d - 1) s else RT d s) := by
  cases t
  exact one_sub h hk
/-- What f says of every right expression smaller than n. -/
def NoneOk (t : T) : Prop := ∀ (d : Nat), RT d t → ∀ (a : Option Addr) (c : Nat) (w : World), Lie w (fun _ => True) a t.subs → Calls Try.prog 59 #[nodeV t a c] w fun e w' => e = .returned (.bool (noneB t)) ∧ Keep (fun _ => False) w w'

set_option maxRecDepth 100000 in
set_option maxHeartbeats 2000000 in
theorem fnone_all : ∀ (n : Nat) (t : T), SizeOf.sizeOf t < n → NoneOk t
  | 0, _, h => absurd h (Nat.not_lt_zero _)
  | n + 1, t, h => fun d hR a c w hL => by
    have hlen := hL.len
    have H0 := Lib.hid (And.intro ((Keep.refl (fun _ => False) w).alloc (.cells (ncells t a c) 27)) (And.intro (Bx.new (c := c) hL) (fnone_all n)))
    have hsub := fun (s : T) (i : Nat) (h : t.subs[i]? = some s) => sub_RT hR h
    have h5 := fun hk => kind5_one hR hk
    have e := noneB_eq t
    obtain ⟨A, hA⟩ : ∃ A, noneB t = A := ⟨_, rfl⟩
    rw [hA] at e ⊢
    have HE := Lib.hid (And.intro e (And.intro hsub h5))
    have HN := Lib.hid h
    clear hL e hA h hsub h5 hR
    by_cases k2 : t.kind = 2
    · obtain ⟨E, hE⟩ : ∃ E, eqB t.set ST.none = E := ⟨_, rfl⟩
      have es : ∀ W, (Op.equalIn 10000 24 (.agg #[.int .u64 (t.set.x0 : Int), .int .u64 (t.set.x1 : Int), .int .u64 (t.set.x2 : Int), .int .u64 (t.set.x3 : Int)]) (.agg #[.int .u64 0, .int .u64 0, .int .u64 0, .int .u64 0])).run Try.prog W = .ok E W := fun W => by
        rw [← hE]
        exact eq_set t.set ST.none W
      have hAE := HE.out.1
      rw [if_pos k2, hE] at hAE
      subst hAE
      have b2 : (t.kind == 2) = true := by simp [k2]
      clear k2 hE
      go_enter Try.func59, Try.ntmps59
      go_upto_region 1 with fail
      generalize (w.alloc (.cells (ncells t a c) 27)) = W at *
      generalize w.heap.size = n0 at *
      obtain ⟨c0, c1, c2, c3, c4, -, -, -⟩ := H0.out.2.1.eight
      go_wp2_with fail
      go_ret
      exact ⟨rfl, H0.out.1⟩
    have b2 : (t.kind == 2) = false := by simp [k2]
    by_cases k3 : t.kind = 3
    · have hA := HE.out.1
      rw [if_neg k2, if_pos k3] at hA
      have HA := Lib.hid hA
      have b3 : (t.kind == 3) = true := by simp [k3]
      have b4 : (t.kind == 4) = false := by simp [k3]
      have b5 : (t.kind == 5) = false := by simp [k3]
      clear k2 k3 hA
      go_enter Try.func59, Try.ntmps59
      go_upto_region 1 with fail
      generalize (w.alloc (.cells (ncells t a c) 27)) = W at *
      generalize w.heap.size = n0 at *
      obtain ⟨c0, -, -, -, -, -, -, -⟩ := H0.out.2.1.eight
      go_wp2_with fail
      clear c0
      go_loopg [3] t.subs.length (fun gg i wr => ∃ (k : Nat), i = .int .i64 k ∧ k + gg = t.subs.length ∧ anyN (t.subs.take k) = false ∧ Keep (fun _ => False) W wr)
      case atStart => exact ⟨0, rfl, by omega, by rw [List.take_zero, anyN], Keep.refl _ _⟩
      case round =>
        obtain ⟨k, rfl, hk, hM, hq⟩ := hrel
        have B1 := H0.out.2.1.keep hq
        obtain ⟨-, -, -, -, -, -, -, c7⟩ := B1.eight
        by_cases hlt : k < t.subs.length
        · have hlt' : (k : Int) < t.subs.length := by omega
          have i0 : (0 : Int) ≤ k := by omega
          obtain ⟨s, hs⟩ : ∃ s, t.subs[k]? = some s := ⟨t.subs[k], List.getElem?_eq_getElem hlt⟩
          obtain ⟨bl, off, a1, e1, rfl, L1, d0, d1, d2, d3, d4, d5, d6, d7⟩ := B1.sub hs
          have hsl := sub_less hs
          have ht := anyN_take hs
          have hget := anyN_get hs
          have hcall := H0.out.2.2 s (by have := HN.out; omega) d (HE.out.2.1 s k hs) a1 e1 wr L1
          obtain ⟨Y, hY⟩ : ∃ Y, noneB s = Y := ⟨_, rfl⟩
          rw [hY] at hcall ht hget
          rw [hM, Bool.false_or] at ht
          have HQ := Lib.hid (And.intro hq (And.intro hcall (And.intro ht hget)))
          clear hq hcall ht hM B1 hs hY hget
          go_wp2_with fail
          refine HQ.out.2.1.mono ?_
          rintro e w2 ⟨rfl, q2⟩
          have Q2 := Lib.hid (HQ.out.1.trans q2)
          clear q2 c7 d0 d1 d2 d3 d4 d5 d6 d7
          cases Y with
          | true =>
            go_wp2_with fail
            go_ret
            exact ⟨by rw [HA.out, HQ.out.2.2.2 (by simp)]; rfl, H0.out.1.trans Q2.out⟩
          | false =>
            go_wp2_with fail
            go_roundg (t.subs.length - (k + 1))
            case measure => omega
            case rel => exact ⟨k + 1, by go_num, by omega, HQ.out.2.2.1, Q2.out⟩
        · have hke : k = t.subs.length := by omega
          subst hke
          rw [List.take_length] at hM
          have HQ := Lib.hid (And.intro hq hM)
          clear hq hM B1
          go_wp2_with fail
          go_ret
          exact ⟨by rw [HA.out, HQ.out.2]; rfl, H0.out.1.trans HQ.out.1⟩
    have b3 : (t.kind == 3) = false := by simp [k3]
    by_cases k4 : t.kind = 4
    · have hA := HE.out.1
      rw [if_neg k2, if_neg k3, if_pos k4] at hA
      have HA := Lib.hid hA
      have b4 : (t.kind == 4) = true := by simp [k4]
      have b5 : (t.kind == 5) = false := by simp [k4]
      clear k2 k3 hA k4
      go_enter Try.func59, Try.ntmps59
      go_upto_region 1 with fail
      generalize (w.alloc (.cells (ncells t a c) 27)) = W at *
      generalize w.heap.size = n0 at *
      obtain ⟨c0, -, -, -, -, -, -, -⟩ := H0.out.2.1.eight
      go_wp2_with fail
      clear c0
      go_loopg [4] t.subs.length (fun gg i wr => ∃ (k : Nat), i = .int .i64 k ∧ k + gg = t.subs.length ∧ allN (t.subs.take k) = true ∧ Keep (fun _ => False) W wr)
      case atStart => exact ⟨0, rfl, by omega, by rw [List.take_zero, allN], Keep.refl _ _⟩
      case round =>
        obtain ⟨k, rfl, hk, hM, hq⟩ := hrel
        have B1 := H0.out.2.1.keep hq
        obtain ⟨-, -, -, -, -, -, -, c7⟩ := B1.eight
        by_cases hlt : k < t.subs.length
        · have hlt' : (k : Int) < t.subs.length := by omega
          have i0 : (0 : Int) ≤ k := by omega
          obtain ⟨s, hs⟩ : ∃ s, t.subs[k]? = some s := ⟨t.subs[k], List.getElem?_eq_getElem hlt⟩
          obtain ⟨bl, off, a1, e1, rfl, L1, d0, d1, d2, d3, d4, d5, d6, d7⟩ := B1.sub hs
          have hsl := sub_less hs
          have ht := allN_take hs
          have hget := allN_get hs
          have hcall := H0.out.2.2 s (by have := HN.out; omega) d (HE.out.2.1 s k hs) a1 e1 wr L1
          obtain ⟨Y, hY⟩ : ∃ Y, noneB s = Y := ⟨_, rfl⟩
          rw [hY] at hcall ht hget
          rw [hM, Bool.true_and] at ht
          have HQ := Lib.hid (And.intro hq (And.intro hcall (And.intro ht hget)))
          clear hq hcall ht hM B1 hs hY hget
          go_wp2_with fail
          refine HQ.out.2.1.mono ?_
          rintro e w2 ⟨rfl, q2⟩
          have Q2 := Lib.hid (HQ.out.1.trans q2)
          clear q2 c7 d0 d1 d2 d3 d4 d5 d6 d7
          cases Y with
          | false =>
            go_wp2_with fail
            go_ret
            exact ⟨by rw [HA.out, HQ.out.2.2.2 (by simp)]; rfl, H0.out.1.trans Q2.out⟩
          | true =>
            go_wp2_with fail
            go_roundg (t.subs.length - (k + 1))
            case measure => omega
            case rel => exact ⟨k + 1, by go_num, by omega, HQ.out.2.2.1, Q2.out⟩
        · have hke : k = t.subs.length := by omega
          subst hke
          rw [List.take_length] at hM
          have HQ := Lib.hid (And.intro hq hM)
          clear hq hM B1
          go_wp2_with fail
          go_ret
          exact ⟨by rw [HA.out, HQ.out.2]; rfl, H0.out.1.trans HQ.out.1⟩
    have b4 : (t.kind == 4) = false := by simp [k4]
    by_cases k5 : t.kind = 5
    · have hA := HE.out.1
      rw [if_neg k2, if_neg k3, if_neg k4, if_pos k5] at hA
      obtain ⟨s, hsub, m0, m1, -, -⟩ := HE.out.2.2 k5
      have hs : t.subs[0]? = some s := by rw [hsub]; rfl
      have hsl := sub_less hs
      have hl1 : t.subs.length = 1 := by rw [hsub]; rfl
      rw [show headN t.subs = noneB s from by rw [hsub, headN]] at hA
      have hcall := H0.out.2.2 s (by have := HN.out; omega) d (HE.out.2.1 s 0 hs)
      unfold NoneOk at hcall
      obtain ⟨Y, hY⟩ : ∃ Y, noneB s = Y := ⟨_, rfl⟩
      rw [hY] at hA
      have hcall2 := fun a c w hL => H0.out.2.2 s (by have := HN.out; omega) d (HE.out.2.1 s 0 hs) a c w hL
      rw [hY] at hcall2
      have b5 : (t.kind == 5) = true := by simp [k5]
      have HQ := Lib.hid (And.intro hA (And.intro hcall2 hs))
      clear k2 k3 hA k4 k5 hcall hcall2 hY hs hsub hlen
      go_enter Try.func59, Try.ntmps59
      go_upto_region 1 with fail
      generalize (w.alloc (.cells (ncells t a c) 27)) = W at *
      generalize w.heap.size = n0 at *
      obtain ⟨c0, -, -, -, -, c5, -, c7⟩ := H0.out.2.1.eight
      rw [hl1] at c7
      obtain ⟨bl, off, a1, e1, rfl, L1, d0, d1, d2, d3, d4, d5, d6, d7⟩ := H0.out.2.1.first HQ.out.2.2
      by_cases hm : 0 < t.mn
      · have hcl := Lib.hid (HQ.out.2.1 a1 e1 W L1)
        clear L1
        go_wp2_with fail
        refine hcl.out.mono ?_
        rintro e w2 ⟨rfl, q2⟩
        have Q2 := Lib.hid q2
        clear q2
        go_wp2_with fail
        go_ret
        exact ⟨by rw [HQ.out.1, decide_eq_true hm, Bool.true_and]; rfl, H0.out.1.trans Q2.out⟩
      · have hm' : t.mn ≤ 0 := by omega
        clear L1
        go_wp2_with fail
        go_ret
        exact ⟨by rw [HQ.out.1, decide_eq_false (show ¬ 0 < t.mn by omega), Bool.false_and]; rfl, H0.out.1⟩
    have b5 : (t.kind == 5) = false := by simp [k5]
    have hA := HE.out.1
    rw [if_neg k2, if_neg k3, if_neg k4, if_neg k5] at hA
    subst hA
    clear k2 k3 k4 k5
    go_enter Try.func59, Try.ntmps59
    go_upto_region 1 with fail
    generalize (w.alloc (.cells (ncells t a c) 27)) = W at *
    generalize w.heap.size = n0 at *
    obtain ⟨c0, -, -, -, -, -, -, -⟩ := H0.out.2.1.eight
    go_wp2_with fail
    go_ret
    exact ⟨rfl, H0.out.1⟩
theorem fnone_any (t : T) (d : Nat) (hR : RT d t) (a : Option Addr) (c : Nat) (w : World) (hL : Lie w (fun _ => True) a t.subs) : Calls Try.prog 59 #[nodeV t a c] w fun e w' => e = .returned (.bool (noneB t)) ∧ Keep (fun _ => False) w w' :=
  fnone_all _ t (Nat.lt_succ_self _) d hR a c w hL
end Go.Proofs.Ythcjfgfbeollpaa.P09
/- The document's Wide (layer 9), of right expressions. -/
namespace Go.Proofs.Ythcjfgfbeollpaa.P09
open Go.RowKit Go.Proofs.Ythcjfgfbeollpaa.Base Go.Proofs.Ythcjfgfbeollpaa.Bytes Go.Proofs.Ythcjfgfbeollpaa.P07 Go.Proofs.Ythcjfgfbeollpaa.P08
open Go.Proofs.Ythcjfgfbeollpaa.Sets (ST)

theorem times_bare {d : Nat} {t : T} (h : RT d t) : 0 ≤ t.mn ∧ t.mn ≤ 20 ∧ -1 ≤ t.mx ∧ t.mx ≤ 20 := by
  cases t
  have hb := h.bare.1
  unfold Bare at hb
  show 0 ≤ _ ∧ _ ≤ 20 ∧ -1 ≤ _ ∧ _ ≤ 20
  dsimp only [T.mn, T.mx]
  omega
mutual
theorem wd_bnd : ∀ (t : T) (d : Nat), RT d t → 0 ≤ wd t ∧ wd t ≤ 1073741824
  | .nd k s mn mx l, d, h => by
    have hm := times_bare h
    rw [wd]
    exact wdL_bnd l d k h.bare.2.2 mn mx hm.1 hm.2.2.1 1 (by omega) (by omega)
theorem wdL_bnd : ∀ (l : List T) (d : Nat) (k : Int), RL d k l → ∀ mn mx : Int, 0 ≤ mn → -1 ≤ mx → ∀ acc : Int, 0 ≤ acc → acc ≤ 1073741824 → 0 ≤ wdL k mn mx acc l ∧ wdL k mn mx acc l ≤ 1073741824
  | [], d, k, _, mn, mx, _, _, acc, h0, h1 => by rw [wdL]; exact ⟨h0, h1⟩
  | t :: l, d, k, h, mn, mx, hm, hx, acc, h0, h1 => by
    obtain ⟨ha, hb⟩ := RL_cons h
    rw [wdL]
    have h3 := wd_bnd t d (IS.rt (k := k) ha)
    have h4 := wstep_ge (k := k) h3.1 hm hx
    exact wdL_bnd l d k hb mn mx hm hx _ (by omega) (by omega)
end
theorem wdL_take {k mn mx acc : Int} {L : List T} {i : Nat} {s : T} (h : L[i]? = some s) : wdL k mn mx acc (L.take (i + 1)) = min (wdL k mn mx acc (L.take i) + wstep k mn mx (wd s)) 1073741824 := by
  rw [List.take_add_one, h]
  exact wdL_append k mn mx _ acc s
theorem RL_take {d : Nat} {k : Int} : ∀ (L : List T) (i : Nat), RL d k L → RL d k (L.take i)
  | [], i, h => by rw [List.take_nil]; exact h
  | t :: L, 0, h => by rw [List.take_zero, RL]; trivial
  | t :: L, i + 1, h => by
    obtain ⟨h1, h2⟩ := RL_cons h
    rw [List.take_succ_cons, RL]
    exact ⟨h1, RL_take L i h2⟩

set_option maxRecDepth 100000 in
set_option maxHeartbeats 2000000 in
theorem fwide_all : ∀ (n : Nat) (t : T), SizeOf.sizeOf t < n → ∀ (d : Nat), RT d t → ∀ (a : Option Addr) (c : Nat) (w : World), Lie w (fun _ => True) a t.subs →
    Calls Try.prog 18 #[nodeV t a c] w fun e w' => e = .returned (.int .i64 (wd t)) ∧ Keep (fun _ => False) w w'
  | 0, _, h, _, _, _, _, _, _ => absurd h (Nat.not_lt_zero _)
  | n + 1, t, h, d, hR, a, c, w, hL => by
    have hlen := hL.len
    have H0 := Lib.hid (And.intro ((Keep.refl (fun _ => False) w).alloc (.cells (ncells t a c) 27)) (And.intro (Bx.new (c := c) hL) (fwide_all n)))
    have hsub := fun (s : T) (i : Nat) (h : t.subs[i]? = some s) => sub_RT hR h
    have e := wd_eq t
    obtain ⟨A, hA⟩ : ∃ A, wd t = A := ⟨_, rfl⟩
    rw [hA] at e ⊢
    obtain ⟨m0, m1, x0, x1⟩ := times_bare hR
    have hpre := fun i => wdL_bnd (t.subs.take i) d t.kind (RL_take t.subs i hR.subs) t.mn t.mx m0 x0 1 (by omega) (by omega)
    have HE := Lib.hid (And.intro e (And.intro hsub hpre))
    have HN := Lib.hid h
    clear hL e hA h hsub hR hpre
    have hcase : ((t.kind == 5) = true ∧ (t.mx == -1) = true ∧ t.kind = 5 ∧ t.mx = -1) ∨ ((t.kind == 5) = true ∧ (t.mx == -1) = false ∧ t.kind = 5 ∧ t.mx ≠ -1) ∨ ((t.kind == 5) = false ∧ t.kind ≠ 5) := by
      by_cases h5 : t.kind = 5
      · by_cases hx : t.mx = -1
        · exact .inl ⟨by simp [h5], by simp [hx], h5, hx⟩
        · exact .inr (.inl ⟨by simp [h5], by simp [hx], h5, hx⟩)
      · exact .inr (.inr ⟨by simp [h5], h5⟩)
    go_enter Try.func18, Try.ntmps18
    go_upto_region 1 with fail
    generalize (w.alloc (.cells (ncells t a c) 27)) = W at *
    generalize w.heap.size = n0 at *
    go_wp2_with fail
    go_loopg [3, 4, 5] t.subs.length (fun gg m i s5 wr => ∃ (k : Nat) (M : Int), i = .int .i64 k ∧ k + gg = t.subs.length ∧ m = .int .i64 M ∧ M = wdL t.kind t.mn t.mx 1 (t.subs.take k) ∧ Keep (fun _ => False) W wr)
    case atStart => exact ⟨0, 1, rfl, by omega, rfl, by rw [List.take_zero, wdL], Keep.refl _ _⟩
    case round =>
      obtain ⟨k, M, rfl, hk, rfl, hM, hq⟩ := hrel
      have B1 := H0.out.2.1.keep hq
      obtain ⟨c0, -, -, -, -, c5, c6, c7⟩ := B1.eight
      have hMb := HE.out.2.2 k
      rw [← hM] at hMb
      by_cases hlt : k < t.subs.length
      · have hlt' : (k : Int) < t.subs.length := by omega
        have i0 : (0 : Int) ≤ k := by omega
        obtain ⟨s, hs⟩ : ∃ s, t.subs[k]? = some s := ⟨t.subs[k], List.getElem?_eq_getElem hlt⟩
        obtain ⟨bl, off, a1, e1, rfl, L1, d0, d1, d2, d3, d4, d5, d6, d7⟩ := B1.sub hs
        have hsl := sub_less hs
        have ht : _ = _ := wdL_take (k := t.kind) (mn := t.mn) (mx := t.mx) (acc := 1) hs
        rw [← hM] at ht
        have hwb := wd_bnd s d (HE.out.2.1 s k hs)
        have hcall := H0.out.2.2 s (by have := HN.out; omega) d (HE.out.2.1 s k hs) a1 e1 wr L1
        obtain ⟨V, hV⟩ : ∃ V, wd s = V := ⟨_, rfl⟩
        rw [hV] at hcall ht hwb
        have HQ := Lib.hid (And.intro hq (And.intro hcall hM))
        have HT := Lib.hid ht
        clear hq hcall ht hM B1 hs hV
        go_wp2_with fail
        refine HQ.out.2.1.mono ?_
        rintro e w2 ⟨rfl, q2⟩
        have Q2 := Lib.hid (HQ.out.1.trans q2)
        obtain ⟨c0, -, -, -, -, c5, c6, c7⟩ := (H0.out.2.1.keep Q2.out).eight
        clear q2 d0 d1 d2 d3 d4 d5 d6 d7
        have hM0 := hMb.1
        have hM1 := hMb.2
        have hV0 := hwb.1
        have hV1 := hwb.2
        clear hMb hwb
        rcases hcase with ⟨b5, bx, k5, kx⟩ | ⟨b5, bx, k5, kx⟩ | ⟨b5, k5⟩
        · have hst : wstep t.kind t.mn t.mx V = V * (t.mn + 1) + 1 := by unfold wstep; rw [if_pos ⟨k5, kx⟩]
          have hle := wstep_le (k := t.kind) (mx := t.mx) hV0 hV1 m0 m1 x1
          have hge := wstep_ge (k := t.kind) hV0 m0 x0
          rw [hst] at hle hge
          have HS := Lib.hid hst
          obtain ⟨P, hP⟩ : ∃ P, V * (t.mn + 1) = P := ⟨_, rfl⟩
          rw [hP] at hle hge
          have hw1 : IntKind.i64.wrap (V * (t.mn + 1)) = P := by rw [hP, IntKind.wrap_i64]; omega
          have HPP := Lib.hid hP
          clear k5 kx hst hP
          go_wp2_with fail
          go_roundg (t.subs.length - (k + 1))
          case measure => omega
          case rel => exact ⟨k + 1, _, by go_num, by omega, rfl, by rw [HT.out, HS.out, HPP.out], Q2.out⟩
        · have hst : wstep t.kind t.mn t.mx V = (V + 2) * t.mx := by unfold wstep; rw [if_neg (fun h => kx h.2), if_pos k5]
          have hle := wstep_le (k := t.kind) (mx := t.mx) hV0 hV1 m0 m1 x1
          have hge := wstep_ge (k := t.kind) hV0 m0 x0
          rw [hst] at hle hge
          have HS := Lib.hid hst
          obtain ⟨P, hP⟩ : ∃ P, (V + 2) * t.mx = P := ⟨_, rfl⟩
          rw [hP] at hle hge
          have hw1 : IntKind.i64.wrap ((V + 2) * t.mx) = P := by rw [hP, IntKind.wrap_i64]; omega
          have HPP := Lib.hid hP
          clear k5 kx hst hP
          go_wp2_with fail
          go_roundg (t.subs.length - (k + 1))
          case measure => omega
          case rel => exact ⟨k + 1, _, by go_num, by omega, rfl, by rw [HT.out, HS.out, HPP.out], Q2.out⟩
        · have hst : wstep t.kind t.mn t.mx V = V := by unfold wstep; rw [if_neg (fun h => k5 h.1), if_neg k5]
          have HS := Lib.hid hst
          clear k5 hst
          go_wp2_with fail
          go_roundg (t.subs.length - (k + 1))
          case measure => omega
          case rel => exact ⟨k + 1, _, by go_num, by omega, rfl, by rw [HT.out, HS.out], Q2.out⟩
      · have hke : k = t.subs.length := by omega
        subst hke
        rw [List.take_length] at hM
        have HQ := Lib.hid (And.intro hq hM)
        clear hq hM B1
        go_wp2_with fail
        go_ret
        exact ⟨by rw [HE.out.1, HQ.out.2]; rfl, H0.out.1.trans HQ.out.1⟩
theorem fwide_any (t : T) (d : Nat) (hR : RT d t) (a : Option Addr) (c : Nat) (w : World) (hL : Lie w (fun _ => True) a t.subs) : Calls Try.prog 18 #[nodeV t a c] w fun e w' => e = .returned (.int .i64 (wd t)) ∧ Keep (fun _ => False) w w' :=
  fwide_all _ t (Nat.lt_succ_self _) d hR a c w hL
end Go.Proofs.Ythcjfgfbeollpaa.P09
/- The document's Least (layer 9), of right expressions. -/
namespace Go.Proofs.Ythcjfgfbeollpaa.P09
open Go.RowKit Go.Proofs.Ythcjfgfbeollpaa.Base Go.Proofs.Ythcjfgfbeollpaa.Bytes Go.Proofs.Ythcjfgfbeollpaa.P07 Go.Proofs.Ythcjfgfbeollpaa.P08
open Go.Proofs.Ythcjfgfbeollpaa.Sets (ST)

theorem sumLe_append : ∀ (L : List T) (acc : Int) (t : T), sumLe acc (L ++ [t]) = sumLe acc L + leastI t
  | [], acc, t => by rw [List.nil_append, sumLe, sumLe, sumLe]
  | s :: L, acc, t => by rw [List.cons_append, sumLe, sumLe, sumLe_append L]
theorem sumLe_take {acc : Int} {L : List T} {i : Nat} {s : T} (h : L[i]? = some s) : sumLe acc (L.take (i + 1)) = sumLe acc (L.take i) + leastI s := by
  rw [List.take_add_one, h]
  exact sumLe_append _ acc s
theorem minLe_append : ∀ (L : List T) (acc : Int) (t : T), minLe acc (L ++ [t]) = if 0 ≤ leastI t ∧ (minLe acc L < 0 ∨ leastI t < minLe acc L) then leastI t else minLe acc L
  | [], acc, t => by rw [List.nil_append, minLe, minLe, minLe]
  | s :: L, acc, t => by rw [List.cons_append, minLe, minLe, minLe_append L]
theorem minLe_take {acc : Int} {L : List T} {i : Nat} {s : T} (h : L[i]? = some s) : minLe acc (L.take (i + 1)) = if 0 ≤ leastI s ∧ (minLe acc (L.take i) < 0 ∨ leastI s < minLe acc (L.take i)) then leastI s else minLe acc (L.take i) := by
  rw [List.take_add_one, h]
  exact minLe_append _ acc s
theorem anyN_pre : ∀ {L : List T} (i : Nat), anyN L = false → anyN (L.take i) = false
  | [], i, h => by rw [List.take_nil]; exact h
  | t :: L, 0, h => by rw [List.take_zero, anyN]
  | t :: L, i + 1, h => by
    rw [anyN, Bool.or_eq_false_iff] at h
    rw [List.take_succ_cons, anyN, h.1, anyN_pre i h.2]
    rfl
theorem anyN_sub {L : List T} {i : Nat} {s : T} (h : L[i]? = some s) (hn : anyN L = false) : noneB s = false := by
  cases e : noneB s with
  | false => rfl
  | true => rw [anyN_get h e] at hn; cases hn
/-- What the least of a right expression is, and that it fits. -/
def LeastOk (t : T) : Prop := ∀ (d : Nat), RT d t → bnd d (cnt t) ≤ 9000000000000000000 → ∀ (a : Option Addr) (c : Nat) (w : World), Lie w (fun _ => True) a t.subs → Calls Try.prog 27 #[nodeV t a c] w fun e w' => e = .returned (.int .i64 (leastI t)) ∧ Keep (fun _ => False) w w'

set_option maxRecDepth 100000 in
set_option maxHeartbeats 4000000 in
theorem fleast_all : ∀ (n : Nat) (t : T), SizeOf.sizeOf t < n → LeastOk t
  | 0, _, h => absurd h (Nat.not_lt_zero _)
  | n + 1, t, h => fun d hR hB a c w hL => by
    have hlen := hL.len
    have H0 := Lib.hid (And.intro ((Keep.refl (fun _ => False) w).alloc (.cells (ncells t a c) 27)) (And.intro (Bx.new (c := c) hL) (fleast_all n)))
    have hcb := fun (s : T) (i : Nat) (h : t.subs[i]? = some s) => bnd_mono (Nat.le_refl d) (show cnt s ≤ cnt t by have := cntL_le h; rw [cnt_eq t]; omega)
    have hcl : bnd d (cntL t.subs) ≤ bnd d (cnt t) := bnd_mono (Nat.le_refl d) (by rw [cnt_eq t]; omega)
    have hsub := fun (s : T) (i : Nat) (h : t.subs[i]? = some s) => sub_RT hR h
    have e := leastI_eq t
    have hnc := fun W (hq : Keep (fun _ => False) w W) => fnone_any t d hR a c W (hL.keepF hq)
    obtain ⟨A, hA⟩ : ∃ A, leastI t = A := ⟨_, rfl⟩
    obtain ⟨E, hE⟩ : ∃ E, noneB t = E := ⟨_, rfl⟩
    have hEq := noneB_eq t
    rw [hA, hE] at e
    rw [hE] at hnc hEq
    rw [hA]
    have HE := Lib.hid (And.intro e (And.intro hsub (And.intro hcb (And.intro hR (And.intro hnc (And.intro hB (And.intro hcl hEq)))))))
    have HN := Lib.hid h
    clear hL e hA h hsub hR hE hB hcl hnc hcb hEq
    obtain ⟨c0, c1, c2, c3, c4, c5, c6, c7⟩ := H0.out.2.1.eight
    go_enter Try.func27, Try.ntmps27
    go_upto_region 1 with fail
    generalize (w.alloc (.cells (ncells t a c) 27)) = W at *
    generalize w.heap.size = n0 at *
    go_wp2_with fail
    refine (HE.out.2.2.2.2.1 W H0.out.1).mono ?_
    rintro e w1 ⟨rfl, q1⟩
    have H1 := Lib.hid (And.intro (H0.out.2.1.keep q1) (H0.out.1.trans q1))
    clear q1 c0 c1 c2 c3 c4 c5 c6 c7
    have hA := HE.out.1
    cases E with
    | true =>
      rw [if_pos rfl] at hA
      subst hA
      go_wp2_with fail
      go_ret
      exact ⟨rfl, H1.out.2⟩
    | false =>
      rw [if_neg (by decide)] at hA
      have hNq := HE.out.2.2.2.2.2.2.2
      obtain ⟨c0, -, -, -, -, c5, -, c7⟩ := H1.out.1.eight
      by_cases k2 : t.kind = 2
      · rw [if_pos k2] at hA
        subst hA
        have b2 : (t.kind == 2) = true := by simp [k2]
        clear k2 hNq
        go_wp2_with fail
        go_ret
        exact ⟨rfl, H1.out.2⟩
      have b2 : (t.kind == 2) = false := by simp [k2]
      rw [if_neg k2] at hA hNq
      by_cases k3 : t.kind = 3
      · rw [if_pos k3] at hA hNq
        have HA := Lib.hid (And.intro hA hNq.symm)
        have b3 : (t.kind == 3) = true := by simp [k3]
        clear k2 k3 hA hNq
        go_wp2_with fail
        clear c0 c5 c7
        go_loopg [3, 4] t.subs.length (fun gg m i wr => ∃ (k : Nat) (M : Int), i = .int .i64 k ∧ k + gg = t.subs.length ∧ m = .int .i64 M ∧ M = sumLe 0 (t.subs.take k) ∧ Keep (fun _ => False) w1 wr)
        case atStart => exact ⟨0, 0, rfl, by omega, rfl, by rw [List.take_zero, sumLe], Keep.refl _ _⟩
        case round =>
          obtain ⟨k, M, rfl, hk, rfl, hM, hq⟩ := hrel
          have B1 := H1.out.1.keep hq
          obtain ⟨-, -, -, -, -, -, -, c7⟩ := B1.eight
          by_cases hlt : k < t.subs.length
          · have hlt' : (k : Int) < t.subs.length := by omega
            have i0 : (0 : Int) ≤ k := by omega
            obtain ⟨s, hs⟩ : ∃ s, t.subs[k]? = some s := ⟨t.subs[k], List.getElem?_eq_getElem hlt⟩
            obtain ⟨bl, off, a1, e1, rfl, L1, d0, d1, d2, d3, d4, d5, d6, d7⟩ := B1.sub hs
            have hsl := sub_less hs
            have ht := sumLe_take (acc := 0) hs
            have hb1 := sum_bnd (t.subs.take k) d t.kind (RL_take _ k HE.out.2.2.2.1.subs) (anyN_pre k HA.out.2) 0 (by omega)
            have hb2 := bnd_mono (Nat.le_refl d) (cntL_pre t.subs (k + 1))
            have hb3 := sum_bnd (t.subs.take (k + 1)) d t.kind (RL_take _ (k + 1) HE.out.2.2.2.1.subs) (anyN_pre (k + 1) HA.out.2) 0 (by omega)
            rw [ht] at hb3
            have hb4 := HE.out.2.2.2.2.2.2.1
            have hb5 := HE.out.2.2.2.2.2.1
            have hpos := (least_bnd s d (HE.out.2.1 s k hs)).2.1 (anyN_sub hs HA.out.2)
            have hcall := H0.out.2.2 s (by have := HN.out; omega) d (HE.out.2.1 s k hs) (by have := HE.out.2.2.1 s k hs; omega) a1 e1 wr L1
            obtain ⟨V, hV⟩ : ∃ V, leastI s = V := ⟨_, rfl⟩
            rw [← hM, hV] at hb3
            rw [← hM] at hb1
            rw [hV] at hcall hpos ht
            rw [← hM] at ht
            have hM0 : 0 ≤ M := hb1.1
            have hMV : M + V ≤ 9000000000000000000 := by omega
            have HQ := Lib.hid (And.intro hq (And.intro hcall ht))
            clear hq hcall ht hM B1 hs hV hb1 hb2 hb3 hb4 hb5
            go_wp2_with fail
            refine HQ.out.2.1.mono ?_
            rintro e w2 ⟨rfl, q2⟩
            have Q2 := Lib.hid (HQ.out.1.trans q2)
            clear q2 c7 d0 d1 d2 d3 d4 d5 d6 d7
            go_wp2_with fail
            go_roundg (t.subs.length - (k + 1))
            case measure => omega
            case rel => exact ⟨k + 1, M + V, by go_num, by omega, by go_num, HQ.out.2.2.symm, Q2.out⟩
          · have hke : k = t.subs.length := by omega
            subst hke
            rw [List.take_length] at hM
            have HQ := Lib.hid (And.intro hq hM)
            clear hq hM B1
            go_wp2_with fail
            go_ret
            exact ⟨by rw [HA.out.1, HQ.out.2]; rfl, H1.out.2.trans HQ.out.1⟩
      have b3 : (t.kind == 3) = false := by simp [k3]
      rw [if_neg k3] at hA hNq
      by_cases k4 : t.kind = 4
      · rw [if_pos k4] at hA
        have HA := Lib.hid hA
        have b4 : (t.kind == 4) = true := by simp [k4]
        have b5 : (t.kind == 5) = false := by simp [k4]
        clear k2 k3 k4 hA hNq
        go_wp2_with fail
        clear c0 c5 c7
        go_loopg [5, 6, 7] t.subs.length (fun gg m i s7 wr => ∃ (k : Nat) (M : Int), i = .int .i64 k ∧ k + gg = t.subs.length ∧ m = .int .i64 M ∧ M = minLe (-1) (t.subs.take k) ∧ Keep (fun _ => False) w1 wr)
        case atStart => exact ⟨0, -1, rfl, by omega, rfl, by rw [List.take_zero, minLe], Keep.refl _ _⟩
        case round =>
          obtain ⟨k, M, rfl, hk, rfl, hM, hq⟩ := hrel
          have B1 := H1.out.1.keep hq
          obtain ⟨-, -, -, -, -, -, -, c7⟩ := B1.eight
          by_cases hlt : k < t.subs.length
          · have hlt' : (k : Int) < t.subs.length := by omega
            have i0 : (0 : Int) ≤ k := by omega
            obtain ⟨s, hs⟩ : ∃ s, t.subs[k]? = some s := ⟨t.subs[k], List.getElem?_eq_getElem hlt⟩
            obtain ⟨bl, off, a1, e1, rfl, L1, d0, d1, d2, d3, d4, d5, d6, d7⟩ := B1.sub hs
            have hsl := sub_less hs
            have ht := minLe_take (acc := -1) hs
            have hb5 := HE.out.2.2.2.2.2.1
            have hcall := H0.out.2.2 s (by have := HN.out; omega) d (HE.out.2.1 s k hs) (by have := HE.out.2.2.1 s k hs; omega) a1 e1 wr L1
            obtain ⟨V, hV⟩ : ∃ V, leastI s = V := ⟨_, rfl⟩
            rw [hV] at hcall ht
            rw [← hM] at ht
            have HQ := Lib.hid (And.intro hq (And.intro hcall ht))
            clear hq hcall ht hM B1 hs hV hb5
            go_wp2_with fail
            refine HQ.out.2.1.mono ?_
            rintro e w2 ⟨rfl, q2⟩
            have Q2 := Lib.hid (HQ.out.1.trans q2)
            clear q2 c7 d0 d1 d2 d3 d4 d5 d6 d7
            have hc : (0 ≤ V ∧ M < 0) ∨ (0 ≤ V ∧ 0 ≤ M ∧ V < M) ∨ (0 ≤ V ∧ 0 ≤ M ∧ M ≤ V) ∨ V < 0 := by omega
            have ht := HQ.out.2.2
            rcases hc with ⟨v0, m0⟩ | ⟨v0, m0, vm⟩ | ⟨v0, m0, vm⟩ | v0
            · rw [if_pos ⟨v0, .inl m0⟩] at ht
              have HT := Lib.hid ht
              clear ht
              go_wp2_with fail
              go_roundg (t.subs.length - (k + 1))
              case measure => omega
              case rel => exact ⟨k + 1, V, by go_num, by omega, rfl, HT.out.symm, Q2.out⟩
            · rw [if_pos ⟨v0, .inr vm⟩] at ht
              have HT := Lib.hid ht
              clear ht
              go_wp2_with fail
              go_roundg (t.subs.length - (k + 1))
              case measure => omega
              case rel => exact ⟨k + 1, V, by go_num, by omega, rfl, HT.out.symm, Q2.out⟩
            · rw [if_neg (by omega)] at ht
              have HT := Lib.hid ht
              clear ht
              go_wp2_with fail
              go_roundg (t.subs.length - (k + 1))
              case measure => omega
              case rel => exact ⟨k + 1, M, by go_num, by omega, rfl, HT.out.symm, Q2.out⟩
            · rw [if_neg (by omega)] at ht
              have HT := Lib.hid ht
              clear ht
              go_wp2_with fail
              go_roundg (t.subs.length - (k + 1))
              case measure => omega
              case rel => exact ⟨k + 1, M, by go_num, by omega, rfl, HT.out.symm, Q2.out⟩
          · have hke : k = t.subs.length := by omega
            subst hke
            rw [List.take_length] at hM
            have HQ := Lib.hid (And.intro hq hM)
            clear hq hM B1
            go_wp2_with fail
            go_ret
            exact ⟨by rw [HA.out, HQ.out.2]; rfl, H1.out.2.trans HQ.out.1⟩
      have b4 : (t.kind == 4) = false := by simp [k4]
      rw [if_neg k4] at hA hNq
      by_cases k5 : t.kind = 5
      · by_cases hm : 0 < t.mn
        · rw [if_pos ⟨k5, hm⟩] at hA
          rw [if_pos k5, decide_eq_true hm, Bool.true_and] at hNq
          obtain ⟨s, hsub, m0, m1, -, hra⟩ := kind5_one HE.out.2.2.2.1 k5
          have hs : t.subs[0]? = some s := by rw [hsub]; rfl
          have hsl := sub_less hs
          have hl1 : t.subs.length = 1 := by rw [hsub]; rfl
          rw [show headLe t.subs = leastI s from by rw [hsub, headLe]] at hA
          rw [show headN t.subs = noneB s from by rw [hsub, headN]] at hNq
          have hbb := HE.out.2.2.2.2.2.1
          have hcs := HE.out.2.2.1 s 0 hs
          have hcall := fun a c w hL => H0.out.2.2 s (by have := HN.out; omega) d (HE.out.2.1 s 0 hs) (by omega) a c w hL
          have hpos := (least_bnd s d (HE.out.2.1 s 0 hs)).2.1 hNq.symm
          have hrb := rep_bnd hra hpos (fun e he => (least_bnd s e he).2.2) (fun hk => by rw [leastI_eq, ← hNq, if_neg (by decide), if_pos hk]; omega) m1
          have hct : cnt s + 1 ≤ cnt t := by rw [cnt_eq t, hsub, cntL, cntL]; omega
          have hb9 := bnd_mono (Nat.le_refl d) hct
          have hp0 := Int.mul_nonneg m0 hpos
          obtain ⟨V, hV⟩ : ∃ V, leastI s = V := ⟨_, rfl⟩
          rw [hV] at hcall hA hrb hpos hp0
          rw [Int.mul_comm] at hrb
          obtain ⟨P, hP⟩ : ∃ P, t.mn * V = P := ⟨_, rfl⟩
          rw [hP] at hrb hp0
          have hw1 : IntKind.i64.wrap (t.mn * V) = P := by rw [hP, IntKind.wrap_i64]; omega
          have hAP : A = P := by rw [hA, hP]
          subst hAP
          have b5 : (t.kind == 5) = true := by simp [k5]
          have HQ := Lib.hid (And.intro hcall hs)
          rw [hl1] at c7
          clear k2 k3 k4 k5 hA hNq hcall hs hsub hbb hcs hrb hct hb9 hV hP hra
          obtain ⟨bl, off, a1, e1, rfl, L1, d0, d1, d2, d3, d4, d5, d6, d7⟩ := H1.out.1.first HQ.out.2
          have hS : ∀ w', Keep (fun _ => False) w1 w' → Keep (fun _ => False) w1 w' ∧ w'.cell? ⟨n0, 5, none⟩ = some (.int .i64 t.mn) ∧ w'.cell? ⟨n0, 7, none⟩ = some (.slice (some ⟨bl, off, none⟩) 1 c) ∧ w'.cell? ⟨bl, off, none⟩ = some (.int .i64 s.kind) ∧ w'.cell? ⟨bl, off + 1, none⟩ = some (.int .u64 s.set.x0) ∧ w'.cell? ⟨bl, off + 2, none⟩ = some (.int .u64 s.set.x1) ∧ w'.cell? ⟨bl, off + 3, none⟩ = some (.int .u64 s.set.x2) ∧ w'.cell? ⟨bl, off + 4, none⟩ = some (.int .u64 s.set.x3) ∧ w'.cell? ⟨bl, off + 5, none⟩ = some (.int .i64 s.mn) ∧ w'.cell? ⟨bl, off + 6, none⟩ = some (.int .i64 s.mx) ∧ w'.cell? ⟨bl, off + 7, none⟩ = some (.slice a1 s.subs.length e1) := fun w' q' => by
            have e := fun (p : Addr) v (hv : w1.cell? p = some v) => (q'.cell (a := p) (World.block_lt_of_cell? w1 _ hv) (fun h => h)).trans hv
            exact ⟨q', e _ _ c5, e _ _ c7, e _ _ d0, e _ _ d1, e _ _ d2, e _ _ d3, e _ _ d4, e _ _ d5, e _ _ d6, e _ _ d7⟩
          have HS := Lib.hid (And.intro hS (fun w' (q' : Keep (fun _ => False) w1 w') => HQ.out.1 a1 e1 w' (L1.keepF q')))
          clear hS L1
          go_wp2_with fail
          go_region_held3 (fun w' => Keep (fun _ => False) w1 w' ∧ w'.cell? ⟨n0, 5, none⟩ = some (.int .i64 t.mn) ∧ w'.cell? ⟨n0, 7, none⟩ = some (.slice (some ⟨bl, off, none⟩) 1 c) ∧ w'.cell? ⟨bl, off, none⟩ = some (.int .i64 s.kind) ∧ w'.cell? ⟨bl, off + 1, none⟩ = some (.int .u64 s.set.x0) ∧ w'.cell? ⟨bl, off + 2, none⟩ = some (.int .u64 s.set.x1) ∧ w'.cell? ⟨bl, off + 3, none⟩ = some (.int .u64 s.set.x2) ∧ w'.cell? ⟨bl, off + 4, none⟩ = some (.int .u64 s.set.x3) ∧ w'.cell? ⟨bl, off + 5, none⟩ = some (.int .i64 s.mn) ∧ w'.cell? ⟨bl, off + 6, none⟩ = some (.int .i64 s.mx) ∧ w'.cell? ⟨bl, off + 7, none⟩ = some (.slice a1 s.subs.length e1)) (first | exact HS.out.1 _ ((Keep.refl _ _).drew) | exact HS.out.1 _ (Keep.trans (And.left (by assumption)) q)) (first
            | (go_at_call 27; refine (HS.out.2 _ (And.left (by assumption))).mono ?_; rintro e w4 ⟨rfl, q⟩))
          all_goals
            rename_i hh
            have HK := Lib.hid (H1.out.2.trans hh.1)
            clear hh
            go_wp2_with fail
            go_ret
            exact ⟨rfl, HK.out⟩
        · rw [if_neg (fun h => hm h.2)] at hA
          subst hA
          have b5 : (t.kind == 5) = true := by simp [k5]
          have hm' : t.mn ≤ 0 := by omega
          clear k2 k3 k4 k5 hNq
          go_wp2_with fail
          go_ret
          exact ⟨rfl, H1.out.2⟩
      · rw [if_neg (fun h => k5 h.1)] at hA
        subst hA
        have b5 : (t.kind == 5) = false := by simp [k5]
        clear k2 k3 k4 k5 hNq
        go_wp2_with fail
        go_ret
        exact ⟨rfl, H1.out.2⟩
theorem fleast_any (t : T) (d : Nat) (hR : RT d t) (hB : bnd d (cnt t) ≤ 9000000000000000000) (a : Option Addr) (c : Nat) (w : World) (hL : Lie w (fun _ => True) a t.subs) : Calls Try.prog 27 #[nodeV t a c] w fun e w' => e = .returned (.int .i64 (leastI t)) ∧ Keep (fun _ => False) w w' :=
  fleast_all _ t (Nat.lt_succ_self _) d hR hB a c w hL
end Go.Proofs.Ythcjfgfbeollpaa.P09
/- The document's Most (layer 9), of right expressions. -/
namespace Go.Proofs.Ythcjfgfbeollpaa.P09
open Go.RowKit Go.Proofs.Ythcjfgfbeollpaa.Base Go.Proofs.Ythcjfgfbeollpaa.Bytes Go.Proofs.Ythcjfgfbeollpaa.P07 Go.Proofs.Ythcjfgfbeollpaa.P08
open Go.Proofs.Ythcjfgfbeollpaa.Sets (ST)

theorem mostL_append (k : Int) : ∀ (L R : List T) (acc : Int), 0 ≤ acc → mostL k acc (L ++ R) = if mostL k acc L < 0 then -1 else mostL k (mostL k acc L) R
  | [], R, acc, h => by
    rw [List.nil_append, mostL, if_neg (by omega)]
  | t :: L, R, acc, h => by
    rw [List.cons_append, mostL, mostL]
    by_cases hn : noneB t = true
    · rw [if_pos hn, if_pos hn]
      exact mostL_append k L R acc h
    · rw [if_neg hn, if_neg hn]
      by_cases hm : mostI t < 0
      · rw [if_pos hm, if_pos hm]
        rfl
      · rw [if_neg hm, if_neg hm]
        exact mostL_append k L R _ (by split <;> omega)
/-- One part more; and where it has no longest one, the whole has none. -/
theorem mostL_take {k : Int} {L : List T} {i : Nat} {s : T} {M : Int} (h : L[i]? = some s) (hM : mostL k 0 (L.take i) = M) (h0 : 0 ≤ M) : mostL k 0 (L.take (i + 1)) = if noneB s = true then M else if mostI s < 0 then -1 else (if k = 3 then M + mostI s else max M (mostI s)) := by
  rw [List.take_add_one, h]
  show mostL k 0 (L.take i ++ [s]) = _
  rw [mostL_append k _ _ 0 (by omega), hM, if_neg (by omega), mostL, mostL, mostL]
theorem mostL_stop {k : Int} {L : List T} {i : Nat} {s : T} {M : Int} (h : L[i]? = some s) (hM : mostL k 0 (L.take i) = M) (h0 : 0 ≤ M) (hn : noneB s = false) (hm : mostI s < 0) : mostL k 0 L = -1 := by
  have hk : i < L.length := (List.getElem?_eq_some_iff.1 h).1
  have e : L[i] = s := (List.getElem?_eq_some_iff.1 h).2
  have e2 : L = L.take i ++ (s :: L.drop (i + 1)) := by
    rw [← e, ← List.drop_eq_getElem_cons hk, List.take_append_drop]
  rw [e2, mostL_append k _ _ 0 (by omega), hM, if_neg (by omega), mostL, if_neg (by rw [hn]; decide), if_pos hm]
def MostOk (t : T) : Prop := ∀ (d : Nat), RT d t → bnd d (cnt t) ≤ 9000000000000000000 → ∀ (a : Option Addr) (c : Nat) (w : World), Lie w (fun _ => True) a t.subs → Calls Try.prog 28 #[nodeV t a c] w fun e w' => e = .returned (.int .i64 (mostI t)) ∧ Keep (fun _ => False) w w'

set_option maxRecDepth 100000 in
set_option maxHeartbeats 4000000 in
theorem fmost_all : ∀ (n : Nat) (t : T), SizeOf.sizeOf t < n → MostOk t
  | 0, _, h => absurd h (Nat.not_lt_zero _)
  | n + 1, t, h => fun d hR hB a c w hL => by
    have hlen := hL.len
    have H0 := Lib.hid (And.intro ((Keep.refl (fun _ => False) w).alloc (.cells (ncells t a c) 27)) (And.intro (Bx.new (c := c) hL) (fmost_all n)))
    have hcb := fun (s : T) (i : Nat) (h : t.subs[i]? = some s) => bnd_mono (Nat.le_refl d) (show cnt s ≤ cnt t by have := cntL_le h; rw [cnt_eq t]; omega)
    have hcl : bnd d (cntL t.subs) ≤ bnd d (cnt t) := bnd_mono (Nat.le_refl d) (by rw [cnt_eq t]; omega)
    have hsub := fun (s : T) (i : Nat) (h : t.subs[i]? = some s) => sub_RT hR h
    have e := mostI_eq t
    have hnc := fun W (hq : Keep (fun _ => False) w W) => fnone_any t d hR a c W (hL.keepF hq)
    obtain ⟨A, hA⟩ : ∃ A, mostI t = A := ⟨_, rfl⟩
    obtain ⟨E, hE⟩ : ∃ E, noneB t = E := ⟨_, rfl⟩
    rw [hA, hE] at e
    rw [hE] at hnc
    rw [hA]
    have HE := Lib.hid (And.intro e (And.intro hsub (And.intro hcb (And.intro hR (And.intro hnc (And.intro hB hcl))))))
    have HN := Lib.hid h
    clear hL e hA h hsub hR hE hB hcl hnc hcb
    obtain ⟨c0, c1, c2, c3, c4, c5, c6, c7⟩ := H0.out.2.1.eight
    go_enter Try.func28, Try.ntmps28
    go_upto_region 1 with fail
    generalize (w.alloc (.cells (ncells t a c) 27)) = W at *
    generalize w.heap.size = n0 at *
    go_wp2_with fail
    refine (HE.out.2.2.2.2.1 W H0.out.1).mono ?_
    rintro e w1 ⟨rfl, q1⟩
    have H1 := Lib.hid (And.intro (H0.out.2.1.keep q1) (H0.out.1.trans q1))
    clear q1 c0 c1 c2 c3 c4 c5 c6 c7
    have hA := HE.out.1
    cases E with
    | true =>
      rw [if_pos rfl] at hA
      subst hA
      go_wp2_with fail
      go_ret
      exact ⟨rfl, H1.out.2⟩
    | false =>
      rw [if_neg (by decide)] at hA
      obtain ⟨c0, -, -, -, -, -, c6, c7⟩ := H1.out.1.eight
      by_cases k2 : t.kind = 2
      · rw [if_pos k2] at hA
        subst hA
        have b2 : (t.kind == 2) = true := by simp [k2]
        clear k2
        go_wp2_with fail
        go_ret
        exact ⟨rfl, H1.out.2⟩
      have b2 : (t.kind == 2) = false := by simp [k2]
      rw [if_neg k2] at hA
      by_cases k34 : t.kind = 3 ∨ t.kind = 4
      · rw [if_pos k34] at hA
        have HA := Lib.hid hA
        have b5 : (t.kind == 5) = false := by simp; omega
        have hb34 : ((t.kind == 3) = true ∧ (t.kind == 4) = false ∧ t.kind = 3) ∨ ((t.kind == 3) = false ∧ (t.kind == 4) = true ∧ t.kind ≠ 3) := by
          rcases k34 with h | h
          · exact .inl ⟨by simp [h], by simp [h], h⟩
          · exact .inr ⟨by simp [h], by simp [h], by omega⟩
        clear k2 k34 hA
        rcases hb34 with ⟨b3, b4, h3⟩ | ⟨b3, b4, h3⟩
        all_goals
          have H3 := Lib.hid h3
          clear h3
          go_wp2_with fail
          clear c0 c6 c7
          go_loopg [3, 4, 5] t.subs.length (fun gg m i s5 wr => ∃ (k : Nat) (M : Int), i = .int .i64 k ∧ k + gg = t.subs.length ∧ m = .int .i64 M ∧ mostL t.kind 0 (t.subs.take k) = M ∧ 0 ≤ M ∧ Keep (fun _ => False) w1 wr)
          case atStart => exact ⟨0, 0, rfl, by omega, rfl, by rw [List.take_zero, mostL], by omega, Keep.refl _ _⟩
          case round =>
            obtain ⟨k, M, rfl, hk, rfl, hM, hM0, hq⟩ := hrel
            have B1 := H1.out.1.keep hq
            obtain ⟨c0, -, -, -, -, -, -, c7⟩ := B1.eight
            by_cases hlt : k < t.subs.length
            · have hlt' : (k : Int) < t.subs.length := by omega
              have i0 : (0 : Int) ≤ k := by omega
              obtain ⟨s, hs⟩ : ∃ s, t.subs[k]? = some s := ⟨t.subs[k], List.getElem?_eq_getElem hlt⟩
              obtain ⟨bl, off, a1, e1, rfl, L1, d0, d1, d2, d3, d4, d5, d6, d7⟩ := B1.sub hs
              have hsl := sub_less hs
              have ht := mostL_take hs hM hM0
              have hst := mostL_stop hs hM hM0
              have hb2 := bnd_mono (Nat.le_refl d) (cntL_pre t.subs (k + 1))
              have hb3 := mostL_bnd (t.subs.take (k + 1)) d t.kind (RL_take _ (k + 1) HE.out.2.2.2.1.subs) 0 (by omega)
              have hb4 := HE.out.2.2.2.2.2.2
              have hb5 := HE.out.2.2.2.2.2.1
              have hnn := fun W hL => fnone_any s d (HE.out.2.1 s k hs) a1 e1 W hL
              have hcall := fun W hL => H0.out.2.2 s (by have := HN.out; omega) d (HE.out.2.1 s k hs) (by have := HE.out.2.2.1 s k hs; omega) a1 e1 W hL
              have hV1 := (most_bnd s d (HE.out.2.1 s k hs)).1
              have hcs := HE.out.2.2.1 s k hs
              have hV2 := (most_bnd s d (HE.out.2.1 s k hs)).2
              obtain ⟨V, hV⟩ : ∃ V, mostI s = V := ⟨_, rfl⟩
              obtain ⟨F, hF⟩ : ∃ F, noneB s = F := ⟨_, rfl⟩
              rw [hV] at hcall ht hst hV1 hV2
              rw [hF] at hnn ht hst
              have hMV : F = false → 0 ≤ V → t.kind = 3 → M + V ≤ 9000000000000000000 := fun hf hv h3 => by
                rw [hf, if_neg (by decide), if_neg (by omega), if_pos h3] at ht
                rw [ht] at hb3
                omega
              have HQ := Lib.hid (And.intro hq (And.intro hcall (And.intro ht (And.intro hst (And.intro hnn (And.intro L1 (And.intro hM hMV)))))))
              have hVb : V ≤ 9000000000000000000 := by omega
              clear hq hcall ht hM B1 hs hV hF hst hb2 hb3 hb4 hb5 hnn L1 hMV hcs hV2
              go_wp2_with fail
              refine (HQ.out.2.2.2.2.1 wr HQ.out.2.2.2.2.2.1).mono ?_
              rintro e w2 ⟨rfl, q2⟩
              have L2 := Lib.hid (And.intro (HQ.out.2.2.2.2.2.1.keepF q2) (HQ.out.1.trans q2))
              have B2 := H1.out.1.keep L2.out.2
              have hq' : ∀ (p : Addr) v, wr.cell? p = some v → w2.cell? p = some v := fun p v hv => (q2.cell (a := p) (World.block_lt_of_cell? wr _ hv) (fun h => h)).trans hv
              have g0 := hq' _ _ d0
              have g1 := hq' _ _ d1
              have g2 := hq' _ _ d2
              have g3 := hq' _ _ d3
              have g4 := hq' _ _ d4
              have g5 := hq' _ _ d5
              have g6 := hq' _ _ d6
              have g7 := hq' _ _ d7
              clear d0 d1 d2 d3 d4 d5 d6 d7 c0 c7 hq' q2
              obtain ⟨c0, -, -, -, -, -, -, c7⟩ := B2.eight
              clear B2
              have ht := HQ.out.2.2.1
              cases F with
              | true =>
                rw [if_pos rfl] at ht
                have HT := Lib.hid ht
                clear ht
                go_wp2_with fail
                go_roundg (t.subs.length - (k + 1))
                case measure => omega
                case rel => exact ⟨k + 1, M, by go_num, by omega, rfl, HT.out, hM0, L2.out.2⟩
              | false =>
                rw [if_neg (by decide)] at ht
                have HT := Lib.hid ht
                have HMV := Lib.hid (HQ.out.2.2.2.2.2.2.2 rfl)
                have HST := Lib.hid (HQ.out.2.2.2.1 rfl)
                clear ht
                go_wp2_with fail
                refine (HQ.out.2.1 w2 L2.out.1).mono ?_
                rintro e w3 ⟨rfl, q3⟩
                have Q3 := Lib.hid (L2.out.2.trans q3)
                have B3 := H1.out.1.keep Q3.out
                clear q3 g0 g1 g2 g3 g4 g5 g6 g7 c0 c7
                obtain ⟨c0, -, -, -, -, -, -, -⟩ := B3.eight
                clear B3
                by_cases hv : V < 0
                · have HS := Lib.hid (HST.out hv)
                  go_wp2_with fail
                  go_ret
                  exact ⟨by rw [HA.out, HS.out]; rfl, H1.out.2.trans Q3.out⟩
                · have hv' : 0 ≤ V := by omega
                  have ht := HT.out
                  rw [if_neg hv] at ht
                  first
                    | (rw [if_pos H3.out] at ht
                       have HT2 := Lib.hid ht
                       have hmv := HMV.out hv' H3.out
                       clear ht
                       go_wp2_with fail
                       go_roundg (t.subs.length - (k + 1))
                       case measure => omega
                       case rel => exact ⟨k + 1, M + V, by go_num, by omega, by go_num, HT2.out, by omega, Q3.out⟩)
                    | (rw [if_neg H3.out] at ht
                       have HT2 := Lib.hid ht
                       clear ht
                       go_wp2_with fail
                       go_roundg (t.subs.length - (k + 1))
                       case measure => omega
                       case rel => exact ⟨k + 1, max M V, by go_num, by omega, rfl, HT2.out, by omega, Q3.out⟩)
            · have hke : k = t.subs.length := by omega
              subst hke
              rw [List.take_length] at hM
              have HQ := Lib.hid (And.intro hq hM)
              clear hq hM B1 c0
              go_wp2_with fail
              go_ret
              exact ⟨by rw [HA.out, HQ.out.2]; rfl, H1.out.2.trans HQ.out.1⟩
      have b3 : (t.kind == 3) = false := by simp; omega
      have b4 : (t.kind == 4) = false := by simp; omega
      rw [if_neg k34] at hA
      by_cases k5 : t.kind = 5
      · rw [if_pos k5] at hA
        obtain ⟨s, hsub, m0, m1, hxx, hra⟩ := kind5_one HE.out.2.2.2.1 k5
        have hs : t.subs[0]? = some s := by rw [hsub]; rfl
        have hsl := sub_less hs
        have hl1 : t.subs.length = 1 := by rw [hsub]; rfl
        rw [show headM t.subs = mostI s from by rw [hsub, headM], show headN t.subs = noneB s from by rw [hsub, headN]] at hA
        have hbb := HE.out.2.2.2.2.2.1
        have hcs := HE.out.2.2.1 s 0 hs
        have hcall := fun a c w hL => H0.out.2.2 s (by have := HN.out; omega) d (HE.out.2.1 s 0 hs) (by omega) a c w hL
        have hnn := fun a c w hL => fnone_any s d (HE.out.2.1 s 0 hs) a c w hL
        have hV1 := (most_bnd s d (HE.out.2.1 s 0 hs)).1
        have hrb := fun (h : 0 ≤ mostI s) => rep_bnd hra h (fun e he => (most_bnd s e he).2) (fun hk => by rw [mostI_eq]; split <;> first | omega | (rw [if_pos hk]; omega)) (show t.mx ≤ 20 by omega)
        have hct : cnt s + 1 ≤ cnt t := by rw [cnt_eq t, hsub, cntL, cntL]; omega
        have hb9 := bnd_mono (Nat.le_refl d) hct
        obtain ⟨V, hV⟩ : ∃ V, mostI s = V := ⟨_, rfl⟩
        obtain ⟨F, hF⟩ : ∃ F, noneB s = F := ⟨_, rfl⟩
        rw [hV] at hcall hA hrb hV1
        rw [hF] at hnn hA
        have b5 : (t.kind == 5) = true := by simp [k5]
        have hmx : t.mx = -1 ∨ 0 ≤ t.mx := by omega
        have HQ := Lib.hid (And.intro hcall (And.intro hs (And.intro hnn hrb)))
        have hB9 : bnd d (cnt s + 1) ≤ 9000000000000000000 := by omega
        rw [hl1] at c7
        clear k2 k34 k5 hcall hs hsub hbb hcs hrb hct hb9 hV hF hra hnn hxx m0 m1
        obtain ⟨bl, off, a1, e1, rfl, L1, d0, d1, d2, d3, d4, d5, d6, d7⟩ := H1.out.1.first HQ.out.2.1
        have HL := Lib.hid L1
        clear L1
        have hfx : (F = true ∨ t.mx = 0) ∨ (F = false ∧ t.mx ≠ 0) := by
          cases F
          · by_cases h : t.mx = 0
            · exact .inl (.inr h)
            · exact .inr ⟨rfl, h⟩
          · exact .inl (.inl rfl)
        rcases hfx with hfx | ⟨hf, hx⟩
        · rw [if_pos hfx] at hA
          subst hA
          have hbx : F = true ∨ (F = false ∧ (t.mx == 0) = true) := by
            rcases hfx with h | h
            · exact .inl h
            · cases F
              · exact .inr ⟨rfl, by simp [h]⟩
              · exact .inl rfl
          clear hfx
          go_wp2_with fail
          refine (HQ.out.2.2.1 a1 e1 w1 HL.out).mono ?_
          rintro e w2 ⟨rfl, q2⟩
          have Q2 := Lib.hid (H1.out.2.trans q2)
          obtain ⟨-, -, -, -, -, -, c6, -⟩ := (H1.out.1.keep q2).eight
          clear q2 d0 d1 d2 d3 d4 d5 d6 d7 c0 c7
          rcases hbx with hf | ⟨hf, hx⟩
          · subst hf
            go_wp2_with fail
            go_ret
            exact ⟨rfl, Q2.out⟩
          · subst hf
            go_wp2_with fail
            go_ret
            exact ⟨rfl, Q2.out⟩
        · rw [if_neg (fun h => by rcases h with h | h; rw [hf] at h; cases h; exact hx h)] at hA
          subst hf
          have bx : (t.mx == 0) = false := by simp [hx]
          go_wp2_with fail
          refine (HQ.out.2.2.1 a1 e1 w1 HL.out).mono ?_
          rintro e w2 ⟨rfl, q2⟩
          have Q2 := Lib.hid (And.intro (H1.out.1.keep q2) (And.intro q2 (HL.out.keepF q2)))
          obtain ⟨-, -, -, -, -, -, c6, c7⟩ := Q2.out.1.eight
          rw [hl1] at c7
          have hq' : ∀ (p : Addr) v, w1.cell? p = some v → w2.cell? p = some v := fun p v hv => (q2.cell (a := p) (World.block_lt_of_cell? w1 _ hv) (fun h => h)).trans hv
          have g0 := hq' _ _ d0
          have g1 := hq' _ _ d1
          have g2 := hq' _ _ d2
          have g3 := hq' _ _ d3
          have g4 := hq' _ _ d4
          have g5 := hq' _ _ d5
          have g6 := hq' _ _ d6
          have g7 := hq' _ _ d7
          clear q2 d0 d1 d2 d3 d4 d5 d6 d7 c0 hq'
          have HA := Lib.hid hA
          clear hA
          go_wp2_with fail
          refine (HQ.out.1 a1 e1 w2 Q2.out.2.2).mono ?_
          rintro e w3 ⟨rfl, q3⟩
          have Q3 := Lib.hid (H1.out.2.trans (Q2.out.2.1.trans q3))
          obtain ⟨-, -, -, -, -, -, c6, -⟩ := (Q2.out.1.keep q3).eight
          clear q3 g0 g1 g2 g3 g4 g5 g6 g7 c7
          have hA := HA.out
          by_cases hv0 : V = 0
          · rw [if_pos hv0] at hA
            subst hA
            have v0 : (V == 0) = true := by simp [hv0]
            go_wp2_with fail
            go_ret
            exact ⟨rfl, Q3.out⟩
          have v0 : (V == 0) = false := by simp [hv0]
          rw [if_neg hv0] at hA
          by_cases hneg : V < 0 ∨ t.mx < 0
          · rw [if_pos hneg] at hA
            subst hA
            have hvx : V < 0 ∨ (¬ V < 0 ∧ t.mx < 0) := by omega
            rcases hvx with hv | ⟨hv, hx2⟩
            · go_wp2_with fail
              go_ret
              exact ⟨rfl, Q3.out⟩
            · go_wp2_with fail
              go_ret
              exact ⟨rfl, Q3.out⟩
          · rw [if_neg hneg] at hA
            have hv : ¬ V < 0 := by omega
            have hx2 : ¬ t.mx < 0 := by omega
            have hr := HQ.out.2.2.2 (by omega)
            have hp0 := Int.mul_nonneg (show 0 ≤ V by omega) (show 0 ≤ t.mx by omega)
            obtain ⟨P, hP⟩ : ∃ P, V * t.mx = P := ⟨_, rfl⟩
            rw [hP] at hr hp0 hA
            have hw1 : IntKind.i64.wrap (V * t.mx) = P := by rw [hP, IntKind.wrap_i64]; omega
            subst hA
            clear hP hneg hr
            go_wp2_with fail
            go_ret
            exact ⟨rfl, Q3.out⟩
      · rw [if_neg k5] at hA
        subst hA
        have b5 : (t.kind == 5) = false := by simp [k5]
        clear k2 k34 k5
        go_wp2_with fail
        go_ret
        exact ⟨rfl, H1.out.2⟩
theorem fmost_any (t : T) (d : Nat) (hR : RT d t) (hB : bnd d (cnt t) ≤ 9000000000000000000) (a : Option Addr) (c : Nat) (w : World) (hL : Lie w (fun _ => True) a t.subs) : Calls Try.prog 28 #[nodeV t a c] w fun e w' => e = .returned (.int .i64 (mostI t)) ∧ Keep (fun _ => False) w w' :=
  fmost_all _ t (Nat.lt_succ_self _) d hR hB a c w hL
end Go.Proofs.Ythcjfgfbeollpaa.P09
