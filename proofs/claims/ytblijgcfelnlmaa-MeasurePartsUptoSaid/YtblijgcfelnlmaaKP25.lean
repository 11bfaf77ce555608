/- The document's None (layer 9), of right expressions. -/
import Derived.Test.YtblijgcfelnlmaaKP24
namespace Go.Proofs.Ytblijgcfelnlmaa.P09
open Go.RowKit Go.Proofs.Ytblijgcfelnlmaa.Base Go.Proofs.Ytblijgcfelnlmaa.Bytes Go.Proofs.Ytblijgcfelnlmaa.P07 Go.Proofs.Ytblijgcfelnlmaa.P08
open Go.Proofs.Ytblijgcfelnlmaa.Sets (ST)

theorem sub_RT {d : Nat} {t : T} (h : RT d t) {i : Nat} {s : T} (hs : t.subs[i]? = some s) : RT d s := RL_get h.subs hs
theorem kind5_one {d : Nat} {t : T} (h : RT d t) (hk : t.kind = 5) : ∃ s, t.subs = [s] ∧ 0 ≤ t.mn ∧ t.mn ≤ 20 ∧ (t.mx = -1 ∨ t.mn ≤ t.mx ∧ t.mx ≤ 20) ∧ (if rnd 5 s.kind then 1 ≤ d ∧ RT (d - 1) s else RT d s) := by
  cases t
  exact one_sub h hk
/-- What f says of every right expression smaller than n. -/
def NoneOk (t : T) : Prop := ∀ (d : Nat), RT d t → ∀ (a : Option Addr) (c : Nat) (w : World), Lie w (fun _ => True) a t.subs → Calls Try.prog 22 #[nodeV t a c] w fun e w' => e = .returned (.bool (noneB t)) ∧ Keep (fun _ => False) w w'

set_option maxRecDepth 100000 in
set_option maxHeartbeats 2000000 in
theorem fnone_all : ∀ (n : Nat) (t : T), SizeOf.sizeOf t < n → NoneOk t
  | 0, _, h => absurd h (Nat.not_lt_zero _)
  | n + 1, t, h => fun d hR a c w hL => by
    have hlen := hL.len
    have H0 := Lib.hid (And.intro ((Keep.refl (fun _ => False) w).alloc (.cells (ncells t a c) 27)) (And.intro (Bx.new (c := c) hL) (fnone_all n)))
    have hsub := fun (s : T) (i : Nat) (h : t.subs[i]? = some s) => sub_RT hR h
    have h5 := fun hk => kind5_one hR hk
    have e := noneB_eq t
    obtain ⟨A, hA⟩ : ∃ A, noneB t = A := ⟨_, rfl⟩
    rw [hA] at e ⊢
    have HE := Lib.hid (And.intro e (And.intro hsub h5))
    have HN := Lib.hid h
    clear hL e hA h hsub h5 hR
    by_cases k2 : t.kind = 2
    · obtain ⟨E, hE⟩ : ∃ E, eqB t.set ST.none = E := ⟨_, rfl⟩
      have es : ∀ W, (Op.equalIn 10000 24 (.agg #[.int .u64 (t.set.x0 : Int), .int .u64 (t.set.x1 : Int), .int .u64 (t.set.x2 : Int), .int .u64 (t.set.x3 : Int)]) (.agg #[.int .u64 0, .int .u64 0, .int .u64 0, .int .u64 0])).run Try.prog W = .ok E W := fun W => by
        rw [← hE]
        exact eq_set t.set ST.none W
      have hAE := HE.out.1
      rw [if_pos k2, hE] at hAE
      subst hAE
      have b2 : (t.kind == 2) = true := by simp [k2]
      clear k2 hE
      go_enter Try.func22, Try.ntmps22
      go_upto_region 1 with fail
      generalize (w.alloc (.cells (ncells t a c) 27)) = W at *
      generalize w.heap.size = n0 at *
      obtain ⟨c0, c1, c2, c3, c4, -, -, -⟩ := H0.out.2.1.eight
      go_wp2_with fail
      go_ret
      exact ⟨rfl, H0.out.1⟩
    have b2 : (t.kind == 2) = false := by simp [k2]
    by_cases k3 : t.kind = 3
    · have hA := HE.out.1
      rw [if_neg k2, if_pos k3] at hA
      have HA := Lib.hid hA
      have b3 : (t.kind == 3) = true := by simp [k3]
      have b4 : (t.kind == 4) = false := by simp [k3]
      have b5 : (t.kind == 5) = false := by simp [k3]
      clear k2 k3 hA
      go_enter Try.func22, Try.ntmps22
      go_upto_region 1 with fail
      generalize (w.alloc (.cells (ncells t a c) 27)) = W at *
      generalize w.heap.size = n0 at *
      obtain ⟨c0, -, -, -, -, -, -, -⟩ := H0.out.2.1.eight
      go_wp2_with fail
      clear c0
      go_loopg [3] t.subs.length (fun gg i wr => ∃ (k : Nat), i = .int .i64 k ∧ k + gg = t.subs.length ∧ anyN (t.subs.take k) = false ∧ Keep (fun _ => False) W wr)
      case atStart => exact ⟨0, rfl, by omega, by rw [List.take_zero, anyN], Keep.refl _ _⟩
      case round =>
        obtain ⟨k, rfl, hk, hM, hq⟩ := hrel
        have B1 := H0.out.2.1.keep hq
        obtain ⟨-, -, -, -, -, -, -, c7⟩ := B1.eight
        by_cases hlt : k < t.subs.length
        · have hlt' : (k : Int) < t.subs.length := by omega
          have i0 : (0 : Int) ≤ k := by omega
          obtain ⟨s, hs⟩ : ∃ s, t.subs[k]? = some s := ⟨t.subs[k], List.getElem?_eq_getElem hlt⟩
          obtain ⟨bl, off, a1, e1, rfl, L1, d0, d1, d2, d3, d4, d5, d6, d7⟩ := B1.sub hs
          have hsl := sub_less hs
          have ht := anyN_take hs
          have hget := anyN_get hs
          have hcall := H0.out.2.2 s (by have := HN.out; omega) d (HE.out.2.1 s k hs) a1 e1 wr L1
          obtain ⟨Y, hY⟩ : ∃ Y, noneB s = Y := ⟨_, rfl⟩
          rw [hY] at hcall ht hget
          rw [hM, Bool.false_or] at ht
          have HQ := Lib.hid (And.intro hq (And.intro hcall (And.intro ht hget)))
          clear hq hcall ht hM B1 hs hY hget
          go_wp2_with fail
          refine HQ.out.2.1.mono ?_
          rintro e w2 ⟨rfl, q2⟩
          have Q2 := Lib.hid (HQ.out.1.trans q2)
          clear q2 c7 d0 d1 d2 d3 d4 d5 d6 d7
          cases Y with
          | true =>
            go_wp2_with fail
            go_ret
            exact ⟨by rw [HA.out, HQ.out.2.2.2 (by simp)]; rfl, H0.out.1.trans Q2.out⟩
          | false =>
            go_wp2_with fail
            go_roundg (t.subs.length - (k + 1))
            case measure => omega
            case rel => exact ⟨k + 1, by go_num, by omega, HQ.out.2.2.1, Q2.out⟩
        · have hke : k = t.subs.length := by omega
          subst hke
          rw [List.take_length] at hM
          have HQ := Lib.hid (And.intro hq hM)
          clear hq hM B1
          go_wp2_with fail
          go_ret
          exact ⟨by rw [HA.out, HQ.out.2]; rfl, H0.out.1.trans HQ.out.1⟩
    have b3 : (t.kind == 3) = false := by simp [k3]
    by_cases k4 : t.kind = 4
    · have hA := HE.out.1
      rw [if_neg k2, if_neg k3, if_pos k4] at hA
      have HA := Lib.hid hA
      have b4 : (t.kind == 4) = true := by simp [k4]
      have b5 : (t.kind == 5) = false := by simp [k4]
      clear k2 k3 hA k4
      go_enter Try.func22, Try.ntmps22
      go_upto_region 1 with fail
      generalize (w.alloc (.cells (ncells t a c) 27)) = W at *
      generalize w.heap.size = n0 at *
      obtain ⟨c0, -, -, -, -, -, -, -⟩ := H0.out.2.1.eight
      go_wp2_with fail
      clear c0
      go_loopg [4] t.subs.length (fun gg i wr => ∃ (k : Nat), i = .int .i64 k ∧ k + gg = t.subs.length ∧ allN (t.subs.take k) = true ∧ Keep (fun _ => False) W wr)
      case atStart => exact ⟨0, rfl, by omega, by rw [List.take_zero, allN], Keep.refl _ _⟩
      case round =>
        obtain ⟨k, rfl, hk, hM, hq⟩ := hrel
        have B1 := H0.out.2.1.keep hq
        obtain ⟨-, -, -, -, -, -, -, c7⟩ := B1.eight
        by_cases hlt : k < t.subs.length
        · have hlt' : (k : Int) < t.subs.length := by omega
          have i0 : (0 : Int) ≤ k := by omega
          obtain ⟨s, hs⟩ : ∃ s, t.subs[k]? = some s := ⟨t.subs[k], List.getElem?_eq_getElem hlt⟩
          obtain ⟨bl, off, a1, e1, rfl, L1, d0, d1, d2, d3, d4, d5, d6, d7⟩ := B1.sub hs
          have hsl := sub_less hs
          have ht := allN_take hs
          have hget := allN_get hs
          have hcall := H0.out.2.2 s (by have := HN.out; omega) d (HE.out.2.1 s k hs) a1 e1 wr L1
          obtain ⟨Y, hY⟩ : ∃ Y, noneB s = Y := ⟨_, rfl⟩
          rw [hY] at hcall ht hget
          rw [hM, Bool.true_and] at ht
          have HQ := Lib.hid (And.intro hq (And.intro hcall (And.intro ht hget)))
          clear hq hcall ht hM B1 hs hY hget
          go_wp2_with fail
          refine HQ.out.2.1.mono ?_
          rintro e w2 ⟨rfl, q2⟩
          have Q2 := Lib.hid (HQ.out.1.trans q2)
          clear q2 c7 d0 d1 d2 d3 d4 d5 d6 d7
          cases Y with
          | false =>
            go_wp2_with fail
            go_ret
            exact ⟨by rw [HA.out, HQ.out.2.2.2 (by simp)]; rfl, H0.out.1.trans Q2.out⟩
          | true =>
            go_wp2_with fail
            go_roundg (t.subs.length - (k + 1))
            case measure => omega
            case rel => exact ⟨k + 1, by go_num, by omega, HQ.out.2.2.1, Q2.out⟩
        · have hke : k = t.subs.length := by omega
          subst hke
          rw [List.take_length] at hM
          have HQ := Lib.hid (And.intro hq hM)
          clear hq hM B1
          go_wp2_with fail
          go_ret
          exact ⟨by rw [HA.out, HQ.out.2]; rfl, H0.out.1.trans HQ.out.1⟩
    have b4 : (t.kind == 4) = false := by simp [k4]
    by_cases k5 : t.kind = 5
    · have hA := HE.out.1
      rw [if_neg k2, if_neg k3, if_neg k4, if_pos k5] at hA
      obtain ⟨s, hsub, m0, m1, -, -⟩ := HE.out.2.2 k5
      have hs : t.subs[0]? = some s := by rw [hsub]; rfl
      have hsl := sub_less hs
      have hl1 : t.subs.length = 1 := by rw [hsub]; rfl
      rw [show headN t.subs = noneB s from by rw [hsub, headN]] at hA
      have hcall := H0.out.2.2 s (by have := HN.out; omega) d (HE.out.2.1 s 0 hs)
      unfold NoneOk at hcall
      obtain ⟨Y, hY⟩ : ∃ Y, noneB s = Y := ⟨_, rfl⟩
      rw [hY] at hA
      have hcall2 := fun a c w hL => H0.out.2.2 s (by have := HN.out; omega) d (HE.out.2.1 s 0 hs) a c w hL
      rw [hY] at hcall2
      have b5 : (t.kind == 5) = true := by simp [k5]
      have HQ := Lib.hid (And.intro hA (And.intro hcall2 hs))
      clear k2 k3 hA k4 k5 hcall hcall2 hY hs hsub hlen
      go_enter Try.func22, Try.ntmps22
      go_upto_region 1 with fail
      generalize (w.alloc (.cells (ncells t a c) 27)) = W at *
      generalize w.heap.size = n0 at *
      obtain ⟨c0, -, -, -, -, c5, -, c7⟩ := H0.out.2.1.eight
      rw [hl1] at c7
      obtain ⟨bl, off, a1, e1, rfl, L1, d0, d1, d2, d3, d4, d5, d6, d7⟩ := H0.out.2.1.first HQ.out.2.2
      by_cases hm : 0 < t.mn
      · have hcl := Lib.hid (HQ.out.2.1 a1 e1 W L1)
        clear L1
        go_wp2_with fail
        refine hcl.out.mono ?_
        rintro e w2 ⟨rfl, q2⟩
        have Q2 := Lib.hid q2
        clear q2
        go_wp2_with fail
        go_ret
        exact ⟨by rw [HQ.out.1, decide_eq_true hm, Bool.true_and]; rfl, H0.out.1.trans Q2.out⟩
      · have hm' : t.mn ≤ 0 := by omega
        clear L1
        go_wp2_with fail
        go_ret
        exact ⟨by rw [HQ.out.1, decide_eq_false (show ¬ 0 < t.mn by omega), Bool.false_and]; rfl, H0.out.1⟩
    have b5 : (t.kind == 5) = false := by simp [k5]
    have hA := HE.out.1
    rw [if_neg k2, if_neg k3, if_neg k4, if_neg k5] at hA
    subst hA
    clear k2 k3 k4 k5
    go_enter Try.func22, Try.ntmps22
    go_upto_region 1 with fail
    generalize (w.alloc (.cells (ncells t a c) 27)) = W at *
    generalize w.heap.size = n0 at *
    obtain ⟨c0, -, -, -, -, -, -, -⟩ := H0.out.2.1.eight
    go_wp2_with fail
    go_ret
    exact ⟨rfl, H0.out.1⟩
theorem fnone_any (t : T) (d : Nat) (hR : RT d t) (a : Option Addr) (c : Nat) (w : World) (hL : Lie w (fun _ => True) a t.subs) : Calls Try.prog 22 #[nodeV t a c] w fun e w' => e = .returned (.bool (noneB t)) ∧ Keep (fun _ => False) w w' :=
  fnone_all _ t (Nat.lt_succ_self _) d hR a c w hL
end Go.Proofs.Ytblijgcfelnlmaa.P09
