/- The document's Least of a plain expression (layer 13). -/
import Derived.Test.YthcjfgfbeollpaaKG29
import Derived.Test.YthcjfgfbeollpaaKG34
namespace Go.Proofs.Ythcjfgfbeollpaa.P13
open Go.RowKit Go.Proofs.Ythcjfgfbeollpaa.Base Go.Proofs.Ythcjfgfbeollpaa.Bytes Go.Proofs.Ythcjfgfbeollpaa.P07 Go.Proofs.Ythcjfgfbeollpaa.P08 Go.Proofs.Ythcjfgfbeollpaa.P09
open Go.Proofs.Ythcjfgfbeollpaa.Sets (ST)

/-- What the least of a right expression is, and that it fits. -/
def LeastOkP (t : T) : Prop := ∀ (d : Nat), RT d t → isP t = true → bnd 0 (cnt t) ≤ 9000000000000000000 → ∀ (a : Option Addr) (c : Nat) (w : World), Lie w (fun _ => True) a t.subs → Calls Try.prog 27 #[nodeV t a c] w fun e w' => e = .returned (.int .i64 (leastI t)) ∧ Keep (fun _ => False) w w'

set_option maxRecDepth 100000 in
set_option maxHeartbeats 4000000 in
theorem fleastp_all : ∀ (n : Nat) (t : T), SizeOf.sizeOf t < n → LeastOkP t
  | 0, _, h => absurd h (Nat.not_lt_zero _)
  | n + 1, t, h => fun d hR hp hB a c w hL => by
    have hlen := hL.len
    have H0 := Lib.hid (And.intro ((Keep.refl (fun _ => False) w).alloc (.cells (ncells t a c) 27)) (And.intro (Bx.new (c := c) hL) (fleastp_all n)))
    have hcb := fun (s : T) (i : Nat) (h : t.subs[i]? = some s) => bnd_mono (Nat.le_refl 0) (show cnt s ≤ cnt t by have := cntL_le h; rw [cnt_eq t]; omega)
    have hcl : bnd 0 (cntL t.subs) ≤ bnd 0 (cnt t) := bnd_mono (Nat.le_refl 0) (by rw [cnt_eq t]; omega)
    have hsub := fun (s : T) (i : Nat) (h : t.subs[i]? = some s) => sub_RT hR h
    have HPP := Lib.hid hp
    clear hp
    have e := leastI_eq t
    have hnc := fun W (hq : Keep (fun _ => False) w W) => fnone_any t d hR a c W (hL.keepF hq)
    obtain ⟨A, hA⟩ : ∃ A, leastI t = A := ⟨_, rfl⟩
    obtain ⟨E, hE⟩ : ∃ E, noneB t = E := ⟨_, rfl⟩
    have hEq := noneB_eq t
    rw [hA, hE] at e
    rw [hE] at hnc hEq
    rw [hA]
    have HE := Lib.hid (And.intro e (And.intro hsub (And.intro hcb (And.intro hR (And.intro hnc (And.intro hB (And.intro hcl hEq)))))))
    have HN := Lib.hid h
    clear hL e hA h hsub hR hE hB hcl hnc hcb hEq
    obtain ⟨c0, c1, c2, c3, c4, c5, c6, c7⟩ := H0.out.2.1.eight
    go_enter Try.func27, Try.ntmps27
    go_upto_region 1 with fail
    generalize (w.alloc (.cells (ncells t a c) 27)) = W at *
    generalize w.heap.size = n0 at *
    go_wp2_with fail
    refine (HE.out.2.2.2.2.1 W H0.out.1).mono ?_
    rintro e w1 ⟨rfl, q1⟩
    have H1 := Lib.hid (And.intro (H0.out.2.1.keep q1) (H0.out.1.trans q1))
    clear q1 c0 c1 c2 c3 c4 c5 c6 c7
    have hA := HE.out.1
    cases E with
    | true =>
      rw [if_pos rfl] at hA
      subst hA
      go_wp2_with fail
      go_ret
      exact ⟨rfl, H1.out.2⟩
    | false =>
      rw [if_neg (by decide)] at hA
      have hNq := HE.out.2.2.2.2.2.2.2
      obtain ⟨c0, -, -, -, -, c5, -, c7⟩ := H1.out.1.eight
      by_cases k2 : t.kind = 2
      · rw [if_pos k2] at hA
        subst hA
        have b2 : (t.kind == 2) = true := by simp [k2]
        clear k2 hNq
        go_wp2_with fail
        go_ret
        exact ⟨rfl, H1.out.2⟩
      have b2 : (t.kind == 2) = false := by simp [k2]
      rw [if_neg k2] at hA hNq
      by_cases k3 : t.kind = 3
      · rw [if_pos k3] at hA hNq
        have HA := Lib.hid (And.intro hA hNq.symm)
        have b3 : (t.kind == 3) = true := by simp [k3]
        clear k2 k3 hA hNq
        go_wp2_with fail
        clear c0 c5 c7
        go_loopg [3, 4] t.subs.length (fun gg m i wr => ∃ (k : Nat) (M : Int), i = .int .i64 k ∧ k + gg = t.subs.length ∧ m = .int .i64 M ∧ M = sumLe 0 (t.subs.take k) ∧ Keep (fun _ => False) w1 wr)
        case atStart => exact ⟨0, 0, rfl, by omega, rfl, by rw [List.take_zero, sumLe], Keep.refl _ _⟩
        case round =>
          obtain ⟨k, M, rfl, hk, rfl, hM, hq⟩ := hrel
          have B1 := H1.out.1.keep hq
          obtain ⟨-, -, -, -, -, -, -, c7⟩ := B1.eight
          by_cases hlt : k < t.subs.length
          · have hlt' : (k : Int) < t.subs.length := by omega
            have i0 : (0 : Int) ≤ k := by omega
            obtain ⟨s, hs⟩ : ∃ s, t.subs[k]? = some s := ⟨t.subs[k], List.getElem?_eq_getElem hlt⟩
            obtain ⟨bl, off, a1, e1, rfl, L1, d0, d1, d2, d3, d4, d5, d6, d7⟩ := B1.sub hs
            have hsl := sub_less hs
            have ht := sumLe_take (acc := 0) hs
            have hb1 := sum_bndP (t.subs.take k) d t.kind (RL_take _ k HE.out.2.2.2.1.subs) (fun u hu => isP_subs HPP.out u (List.mem_of_mem_take hu)) (anyN_pre k HA.out.2) 0 (by omega)
            have hb2 := bnd_mono (Nat.le_refl 0) (cntL_pre t.subs (k + 1))
            have hb3 := sum_bndP (t.subs.take (k + 1)) d t.kind (RL_take _ (k + 1) HE.out.2.2.2.1.subs) (fun u hu => isP_subs HPP.out u (List.mem_of_mem_take hu)) (anyN_pre (k + 1) HA.out.2) 0 (by omega)
            rw [ht] at hb3
            have hb4 := HE.out.2.2.2.2.2.2.1
            have hb5 := HE.out.2.2.2.2.2.1
            have hpos := (least_bnd s d (HE.out.2.1 s k hs)).2.1 (anyN_sub hs HA.out.2)
            have hcall := H0.out.2.2 s (by have := HN.out; omega) d (HE.out.2.1 s k hs) (isP_subs HPP.out s (List.mem_of_getElem? hs)) (by have := HE.out.2.2.1 s k hs; omega) a1 e1 wr L1
            obtain ⟨V, hV⟩ : ∃ V, leastI s = V := ⟨_, rfl⟩
            rw [← hM, hV] at hb3
            rw [← hM] at hb1
            rw [hV] at hcall hpos ht
            rw [← hM] at ht
            have hM0 : 0 ≤ M := hb1.1
            have hMV : M + V ≤ 9000000000000000000 := by omega
            have HQ := Lib.hid (And.intro hq (And.intro hcall ht))
            clear hq hcall ht hM B1 hs hV hb1 hb2 hb3 hb4 hb5
            go_wp2_with fail
            refine HQ.out.2.1.mono ?_
            rintro e w2 ⟨rfl, q2⟩
            have Q2 := Lib.hid (HQ.out.1.trans q2)
            clear q2 c7 d0 d1 d2 d3 d4 d5 d6 d7
            go_wp2_with fail
            go_roundg (t.subs.length - (k + 1))
            case measure => omega
            case rel => exact ⟨k + 1, M + V, by go_num, by omega, by go_num, HQ.out.2.2.symm, Q2.out⟩
          · have hke : k = t.subs.length := by omega
            subst hke
            rw [List.take_length] at hM
            have HQ := Lib.hid (And.intro hq hM)
            clear hq hM B1
            go_wp2_with fail
            go_ret
            exact ⟨by rw [HA.out.1, HQ.out.2]; rfl, H1.out.2.trans HQ.out.1⟩
      have b3 : (t.kind == 3) = false := by simp [k3]
      rw [if_neg k3] at hA hNq
      by_cases k4 : t.kind = 4
      · rw [if_pos k4] at hA
        have HA := Lib.hid hA
        have b4 : (t.kind == 4) = true := by simp [k4]
        have b5 : (t.kind == 5) = false := by simp [k4]
        clear k2 k3 k4 hA hNq
        go_wp2_with fail
        clear c0 c5 c7
        go_loopg [5, 6, 7] t.subs.length (fun gg m i s7 wr => ∃ (k : Nat) (M : Int), i = .int .i64 k ∧ k + gg = t.subs.length ∧ m = .int .i64 M ∧ M = minLe (-1) (t.subs.take k) ∧ Keep (fun _ => False) w1 wr)
        case atStart => exact ⟨0, -1, rfl, by omega, rfl, by rw [List.take_zero, minLe], Keep.refl _ _⟩
        case round =>
          obtain ⟨k, M, rfl, hk, rfl, hM, hq⟩ := hrel
          have B1 := H1.out.1.keep hq
          obtain ⟨-, -, -, -, -, -, -, c7⟩ := B1.eight
          by_cases hlt : k < t.subs.length
          · have hlt' : (k : Int) < t.subs.length := by omega
            have i0 : (0 : Int) ≤ k := by omega
            obtain ⟨s, hs⟩ : ∃ s, t.subs[k]? = some s := ⟨t.subs[k], List.getElem?_eq_getElem hlt⟩
            obtain ⟨bl, off, a1, e1, rfl, L1, d0, d1, d2, d3, d4, d5, d6, d7⟩ := B1.sub hs
            have hsl := sub_less hs
            have ht := minLe_take (acc := -1) hs
            have hb5 := HE.out.2.2.2.2.2.1
            have hcall := H0.out.2.2 s (by have := HN.out; omega) d (HE.out.2.1 s k hs) (isP_subs HPP.out s (List.mem_of_getElem? hs)) (by have := HE.out.2.2.1 s k hs; omega) a1 e1 wr L1
            obtain ⟨V, hV⟩ : ∃ V, leastI s = V := ⟨_, rfl⟩
            rw [hV] at hcall ht
            rw [← hM] at ht
            have HQ := Lib.hid (And.intro hq (And.intro hcall ht))
            clear hq hcall ht hM B1 hs hV hb5
            go_wp2_with fail
            refine HQ.out.2.1.mono ?_
            rintro e w2 ⟨rfl, q2⟩
            have Q2 := Lib.hid (HQ.out.1.trans q2)
            clear q2 c7 d0 d1 d2 d3 d4 d5 d6 d7
            have hc : (0 ≤ V ∧ M < 0) ∨ (0 ≤ V ∧ 0 ≤ M ∧ V < M) ∨ (0 ≤ V ∧ 0 ≤ M ∧ M ≤ V) ∨ V < 0 := by omega
            have ht := HQ.out.2.2
            rcases hc with ⟨v0, m0⟩ | ⟨v0, m0, vm⟩ | ⟨v0, m0, vm⟩ | v0
            · rw [if_pos ⟨v0, .inl m0⟩] at ht
              have HT := Lib.hid ht
              clear ht
              go_wp2_with fail
              go_roundg (t.subs.length - (k + 1))
              case measure => omega
              case rel => exact ⟨k + 1, V, by go_num, by omega, rfl, HT.out.symm, Q2.out⟩
            · rw [if_pos ⟨v0, .inr vm⟩] at ht
              have HT := Lib.hid ht
              clear ht
              go_wp2_with fail
              go_roundg (t.subs.length - (k + 1))
              case measure => omega
              case rel => exact ⟨k + 1, V, by go_num, by omega, rfl, HT.out.symm, Q2.out⟩
            · rw [if_neg (by omega)] at ht
              have HT := Lib.hid ht
              clear ht
              go_wp2_with fail
              go_roundg (t.subs.length - (k + 1))
              case measure => omega
              case rel => exact ⟨k + 1, M, by go_num, by omega, rfl, HT.out.symm, Q2.out⟩
            · rw [if_neg (by omega)] at ht
              have HT := Lib.hid ht
              clear ht
              go_wp2_with fail
              go_roundg (t.subs.length - (k + 1))
              case measure => omega
              case rel => exact ⟨k + 1, M, by go_num, by omega, rfl, HT.out.symm, Q2.out⟩
          · have hke : k = t.subs.length := by omega
            subst hke
            rw [List.take_length] at hM
            have HQ := Lib.hid (And.intro hq hM)
            clear hq hM B1
            go_wp2_with fail
            go_ret
            exact ⟨by rw [HA.out, HQ.out.2]; rfl, H1.out.2.trans HQ.out.1⟩
      have b4 : (t.kind == 4) = false := by simp [k4]
      rw [if_neg k4] at hA hNq
      by_cases k5 : t.kind = 5
      · by_cases hm : 0 < t.mn
        · exact absurd hm (by have := (fld_five HPP.out k5).1; omega)
        · rw [if_neg (fun h => hm h.2)] at hA
          subst hA
          have b5 : (t.kind == 5) = true := by simp [k5]
          have hm' : t.mn ≤ 0 := by omega
          clear k2 k3 k4 k5 hNq
          go_wp2_with fail
          go_ret
          exact ⟨rfl, H1.out.2⟩
      · rw [if_neg (fun h => k5 h.1)] at hA
        subst hA
        have b5 : (t.kind == 5) = false := by simp [k5]
        clear k2 k3 k4 k5 hNq
        go_wp2_with fail
        go_ret
        exact ⟨rfl, H1.out.2⟩
theorem fleastp_any (t : T) (d : Nat) (hR : RT d t) (hp : isP t = true) (hB : bnd 0 (cnt t) ≤ 9000000000000000000) (a : Option Addr) (c : Nat) (w : World) (hL : Lie w (fun _ => True) a t.subs) : Calls Try.prog 27 #[nodeV t a c] w fun e w' => e = .returned (.int .i64 (leastI t)) ∧ Keep (fun _ => False) w w' :=
  fleastp_all _ t (Nat.lt_succ_self _) d hR hp hB a c w hL
end Go.Proofs.Ythcjfgfbeollpaa.P13
