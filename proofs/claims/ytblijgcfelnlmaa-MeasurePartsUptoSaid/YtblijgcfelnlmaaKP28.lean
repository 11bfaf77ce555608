/- The document's Least (layer 9), of right expressions. -/
import Derived.Test.YtblijgcfelnlmaaKP26
namespace Go.Proofs.Ytblijgcfelnlmaa.P09
open Go.RowKit Go.Proofs.Ytblijgcfelnlmaa.Base Go.Proofs.Ytblijgcfelnlmaa.Bytes Go.Proofs.Ytblijgcfelnlmaa.P07 Go.Proofs.Ytblijgcfelnlmaa.P08
open Go.Proofs.Ytblijgcfelnlmaa.Sets (ST)

theorem sumLe_append : ∀ (L : List T) (acc : Int) (t : T), sumLe acc (L ++ [t]) = sumLe acc L + leastI t
  | [], acc, t => by rw [List.nil_append, sumLe, sumLe, sumLe]
  | s :: L, acc, t => by rw [List.cons_append, sumLe, sumLe, sumLe_append L]
theorem sumLe_take {acc : Int} {L : List T} {i : Nat} {s : T} (h : L[i]? = some s) : sumLe acc (L.take (i + 1)) = sumLe acc (L.take i) + leastI s := by
  rw [List.take_add_one, h]
  exact sumLe_append _ acc s
theorem minLe_append : ∀ (L : List T) (acc : Int) (t : T), minLe acc (L ++ [t]) = if 0 ≤ leastI t ∧ (minLe acc L < 0 ∨ leastI t < minLe acc L) then leastI t else minLe acc L
  | [], acc, t => by rw [List.nil_append, minLe, minLe, minLe]
  | s :: L, acc, t => by rw [List.cons_append, minLe, minLe, minLe_append L]
theorem minLe_take {acc : Int} {L : List T} {i : Nat} {s : T} (h : L[i]? = some s) : minLe acc (L.take (i + 1)) = if 0 ≤ leastI s ∧ (minLe acc (L.take i) < 0 ∨ leastI s < minLe acc (L.take i)) then leastI s else minLe acc (L.take i) := by
  rw [List.take_add_one, h]
  exact minLe_append _ acc s
theorem anyN_pre : ∀ {L : List T} (i : Nat), anyN L = false → anyN (L.take i) = false
  | [], i, h => by rw [List.take_nil]; exact h
  | t :: L, 0, h => by rw [List.take_zero, anyN]
  | t :: L, i + 1, h => by
    rw [anyN, Bool.or_eq_false_iff] at h
    rw [List.take_succ_cons, anyN, h.1, anyN_pre i h.2]
    rfl
theorem anyN_sub {L : List T} {i : Nat} {s : T} (h : L[i]? = some s) (hn : anyN L = false) : noneB s = false := by
  cases e : noneB s with
  | false => rfl
  | true => rw [anyN_get h e] at hn; cases hn
/-- What the least of a right expression is, and that it fits. -/
def LeastOk (t : T) : Prop := ∀ (d : Nat), RT d t → bnd d (cnt t) ≤ 9000000000000000000 → ∀ (a : Option Addr) (c : Nat) (w : World), Lie w (fun _ => True) a t.subs → Calls Try.prog 24 #[nodeV t a c] w fun e w' => e = .returned (.int .i64 (leastI t)) ∧ Keep (fun _ => False) w w'

set_option maxRecDepth 100000 in
set_option maxHeartbeats 4000000 in
theorem fleast_all : ∀ (n : Nat) (t : T), SizeOf.sizeOf t < n → LeastOk t
  | 0, _, h => absurd h (Nat.not_lt_zero _)
  | n + 1, t, h => fun d hR hB a c w hL => by
    have hlen := hL.len
    have H0 := Lib.hid (And.intro ((Keep.refl (fun _ => False) w).alloc (.cells (ncells t a c) 27)) (And.intro (Bx.new (c := c) hL) (fleast_all n)))
    have hcb := fun (s : T) (i : Nat) (h : t.subs[i]? = some s) => bnd_mono (Nat.le_refl d) (show cnt s ≤ cnt t by have := cntL_le h; rw [cnt_eq t]; omega)
    have hcl : bnd d (cntL t.subs) ≤ bnd d (cnt t) := bnd_mono (Nat.le_refl d) (by rw [cnt_eq t]; omega)
    have hsub := fun (s : T) (i : Nat) (h : t.subs[i]? = some s) => sub_RT hR h
    have e := leastI_eq t
    have hnc := fun W (hq : Keep (fun _ => False) w W) => fnone_any t d hR a c W (hL.keepF hq)
    obtain ⟨A, hA⟩ : ∃ A, leastI t = A := ⟨_, rfl⟩
    obtain ⟨E, hE⟩ : ∃ E, noneB t = E := ⟨_, rfl⟩
    have hEq := noneB_eq t
    rw [hA, hE] at e
    rw [hE] at hnc hEq
    rw [hA]
    have HE := Lib.hid (And.intro e (And.intro hsub (And.intro hcb (And.intro hR (And.intro hnc (And.intro hB (And.intro hcl hEq)))))))
    have HN := Lib.hid h
    clear hL e hA h hsub hR hE hB hcl hnc hcb hEq
    obtain ⟨c0, c1, c2, c3, c4, c5, c6, c7⟩ := H0.out.2.1.eight
    go_enter Try.func24, Try.ntmps24
    go_upto_region 1 with fail
    generalize (w.alloc (.cells (ncells t a c) 27)) = W at *
    generalize w.heap.size = n0 at *
    go_wp2_with fail
    refine (HE.out.2.2.2.2.1 W H0.out.1).mono ?_
    rintro e w1 ⟨rfl, q1⟩
    have H1 := Lib.hid (And.intro (H0.out.2.1.keep q1) (H0.out.1.trans q1))
    clear q1 c0 c1 c2 c3 c4 c5 c6 c7
    have hA := HE.out.1
    cases E with
    | true =>
      rw [if_pos rfl] at hA
      subst hA
      go_wp2_with fail
      go_ret
      exact ⟨rfl, H1.out.2⟩
    | false =>
      rw [if_neg (by decide)] at hA
      have hNq := HE.out.2.2.2.2.2.2.2
      obtain ⟨c0, -, -, -, -, c5, -, c7⟩ := H1.out.1.eight
      by_cases k2 : t.kind = 2
      · rw [if_pos k2] at hA
        subst hA
        have b2 : (t.kind == 2) = true := by simp [k2]
        clear k2 hNq
        go_wp2_with fail
        go_ret
        exact ⟨rfl, H1.out.2⟩
      have b2 : (t.kind == 2) = false := by simp [k2]
      rw [if_neg k2] at hA hNq
      by_cases k3 : t.kind = 3
      · rw [if_pos k3] at hA hNq
        have HA := Lib.hid (And.intro hA hNq.symm)
        have b3 : (t.kind == 3) = true := by simp [k3]
        clear k2 k3 hA hNq
        go_wp2_with fail
        clear c0 c5 c7
        go_loopg [3, 4] t.subs.length (fun gg m i wr => ∃ (k : Nat) (M : Int), i = .int .i64 k ∧ k + gg = t.subs.length ∧ m = .int .i64 M ∧ M = sumLe 0 (t.subs.take k) ∧ Keep (fun _ => False) w1 wr)
        case atStart => exact ⟨0, 0, rfl, by omega, rfl, by rw [List.take_zero, sumLe], Keep.refl _ _⟩
        case round =>
          obtain ⟨k, M, rfl, hk, rfl, hM, hq⟩ := hrel
          have B1 := H1.out.1.keep hq
          obtain ⟨-, -, -, -, -, -, -, c7⟩ := B1.eight
          by_cases hlt : k < t.subs.length
          · have hlt' : (k : Int) < t.subs.length := by omega
            have i0 : (0 : Int) ≤ k := by omega
            obtain ⟨s, hs⟩ : ∃ s, t.subs[k]? = some s := ⟨t.subs[k], List.getElem?_eq_getElem hlt⟩
            obtain ⟨bl, off, a1, e1, rfl, L1, d0, d1, d2, d3, d4, d5, d6, d7⟩ := B1.sub hs
            have hsl := sub_less hs
            have ht := sumLe_take (acc := 0) hs
            have hb1 := sum_bnd (t.subs.take k) d t.kind (RL_take _ k HE.out.2.2.2.1.subs) (anyN_pre k HA.out.2) 0 (by omega)
            have hb2 := bnd_mono (Nat.le_refl d) (cntL_pre t.subs (k + 1))
            have hb3 := sum_bnd (t.subs.take (k + 1)) d t.kind (RL_take _ (k + 1) HE.out.2.2.2.1.subs) (anyN_pre (k + 1) HA.out.2) 0 (by omega)
            rw [ht] at hb3
            have hb4 := HE.out.2.2.2.2.2.2.1
            have hb5 := HE.out.2.2.2.2.2.1
            have hpos := (least_bnd s d (HE.out.2.1 s k hs)).2.1 (anyN_sub hs HA.out.2)
            have hcall := H0.out.2.2 s (by have := HN.out; omega) d (HE.out.2.1 s k hs) (by have := HE.out.2.2.1 s k hs; omega) a1 e1 wr L1
            obtain ⟨V, hV⟩ : ∃ V, leastI s = V := ⟨_, rfl⟩
            rw [← hM, hV] at hb3
            rw [← hM] at hb1
            rw [hV] at hcall hpos ht
            rw [← hM] at ht
            have hM0 : 0 ≤ M := hb1.1
            have hMV : M + V ≤ 9000000000000000000 := by omega
            have HQ := Lib.hid (And.intro hq (And.intro hcall ht))
            clear hq hcall ht hM B1 hs hV hb1 hb2 hb3 hb4 hb5
            go_wp2_with fail
            refine HQ.out.2.1.mono ?_
            rintro e w2 ⟨rfl, q2⟩
            have Q2 := Lib.hid (HQ.out.1.trans q2)
            clear q2 c7 d0 d1 d2 d3 d4 d5 d6 d7
            go_wp2_with fail
            go_roundg (t.subs.length - (k + 1))
            case measure => omega
            case rel => exact ⟨k + 1, M + V, by go_num, by omega, by go_num, HQ.out.2.2.symm, Q2.out⟩
          · have hke : k = t.subs.length := by omega
            subst hke
            rw [List.take_length] at hM
            have HQ := Lib.hid (And.intro hq hM)
            clear hq hM B1
            go_wp2_with fail
            go_ret
            exact ⟨by rw [HA.out.1, HQ.out.2]; rfl, H1.out.2.trans HQ.out.1⟩
      have b3 : (t.kind == 3) = false := by simp [k3]
      rw [if_neg k3] at hA hNq
      by_cases k4 : t.kind = 4
      · rw [if_pos k4] at hA
        have HA := Lib.hid hA
        have b4 : (t.kind == 4) = true := by simp [k4]
        have b5 : (t.kind == 5) = false := by simp [k4]
        clear k2 k3 k4 hA hNq
        go_wp2_with fail
        clear c0 c5 c7
        go_loopg [5, 6, 7] t.subs.length (fun gg m i s7 wr => ∃ (k : Nat) (M : Int), i = .int .i64 k ∧ k + gg = t.subs.length ∧ m = .int .i64 M ∧ M = minLe (-1) (t.subs.take k) ∧ Keep (fun _ => False) w1 wr)
        case atStart => exact ⟨0, -1, rfl, by omega, rfl, by rw [List.take_zero, minLe], Keep.refl _ _⟩
        case round =>
          obtain ⟨k, M, rfl, hk, rfl, hM, hq⟩ := hrel
          have B1 := H1.out.1.keep hq
          obtain ⟨-, -, -, -, -, -, -, c7⟩ := B1.eight
          by_cases hlt : k < t.subs.length
          · have hlt' : (k : Int) < t.subs.length := by omega
            have i0 : (0 : Int) ≤ k := by omega
            obtain ⟨s, hs⟩ : ∃ s, t.subs[k]? = some s := ⟨t.subs[k], List.getElem?_eq_getElem hlt⟩
            obtain ⟨bl, off, a1, e1, rfl, L1, d0, d1, d2, d3, d4, d5, d6, d7⟩ := B1.sub hs
            have hsl := sub_less hs
            have ht := minLe_take (acc := -1) hs
            have hb5 := HE.out.2.2.2.2.2.1
            have hcall := H0.out.2.2 s (by have := HN.out; omega) d (HE.out.2.1 s k hs) (by have := HE.out.2.2.1 s k hs; omega) a1 e1 wr L1
            obtain ⟨V, hV⟩ : ∃ V, leastI s = V := ⟨_, rfl⟩
            rw [hV] at hcall ht
            rw [← hM] at ht
            have HQ := Lib.hid (And.intro hq (And.intro hcall ht))
            clear hq hcall ht hM B1 hs hV hb5
            go_wp2_with fail
            refine HQ.out.2.1.mono ?_
            rintro e w2 ⟨rfl, q2⟩
            have Q2 := Lib.hid (HQ.out.1.trans q2)
            clear q2 c7 d0 d1 d2 d3 d4 d5 d6 d7
            have hc : (0 ≤ V ∧ M < 0) ∨ (0 ≤ V ∧ 0 ≤ M ∧ V < M) ∨ (0 ≤ V ∧ 0 ≤ M ∧ M ≤ V) ∨ V < 0 := by omega
            have ht := HQ.out.2.2
            rcases hc with ⟨v0, m0⟩ | ⟨v0, m0, vm⟩ | ⟨v0, m0, vm⟩ | v0
            · rw [if_pos ⟨v0, .inl m0⟩] at ht
              have HT := Lib.hid ht
              clear ht
              go_wp2_with fail
              go_roundg (t.subs.length - (k + 1))
              case measure => omega
              case rel => exact ⟨k + 1, V, by go_num, by omega, rfl, HT.out.symm, Q2.out⟩
            · rw [if_pos ⟨v0, .inr vm⟩] at ht
              have HT := Lib.hid ht
              clear ht
              go_wp2_with fail
              go_roundg (t.subs.length - (k + 1))
              case measure => omega
              case rel => exact ⟨k + 1, V, by go_num, by omega, rfl, HT.out.symm, Q2.out⟩
            · rw [if_neg (by omega)] at ht
              have HT := Lib.hid ht
              clear ht
              go_wp2_with fail
              go_roundg (t.subs.length - (k + 1))
              case measure => omega
              case rel => exact ⟨k + 1, M, by go_num, by omega, rfl, HT.out.symm, Q2.out⟩
            · rw [if_neg (by omega)] at ht
              have HT := Lib.hid ht
              clear ht
              go_wp2_with fail
              go_roundg (t.subs.length - (k + 1))
              case measure => omega
              case rel => exact ⟨k + 1, M, by go_num, by omega, rfl, HT.out.symm, Q2.out⟩
          · have hke : k = t.subs.length := by omega
            subst hke
            rw [List.take_length] at hM
            have HQ := Lib.hid (And.intro hq hM)
            clear hq hM B1
            go_wp2_with fail
            go_ret
            exact ⟨by rw [HA.out, HQ.out.2]; rfl, H1.out.2.trans HQ.out.1⟩
      have b4 : (t.kind == 4) = false := by simp [k4]
      rw [if_neg k4] at hA hNq
      by_cases k5 : t.kind = 5
      · by_cases hm : 0 < t.mn
        · rw [if_pos ⟨k5, hm⟩] at hA
          rw [if_pos k5, decide_eq_true hm, Bool.true_and] at hNq
          obtain ⟨s, hsub, m0, m1, -, hra⟩ := kind5_one HE.out.2.2.2.1 k5
          have hs : t.subs[0]? = some s := by rw [hsub]; rfl
          have hsl := sub_less hs
          have hl1 : t.subs.length = 1 := by rw [hsub]; rfl
          rw [show headLe t.subs = leastI s from by rw [hsub, headLe]] at hA
          rw [show headN t.subs = noneB s from by rw [hsub, headN]] at hNq
          have hbb := HE.out.2.2.2.2.2.1
          have hcs := HE.out.2.2.1 s 0 hs
          have hcall := fun a c w hL => H0.out.2.2 s (by have := HN.out; omega) d (HE.out.2.1 s 0 hs) (by omega) a c w hL
          have hpos := (least_bnd s d (HE.out.2.1 s 0 hs)).2.1 hNq.symm
          have hrb := rep_bnd hra hpos (fun e he => (least_bnd s e he).2.2) (fun hk => by rw [leastI_eq, ← hNq, if_neg (by decide), if_pos hk]; omega) m1
          have hct : cnt s + 1 ≤ cnt t := by rw [cnt_eq t, hsub, cntL, cntL]; omega
          have hb9 := bnd_mono (Nat.le_refl d) hct
          have hp0 := Int.mul_nonneg m0 hpos
          obtain ⟨V, hV⟩ : ∃ V, leastI s = V := ⟨_, rfl⟩
          rw [hV] at hcall hA hrb hpos hp0
          rw [Int.mul_comm] at hrb
          obtain ⟨P, hP⟩ : ∃ P, t.mn * V = P := ⟨_, rfl⟩
          rw [hP] at hrb hp0
          have hw1 : IntKind.i64.wrap (t.mn * V) = P := by rw [hP, IntKind.wrap_i64]; omega
          have hAP : A = P := by rw [hA, hP]
          subst hAP
          have b5 : (t.kind == 5) = true := by simp [k5]
          have HQ := Lib.hid (And.intro hcall hs)
          rw [hl1] at c7
          clear k2 k3 k4 k5 hA hNq hcall hs hsub hbb hcs hrb hct hb9 hV hP hra
          obtain ⟨bl, off, a1, e1, rfl, L1, d0, d1, d2, d3, d4, d5, d6, d7⟩ := H1.out.1.first HQ.out.2
          have hS : ∀ w', Keep (fun _ => False) w1 w' → Keep (fun _ => False) w1 w' ∧ w'.cell? ⟨n0, 5, none⟩ = some (.int .i64 t.mn) ∧ w'.cell? ⟨n0, 7, none⟩ = some (.slice (some ⟨bl, off, none⟩) 1 c) ∧ w'.cell? ⟨bl, off, none⟩ = some (.int .i64 s.kind) ∧ w'.cell? ⟨bl, off + 1, none⟩ = some (.int .u64 s.set.x0) ∧ w'.cell? ⟨bl, off + 2, none⟩ = some (.int .u64 s.set.x1) ∧ w'.cell? ⟨bl, off + 3, none⟩ = some (.int .u64 s.set.x2) ∧ w'.cell? ⟨bl, off + 4, none⟩ = some (.int .u64 s.set.x3) ∧ w'.cell? ⟨bl, off + 5, none⟩ = some (.int .i64 s.mn) ∧ w'.cell? ⟨bl, off + 6, none⟩ = some (.int .i64 s.mx) ∧ w'.cell? ⟨bl, off + 7, none⟩ = some (.slice a1 s.subs.length e1) := fun w' q' => by
            have e := fun (p : Addr) v (hv : w1.cell? p = some v) => (q'.cell (a := p) (World.block_lt_of_cell? w1 _ hv) (fun h => h)).trans hv
            exact ⟨q', e _ _ c5, e _ _ c7, e _ _ d0, e _ _ d1, e _ _ d2, e _ _ d3, e _ _ d4, e _ _ d5, e _ _ d6, e _ _ d7⟩
          have HS := Lib.hid (And.intro hS (fun w' (q' : Keep (fun _ => False) w1 w') => HQ.out.1 a1 e1 w' (L1.keepF q')))
          clear hS L1
          go_wp2_with fail
          go_region_held3 (fun w' => Keep (fun _ => False) w1 w' ∧ w'.cell? ⟨n0, 5, none⟩ = some (.int .i64 t.mn) ∧ w'.cell? ⟨n0, 7, none⟩ = some (.slice (some ⟨bl, off, none⟩) 1 c) ∧ w'.cell? ⟨bl, off, none⟩ = some (.int .i64 s.kind) ∧ w'.cell? ⟨bl, off + 1, none⟩ = some (.int .u64 s.set.x0) ∧ w'.cell? ⟨bl, off + 2, none⟩ = some (.int .u64 s.set.x1) ∧ w'.cell? ⟨bl, off + 3, none⟩ = some (.int .u64 s.set.x2) ∧ w'.cell? ⟨bl, off + 4, none⟩ = some (.int .u64 s.set.x3) ∧ w'.cell? ⟨bl, off + 5, none⟩ = some (.int .i64 s.mn) ∧ w'.cell? ⟨bl, off + 6, none⟩ = some (.int .i64 s.mx) ∧ w'.cell? ⟨bl, off + 7, none⟩ = some (.slice a1 s.subs.length e1)) (first | exact HS.out.1 _ ((Keep.refl _ _).drew) | exact HS.out.1 _ (Keep.trans (And.left (by assumption)) q)) (first
            | (go_at_call 24; refine (HS.out.2 _ (And.left (by assumption))).mono ?_; rintro e w4 ⟨rfl, q⟩))
          all_goals
            rename_i hh
            have HK := Lib.hid (H1.out.2.trans hh.1)
            clear hh
            go_wp2_with fail
            go_ret
            exact ⟨rfl, HK.out⟩
        · rw [if_neg (fun h => hm h.2)] at hA
          subst hA
          have b5 : (t.kind == 5) = true := by simp [k5]
          have hm' : t.mn ≤ 0 := by omega
          clear k2 k3 k4 k5 hNq
          go_wp2_with fail
          go_ret
          exact ⟨rfl, H1.out.2⟩
      · rw [if_neg (fun h => k5 h.1)] at hA
        subst hA
        have b5 : (t.kind == 5) = false := by simp [k5]
        clear k2 k3 k4 k5 hNq
        go_wp2_with fail
        go_ret
        exact ⟨rfl, H1.out.2⟩
theorem fleast_any (t : T) (d : Nat) (hR : RT d t) (hB : bnd d (cnt t) ≤ 9000000000000000000) (a : Option Addr) (c : Nat) (w : World) (hL : Lie w (fun _ => True) a t.subs) : Calls Try.prog 24 #[nodeV t a c] w fun e w' => e = .returned (.int .i64 (leastI t)) ∧ Keep (fun _ => False) w w' :=
  fleast_all _ t (Nat.lt_succ_self _) d hR hB a c w hL
end Go.Proofs.Ytblijgcfelnlmaa.P09
