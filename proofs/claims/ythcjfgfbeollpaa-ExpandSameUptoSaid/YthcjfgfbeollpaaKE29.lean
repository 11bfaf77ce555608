/- The document's Size and Wide (layer 9). -/
import Derived.Test.YthcjfgfbeollpaaKE28
namespace Go.Proofs.Ythcjfgfbeollpaa.P09
open Go.RowKit Go.Proofs.Ythcjfgfbeollpaa.Base Go.Proofs.Ythcjfgfbeollpaa.Bytes Go.Proofs.Ythcjfgfbeollpaa.P07 Go.Proofs.Ythcjfgfbeollpaa.P08
open Go.Proofs.Ythcjfgfbeollpaa.Sets (ST)

set_option maxRecDepth 100000 in
set_option maxHeartbeats 2000000 in
theorem fsize_all : ∀ (n : Nat) (t : T), SizeOf.sizeOf t < n → cnt t ≤ 1000000000 → ∀ (a : Option Addr) (c : Nat) (w : World), Lie w (fun _ => True) a t.subs →
    Calls Try.prog 22 #[nodeV t a c] w fun e w' => e = .returned (.int .i64 (cnt t)) ∧ Keep (fun _ => False) w w'
  | 0, _, h, _, _, _, _, _ => absurd h (Nat.not_lt_zero _)
  | n + 1, t, h, hc, a, c, w, hL => by
    have hlen := hL.len
    have H0 := Lib.hid (And.intro ((Keep.refl (fun _ => False) w).alloc (.cells (ncells t a c) 27)) (And.intro (Bx.new (c := c) hL) (fsize_all n)))
    have e : cnt t = 1 + cntL t.subs := cnt_eq t
    obtain ⟨C, hC⟩ : ∃ C, cnt t = C := ⟨_, rfl⟩
    rw [hC] at e hc ⊢
    have HE := Lib.hid (And.intro e (cntL_pre t.subs))
    have HN := Lib.hid h
    clear hL e hC h
    go_enter Try.func22, Try.ntmps22
    go_upto_region 1 with fail
    generalize (w.alloc (.cells (ncells t a c) 27)) = W at *
    generalize w.heap.size = n0 at *
    go_wp2_with fail
    go_loopg [3, 4] t.subs.length (fun gg m i wr => ∃ (k : Nat) (M : Nat), i = .int .i64 k ∧ k + gg = t.subs.length ∧ m = .int .i64 M ∧ M = 1 + cntL (t.subs.take k) ∧ Keep (fun _ => False) W wr)
    case atStart => exact ⟨0, 1, rfl, by omega, rfl, by rw [List.take_zero, cntL], Keep.refl _ _⟩
    case round =>
      obtain ⟨k, M, rfl, hk, rfl, hM, hq⟩ := hrel
      have B1 := H0.out.2.1.keep hq
      obtain ⟨-, -, -, -, -, -, -, c7⟩ := B1.eight
      by_cases hlt : k < t.subs.length
      · have hlt' : (k : Int) < t.subs.length := by omega
        have i0 : (0 : Int) ≤ k := by omega
        obtain ⟨s, hs⟩ : ∃ s, t.subs[k]? = some s := ⟨t.subs[k], List.getElem?_eq_getElem hlt⟩
        obtain ⟨bl, off, a1, e1, rfl, L1, d0, d1, d2, d3, d4, d5, d6, d7⟩ := B1.sub hs
        have hsl := sub_less hs
        have hcs := cntL_le hs
        have ht := cntL_take hs
        have hpre := HE.out.2 (k + 1)
        have he := HE.out.1
        have hcall := H0.out.2.2 s (by have := HN.out; omega) (by omega) a1 e1 wr L1
        obtain ⟨Y, hY⟩ : ∃ Y, cnt s = Y := ⟨_, rfl⟩
        rw [hY] at hcall ht
        have hMb : M + Y ≤ 1000000000 := by omega
        have HQ := Lib.hid (And.intro hq (And.intro hcall (And.intro ht hM)))
        clear hq hcall ht hM B1 hs hcs hpre he hY
        go_wp2_with fail
        refine HQ.out.2.1.mono ?_
        rintro e w2 ⟨rfl, q2⟩
        have Q2 := Lib.hid (HQ.out.1.trans q2)
        clear q2 c7 d0 d1 d2 d3 d4 d5 d6 d7
        go_wp2_with fail
        go_roundg (t.subs.length - (k + 1))
        case measure => omega
        case rel => exact ⟨k + 1, M + Y, by go_num, by omega, by go_num, by have := HQ.out.2.2; omega, Q2.out⟩
      · have hke : k = t.subs.length := by omega
        subst hke
        rw [List.take_length] at hM
        have HQ := Lib.hid (And.intro hq hM)
        clear hq hM B1
        go_wp2_with fail
        go_ret
        exact ⟨by rw [HE.out.1, HQ.out.2]; rfl, H0.out.1.trans HQ.out.1⟩
theorem fsize_any (t : T) (hc : cnt t ≤ 1000000000) (a : Option Addr) (c : Nat) (w : World) (hL : Lie w (fun _ => True) a t.subs) : Calls Try.prog 22 #[nodeV t a c] w fun e w' => e = .returned (.int .i64 (cnt t)) ∧ Keep (fun _ => False) w w' :=
  fsize_all _ t (Nat.lt_succ_self _) hc a c w hL
end Go.Proofs.Ythcjfgfbeollpaa.P09
/- The document's None (layer 9), of right expressions. -/
namespace Go.Proofs.Ythcjfgfbeollpaa.P09
open Go.RowKit Go.Proofs.Ythcjfgfbeollpaa.Base Go.Proofs.Ythcjfgfbeollpaa.Bytes Go.Proofs.Ythcjfgfbeollpaa.P07 Go.Proofs.Ythcjfgfbeollpaa.P08
open Go.Proofs.Ythcjfgfbeollpaa.Sets (ST)

theorem sub_RT {d : Nat} {t : T} (h : RT d t) {i : Nat} {s : T} (hs : t.subs[i]? = some s) : RT d s := RL_get h.subs hs
theorem kind5_one {d : Nat} {t : T} (h : RT d t) (hk : t.kind = 5) : ∃ s, t.subs = [s] ∧ 0 ≤ t.mn ∧ t.mn ≤ 20 ∧ (t.mx = -1 ∨ t.mn ≤ t.mx ∧ t.mx ≤ 20) ∧ (if rnd 5 s.kind then 1 ≤ d ∧ RT (d - 1) s else RT d s) := by
  cases t
  exact one_sub h hk
end Go.Proofs.Ythcjfgfbeollpaa.P09
/- The document's Wide (layer 9), of right expressions. -/
namespace Go.Proofs.Ythcjfgfbeollpaa.P09
open Go.RowKit Go.Proofs.Ythcjfgfbeollpaa.Base Go.Proofs.Ythcjfgfbeollpaa.Bytes Go.Proofs.Ythcjfgfbeollpaa.P07 Go.Proofs.Ythcjfgfbeollpaa.P08
open Go.Proofs.Ythcjfgfbeollpaa.Sets (ST)

theorem times_bare {d : Nat} {t : T} (h : RT d t) : 0 ≤ t.mn ∧ t.mn ≤ 20 ∧ -1 ≤ t.mx ∧ t.mx ≤ 20 := by
  cases t
  have hb := h.bare.1
  unfold Bare at hb
  show 0 ≤ _ ∧ _ ≤ 20 ∧ -1 ≤ _ ∧ _ ≤ 20
  dsimp only [T.mn, T.mx]
  omega
mutual
theorem wd_bnd : ∀ (t : T) (d : Nat), RT d t → 0 ≤ wd t ∧ wd t ≤ 1073741824
  | .nd k s mn mx l, d, h => by
    have hm := times_bare h
    rw [wd]
    exact wdL_bnd l d k h.bare.2.2 mn mx hm.1 hm.2.2.1 1 (by omega) (by omega)
theorem wdL_bnd : ∀ (l : List T) (d : Nat) (k : Int), RL d k l → ∀ mn mx : Int, 0 ≤ mn → -1 ≤ mx → ∀ acc : Int, 0 ≤ acc → acc ≤ 1073741824 → 0 ≤ wdL k mn mx acc l ∧ wdL k mn mx acc l ≤ 1073741824
  | [], d, k, _, mn, mx, _, _, acc, h0, h1 => by rw [wdL]; exact ⟨h0, h1⟩
  | t :: l, d, k, h, mn, mx, hm, hx, acc, h0, h1 => by
    obtain ⟨ha, hb⟩ := RL_cons h
    rw [wdL]
    have h3 := wd_bnd t d (IS.rt (k := k) ha)
    have h4 := wstep_ge (k := k) h3.1 hm hx
    exact wdL_bnd l d k hb mn mx hm hx _ (by omega) (by omega)
end
theorem wdL_take {k mn mx acc : Int} {L : List T} {i : Nat} {s : T} (h : L[i]? = some s) : wdL k mn mx acc (L.take (i + 1)) = min (wdL k mn mx acc (L.take i) + wstep k mn mx (wd s)) 1073741824 := by
  rw [List.take_add_one, h]
  exact wdL_append k mn mx _ acc s
theorem RL_take {d : Nat} {k : Int} : ∀ (L : List T) (i : Nat), RL d k L → RL d k (L.take i)
  | [], i, h => by rw [List.take_nil]; exact h
  | t :: L, 0, h => by rw [List.take_zero, RL]; trivial
  | t :: L, i + 1, h => by
    obtain ⟨h1, h2⟩ := RL_cons h
    rw [List.take_succ_cons, RL]
    exact ⟨h1, RL_take L i h2⟩

set_option maxRecDepth 100000 in
set_option maxHeartbeats 2000000 in
theorem fwide_all : ∀ (n : Nat) (t : T), SizeOf.sizeOf t < n → ∀ (d : Nat), RT d t → ∀ (a : Option Addr) (c : Nat) (w : World), Lie w (fun _ => True) a t.subs →
    Calls Try.prog 18 #[nodeV t a c] w fun e w' => e = .returned (.int .i64 (wd t)) ∧ Keep (fun _ => False) w w'
  | 0, _, h, _, _, _, _, _, _ => absurd h (Nat.not_lt_zero _)
  | n + 1, t, h, d, hR, a, c, w, hL => by
    have hlen := hL.len
    have H0 := Lib.hid (And.intro ((Keep.refl (fun _ => False) w).alloc (.cells (ncells t a c) 27)) (And.intro (Bx.new (c := c) hL) (fwide_all n)))
    have hsub := fun (s : T) (i : Nat) (h : t.subs[i]? = some s) => sub_RT hR h
    have e := wd_eq t
    obtain ⟨A, hA⟩ : ∃ A, wd t = A := ⟨_, rfl⟩
    rw [hA] at e ⊢
    obtain ⟨m0, m1, x0, x1⟩ := times_bare hR
    have hpre := fun i => wdL_bnd (t.subs.take i) d t.kind (RL_take t.subs i hR.subs) t.mn t.mx m0 x0 1 (by omega) (by omega)
    have HE := Lib.hid (And.intro e (And.intro hsub hpre))
    have HN := Lib.hid h
    clear hL e hA h hsub hR hpre
    have hcase : ((t.kind == 5) = true ∧ (t.mx == -1) = true ∧ t.kind = 5 ∧ t.mx = -1) ∨ ((t.kind == 5) = true ∧ (t.mx == -1) = false ∧ t.kind = 5 ∧ t.mx ≠ -1) ∨ ((t.kind == 5) = false ∧ t.kind ≠ 5) := by
      by_cases h5 : t.kind = 5
      · by_cases hx : t.mx = -1
        · exact .inl ⟨by simp [h5], by simp [hx], h5, hx⟩
        · exact .inr (.inl ⟨by simp [h5], by simp [hx], h5, hx⟩)
      · exact .inr (.inr ⟨by simp [h5], h5⟩)
    go_enter Try.func18, Try.ntmps18
    go_upto_region 1 with fail
    generalize (w.alloc (.cells (ncells t a c) 27)) = W at *
    generalize w.heap.size = n0 at *
    go_wp2_with fail
    go_loopg [3, 4, 5] t.subs.length (fun gg m i s5 wr => ∃ (k : Nat) (M : Int), i = .int .i64 k ∧ k + gg = t.subs.length ∧ m = .int .i64 M ∧ M = wdL t.kind t.mn t.mx 1 (t.subs.take k) ∧ Keep (fun _ => False) W wr)
    case atStart => exact ⟨0, 1, rfl, by omega, rfl, by rw [List.take_zero, wdL], Keep.refl _ _⟩
    case round =>
      obtain ⟨k, M, rfl, hk, rfl, hM, hq⟩ := hrel
      have B1 := H0.out.2.1.keep hq
      obtain ⟨c0, -, -, -, -, c5, c6, c7⟩ := B1.eight
      have hMb := HE.out.2.2 k
      rw [← hM] at hMb
      by_cases hlt : k < t.subs.length
      · have hlt' : (k : Int) < t.subs.length := by omega
        have i0 : (0 : Int) ≤ k := by omega
        obtain ⟨s, hs⟩ : ∃ s, t.subs[k]? = some s := ⟨t.subs[k], List.getElem?_eq_getElem hlt⟩
        obtain ⟨bl, off, a1, e1, rfl, L1, d0, d1, d2, d3, d4, d5, d6, d7⟩ := B1.sub hs
        have hsl := sub_less hs
        have ht : _ = _ := wdL_take (k := t.kind) (mn := t.mn) (mx := t.mx) (acc := 1) hs
        rw [← hM] at ht
        have hwb := wd_bnd s d (HE.out.2.1 s k hs)
        have hcall := H0.out.2.2 s (by have := HN.out; omega) d (HE.out.2.1 s k hs) a1 e1 wr L1
        obtain ⟨V, hV⟩ : ∃ V, wd s = V := ⟨_, rfl⟩
        rw [hV] at hcall ht hwb
        have HQ := Lib.hid (And.intro hq (And.intro hcall hM))
        have HT := Lib.hid ht
        clear hq hcall ht hM B1 hs hV
        go_wp2_with fail
        refine HQ.out.2.1.mono ?_
        rintro e w2 ⟨rfl, q2⟩
        have Q2 := Lib.hid (HQ.out.1.trans q2)
        obtain ⟨c0, -, -, -, -, c5, c6, c7⟩ := (H0.out.2.1.keep Q2.out).eight
        clear q2 d0 d1 d2 d3 d4 d5 d6 d7
        have hM0 := hMb.1
        have hM1 := hMb.2
        have hV0 := hwb.1
        have hV1 := hwb.2
        clear hMb hwb
        rcases hcase with ⟨b5, bx, k5, kx⟩ | ⟨b5, bx, k5, kx⟩ | ⟨b5, k5⟩
        · have hst : wstep t.kind t.mn t.mx V = V * (t.mn + 1) + 1 := by unfold wstep; rw [if_pos ⟨k5, kx⟩]
          have hle := wstep_le (k := t.kind) (mx := t.mx) hV0 hV1 m0 m1 x1
          have hge := wstep_ge (k := t.kind) hV0 m0 x0
          rw [hst] at hle hge
          have HS := Lib.hid hst
          obtain ⟨P, hP⟩ : ∃ P, V * (t.mn + 1) = P := ⟨_, rfl⟩
          rw [hP] at hle hge
          have hw1 : IntKind.i64.wrap (V * (t.mn + 1)) = P := by rw [hP, IntKind.wrap_i64]; omega
          have HPP := Lib.hid hP
          clear k5 kx hst hP
          go_wp2_with fail
          go_roundg (t.subs.length - (k + 1))
          case measure => omega
          case rel => exact ⟨k + 1, _, by go_num, by omega, rfl, by rw [HT.out, HS.out, HPP.out], Q2.out⟩
        · have hst : wstep t.kind t.mn t.mx V = (V + 2) * t.mx := by unfold wstep; rw [if_neg (fun h => kx h.2), if_pos k5]
          have hle := wstep_le (k := t.kind) (mx := t.mx) hV0 hV1 m0 m1 x1
          have hge := wstep_ge (k := t.kind) hV0 m0 x0
          rw [hst] at hle hge
          have HS := Lib.hid hst
          obtain ⟨P, hP⟩ : ∃ P, (V + 2) * t.mx = P := ⟨_, rfl⟩
          rw [hP] at hle hge
          have hw1 : IntKind.i64.wrap ((V + 2) * t.mx) = P := by rw [hP, IntKind.wrap_i64]; omega
          have HPP := Lib.hid hP
          clear k5 kx hst hP
          go_wp2_with fail
          go_roundg (t.subs.length - (k + 1))
          case measure => omega
          case rel => exact ⟨k + 1, _, by go_num, by omega, rfl, by rw [HT.out, HS.out, HPP.out], Q2.out⟩
        · have hst : wstep t.kind t.mn t.mx V = V := by unfold wstep; rw [if_neg (fun h => k5 h.1), if_neg k5]
          have HS := Lib.hid hst
          clear k5 hst
          go_wp2_with fail
          go_roundg (t.subs.length - (k + 1))
          case measure => omega
          case rel => exact ⟨k + 1, _, by go_num, by omega, rfl, by rw [HT.out, HS.out], Q2.out⟩
      · have hke : k = t.subs.length := by omega
        subst hke
        rw [List.take_length] at hM
        have HQ := Lib.hid (And.intro hq hM)
        clear hq hM B1
        go_wp2_with fail
        go_ret
        exact ⟨by rw [HE.out.1, HQ.out.2]; rfl, H0.out.1.trans HQ.out.1⟩
theorem fwide_any (t : T) (d : Nat) (hR : RT d t) (a : Option Addr) (c : Nat) (w : World) (hL : Lie w (fun _ => True) a t.subs) : Calls Try.prog 18 #[nodeV t a c] w fun e w' => e = .returned (.int .i64 (wd t)) ∧ Keep (fun _ => False) w w' :=
  fwide_all _ t (Nat.lt_succ_self _) d hR a c w hL
end Go.Proofs.Ythcjfgfbeollpaa.P09
