/- The code's textsOf (layer 9): Alt, repetitions; the whole. -/
import Derived.Test.YtblijgcfelnlmaaKP41
namespace Go.Proofs.Ytblijgcfelnlmaa.P09
open Go.RowKit Go.Proofs.Ytblijgcfelnlmaa.Base Go.Proofs.Ytblijgcfelnlmaa.Bytes Go.Proofs.Ytblijgcfelnlmaa.P07 Go.Proofs.Ytblijgcfelnlmaa.P08
open Go.Proofs.Ytblijgcfelnlmaa.Sets (ST)

set_option maxRecDepth 100000 in
set_option maxHeartbeats 8000000 in
theorem of_alt (n : Nat) (ih : ∀ t : T, SizeOf.sizeOf t < n → OfOk t) (t : T) (hn : SizeOf.sizeOf t < n + 1) (hk : t.kind = 4) : OfOk t := fun d hR hB bl o a c w hP hL => by
  have hlen := hL.len
  obtain ⟨X, hX⟩ : ∃ X, txOf t = X := ⟨_, rfl⟩
  rw [hX]
  rw [txOf_eq, if_neg (by omega), if_neg (by omega), if_pos hk] at hX
  have H0 := Lib.hid (And.intro hP (And.intro hL (And.intro ih (And.intro hR (And.intro hX (And.intro hB hn))))))
  have HC := Lib.hid (Co.start2 w)
  have b2 : (t.kind == 2) = false := by simp [hk]
  have b3 : (t.kind == 3) = false := by simp [hk]
  have b4 : (t.kind == 4) = true := by simp [hk]
  clear hP hL ih hR hX hB hn hk
  go_enter Try.func35, Try.ntmps35
  go_upto_region 1 with fail
  obtain ⟨c0, -, -, -, -, -, -, c7⟩ := (H0.out.1.keepF ((Keep.refl (fun _ => False) w).alloc (.cells xzeros 52))).eight
  go_upto_region 14 with fail
  clear c0 c7
  change Code.wp _ _ _ _ ((w.alloc (.cells xzeros 52)).alloc (.cells (xcells .nothing) 52))
  generalize ((w.alloc (.cells xzeros 52)).alloc (.cells (xcells .nothing) 52)) = W at *
  obtain ⟨c0, -, -, -, -, -, -, c7⟩ := (H0.out.1.keepF HC.out.q).eight
  go_wp2_with fail
  clear c0 c7
  go_loopg [6, 47] t.subs.length (fun gg s6 i wr => ∃ k : Nat, i = .int .i64 k ∧ k + gg = t.subs.length ∧ Co w (altX .nothing (t.subs.take k)) wr)
  case atStart => exact ⟨0, rfl, by omega, by rw [List.take_zero, altX]; exact HC.out⟩
  case round =>
    obtain ⟨k, rfl, hk, hco⟩ := hrel
    by_cases hlt : k < t.subs.length
    · have hlt' : (k : Int) < t.subs.length := by omega
      have i0 : (0 : Int) ≤ k := by omega
      obtain ⟨s, hs⟩ : ∃ s, t.subs[k]? = some s := ⟨t.subs[k], List.getElem?_eq_getElem hlt⟩
      obtain ⟨b2', off, a1, e1, rfl, L1, N1⟩ := sub_at H0.out.2.1 hs
      have hsl := sub_less hs
      have hst : altX .nothing (t.subs.take (k + 1)) = (altX .nothing (t.subs.take k)).or_ (txOf s) := altX_take hs
      have hRs := sub_RT H0.out.2.2.2.1 hs
      have hbs : bnd d (cnt s) ≤ bnd d (cnt t) := bnd_mono (Nat.le_refl d) (by have := cntL_le hs; rw [cnt_eq t]; omega)
      have hin := alt_in (t.subs.take k) d t.kind (RL_take _ k H0.out.2.2.2.1.subs) .nothing 0 (TX.In.nothing (Int.le_refl 0))
      have hins := tx_in s d hRs
      have hcall := fun W' (hq : Keep (fun _ => False) w W') => H0.out.2.2.1 s (by have := H0.out.2.2.2.2.2.2; omega) d hRs (by have := H0.out.2.2.2.2.2.1; omega) b2' (off + k * 8) a1 e1 W' (N1.keepF hq) (L1.keepF hq)
      have hthen := fun W' => orx_any (altX .nothing (t.subs.take k)) (txOf s) hin hins W'
      rw [← hst] at hthen
      obtain ⟨Y, hY⟩ : ∃ Y, txOf s = Y := ⟨_, rfl⟩
      obtain ⟨A, hA⟩ : ∃ A, altX .nothing (t.subs.take k) = A := ⟨_, rfl⟩
      obtain ⟨Z, hZ⟩ : ∃ Z, altX .nothing (t.subs.take (k + 1)) = Z := ⟨_, rfl⟩
      rw [hY] at hcall hthen
      rw [hA] at hthen hco
      rw [hZ] at hthen
      have HQ := Lib.hid (And.intro hco (And.intro hcall (And.intro hthen hZ)))
      obtain ⟨-, -, -, -, -, -, -, c7⟩ := (H0.out.1.keepF hco.q).eight
      obtain ⟨⟨k0, k1, k2, k3, k4, k5, k6, k7⟩, g0, g1, g2, g3, g4, g5, g6, g7⟩ := cells8 hco.a1
      clear hco hcall hthen hZ hA hY hst hRs hbs hin hins L1 N1 hs
      go_wp2_with fail
      go_region_with (first
        | (go_at_call 35; refine (HQ.out.2.1 _ (by first | exact HQ.out.1.drew.q | exact HQ.out.1.q)).mono ?_; rintro e w4 ⟨rfl, q4⟩; have I4 := Lib.hid (HQ.out.1.drew.keep q4); clear q4; obtain ⟨⟨k0, k1, k2, k3, k4, k5, k6, k7⟩, g0, g1, g2, g3, g4, g5, g6, g7⟩ := cells8 I4.out.a1)
        | (go_at_call 51; refine (HQ.out.2.2.1 _).mono ?_; rintro e w5 ⟨rfl, q5⟩; have I5 := Lib.hid (I4.out.keep q5); clear q5; obtain ⟨⟨k0, k1, k2, k3, k4, k5, k6, k7⟩, g0, g1, g2, g3, g4, g5, g6, g7⟩ := cells8 I5.out.a1))
      all_goals
        have I6 := Lib.hid (I5.out.put Z)
        unfold xput at I6
        unfold put8 at I6
        generalize World.setCell _ _ _ = W6 at *
        clear k0 k1 k2 k3 k4 k5 k6 k7 g0 g1 g2 g3 g4 g5 g6 g7
        go_wp2_with fail
        go_roundg (t.subs.length - (k + 1))
        case measure => omega
        case rel => exact ⟨k + 1, by go_num, by omega, by rw [HQ.out.2.2.2]; exact I6.out⟩
    · have hke : k = t.subs.length := by omega
      subst hke
      rw [List.take_length, H0.out.2.2.2.2.1] at hco
      have HQ := Lib.hid hco
      obtain ⟨⟨k0, k1, k2, k3, k4, k5, k6, k7⟩, -⟩ := cells8 hco.a1
      obtain ⟨⟨e0, e1, e2, e3, e4, e5, e6, e7⟩, g0, g1, g2, g3, g4, g5, g6, g7⟩ := cells8 hco.a3
      clear hco
      go_wp2_with fail
      change bodyPost _ _ _ _ _ (xput wr w.heap.size X)
      have a := xput_at HQ.out.a3 X
      have q := xput_keep HQ.out.q (b := w.heap.size) (fun h => absurd h (by omega)) X
      clear e0 e1 e2 e3 e4 e5 e6 e7
      generalize (xput wr w.heap.size X) = W9 at a q ⊢
      obtain ⟨⟨e0, e1, e2, e3, e4, e5, e6, e7⟩, -⟩ := cells8 a
      exact bodyPost_ret (v := xV X) (by simp [results, Try.results35, go_sem, e0, e1, e2, e3, e4, e5, e6, e7]) rfl ⟨rfl, q⟩

set_option maxRecDepth 100000 in
set_option maxHeartbeats 8000000 in
theorem of_rep (n : Nat) (ih : ∀ t : T, SizeOf.sizeOf t < n → OfOk t) (t : T) (hn : SizeOf.sizeOf t < n + 1) (hk : t.kind = 5) : OfOk t := fun d hR hB bl o a c w hP hL => by
  obtain ⟨s, hsub, m0, m1, hxx, hra⟩ := kind5_one hR hk
  have hs : t.subs[0]? = some s := by rw [hsub]; rfl
  have hl1 : t.subs.length = 1 := by rw [hsub]; rfl
  obtain ⟨X, hX⟩ : ∃ X, txOf t = X := ⟨_, rfl⟩
  rw [hX]
  rw [txOf_eq, if_neg (by omega), if_neg (by omega), if_neg (by omega), if_pos hk, hsub, headX] at hX
  have hRs := sub_RT hR hs
  have hct : cnt s + 1 ≤ cnt t := by rw [cnt_eq t, hsub, cntL, cntL]; omega
  have hb1 := bnd_mono (Nat.le_refl d) hct
  have hb2 := bnd_mono (Nat.le_refl d) (show cnt s ≤ cnt t by omega)
  have hi := tx_in s d hRs
  have hr1 := rep_in (mn := t.mn) hra (.inl rfl) (fun e he => tx_in s e he) m1
  have hr2 := rep_in (mn := t.mx) hra (.inr rfl) (fun e he => tx_in s e he) (by omega)
  have hrep := fun W' => repx_any (txOf s) t.mn t.mx m0 m1 (by omega) (by omega) hi.l0 hi.m0 (by omega) (by omega) W'
  rw [hX] at hrep
  have hsl := sub_less hs
  obtain ⟨b2', off, a1, e1, ha, L1, N1⟩ := sub_at hL hs
  rw [Nat.zero_mul, Nat.add_zero] at N1
  have hcall := fun W' (hq : Keep (fun _ => False) w W') => ih s (by omega) d hRs (by omega) b2' off a1 e1 W' (N1.keepF hq) (L1.keepF hq)
  obtain ⟨Y, hY⟩ : ∃ Y, txOf s = Y := ⟨_, rfl⟩
  rw [hY] at hcall hrep
  have a3 := At.new w xzeros 52
  have q := (Keep.refl (fun _ => False) w).alloc (.cells xzeros 52)
  have H0 := Lib.hid (And.intro a3 (And.intro q (And.intro (hP.keepF q) (And.intro hcall hrep))))
  have b2 : (t.kind == 2) = false := by simp [hk]
  have b3 : (t.kind == 3) = false := by simp [hk]
  have b4 : (t.kind == 4) = false := by simp [hk]
  have b5 : (t.kind == 5) = true := by simp [hk]
  subst ha
  clear hcall hrep hY L1 N1 hr1 hr2 hi hb1 hb2 hct hRs hX hs hsub m0 m1 hxx hra hk hB hR hP hL hn ih q a3 hsl
  go_enter Try.func35, Try.ntmps35
  go_upto_region 1 with fail
  generalize (w.alloc (.cells xzeros 52)) = W at *
  obtain ⟨c0, c1, c2, c3, c4, c5, c6, c7⟩ := H0.out.2.2.1.eight
  rw [hl1] at c7
  have HN := Lib.hid (fun W' (q' : Keep (fun _ => False) W W') => H0.out.2.2.1.keepF q')
  have dr : Keep (fun _ => False) W W.drew := (Keep.refl _ _).drew
  have HD := Lib.hid dr
  clear dr
  go_wp2_with fail
  go_region_with (first
    | (go_at_call 35; refine (H0.out.2.2.2.1 _ (by first | exact H0.out.2.1.trans HD.out | exact H0.out.2.1)).mono ?_; rintro e w4 ⟨rfl, q4⟩; have I4 := Lib.hid (And.intro (H0.out.1.keep (HD.out.trans q4) (fun h => h)) (And.intro (H0.out.2.1.trans (HD.out.trans q4)) (HD.out.trans q4))); clear q4; obtain ⟨c0, c1, c2, c3, c4, c5, c6, c7⟩ := (HN.out _ I4.out.2.2).eight)
    | (go_at_call 52; refine (H0.out.2.2.2.2 _).mono ?_; rintro e w5 ⟨rfl, q5⟩; have I5 := Lib.hid (And.intro (I4.out.1.keep q5 (fun h => h)) (I4.out.2.1.trans q5)); clear q5; obtain ⟨⟨k0, k1, k2, k3, k4, k5, k6, k7⟩, g0, g1, g2, g3, g4, g5, g6, g7⟩ := cells8 I5.out.1))
  all_goals
    have a := xput_at I5.out.1 X
    have q := xput_keep I5.out.2 (b := w.heap.size) (fun h => absurd h (by omega)) X
    unfold xput at a q
    unfold put8 at a q
    generalize World.setCell _ _ _ = W9 at *
    clear k0 k1 k2 k3 k4 k5 k6 k7 g0 g1 g2 g3 g4 g5 g6 g7 c0 c1 c2 c3 c4 c5 c6 c7
    obtain ⟨⟨e0, e1, e2, e3, e4, e5, e6, e7⟩, -⟩ := cells8 a
    go_wp2_with fail
    exact bodyPost_ret (v := xV X) (by simp [results, Try.results35, go_sem, e0, e1, e2, e3, e4, e5, e6, e7]) rfl ⟨rfl, q⟩
theorem of_all : ∀ (n : Nat) (t : T), SizeOf.sizeOf t < n → OfOk t
  | 0, _, h => absurd h (Nat.not_lt_zero _)
  | n + 1, t, h => fun d hR => by
    rcases kinds hR with hk | hk | hk | hk | hk
    · exact of_class t (.inr hk) d hR
    · exact of_class t (.inl hk) d hR
    · exact of_cat n (of_all n) t h hk d hR
    · exact of_alt n (of_all n) t h hk d hR
    · exact of_rep n (of_all n) t h hk d hR
end Go.Proofs.Ytblijgcfelnlmaa.P09
