/- The code's textsOf (layer 9): classes, Cat. -/
import Derived.Test.YtblijgcfelnlmaaKP39
import Derived.Test.YtblijgcfelnlmaaKP40
import Derived.Test.YtblijgcfelnlmaaKP26
namespace Go.Proofs.Ytblijgcfelnlmaa.P09
open Go.RowKit Go.Proofs.Ytblijgcfelnlmaa.Base Go.Proofs.Ytblijgcfelnlmaa.Bytes Go.Proofs.Ytblijgcfelnlmaa.P07 Go.Proofs.Ytblijgcfelnlmaa.P08
open Go.Proofs.Ytblijgcfelnlmaa.Sets (ST)

def OfOk (t : T) : Prop := ∀ (d : Nat), RT d t → bnd d (cnt t) ≤ 9000000000000000000 → ∀ (bl o : Nat) (a : Option Addr) (c : Nat) (w : World), NodeP w bl o t a c → Lie w (fun _ => True) a t.subs →
  Calls Try.prog 35 #[.pointer (some ⟨bl, o, none⟩)] w fun e w' => e = .returned (xV (txOf t)) ∧ Keep (fun _ => False) w w'

/-- The result's block, and the block of what is put together. -/
structure Co (w : World) (X : TX) (W : World) : Prop where
  a1 : At W (w.heap.size + 1) 52 (xcells X)
  a3 : At W w.heap.size 52 xzeros
  q : Keep (fun _ => False) w W
theorem Co.keep {w : World} {X : TX} {W W' : World} (h : Co w X W) (k : Keep (fun _ => False) W W') : Co w X W' := ⟨h.a1.keep k (fun h => h), h.a3.keep k (fun h => h), h.q.trans k⟩
theorem Co.drew {w : World} {X : TX} {W : World} (h : Co w X W) : Co w X W.drew := h.keep (Keep.refl _ _).drew
theorem Co.put {w : World} {X : TX} {W : World} (h : Co w X W) (Z : TX) : Co w Z (xput W (w.heap.size + 1) Z) :=
  ⟨xput_at h.a1 Z, other8 h.a3 (by omega) _ _ _ _ _ _ _ _, xput_keep h.q (fun h => absurd h (by omega)) Z⟩
theorem Co.start (w : World) : Co w .empty ((w.alloc (.cells xzeros 52)).alloc (.cells xzeros 52)) := by
  have a3 := (At.new w xzeros 52).alloc (.cells xzeros 52)
  have a1 := At.new (w.alloc (.cells xzeros 52)) xzeros 52
  rw [show (w.alloc (.cells xzeros 52)).heap.size = w.heap.size + 1 from by simp] at a1
  exact ⟨a1, a3, ((Keep.refl (fun _ => False) w).alloc _).alloc _⟩
theorem Co.start2 (w : World) : Co w .nothing ((w.alloc (.cells xzeros 52)).alloc (.cells (xcells .nothing) 52)) := by
  have a3 := (At.new w xzeros 52).alloc (.cells (xcells .nothing) 52)
  have a1 := At.new (w.alloc (.cells xzeros 52)) (xcells .nothing) 52
  rw [show (w.alloc (.cells xzeros 52)).heap.size = w.heap.size + 1 from by simp] at a1
  exact ⟨a1, a3, ((Keep.refl (fun _ => False) w).alloc _).alloc _⟩

/-- The k-th part, at its address. -/
theorem sub_at {w : World} {a : Option Addr} {L : List T} (h : Lie w (fun _ => True) a L) {i : Nat} {s : T} (hs : L[i]? = some s) :
    ∃ bl off a1 e1, a = some ⟨bl, off, none⟩ ∧ Lie w (fun _ => True) a1 s.subs ∧ NodeP w bl (off + i * 8) s a1 e1 := by
  obtain ⟨bl, off, a1, e1, rfl, -, hbl, -, L1, C1⟩ := h.get hs
  exact ⟨bl, off, a1, e1, rfl, L1, ⟨hbl, C1⟩⟩

set_option maxRecDepth 100000 in
set_option maxHeartbeats 4000000 in
theorem of_class (t : T) (hk : t.kind = 2 ∨ t.kind = 1) : OfOk t := fun d hR hB bl o a c w hP hL => by
  have a3 := At.new w xzeros 52
  have q := (Keep.refl (fun _ => False) w).alloc (.cells xzeros 52)
  have H0 := Lib.hid (And.intro a3 (And.intro q (And.intro (hP.keepF q) (show t.set.Ok from by cases t; exact hR.bare.2.1))))
  clear a3 q hP hL hB hR
  obtain ⟨X, hX⟩ : ∃ X, txOf t = X := ⟨_, rfl⟩
  rw [hX]
  rw [txOf_eq] at hX
  rcases hk with hk | hk
  · rw [if_pos hk] at hX
    have HX := Lib.hid hX
    clear hX
    have b2 : (t.kind == 2) = true := by simp [hk]
    clear hk
    go_enter Try.func35, Try.ntmps35
    go_upto_region 1 with fail
    generalize (w.alloc (.cells xzeros 52)) = W at *
    obtain ⟨c0, c1, c2, c3, c4, c5, c6, c7⟩ := H0.out.2.2.1.eight
    go_wp2_with fail
    refine (bytesOf_any t.set H0.out.2.2.2 W).mono ?_
    rintro e w1 ⟨rfl, q1⟩
    rw [HX.out]
    have H1 := Lib.hid (And.intro (H0.out.1.keep q1 (fun h => h)) (H0.out.2.1.trans q1))
    clear q1 c0 c1 c2 c3 c4 c5 c6 c7
    obtain ⟨⟨g0, g1, g2, g3, g4, g5, g6, g7⟩, ⟨f0, f1, f2, f3, f4, f5, f6, f7⟩⟩ := cells8 H1.out.1
    go_wp2_with fail
    change bodyPost _ _ _ _ _ (xput w1 w.heap.size X)
    have a := xput_at H1.out.1 X
    have q := xput_keep H1.out.2 (b := w.heap.size) (fun h => absurd h (by omega)) X
    generalize (xput w1 w.heap.size X) = W9 at a q ⊢
    obtain ⟨⟨e0, e1, e2, e3, e4, e5, e6, e7⟩, -⟩ := cells8 a
    exact bodyPost_ret (v := xV X) (by simp [results, Try.results35, go_sem, e0, e1, e2, e3, e4, e5, e6, e7]) rfl ⟨rfl, q⟩
  · rw [if_neg (by omega), if_neg (by omega), if_neg (by omega), if_neg (by omega)] at hX
    subst hX
    have b2 : (t.kind == 2) = false := by simp [hk]
    have b3 : (t.kind == 3) = false := by simp [hk]
    have b4 : (t.kind == 4) = false := by simp [hk]
    have b5 : (t.kind == 5) = false := by simp [hk]
    clear hk
    go_enter Try.func35, Try.ntmps35
    go_upto_region 1 with fail
    generalize (w.alloc (.cells xzeros 52)) = W at *
    obtain ⟨c0, c1, c2, c3, c4, c5, c6, c7⟩ := H0.out.2.2.1.eight
    obtain ⟨⟨g0, g1, g2, g3, g4, g5, g6, g7⟩, ⟨f0, f1, f2, f3, f4, f5, f6, f7⟩⟩ := cells8 H0.out.1
    go_wp2_with fail
    change bodyPost _ _ _ _ _ (xput W w.heap.size .empty)
    have a := xput_at H0.out.1 .empty
    have q := xput_keep H0.out.2.1 (b := w.heap.size) (fun h => absurd h (by omega)) .empty
    generalize (xput W w.heap.size .empty) = W9 at a q ⊢
    obtain ⟨⟨e0, e1, e2, e3, e4, e5, e6, e7⟩, -⟩ := cells8 a
    exact bodyPost_ret (v := xV .empty) (by simp [results, Try.results35, go_sem, e0, e1, e2, e3, e4, e5, e6, e7]) rfl ⟨rfl, q⟩

set_option maxRecDepth 100000 in
set_option maxHeartbeats 8000000 in
theorem of_cat (n : Nat) (ih : ∀ t : T, SizeOf.sizeOf t < n → OfOk t) (t : T) (hn : SizeOf.sizeOf t < n + 1) (hk : t.kind = 3) : OfOk t := fun d hR hB bl o a c w hP hL => by
  have hlen := hL.len
  obtain ⟨X, hX⟩ : ∃ X, txOf t = X := ⟨_, rfl⟩
  rw [hX]
  rw [txOf_eq, if_neg (by omega), if_pos hk] at hX
  have H0 := Lib.hid (And.intro hP (And.intro hL (And.intro ih (And.intro hR (And.intro hX (And.intro hB hn))))))
  have HC := Lib.hid (Co.start w)
  have b2 : (t.kind == 2) = false := by simp [hk]
  have b3 : (t.kind == 3) = true := by simp [hk]
  clear hP hL ih hR hX hB hn hk
  go_enter Try.func35, Try.ntmps35
  go_upto_region 1 with fail
  obtain ⟨c0, -, -, -, -, -, -, c7⟩ := (H0.out.1.keepF ((Keep.refl (fun _ => False) w).alloc (.cells xzeros 52))).eight
  go_upto_region 6 with fail
  clear c0 c7
  generalize ((w.alloc (.cells xzeros 52)).alloc (.cells xzeros 52)) = W at *
  obtain ⟨c0, -, -, -, -, -, -, c7⟩ := (H0.out.1.keepF HC.out.q).eight
  go_wp2_with fail
  clear c0 c7
  go_loopg [4, 25] t.subs.length (fun gg s4 i wr => ∃ k : Nat, i = .int .i64 k ∧ k + gg = t.subs.length ∧ Co w (catX .empty (t.subs.take k)) wr)
  case atStart => exact ⟨0, rfl, by omega, by rw [List.take_zero, catX]; exact HC.out⟩
  case round =>
    obtain ⟨k, rfl, hk, hco⟩ := hrel
    by_cases hlt : k < t.subs.length
    · have hlt' : (k : Int) < t.subs.length := by omega
      have i0 : (0 : Int) ≤ k := by omega
      obtain ⟨s, hs⟩ : ∃ s, t.subs[k]? = some s := ⟨t.subs[k], List.getElem?_eq_getElem hlt⟩
      obtain ⟨b2', off, a1, e1, rfl, L1, N1⟩ := sub_at H0.out.2.1 hs
      have hsl := sub_less hs
      have hst : catX .empty (t.subs.take (k + 1)) = (catX .empty (t.subs.take k)).then_ (txOf s) := catX_take hs
      have hRs := sub_RT H0.out.2.2.2.1 hs
      have hbs : bnd d (cnt s) ≤ bnd d (cnt t) := bnd_mono (Nat.le_refl d) (by have := cntL_le hs; rw [cnt_eq t]; omega)
      have hin := cat_in (t.subs.take k) d t.kind (RL_take _ k H0.out.2.2.2.1.subs) .empty 0 (TX.In.empty (Int.le_refl 0))
      have hins := tx_in s d hRs
      have hsum : (0 + (bnd d (cntL (t.subs.take k)) : Int)) + (bnd d (cnt s) : Int) ≤ 9000000000000000000 := by
        have h1 := bnd_add d (cntL (t.subs.take k)) (cnt s)
        have h2 := cntL_take hs
        rw [← h2] at h1
        have h3 := bnd_mono (Nat.le_refl d) (show cntL (t.subs.take (k + 1)) ≤ cnt t by have := cntL_pre t.subs (k + 1); rw [cnt_eq t]; omega)
        have h4 := H0.out.2.2.2.2.2.1
        omega
      have hcall := fun W' (hq : Keep (fun _ => False) w W') => H0.out.2.2.1 s (by have := H0.out.2.2.2.2.2.2; omega) d hRs (by have := H0.out.2.2.2.2.2.1; omega) b2' (off + k * 8) a1 e1 W' (N1.keepF hq) (L1.keepF hq)
      have hthen := fun W' => then_any (catX .empty (t.subs.take k)) (txOf s) hin hins hsum W'
      rw [← hst] at hthen
      obtain ⟨Y, hY⟩ : ∃ Y, txOf s = Y := ⟨_, rfl⟩
      obtain ⟨A, hA⟩ : ∃ A, catX .empty (t.subs.take k) = A := ⟨_, rfl⟩
      obtain ⟨Z, hZ⟩ : ∃ Z, catX .empty (t.subs.take (k + 1)) = Z := ⟨_, rfl⟩
      rw [hY] at hcall hthen
      rw [hA] at hthen hco
      rw [hZ] at hthen
      have HQ := Lib.hid (And.intro hco (And.intro hcall (And.intro hthen hZ)))
      obtain ⟨-, -, -, -, -, -, -, c7⟩ := (H0.out.1.keepF hco.q).eight
      obtain ⟨⟨k0, k1, k2, k3, k4, k5, k6, k7⟩, g0, g1, g2, g3, g4, g5, g6, g7⟩ := cells8 hco.a1
      clear hco hcall hthen hZ hA hY hst hRs hbs hin hins hsum L1 N1 hs
      go_wp2_with fail
      go_region_with (first
        | (go_at_call 35; refine (HQ.out.2.1 _ (by first | exact HQ.out.1.drew.q | exact HQ.out.1.q)).mono ?_; rintro e w4 ⟨rfl, q4⟩; have I4 := Lib.hid (HQ.out.1.drew.keep q4); clear q4; obtain ⟨⟨k0, k1, k2, k3, k4, k5, k6, k7⟩, g0, g1, g2, g3, g4, g5, g6, g7⟩ := cells8 I4.out.a1)
        | (go_at_call 50; refine (HQ.out.2.2.1 _).mono ?_; rintro e w5 ⟨rfl, q5⟩; have I5 := Lib.hid (I4.out.keep q5); clear q5; obtain ⟨⟨k0, k1, k2, k3, k4, k5, k6, k7⟩, g0, g1, g2, g3, g4, g5, g6, g7⟩ := cells8 I5.out.a1))
      all_goals
        have I6 := Lib.hid (I5.out.put Z)
        unfold xput at I6
        unfold put8 at I6
        generalize World.setCell _ _ _ = W6 at *
        clear k0 k1 k2 k3 k4 k5 k6 k7 g0 g1 g2 g3 g4 g5 g6 g7
        go_wp2_with fail
        go_roundg (t.subs.length - (k + 1))
        case measure => omega
        case rel => exact ⟨k + 1, by go_num, by omega, by rw [HQ.out.2.2.2]; exact I6.out⟩
    · have hke : k = t.subs.length := by omega
      subst hke
      rw [List.take_length, H0.out.2.2.2.2.1] at hco
      have HQ := Lib.hid hco
      obtain ⟨⟨k0, k1, k2, k3, k4, k5, k6, k7⟩, -⟩ := cells8 hco.a1
      obtain ⟨⟨e0, e1, e2, e3, e4, e5, e6, e7⟩, g0, g1, g2, g3, g4, g5, g6, g7⟩ := cells8 hco.a3
      clear hco
      go_wp2_with fail
      change bodyPost _ _ _ _ _ (xput wr w.heap.size X)
      have a := xput_at HQ.out.a3 X
      have q := xput_keep HQ.out.q (b := w.heap.size) (fun h => absurd h (by omega)) X
      clear e0 e1 e2 e3 e4 e5 e6 e7
      generalize (xput wr w.heap.size X) = W9 at a q ⊢
      obtain ⟨⟨e0, e1, e2, e3, e4, e5, e6, e7⟩, -⟩ := cells8 a
      exact bodyPost_ret (v := xV X) (by simp [results, Try.results35, go_sem, e0, e1, e2, e3, e4, e5, e6, e7]) rfl ⟨rfl, q⟩
end Go.Proofs.Ytblijgcfelnlmaa.P09
