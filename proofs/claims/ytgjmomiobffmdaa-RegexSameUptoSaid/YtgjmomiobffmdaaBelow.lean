/- Contracts of bytes256's below, Of, One. -/
import Derived.Test.YtgjmomiobffmdaaBytes
namespace Go.Proofs.Ytgjmomiobffmdaa.Bytes
open Go.RowKit Go.Proofs.Ytgjmomiobffmdaa.Base Go.Proofs.Ytgjmomiobffmdaa.Sets

theorem at_eq {w : World} {p : Addr} {a a' : Int} {b : Nat} {t : TypeId} {cs : Array Value} (h : At (w.setCell p (.int .u64 a)) b t cs) (e : a' = a) : At (w.setCell p (.int .u64 a')) b t cs := by rw [e]; exact h

theorem pow_all : ∀ m, m < 65 → IntKind.u64.wrap (IntKind.u64.wrap (2 ^ m) - 1) = ((2 ^ m - 1 : Nat) : Int) := by decide +kernel
theorem below_hi (n k : Nat) (h : 64 < (n : Int) - 64 * (k : Int)) : IntKind.u64.wrap (IntKind.u64.wrap 18446744073709551616 - 1) = ((2 ^ min (n - 64 * k) 64 - 1 : Nat) : Int) := by
  rw [show min (n - 64 * k) 64 = 64 from by omega]
  decide
theorem below_mid (n k : Nat) (h : 0 ≤ (n : Int) - 64 * (k : Int)) (h' : (n : Int) - 64 * (k : Int) ≤ 64) : IntKind.u64.wrap (IntKind.u64.wrap (2 ^ ((n : Int) - 64 * (k : Int)).toNat) - 1) = ((2 ^ min (n - 64 * k) 64 - 1 : Nat) : Int) := by
  rw [show min (n - 64 * k) 64 = n - 64 * k from by omega, show ((n : Int) - 64 * (k : Int)).toNat = n - 64 * k from by omega]
  exact pow_all _ (by omega)
theorem below_lo (n k : Nat) (h : (n : Int) - 64 * (k : Int) < 0) : 0 = ((2 ^ min (n - 64 * k) 64 - 1 : Nat) : Int) := by
  rw [show min (n - 64 * k) 64 = 0 from by omega]
  rfl

theorem below_any (n : Nat) (hn : n ≤ 256) (w : World) : Calls Try.prog 28 #[.int .i64 n] w fun e w' => e = .returned (val (ST.below n)) ∧ Keep (fun _ => False) w w' := by
  go_enter Try.func28, Try.ntmps28
  go_wp2_with fail
  have a1 := (At.new w zeros 25).alloc (.cells zeros 25)
  have a2 := At.new (w.alloc (.cells zeros 25)) zeros 25
  have q := ((Keep.refl (fun _ => False) w).alloc (.cells zeros 25)).alloc (.cells zeros 25)
  rw [show (w.alloc (.cells zeros 25)).heap.size = w.heap.size + 1 from by simp] at a2
  have A1 := Lib.hid (And.intro a1 (And.intro a2 q))
  clear a1 a2 q
  generalize ((w.alloc (.cells zeros 25)).alloc (.cells zeros 25)) = W at *
  go_loopg [5] 4 (fun gg i wr => ∃ k : Nat, k + gg = 4 ∧ i = .int .i64 k ∧ At wr w.heap.size 25 zeros ∧ At wr (w.heap.size + 1) 25 (cells (mix (fun i => 2 ^ min (n - 64 * i) 64 - 1) .none k)) ∧ Keep (fun _ => False) w wr)
  case atStart => exact ⟨0, rfl, rfl, A1.out.1, A1.out.2.1, A1.out.2.2⟩
  case round =>
    obtain ⟨k, hk, rfl, h2, h1, hq⟩ := hrel
    by_cases hlt : k < 4
    · have hc := h1.cell (mix_at (fun i => 2 ^ min (n - 64 * i) 64 - 1) .none k hlt)
      have hf := h1.frozen k
      have H := Lib.hid (And.intro hk (And.intro h1 (And.intro h2 hq)))
      clear hk h1 h2 hq
      go_wp2
      all_goals
        go_roundg (4 - (k + 1))
        case measure => have := H.out.1; omega
        case rel =>
          obtain ⟨hk, h1, h2, hq⟩ := H.out
          have h3 := h1.set k (.int .u64 ((2 ^ min (n - 64 * k) 64 - 1 : Nat) : Int))
          rw [mix_set (fun i => 2 ^ min (n - 64 * i) 64 - 1) _ _ hlt] at h3
          refine ⟨k + 1, by omega, by go_num, h2.setOther (p := ⟨w.heap.size + 1, k, none⟩) (by simp) _, ?_, (hq.setCell (p := ⟨w.heap.size + 1, k, none⟩) (fun h => absurd h (by simp)) _)⟩
          exact at_eq h3 (by first | exact below_hi n k (by omega) | exact below_mid n k (by omega) (by omega) | exact below_lo n k (by omega))
    · have hk4 : k = 4 := by omega
      subst hk4
      rw [mix_4] at h1
      rw [show ST.of4 (fun i => 2 ^ min (n - 64 * i) 64 - 1) = ST.below n from rfl] at h1
      generalize hr : ST.below n = r at h1
      obtain ⟨⟨c0, c1, c2, c3⟩, -⟩ := cells4 h1
      obtain ⟨⟨d0, d1, d2, d3⟩, f0, f1, f2, f3⟩ := cells4 h2
      have H := Lib.hid (And.intro hr (And.intro h2 hq))
      clear h1 h2 hq hk A1 hr
      go_wp2
      have a := set4 H.out.2.1 (.int .u64 r.x0) (.int .u64 r.x1) (.int .u64 r.x2) (.int .u64 r.x3)
      have q := keep4 H.out.2.2 (b := w.heap.size) (fun h => absurd h (by simp)) (.int .u64 r.x0) (.int .u64 r.x1) (.int .u64 r.x2) (.int .u64 r.x3)
      generalize World.setCell _ _ _ = W2 at *
      obtain ⟨⟨e0, e1, e2, e3⟩, -⟩ := cells4 a
      exact bodyPost_ret (v := val r) (by simp [results, Try.results28, go_sem, e0, e1, e2, e3]) rfl ⟨by rw [H.out.1], q⟩

theorem of_any (lo hi : Nat) (hl : lo < 256) (hh : hi < 256) (w : World) : Calls Try.prog 22 #[.int .u8 lo, .int .u8 hi] w fun e w' => e = .returned (val (ST.range lo hi)) ∧ Keep (fun _ => False) w w' := by
  go_enter Try.func22, Try.ntmps22
  go_wp2_with fail
  have a1 := At.new w zeros 25
  have q1 := (Keep.refl (fun _ => False) w).alloc (.cells zeros 25)
  have A1 := Lib.hid (And.intro a1 q1)
  clear a1 q1
  generalize (w.alloc (.cells zeros 25)) = W at *
  refine (below_any (hi + 1) (by omega) _).mono ?_
  rintro e w1 ⟨rfl, q1⟩
  go_wp2_with fail
  refine (below_any lo (by omega) _).mono ?_
  rintro e w2 ⟨rfl, q2⟩
  go_wp2_with fail
  refine (not_any _ (ST.below_ok _) _).mono ?_
  rintro e w3 ⟨rfl, q3⟩
  go_wp2_with fail
  refine (and_any _ _ (ST.below_ok _) (ST.not_ok _) _).mono ?_
  rintro e w4 ⟨rfl, q4⟩
  have q := ((q1.trans q2).trans q3).trans q4
  have h2 := A1.out.1.keep q (fun h => h)
  have hq := A1.out.2.trans q
  generalize hr : (ST.below (hi + 1)).and (ST.below lo).not = r at *
  obtain ⟨⟨d0, d1, d2, d3⟩, f0, f1, f2, f3⟩ := cells4 h2
  have H := Lib.hid (And.intro hr (And.intro h2 hq))
  clear q1 q2 q3 q4 q h2 hq hr A1
  go_wp2
  have a := set4 H.out.2.1 (.int .u64 r.x0) (.int .u64 r.x1) (.int .u64 r.x2) (.int .u64 r.x3)
  have q := keep4 H.out.2.2 (b := w.heap.size) (fun h => absurd h (by simp)) (.int .u64 r.x0) (.int .u64 r.x1) (.int .u64 r.x2) (.int .u64 r.x3)
  generalize World.setCell _ _ _ = W2 at *
  obtain ⟨⟨e0, e1, e2, e3⟩, -⟩ := cells4 a
  exact bodyPost_ret (v := val r) (by simp [results, Try.results22, go_sem, e0, e1, e2, e3]) rfl ⟨by rw [← H.out.1]; rfl, q⟩

theorem one_any (b : Nat) (hb : b < 256) (w : World) : Calls Try.prog 15 #[.int .u8 b] w fun e w' => e = .returned (val (ST.one b)) ∧ Keep (fun _ => False) w w' := by
  go_enter Try.func15, Try.ntmps15
  go_wp2_with fail
  have a1 := At.new w zeros 25
  have q1 := (Keep.refl (fun _ => False) w).alloc (.cells zeros 25)
  have A1 := Lib.hid (And.intro a1 q1)
  clear a1 q1
  generalize (w.alloc (.cells zeros 25)) = W at *
  refine (of_any b b hb hb _).mono ?_
  rintro e w1 ⟨rfl, q1⟩
  have h2 := A1.out.1.keep q1 (fun h => h)
  have hq := A1.out.2.trans q1
  generalize hr : ST.range b b = r at *
  obtain ⟨⟨d0, d1, d2, d3⟩, f0, f1, f2, f3⟩ := cells4 h2
  have H := Lib.hid (And.intro hr (And.intro h2 hq))
  clear q1 h2 hq hr A1
  go_wp2
  have a := set4 H.out.2.1 (.int .u64 r.x0) (.int .u64 r.x1) (.int .u64 r.x2) (.int .u64 r.x3)
  have q := keep4 H.out.2.2 (b := w.heap.size) (fun h => absurd h (by simp)) (.int .u64 r.x0) (.int .u64 r.x1) (.int .u64 r.x2) (.int .u64 r.x3)
  generalize World.setCell _ _ _ = W2 at *
  obtain ⟨⟨e0, e1, e2, e3⟩, -⟩ := cells4 a
  exact bodyPost_ret (v := val r) (by simp [results, Try.results15, go_sem, e0, e1, e2, e3]) rfl ⟨by rw [← H.out.1]; rfl, q⟩

end Go.Proofs.Ytgjmomiobffmdaa.Bytes
