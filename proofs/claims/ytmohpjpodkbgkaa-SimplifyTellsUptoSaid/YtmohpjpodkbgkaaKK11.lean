/- Contracts of math/bits.TrailingZeros64, and of bytes256's from and Least. -/
import Derived.Test.YtmohpjpodkbgkaaKK07
import Derived.Shelf.Spec.TrailingZeros
import Derived.Deep.RegionHeld3
import Derived.Deep.DeepCutAuto
import Derived.Deep.CutBlock
namespace Go.Proofs.Ytmohpjpodkbgkaa.Bytes
open Go.RowKit Go.Proofs.Ytmohpjpodkbgkaa.Base Go.Proofs.Ytmohpjpodkbgkaa.Sets

/-- The trailing zeros: the lowest bit's place. -/
theorem ctz_spec (x : Nat) (h0 : x ≠ 0) (hx : x < 18446744073709551616) : Lib.ctz 64 x < 64 ∧ x.testBit (Lib.ctz 64 x) = true ∧ ∀ j, j < Lib.ctz 64 x → x.testBit j = false := by
  obtain ⟨m, hm, hk⟩ := Lib.ctzFrom_spec 64 x (by omega) hx
  unfold Lib.ctz
  rw [if_neg h0]
  generalize Lib.ctzFrom 64 x = k at *
  subst hm
  refine ⟨hk, ?_, fun j hj => ?_⟩
  · rw [Nat.mul_comm, Nat.testBit_mul_two_pow]
    simp [Nat.testBit_zero]
  · rw [Nat.mul_comm, Nat.testBit_mul_two_pow]
    simp [Nat.not_le.2 hj]

theorem words_at (s : ST) (i : Nat) (h : i < 4) : (cells s)[i]? = some (.int .u64 (s.w i)) := cells_at s i h

/-- The set without its bytes below n. -/
def cut (s : ST) (n : Nat) : ST := s.and (ST.below n).not

theorem cut_ok {s : ST} (hs : s.Ok) (n : Nat) : (cut s n).Ok := ST.and_ok hs
theorem has_cut (s : ST) (n b : Nat) (h : b < 256) : (cut s n).has b = (s.has b && decide (n ≤ b)) := by
  rw [cut, ST.has_and _ _ _ h, ST.has_not (ST.below_ok _) _ h, ST.has_below _ _ h]
  congr 1
  rw [Bool.eq_iff_iff]
  simp

/-- All words below the i-th are nought. -/
def Clean (c : ST) (i : Nat) : Prop := ∀ j, j < i → c.w j = 0

theorem word_zero {c : ST} {i b : Nat} (h : Clean c i) (hb : b < 64 * i) : c.has b = false := by
  unfold ST.has
  rw [h (b / 64) (by omega), Nat.zero_testBit]

theorem found {s : ST} {n i : Nat} (hs : s.Ok) (hi : i < 4) (h : Clean (cut s n) i) (h0 : (cut s n).w i ≠ 0) : 64 * i + Lib.ctz 64 ((cut s n).w i) = nxt s.has n := by
  obtain ⟨a1, a2, a3⟩ := ctz_spec _ h0 ((cut_ok hs n).w i)
  generalize Lib.ctz 64 ((cut s n).w i) = k at *
  have hh : (cut s n).has (64 * i + k) = true := by
    unfold ST.has
    rw [show (64 * i + k) / 64 = i from by omega, show (64 * i + k) % 64 = k from by omega]
    exact a2
  rw [has_cut _ _ _ (by omega)] at hh
  simp only [Bool.and_eq_true, decide_eq_true_eq] at hh
  refine Nx.eq ⟨hh.2, by omega, fun b h1 h2 => ?_, fun _ => hh.1⟩
  have hb : (cut s n).has b = false := by
    rcases Nat.lt_or_ge b (64 * i) with hlt | hge
    · exact word_zero h hlt
    · unfold ST.has
      rw [show b / 64 = i from by omega]
      exact a3 _ (by omega)
  rw [has_cut _ _ _ (by omega)] at hb
  simpa [h1] using hb

theorem none_found {s : ST} {n : Nat} (hn : n ≤ 256) (h : Clean (cut s n) 4) : 256 = nxt s.has n := by
  refine Nx.eq ⟨hn, Nat.le_refl _, fun b h1 h2 => ?_, fun h => by omega⟩
  have hb := word_zero h (b := b) (by omega)
  rw [has_cut _ _ _ h2] at hb
  simpa [h1] using hb

theorem index_run (c : ST) (k : Nat) (h : k < 4) (w : World) : (Instr.index 24 (val c) (.int .i64 k)).run Try.prog w = .ok (.int .u64 (c.w k)) w := by
  match k, h with
  | 0, _ => simp [Instr.index, run_underlying (P := Try.prog) Try.underlying24, asIntOf, go_sem]; rfl
  | 1, _ => simp [Instr.index, run_underlying (P := Try.prog) Try.underlying24, asIntOf, go_sem]; rfl
  | 2, _ => simp [Instr.index, run_underlying (P := Try.prog) Try.underlying24, asIntOf, go_sem]; rfl
  | 3, _ => simp [Instr.index, run_underlying (P := Try.prog) Try.underlying24, asIntOf, go_sem]; rfl

/-- The least byte; -1: none. -/
def leastB (p : Nat → Bool) : Int := if nxt p 0 < 256 then (nxt p 0 : Int) else -1


end Go.Proofs.Ytmohpjpodkbgkaa.Bytes
/- Contract of bytes256's Count. -/
namespace Go.Proofs.Ytmohpjpodkbgkaa.Bytes
open Go.RowKit Go.Proofs.Ytmohpjpodkbgkaa.Base Go.Proofs.Ytmohpjpodkbgkaa.Sets

/-- The first k words' bits. -/
def csum (s : ST) : Nat → Nat
  | 0 => 0
  | k + 1 => csum s k + pc (s.w k)

theorem pc_le (x : Nat) : pc x ≤ 64 := cnt_le _ _
theorem csum_le (s : ST) : ∀ k, csum s k ≤ 64 * k
  | 0 => Nat.le_refl _
  | k + 1 => by
    have := csum_le s k
    have := pc_le (s.w k)
    unfold csum
    omega
theorem csum_4 (s : ST) : csum s 4 = s.count := by
  rw [ST.count_words]
  simp [csum, ST.w]

set_option maxRecDepth 100000 in
theorem count_any (s : ST) (hs : s.Ok) (w : World) : Calls Try.prog 64 #[val s] w fun e w' => e = .returned (.int .i64 s.count) ∧ Keep (fun _ => False) w w' := by
  go_enter Try.func64, Try.ntmps64
  go_wp2_with fail
  have a1 := At.new w (cells s) 24
  have q1 := (Keep.refl (fun _ => False) w).alloc (.cells (cells s) 24)
  have A1 := Lib.hid q1
  obtain ⟨⟨c0, c1, c2, c3⟩, -⟩ := cells4 a1
  clear a1 q1
  generalize (w.alloc (.cells (cells s) 24)) = W at *
  go_wp2_with fail
  go_loopg [3, 7] 4 (fun gg n i wr => ∃ k : Nat, k + gg = 4 ∧ i = .int .i64 k ∧ n = .int .i64 (csum s k) ∧ Keep (fun _ => False) w wr)
  case atStart => exact ⟨0, rfl, rfl, rfl, A1.out⟩
  case round =>
    obtain ⟨k, hk, rfl, rfl, hq⟩ := hrel
    by_cases hlt : k < 4
    · have hw := index_run s k hlt wr
      have hx := hs.w k
      have hl := csum_le s k
      have hp := pc_le (s.w k)
      have H := Lib.hid (And.intro hk hq)
      clear hk hq
      go_wp2_with fail
      refine (ones_any (s.w k) hx wr).mono ?_
      rintro e w' ⟨rfl, rfl⟩
      go_wp2
      go_roundg (4 - (k + 1))
      case measure => have := H.out.1; omega
      case rel => exact ⟨k + 1, by have := H.out.1; omega, by go_num, by show _ = Value.int .i64 ((csum s k + pc (s.w k) : Nat) : Int); go_num, H.out.2⟩
    · have hk4 : k = 4 := by omega
      subst hk4
      have H := Lib.hid hq
      clear hq hk
      go_wp2
      go_ret
      exact ⟨ret_int (by rw [csum_4]), H.out⟩

end Go.Proofs.Ytmohpjpodkbgkaa.Bytes
