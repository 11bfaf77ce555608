/- Contracts of math/bits.TrailingZeros64, and of bytes256's from and Least. -/
import Derived.Test.YtmeiboaagkoadaaGreatDoorKK09
import Derived.Shelf.Spec.TrailingZeros
import Derived.Deep.RegionHeld3
import Derived.Deep.DeepCutAuto
import Derived.Deep.CutBlock
namespace Go.Proofs.YtmeiboaagkoadaaGreatDoor.Bytes
open Go.RowKit Go.Proofs.YtmeiboaagkoadaaGreatDoor.Base Go.Proofs.YtmeiboaagkoadaaGreatDoor.Sets

/-- The library's table of trailing zeros stands in its variable. -/
def Tab (w : World) : Prop := TabAt 0 Lib.deBruijn64tab w

theorem Tab.keep {w w' : World} (h : Tab w) (q : Keep (fun _ => False) w w') : Tab w' := fun j hj => by
  have hc := h j hj
  exact (q.cell (a := ⟨0, j, none⟩) (World.block_lt_of_cell? w _ hc) (fun h => h)).trans hc

theorem tz_zero (w : World) : Calls Tryz.prog 85 #[.int .u64 0] w fun e w' => e = .returned (.int .i64 64) ∧ w = w' := by
  go_enter Tryz.func85, Tryz.ntmps85
  go_wp2
  go_ret
  exact ⟨rfl, rfl⟩

theorem tz_core (x k idx : Nat) (w : World) (hx0 : ((x : Int) == 0) = false)
    (key : IntKind.u64.wrap (bits BinOp.and IntKind.u64 (x : Int) (IntKind.u64.wrap (-(x : Int))) * 285870213051353865) / 288230376151711744 = (idx : Int))
    (hi : idx < 64) (hk : k < 64) (hcell : w.cell? ⟨0, idx, none⟩ = some (.int .u8 k)) :
    Calls Tryz.prog 85 #[.int .u64 x] w fun e w' => e = .returned (.int .i64 k) ∧ w = w' := by
  go_enter Tryz.func85, Tryz.ntmps85
  go_wp2_with (simp only [key])
  go_ret
  exact ⟨rfl, rfl⟩

theorem tz_any (x : Nat) (hx : x < 18446744073709551616) (w : World) (hT : Tab w) : Calls Tryz.prog 85 #[.int .u64 x] w fun e w' => e = .returned (.int .i64 (Lib.ctz 64 x)) ∧ w = w' := by
  by_cases hx0 : x = 0
  · subst hx0
    exact tz_zero w
  · obtain ⟨hlow, hk⟩ := Lib.lowest_bit 64 x hx0 hx
    obtain ⟨hi, htab⟩ := Lib.deBruijn64_at _ hk
    have hcell := hT _ hi
    rw [htab] at hcell
    exact tz_core x _ _ w (by simp; omega) (tz64_key x _ hx hx0 hlow) hi hk hcell

/-- The trailing zeros: the lowest bit's place. -/
theorem ctz_spec (x : Nat) (h0 : x ≠ 0) (hx : x < 18446744073709551616) : Lib.ctz 64 x < 64 ∧ x.testBit (Lib.ctz 64 x) = true ∧ ∀ j, j < Lib.ctz 64 x → x.testBit j = false := by
  obtain ⟨m, hm, hk⟩ := Lib.ctzFrom_spec 64 x (by omega) hx
  unfold Lib.ctz
  rw [if_neg h0]
  generalize Lib.ctzFrom 64 x = k at *
  subst hm
  refine ⟨hk, ?_, fun j hj => ?_⟩
  · rw [Nat.mul_comm, Nat.testBit_mul_two_pow]
    simp [Nat.testBit_zero]
  · rw [Nat.mul_comm, Nat.testBit_mul_two_pow]
    simp [Nat.not_le.2 hj]

theorem words_at (s : ST) (i : Nat) (h : i < 4) : (cells s)[i]? = some (.int .u64 (s.w i)) := cells_at s i h

/-- The set without its bytes below n. -/
def cut (s : ST) (n : Nat) : ST := s.and (ST.below n).not

theorem cut_ok {s : ST} (hs : s.Ok) (n : Nat) : (cut s n).Ok := ST.and_ok hs
theorem has_cut (s : ST) (n b : Nat) (h : b < 256) : (cut s n).has b = (s.has b && decide (n ≤ b)) := by
  rw [cut, ST.has_and _ _ _ h, ST.has_not (ST.below_ok _) _ h, ST.has_below _ _ h]
  congr 1
  rw [Bool.eq_iff_iff]
  simp

/-- All words below the i-th are nought. -/
def Clean (c : ST) (i : Nat) : Prop := ∀ j, j < i → c.w j = 0

theorem word_zero {c : ST} {i b : Nat} (h : Clean c i) (hb : b < 64 * i) : c.has b = false := by
  unfold ST.has
  rw [h (b / 64) (by omega), Nat.zero_testBit]

theorem found {s : ST} {n i : Nat} (hs : s.Ok) (hi : i < 4) (h : Clean (cut s n) i) (h0 : (cut s n).w i ≠ 0) : 64 * i + Lib.ctz 64 ((cut s n).w i) = nxt s.has n := by
  obtain ⟨a1, a2, a3⟩ := ctz_spec _ h0 ((cut_ok hs n).w i)
  generalize Lib.ctz 64 ((cut s n).w i) = k at *
  have hh : (cut s n).has (64 * i + k) = true := by
    unfold ST.has
    rw [show (64 * i + k) / 64 = i from by omega, show (64 * i + k) % 64 = k from by omega]
    exact a2
  rw [has_cut _ _ _ (by omega)] at hh
  simp only [Bool.and_eq_true, decide_eq_true_eq] at hh
  refine Nx.eq ⟨hh.2, by omega, fun b h1 h2 => ?_, fun _ => hh.1⟩
  have hb : (cut s n).has b = false := by
    rcases Nat.lt_or_ge b (64 * i) with hlt | hge
    · exact word_zero h hlt
    · unfold ST.has
      rw [show b / 64 = i from by omega]
      exact a3 _ (by omega)
  rw [has_cut _ _ _ (by omega)] at hb
  simpa [h1] using hb

theorem none_found {s : ST} {n : Nat} (hn : n ≤ 256) (h : Clean (cut s n) 4) : 256 = nxt s.has n := by
  refine Nx.eq ⟨hn, Nat.le_refl _, fun b h1 h2 => ?_, fun h => by omega⟩
  have hb := word_zero h (b := b) (by omega)
  rw [has_cut _ _ _ h2] at hb
  simpa [h1] using hb

theorem index_run (c : ST) (k : Nat) (h : k < 4) (w : World) : (Instr.index 24 (val c) (.int .i64 k)).run Tryz.prog w = .ok (.int .u64 (c.w k)) w := by
  match k, h with
  | 0, _ => simp [Instr.index, run_underlying (P := Tryz.prog) Tryz.underlying24, asIntOf, go_sem]; rfl
  | 1, _ => simp [Instr.index, run_underlying (P := Tryz.prog) Tryz.underlying24, asIntOf, go_sem]; rfl
  | 2, _ => simp [Instr.index, run_underlying (P := Tryz.prog) Tryz.underlying24, asIntOf, go_sem]; rfl
  | 3, _ => simp [Instr.index, run_underlying (P := Tryz.prog) Tryz.underlying24, asIntOf, go_sem]; rfl

set_option maxRecDepth 100000 in
theorem from_any (s : ST) (hs : s.Ok) (n : Nat) (hn : n ≤ 256) (w : World) (hT : Tab w) : Calls Tryz.prog 74 #[val s, .int .i64 n] w fun e w' => e = .returned (.int .i64 (nxt s.has n)) ∧ Keep (fun _ => False) w w' := by
  go_enter Tryz.func74, Tryz.ntmps74
  go_wp2_with fail
  have a1 := At.new w (cells s) 24
  have q1 := (Keep.refl (fun _ => False) w).alloc (.cells (cells s) 24)
  have A1 := Lib.hid (And.intro a1 q1)
  clear a1 q1
  generalize (w.alloc (.cells (cells s) 24)) = W at *
  have hS : ∀ w', Keep (fun _ => False) W w' → Keep (fun _ => False) W w' ∧ w'.cell? ⟨w.heap.size, 0, none⟩ = some (.int .u64 s.x0) ∧ w'.cell? ⟨w.heap.size, 1, none⟩ = some (.int .u64 s.x1) ∧ w'.cell? ⟨w.heap.size, 2, none⟩ = some (.int .u64 s.x2) ∧ w'.cell? ⟨w.heap.size, 3, none⟩ = some (.int .u64 s.x3) := fun w' q => by
    obtain ⟨⟨c0, c1, c2, c3⟩, -⟩ := cells4 (A1.out.1.keep q (fun h => h))
    exact ⟨q, c0, c1, c2, c3⟩
  have HS := Lib.hid hS
  have HT := Lib.hid hT
  clear hS hT
  go_region_held3 (fun w' => Keep (fun _ => False) W w' ∧ w'.cell? ⟨w.heap.size, 0, none⟩ = some (.int .u64 s.x0) ∧ w'.cell? ⟨w.heap.size, 1, none⟩ = some (.int .u64 s.x1) ∧ w'.cell? ⟨w.heap.size, 2, none⟩ = some (.int .u64 s.x2) ∧ w'.cell? ⟨w.heap.size, 3, none⟩ = some (.int .u64 s.x3)) (first | exact HS.out _ ((Keep.refl _ _).drew) | exact HS.out _ (Keep.trans (And.left (by assumption)) q)) (first
    | (go_at_call 84; refine (below_any n hn _).mono ?_; rintro e w1 ⟨rfl, q⟩)
    | (go_at_call 56; refine (not_any _ (ST.below_ok n) _).mono ?_; rintro e w2 ⟨rfl, q⟩)
    | (go_at_call 83; refine (and_any _ _ hs (ST.not_ok _) _).mono ?_; rintro e w3 ⟨rfl, q⟩))
  rename_i hh
  have hq := A1.out.2.trans hh.1
  have T3 := HT.out.keep hq
  have H := Lib.hid (And.intro hq T3)
  clear hh hq T3 q HS HT A1
  rw [show s.and (ST.below n).not = cut s n from rfl]
  have okc := cut_ok hs n
  have hfd : ∀ i, i < 4 → Clean (cut s n) i → (cut s n).w i ≠ 0 → 64 * i + Lib.ctz 64 ((cut s n).w i) = nxt s.has n := fun i hi h h0 => found hs hi h h0
  have hnf : Clean (cut s n) 4 → 256 = nxt s.has n := none_found hn
  have HF := Lib.hid (And.intro hfd hnf)
  clear hfd hnf
  generalize cut s n = c at *
  go_wp2_with fail
  go_loopg [12] 4 (fun gg i wr => ∃ k : Nat, k + gg = 4 ∧ i = .int .i64 k ∧ Clean c k ∧ Keep (fun _ => False) w wr ∧ Tab wr)
  case atStart => exact ⟨0, rfl, rfl, fun j hj => by omega, H.out.1, H.out.2⟩
  case round =>
    obtain ⟨k, hk, rfl, hcl, hq, hT⟩ := hrel
    by_cases hlt : k < 4
    · have hw := index_run c k hlt wr
      have hx := okc.w k
      have HC := Lib.hid hcl
      have HT := Lib.hid (And.intro hq (And.intro hT hk))
      clear hcl hq hT hk
      by_cases h0 : c.w k = 0
      · have h0b : ((c.w k : Int) != 0) = false := by rw [h0]; rfl
        go_wp2
        go_roundg (4 - (k + 1))
        case measure => have := HT.out.2.2; omega
        case rel => exact ⟨k + 1, by have := HT.out.2.2; omega, by go_num, fun j hj => by
            rcases Nat.lt_succ_iff_lt_or_eq.1 hj with hj | rfl
            · exact HC.out j hj
            · exact h0, HT.out.1, HT.out.2.1⟩
      · have h0b : ((c.w k : Int) != 0) = true := by simp; exact h0
        go_wp2_with fail
        refine (tz_any (c.w k) hx wr HT.out.2.1).mono ?_
        rintro e w' ⟨rfl, rfl⟩
        have hctz := (ctz_spec _ h0 hx).1
        have hr := HF.out.1 k hlt HC.out h0
        have HR := Lib.hid hr
        clear hr
        go_wp2
        go_ret
        exact ⟨ret_int (by rw [← HR.out]; omega), HT.out.1⟩
    · have hk4 : k = 4 := by omega
      subst hk4
      have hr := HF.out.2 hcl
      have HR := Lib.hid (And.intro hr hq)
      clear hr hq hcl hT
      go_wp2
      go_ret
      exact ⟨ret_int (by rw [← HR.out.1]; rfl), HR.out.2⟩

/-- The least byte; -1: none. -/
def leastB (p : Nat → Bool) : Int := if nxt p 0 < 256 then (nxt p 0 : Int) else -1

set_option maxRecDepth 100000 in
theorem least_any (s : ST) (hs : s.Ok) (w : World) (hT : Tab w) : Calls Tryz.prog 54 #[val s] w fun e w' => e = .returned (.int .i64 (leastB s.has)) ∧ Keep (fun _ => False) w w' := by
  go_enter Tryz.func54, Tryz.ntmps54
  go_wp2_with fail
  have a1 := At.new w (cells s) 24
  have q1 := (Keep.refl (fun _ => False) w).alloc (.cells (cells s) 24)
  have A1 := Lib.hid (And.intro a1 q1)
  clear a1 q1
  generalize (w.alloc (.cells (cells s) 24)) = W at *
  obtain ⟨⟨c0, c1, c2, c3⟩, -⟩ := cells4 A1.out.1
  go_wp2_with fail
  refine (from_any s hs 0 (by decide) W (hT.keep A1.out.2)).mono ?_
  rintro e w1 ⟨rfl, q⟩
  have HQ := Lib.hid (A1.out.2.trans q)
  clear q
  generalize hr : nxt s.has 0 = r
  have hl : leastB s.has = if r < 256 then (r : Int) else -1 := by unfold leastB; rw [hr]
  have HL := Lib.hid hl
  clear hl hr
  by_cases h : r < 256
  · have h' : (r : Int) < 256 := by omega
    go_wp2
    go_ret
    exact ⟨ret_int (by rw [HL.out, if_pos h]), HQ.out⟩
  · have h' : ¬ (r : Int) < 256 := by omega
    go_wp2
    go_ret
    exact ⟨ret_int (by rw [HL.out, if_neg h]), HQ.out⟩

end Go.Proofs.YtmeiboaagkoadaaGreatDoor.Bytes
/- Contract of bytes256's Count. -/
namespace Go.Proofs.YtmeiboaagkoadaaGreatDoor.Bytes
open Go.RowKit Go.Proofs.YtmeiboaagkoadaaGreatDoor.Base Go.Proofs.YtmeiboaagkoadaaGreatDoor.Sets

/-- The first k words' bits. -/
def csum (s : ST) : Nat → Nat
  | 0 => 0
  | k + 1 => csum s k + pc (s.w k)

theorem pc_le (x : Nat) : pc x ≤ 64 := cnt_le _ _
theorem csum_le (s : ST) : ∀ k, csum s k ≤ 64 * k
  | 0 => Nat.le_refl _
  | k + 1 => by
    have := csum_le s k
    have := pc_le (s.w k)
    unfold csum
    omega
theorem csum_4 (s : ST) : csum s 4 = s.count := by
  rw [ST.count_words]
  simp [csum, ST.w]

set_option maxRecDepth 100000 in
theorem count_any (s : ST) (hs : s.Ok) (w : World) : Calls Tryz.prog 52 #[val s] w fun e w' => e = .returned (.int .i64 s.count) ∧ Keep (fun _ => False) w w' := by
  go_enter Tryz.func52, Tryz.ntmps52
  go_wp2_with fail
  have a1 := At.new w (cells s) 24
  have q1 := (Keep.refl (fun _ => False) w).alloc (.cells (cells s) 24)
  have A1 := Lib.hid q1
  obtain ⟨⟨c0, c1, c2, c3⟩, -⟩ := cells4 a1
  clear a1 q1
  generalize (w.alloc (.cells (cells s) 24)) = W at *
  go_wp2_with fail
  go_loopg [3, 7] 4 (fun gg n i wr => ∃ k : Nat, k + gg = 4 ∧ i = .int .i64 k ∧ n = .int .i64 (csum s k) ∧ Keep (fun _ => False) w wr)
  case atStart => exact ⟨0, rfl, rfl, rfl, A1.out⟩
  case round =>
    obtain ⟨k, hk, rfl, rfl, hq⟩ := hrel
    by_cases hlt : k < 4
    · have hw := index_run s k hlt wr
      have hx := hs.w k
      have hl := csum_le s k
      have hp := pc_le (s.w k)
      have H := Lib.hid (And.intro hk hq)
      clear hk hq
      go_wp2_with fail
      refine (ones_any (s.w k) hx wr).mono ?_
      rintro e w' ⟨rfl, rfl⟩
      go_wp2
      go_roundg (4 - (k + 1))
      case measure => have := H.out.1; omega
      case rel => exact ⟨k + 1, by have := H.out.1; omega, by go_num, by show _ = Value.int .i64 ((csum s k + pc (s.w k) : Nat) : Int); go_num, H.out.2⟩
    · have hk4 : k = 4 := by omega
      subst hk4
      have H := Lib.hid hq
      clear hq hk
      go_wp2
      go_ret
      exact ⟨ret_int (by rw [csum_4]), H.out⟩

end Go.Proofs.YtmeiboaagkoadaaGreatDoor.Bytes
