/- Contracts of bytes256's Not, And, below, from and Least that also say that no draw was taken back: the world behind is the one ahead, grown. Written by tools/grown.py. -/
import Derived.Test.YtidfjeliofgpmaaDoorFrom
import Derived.Sort.Grow
namespace Go.Proofs.YtidfjeliofgpmaaDoor.Grown
open Go.RowKit Go.Proofs.YtidfjeliofgpmaaDoor.Sets Go.Proofs.YtidfjeliofgpmaaDoor.Base Go.Proofs.YtidfjeliofgpmaaDoor.Bytes

structure Keep (S : Nat → Prop) (w w' : World) : Prop where
  base : Base.Keep S w w'
  drawn : w.drawn ≤ w'.drawn

theorem Keep.refl (S : Nat → Prop) (w : World) : Keep S w w := ⟨.refl S w, Nat.le_refl _⟩
theorem Keep.trans {S : Nat → Prop} {a b c : World} (h : Keep S a b) (k : Keep S b c) : Keep S a c := ⟨h.base.trans k.base, Nat.le_trans h.drawn k.drawn⟩
theorem Keep.drew {S : Nat → Prop} {a w : World} (h : Keep S a w) : Keep S a w.drew := ⟨h.base.drew, Nat.le_trans h.drawn (Nat.le_succ _)⟩
theorem Keep.alloc {S : Nat → Prop} {a w : World} (h : Keep S a w) (o : Obj) : Keep S a (w.alloc o) := ⟨h.base.alloc o, h.drawn⟩
theorem Keep.setCell {S : Nat → Prop} {a w : World} (h : Keep S a w) {p : Addr} (hp : p.block < a.heap.size → S p.block) (u : Value) : Keep S a (w.setCell p u) := ⟨h.base.setCell hp u, h.drawn⟩
theorem keep4 {S : Nat → Prop} {a w : World} (h : Keep S a w) {b : Nat} (hp : b < a.heap.size → S b) (v0 v1 v2 v3 : Value) :
    Keep S a ((((w.setCell ⟨b, 0, none⟩ v0).setCell ⟨b, 1, none⟩ v1).setCell ⟨b, 2, none⟩ v2).setCell ⟨b, 3, none⟩ v3) :=
  (((h.setCell (p := ⟨b, 0, none⟩) hp v0).setCell (p := ⟨b, 1, none⟩) hp v1).setCell (p := ⟨b, 2, none⟩) hp v2).setCell (p := ⟨b, 3, none⟩) hp v3

/-- Grown by blocks, some draws on. -/
theorem Keep.grown {w w' : World} (h : Keep (fun _ => False) w w') : ∃ q os, w' = Go.Sort.grow (w.drewN q) os := by
  refine ⟨w'.drawn - w.drawn, w'.heap.extract w.heap.size w'.heap.size, ?_⟩
  have hd := h.drawn
  obtain ⟨⟨h1, h2, h3, h4, h5⟩, -⟩ := h
  obtain ⟨heap', tape', drawn', os', output'⟩ := w'
  simp only at h1 h2 h3 h4 h5 hd
  subst h1 h2 h3
  unfold Go.Sort.grow World.drewN
  simp only [World.mk.injEq, and_true, true_and]
  refine ⟨?_, by omega⟩
  apply Array.ext_getElem?
  intro i
  rw [Array.getElem?_append]
  split
  · rename_i hi
    exact h5 i hi (fun h => h)
  · rename_i hi
    rw [Array.getElem?_extract]
    by_cases hj : i < heap'.size
    · rw [if_pos (by omega), show w.heap.size + (i - w.heap.size) = i from by omega]
    · rw [if_neg (by omega), Array.getElem?_eq_none (by omega)]

theorem not_any (s : ST) (hs : s.Ok) (w : World) : Calls Tryd.prog 22 #[val s] w fun e w' => e = .returned (val s.not) ∧ Keep (fun _ => False) w w' := by
  go_enter Tryd.func22, Tryd.ntmps22
  go_wp2_with fail
  have a1 := (At.new w (cells s) 35).alloc (.cells zeros 35)
  have a2 := At.new (w.alloc (.cells (cells s) 35)) zeros 35
  have q := ((Keep.refl (fun _ => False) w).alloc (.cells (cells s) 35)).alloc (.cells zeros 35)
  rw [show (w.alloc (.cells (cells s) 35)).heap.size = w.heap.size + 1 from by simp] at a2
  have A1 := Lib.hid (And.intro a1 (And.intro a2 q))
  clear a1 a2 q
  generalize ((w.alloc (.cells (cells s) 35)).alloc (.cells zeros 35)) = W at *
  go_loopg [4] 4 (fun gg i wr => ∃ k : Nat, k + gg = 4 ∧ i = .int .i64 k ∧ At wr w.heap.size 35 (cells (mix (fun i => 18446744073709551615 - s.w i) s k)) ∧ At wr (w.heap.size + 1) 35 zeros ∧ Keep (fun _ => False) w wr)
  case atStart => exact ⟨0, rfl, rfl, A1.out.1, A1.out.2.1, A1.out.2.2⟩
  case round =>
    obtain ⟨k, hk, rfl, h1, h2, hq⟩ := hrel
    by_cases hlt : k < 4
    · have hc := h1.cell (mix_at (fun i => 18446744073709551615 - s.w i) s k hlt)
      have hf := h1.frozen k
      have hx := com_u64 _ (hs.w k)
      have H := Lib.hid (And.intro hk (And.intro h1 (And.intro h2 hq)))
      clear hk h1 h2 hq
      go_wp2
      go_roundg (4 - (k + 1))
      case measure => have := H.out.1; omega
      case rel =>
        obtain ⟨hk, h1, h2, hq⟩ := H.out
        have h3 := h1.set k (.int .u64 ((18446744073709551615 - s.w k : Nat) : Int))
        rw [mix_set _ _ _ hlt] at h3
        refine ⟨k + 1, by omega, by go_num, ?_, h2.setOther (p := ⟨w.heap.size, k, none⟩) (by simp) _, hq.setCell (p := ⟨w.heap.size, k, none⟩) (fun h => absurd h (by simp)) _⟩
        exact h3
    · have hk4 : k = 4 := by omega
      subst hk4
      rw [mix_4] at h1
      rw [show ST.of4 (fun i => 18446744073709551615 - s.w i) = s.not from rfl] at h1
      generalize hr : s.not = r at h1
      obtain ⟨⟨c0, c1, c2, c3⟩, -⟩ := cells4 h1
      obtain ⟨⟨d0, d1, d2, d3⟩, f0, f1, f2, f3⟩ := cells4 h2
      have H := Lib.hid (And.intro hr (And.intro h2 hq))
      clear h1 h2 hq hk A1 hr
      go_wp2
      have a := set4 H.out.2.1 (.int .u64 r.x0) (.int .u64 r.x1) (.int .u64 r.x2) (.int .u64 r.x3)
      have q := keep4 H.out.2.2 (b := w.heap.size + 1) (fun h => absurd h (by simp)) (.int .u64 r.x0) (.int .u64 r.x1) (.int .u64 r.x2) (.int .u64 r.x3)
      generalize World.setCell _ _ _ = W2 at *
      obtain ⟨⟨e0, e1, e2, e3⟩, -⟩ := cells4 a
      exact bodyPost_ret (v := val r) (by simp [results, Tryd.results22, go_sem, e0, e1, e2, e3]) rfl ⟨by rw [H.out.1], q⟩

theorem and_any (s t : ST) (hs : s.Ok) (ht : t.Ok) (w : World) : Calls Tryd.prog 21 #[val s, val t] w fun e w' => e = .returned (val (s.and t)) ∧ Keep (fun _ => False) w w' := by
  go_enter Tryd.func21, Tryd.ntmps21
  go_wp2_with fail
  have a1 := ((At.new w (cells s) 35).alloc (.cells (cells t) 35)).alloc (.cells zeros 35)
  have a2 := (At.new (w.alloc (.cells (cells s) 35)) (cells t) 35).alloc (.cells zeros 35)
  have a3 := At.new ((w.alloc (.cells (cells s) 35)).alloc (.cells (cells t) 35)) zeros 35
  have q := (((Keep.refl (fun _ => False) w).alloc (.cells (cells s) 35)).alloc (.cells (cells t) 35)).alloc (.cells zeros 35)
  rw [show (w.alloc (.cells (cells s) 35)).heap.size = w.heap.size + 1 from by simp] at a2
  rw [show ((w.alloc (.cells (cells s) 35)).alloc (.cells (cells t) 35)).heap.size = w.heap.size + 2 from by simp] at a3
  have A1 := Lib.hid (And.intro a1 (And.intro a2 (And.intro a3 q)))
  clear a1 a2 a3 q
  generalize (((w.alloc (.cells (cells s) 35)).alloc (.cells (cells t) 35)).alloc (.cells zeros 35)) = W at *
  go_loopg [6] 4 (fun gg i wr => ∃ k : Nat, k + gg = 4 ∧ i = .int .i64 k ∧ At wr w.heap.size 35 (cells (mix (fun i => s.w i &&& t.w i) s k)) ∧ At wr (w.heap.size + 1) 35 (cells t) ∧ At wr (w.heap.size + 2) 35 zeros ∧ Keep (fun _ => False) w wr)
  case atStart => exact ⟨0, rfl, rfl, A1.out.1, A1.out.2.1, A1.out.2.2.1, A1.out.2.2.2⟩
  case round =>
    obtain ⟨k, hk, rfl, h1, h4, h2, hq⟩ := hrel
    by_cases hlt : k < 4
    · have hc := h1.cell (mix_at (fun i => s.w i &&& t.w i) s k hlt)
      have hct := h4.cell (cells_at t k hlt)
      have hf := h1.frozen k
      have hx := bits_and_u64_nat _ _ (hs.w k) (ht.w k)
      have i0 : (0 : Int) ≤ (k : Int) := by omega
      have i4 : (k : Int) < 4 := by omega
      have H := Lib.hid (And.intro hk (And.intro h1 (And.intro h4 (And.intro h2 hq))))
      clear hk h1 h2 h4 hq
      go_wp2_with fail
      go_region
      go_wp2
      go_roundg (4 - (k + 1))
      case measure => have := H.out.1; omega
      case rel =>
        obtain ⟨hk, h1, h4, h2, hq⟩ := H.out
        have h3 := h1.set k (.int .u64 ((s.w k &&& t.w k : Nat) : Int))
        rw [mix_set (fun i => s.w i &&& t.w i) _ _ hlt] at h3
        refine ⟨k + 1, by omega, by go_num, ?_, h4.setOther (p := ⟨w.heap.size, k, none⟩) (by simp) _, h2.setOther (p := ⟨w.heap.size, k, none⟩) (by simp) _, (hq.setCell (p := ⟨w.heap.size, k, none⟩) (fun h => absurd h (by simp)) _).drew⟩
        exact h3
    · have hk4 : k = 4 := by omega
      subst hk4
      rw [mix_4] at h1
      rw [show ST.of4 (fun i => s.w i &&& t.w i) = s.and t from rfl] at h1
      generalize hr : s.and t = r at h1
      obtain ⟨⟨c0, c1, c2, c3⟩, -⟩ := cells4 h1
      obtain ⟨⟨d0, d1, d2, d3⟩, f0, f1, f2, f3⟩ := cells4 h2
      have H := Lib.hid (And.intro hr (And.intro h2 hq))
      clear h1 h2 hq hk A1 hr
      go_wp2
      have a := set4 H.out.2.1 (.int .u64 r.x0) (.int .u64 r.x1) (.int .u64 r.x2) (.int .u64 r.x3)
      have q := keep4 H.out.2.2 (b := w.heap.size + 2) (fun h => absurd h (by simp)) (.int .u64 r.x0) (.int .u64 r.x1) (.int .u64 r.x2) (.int .u64 r.x3)
      generalize World.setCell _ _ _ = W2 at *
      obtain ⟨⟨e0, e1, e2, e3⟩, -⟩ := cells4 a
      exact bodyPost_ret (v := val r) (by simp [results, Tryd.results21, go_sem, e0, e1, e2, e3]) rfl ⟨by rw [H.out.1], q⟩

theorem below_any (n : Nat) (hn : n ≤ 256) (w : World) : Calls Tryd.prog 32 #[.int .i64 n] w fun e w' => e = .returned (val (ST.below n)) ∧ Keep (fun _ => False) w w' := by
  go_enter Tryd.func32, Tryd.ntmps32
  go_wp2_with fail
  have a1 := (At.new w zeros 35).alloc (.cells zeros 35)
  have a2 := At.new (w.alloc (.cells zeros 35)) zeros 35
  have q := ((Keep.refl (fun _ => False) w).alloc (.cells zeros 35)).alloc (.cells zeros 35)
  rw [show (w.alloc (.cells zeros 35)).heap.size = w.heap.size + 1 from by simp] at a2
  have A1 := Lib.hid (And.intro a1 (And.intro a2 q))
  clear a1 a2 q
  generalize ((w.alloc (.cells zeros 35)).alloc (.cells zeros 35)) = W at *
  go_loopg [5] 4 (fun gg i wr => ∃ k : Nat, k + gg = 4 ∧ i = .int .i64 k ∧ At wr w.heap.size 35 zeros ∧ At wr (w.heap.size + 1) 35 (cells (mix (fun i => 2 ^ min (n - 64 * i) 64 - 1) .none k)) ∧ Keep (fun _ => False) w wr)
  case atStart => exact ⟨0, rfl, rfl, A1.out.1, A1.out.2.1, A1.out.2.2⟩
  case round =>
    obtain ⟨k, hk, rfl, h2, h1, hq⟩ := hrel
    by_cases hlt : k < 4
    · have hc := h1.cell (mix_at (fun i => 2 ^ min (n - 64 * i) 64 - 1) .none k hlt)
      have hf := h1.frozen k
      have H := Lib.hid (And.intro hk (And.intro h1 (And.intro h2 hq)))
      clear hk h1 h2 hq
      go_wp2
      all_goals
        go_roundg (4 - (k + 1))
        case measure => have := H.out.1; omega
        case rel =>
          obtain ⟨hk, h1, h2, hq⟩ := H.out
          have h3 := h1.set k (.int .u64 ((2 ^ min (n - 64 * k) 64 - 1 : Nat) : Int))
          rw [mix_set (fun i => 2 ^ min (n - 64 * i) 64 - 1) _ _ hlt] at h3
          refine ⟨k + 1, by omega, by go_num, h2.setOther (p := ⟨w.heap.size + 1, k, none⟩) (by simp) _, ?_, (hq.setCell (p := ⟨w.heap.size + 1, k, none⟩) (fun h => absurd h (by simp)) _)⟩
          exact at_eq h3 (by first | exact below_hi n k (by omega) | exact below_mid n k (by omega) (by omega) | exact below_lo n k (by omega))
    · have hk4 : k = 4 := by omega
      subst hk4
      rw [mix_4] at h1
      rw [show ST.of4 (fun i => 2 ^ min (n - 64 * i) 64 - 1) = ST.below n from rfl] at h1
      generalize hr : ST.below n = r at h1
      obtain ⟨⟨c0, c1, c2, c3⟩, -⟩ := cells4 h1
      obtain ⟨⟨d0, d1, d2, d3⟩, f0, f1, f2, f3⟩ := cells4 h2
      have H := Lib.hid (And.intro hr (And.intro h2 hq))
      clear h1 h2 hq hk A1 hr
      go_wp2
      have a := set4 H.out.2.1 (.int .u64 r.x0) (.int .u64 r.x1) (.int .u64 r.x2) (.int .u64 r.x3)
      have q := keep4 H.out.2.2 (b := w.heap.size) (fun h => absurd h (by simp)) (.int .u64 r.x0) (.int .u64 r.x1) (.int .u64 r.x2) (.int .u64 r.x3)
      generalize World.setCell _ _ _ = W2 at *
      obtain ⟨⟨e0, e1, e2, e3⟩, -⟩ := cells4 a
      exact bodyPost_ret (v := val r) (by simp [results, Tryd.results32, go_sem, e0, e1, e2, e3]) rfl ⟨by rw [H.out.1], q⟩

theorem from_any (s : ST) (hs : s.Ok) (n : Nat) (hn : n ≤ 256) (w : World) (hT : Tab w) : Calls Tryd.prog 35 #[val s, .int .i64 n] w fun e w' => e = .returned (.int .i64 (nxt s.has n)) ∧ Keep (fun _ => False) w w' := by
  go_enter Tryd.func35, Tryd.ntmps35
  go_wp2_with fail
  have a1 := At.new w (cells s) 35
  have q1 := (Keep.refl (fun _ => False) w).alloc (.cells (cells s) 35)
  have A1 := Lib.hid (And.intro a1 q1)
  clear a1 q1
  generalize (w.alloc (.cells (cells s) 35)) = W at *
  have hS : ∀ w', Keep (fun _ => False) W w' → Keep (fun _ => False) W w' ∧ w'.cell? ⟨w.heap.size, 0, none⟩ = some (.int .u64 s.x0) ∧ w'.cell? ⟨w.heap.size, 1, none⟩ = some (.int .u64 s.x1) ∧ w'.cell? ⟨w.heap.size, 2, none⟩ = some (.int .u64 s.x2) ∧ w'.cell? ⟨w.heap.size, 3, none⟩ = some (.int .u64 s.x3) := fun w' q => by
    obtain ⟨⟨c0, c1, c2, c3⟩, -⟩ := cells4 (A1.out.1.keep q.base (fun h => h))
    exact ⟨q, c0, c1, c2, c3⟩
  have HS := Lib.hid hS
  have HT := Lib.hid hT
  clear hS hT
  go_region_held3 (fun w' => Keep (fun _ => False) W w' ∧ w'.cell? ⟨w.heap.size, 0, none⟩ = some (.int .u64 s.x0) ∧ w'.cell? ⟨w.heap.size, 1, none⟩ = some (.int .u64 s.x1) ∧ w'.cell? ⟨w.heap.size, 2, none⟩ = some (.int .u64 s.x2) ∧ w'.cell? ⟨w.heap.size, 3, none⟩ = some (.int .u64 s.x3)) (first | exact HS.out _ ((Keep.refl _ _).drew) | exact HS.out _ (Keep.trans (And.left (by assumption)) q)) (first
    | (go_at_call 32; refine (below_any n hn _).mono ?_; rintro e w1 ⟨rfl, q⟩)
    | (go_at_call 22; refine (not_any _ (ST.below_ok n) _).mono ?_; rintro e w2 ⟨rfl, q⟩)
    | (go_at_call 21; refine (and_any _ _ hs (ST.not_ok _) _).mono ?_; rintro e w3 ⟨rfl, q⟩))
  rename_i hh
  have hq := A1.out.2.trans hh.1
  have T3 := HT.out.keep hq.base
  have H := Lib.hid (And.intro hq T3)
  clear hh hq T3 q HS HT A1
  rw [show s.and (ST.below n).not = Bytes.cut s n from rfl]
  have okc := Bytes.cut_ok hs n
  have hfd : ∀ i, i < 4 → Bytes.Clean (Bytes.cut s n) i → (Bytes.cut s n).w i ≠ 0 → 64 * i + Lib.ctz 64 ((Bytes.cut s n).w i) = nxt s.has n := fun i hi h h0 => Bytes.found hs hi h h0
  have hnf : Bytes.Clean (Bytes.cut s n) 4 → 256 = nxt s.has n := Bytes.none_found hn
  have HF := Lib.hid (And.intro hfd hnf)
  clear hfd hnf
  generalize Bytes.cut s n = c at *
  go_wp2_with fail
  go_loopg [12] 4 (fun gg i wr => ∃ k : Nat, k + gg = 4 ∧ i = .int .i64 k ∧ Bytes.Clean c k ∧ Keep (fun _ => False) w wr ∧ Tab wr)
  case atStart => exact ⟨0, rfl, rfl, fun j hj => by omega, H.out.1, H.out.2⟩
  case round =>
    obtain ⟨k, hk, rfl, hcl, hq, hT⟩ := hrel
    by_cases hlt : k < 4
    · have hw := index_run c k hlt wr
      have hx := okc.w k
      have HC := Lib.hid hcl
      have HT := Lib.hid (And.intro hq (And.intro hT hk))
      clear hcl hq hT hk
      by_cases h0 : c.w k = 0
      · have h0b : ((c.w k : Int) != 0) = false := by rw [h0]; rfl
        go_wp2
        go_roundg (4 - (k + 1))
        case measure => have := HT.out.2.2; omega
        case rel => exact ⟨k + 1, by have := HT.out.2.2; omega, by go_num, fun j hj => by
            rcases Nat.lt_succ_iff_lt_or_eq.1 hj with hj | rfl
            · exact HC.out j hj
            · exact h0, HT.out.1, HT.out.2.1⟩
      · have h0b : ((c.w k : Int) != 0) = true := by simp; exact h0
        go_wp2_with fail
        refine (tz_any (c.w k) hx wr HT.out.2.1).mono ?_
        rintro e w' ⟨rfl, rfl⟩
        have hctz := (ctz_spec _ h0 hx).1
        have hr := HF.out.1 k hlt HC.out h0
        have HR := Lib.hid hr
        clear hr
        go_wp2
        go_ret
        exact ⟨ret_int (by rw [← HR.out]; omega), HT.out.1⟩
    · have hk4 : k = 4 := by omega
      subst hk4
      have hr := HF.out.2 hcl
      have HR := Lib.hid (And.intro hr hq)
      clear hr hq hcl hT
      go_wp2
      go_ret
      exact ⟨ret_int (by rw [← HR.out.1]; rfl), HR.out.2⟩

set_option maxRecDepth 100000 in
theorem least_any (s : ST) (hs : s.Ok) (w : World) (hT : Tab w) : Calls Tryd.prog 27 #[val s] w fun e w' => e = .returned (.int .i64 (leastB s.has)) ∧ Keep (fun _ => False) w w' := by
  go_enter Tryd.func27, Tryd.ntmps27
  go_wp2_with fail
  have a1 := At.new w (cells s) 35
  have q1 := (Keep.refl (fun _ => False) w).alloc (.cells (cells s) 35)
  have A1 := Lib.hid (And.intro a1 q1)
  clear a1 q1
  generalize (w.alloc (.cells (cells s) 35)) = W at *
  obtain ⟨⟨c0, c1, c2, c3⟩, -⟩ := cells4 A1.out.1
  go_wp2_with fail
  refine (from_any s hs 0 (by decide) W (hT.keep A1.out.2.base)).mono ?_
  rintro e w1 ⟨rfl, q⟩
  have HQ := Lib.hid (A1.out.2.trans q)
  clear q
  generalize hr : nxt s.has 0 = r
  have hl : leastB s.has = if r < 256 then (r : Int) else -1 := by unfold leastB; rw [hr]
  have HL := Lib.hid hl
  clear hl hr
  by_cases h : r < 256
  · have h' : (r : Int) < 256 := by omega
    go_wp2
    go_ret
    exact ⟨ret_int (by rw [HL.out, if_pos h]), HQ.out⟩
  · have h' : ¬ (r : Int) < 256 := by omega
    go_wp2
    go_ret
    exact ⟨ret_int (by rw [HL.out, if_neg h]), HQ.out⟩

end Go.Proofs.YtidfjeliofgpmaaDoor.Grown
