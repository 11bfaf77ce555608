/- The code's writtenTimes, where what it calls for each time is known (layer 13). -/
import Derived.Test.YthcjfgfbeollpaaKG44
import Derived.Test.YthcjfgfbeollpaaKG39
import Derived.Test.YthcjfgfbeollpaaKG27
import Derived.Deep.RegionHeld3
namespace Go.Proofs.Ythcjfgfbeollpaa.P13
open Go.RowKit Go.Proofs.Ythcjfgfbeollpaa.Base Go.Proofs.Ythcjfgfbeollpaa.Bytes Go.Proofs.Ythcjfgfbeollpaa.P07 Go.Proofs.Ythcjfgfbeollpaa.P08 Go.Proofs.Ythcjfgfbeollpaa.P10
open Go.Proofs.Ythcjfgfbeollpaa.Sets (ST)

/-- A row of two, as the code lays it. -/
theorem lie_twoE {W : World} {E : Nat → Prop} {t u : T} {a b : Option Addr} {c d : Nat} (ht : Lie W E a t.subs) (hu : Lie W E b u.subs) (hc : t.subs.length ≤ c) (hd : u.subs.length ≤ d) :
    Lie (W.alloc (.cells (ncells t a c ++ ncells u b d) 27)) (fun k => E k ∨ W.heap.size ≤ k) (some ⟨W.heap.size, 0, none⟩) [t, u] := by
  have q := (Keep.refl (fun _ => False) W).alloc (.cells (ncells t a c ++ ncells u b d) 27)
  have h := At.new W (ncells t a c ++ ncells u b d) 27
  refine .cons W.heap.size 0 [t, u] (fun i => if i = 0 then a else b) (fun i => if i = 0 then c else d) (by simp) h.lt (.inr (Nat.le_refl _)) (fun i s hs => ?_) (fun i s hs j v hv => ?_) (fun i s hs => ?_)
  · match i, hs with
    | 0, hs => simp at hs; subst hs; exact hc
    | 1, hs => simp at hs; subst hs; exact hd
    | i + 2, hs => simp at hs
  · match i, hs with
    | 0, hs =>
      simp at hs
      subst hs
      have hj : j < 8 := (Array.getElem?_eq_some_iff.1 hv).1
      have := h.cell (o := j) (v := v) (by rw [Array.getElem?_append_left (by simpa using hj)]; exact hv)
      simpa using this
    | 1, hs =>
      simp at hs
      subst hs
      have hj : j < 8 := (Array.getElem?_eq_some_iff.1 hv).1
      have := h.cell (o := 8 + j) (v := v) (by rw [Array.getElem?_append_right (by simp)]; simpa using hv)
      simpa using this
    | i + 2, hs => simp at hs
  · match i, hs with
    | 0, hs => simp at hs; subst hs; exact (ht.keepF q).mono fun k h => .inl h
    | 1, hs => simp at hs; subst hs; exact (hu.keepF q).mono fun k h => .inl h
    | i + 2, hs => simp at hs
/-- A row as it grows. -/
structure Gw (w : World) (u : Value) (L : List T) (W : World) : Prop where
  row : NZ W w.heap.size u L
  keep : Keep (fun _ => False) w W
theorem Gw.start (w : World) : Gw w (.slice none 0 0) [] w := ⟨NZ.nil _ _, Keep.refl _ _⟩
theorem Gw.next {w : World} {u : Value} {L : List T} {W W' : World} (h : Gw w u L W) (q : Keep (fun _ => False) W W') : Gw w u L W' := ⟨h.row.next q, h.keep.trans q⟩
/-- One node more, whose lists have come since W1. -/
theorem Gw.push {w : World} {u : Value} {L : List T} {W1 W : World} (h : Gw w u L W1) (q : Keep (fun _ => False) W1 W) (t : T) (a : Option Addr) (c : Nat) (hc : t.subs.length ≤ c) (hl : Lie W (fun k => W1.heap.size ≤ k ∧ Zb W k) a t.subs) (hlen : L.length ≤ 1000000) (ty : TypeId) :
    ∃ v' w', (Builtin.append_ #[25, 25] ty #[u, .slice (some ⟨W.heap.size, 0, none⟩) 1 1]).run Try.prog (W.alloc (.cells (ncells t a c) 27)) = .ok v' w' ∧ Gw w v' (L ++ [t]) w' := by
  have hs := h.keep.size
  have hs1 := q.size
  have hlt : ∀ k, u.ownBlock = some k → k < W1.heap.size := fun k hk => h.row.lt hk
  have h1 := h.next q
  obtain ⟨v', w', hrun, g1, g2, g3⟩ := h1.row.push t a c hc (hl.mono fun k hk => ⟨⟨by omega, hk.2⟩, fun e => by have := hlt k e; omega⟩) (by omega) (by omega) ty
  exact ⟨v', w', hrun, g1, h1.keep.next g2 (fun i hi hl => by have := h1.row.own i hi; omega)⟩
/-- .. in a repetition without end. -/
theorem Gw.star {w : World} {u : Value} {L : List T} {W1 W : World} (h : Gw w u L W1) (q : Keep (fun _ => False) W1 W) (s : T) (a : Option Addr) (c : Nat) (hc : s.subs.length ≤ c) (hl : Lie W (fun k => W1.heap.size ≤ k ∧ Zb W k) a s.subs) (hlen : L.length ≤ 1000000) (ty : TypeId) :
    ∃ v' w', (Builtin.append_ #[25, 25] ty #[u, .slice (some ⟨W.heap.size + 1, 0, none⟩) 1 1]).run Try.prog ((W.alloc (.cells (ncells s a c) 27)).alloc (.cells (ncells (starP s) (some ⟨W.heap.size, 0, none⟩) 1) 27)) = .ok v' w' ∧ Gw w v' (L ++ [starP s]) w' := by
  have qa := (Keep.refl (fun _ => False) W).alloc (.cells (ncells s a c) 27)
  have hz := Zb.of (At.new W (ncells s a c) 27)
  have h1 := lie_one (ok := fun k => W1.heap.size ≤ k ∧ Zb (W.alloc (.cells (ncells s a c) 27)) k) (At.new W (ncells s a c) 27) ⟨q.size, hz⟩ hc ((hl.keepF qa).mono fun k hk => ⟨hk.1, hk.2.keep qa (fun h => h)⟩)
  have h2 := h.push (q.trans qa) (starP s) (some ⟨W.heap.size, 0, none⟩) 1 (Nat.le_refl 1) h1 hlen ty
  rw [show (W.alloc (.cells (ncells s a c) 27)).heap.size = W.heap.size + 1 from by simp] at h2
  exact h2
/-- .. or as a choice with nothing. -/
theorem Gw.opt {w : World} {u : Value} {L : List T} {W1 W : World} (h : Gw w u L W1) (q : Keep (fun _ => False) W1 W) (s : T) (a : Option Addr) (c : Nat) (hc : s.subs.length ≤ c) (hl : Lie W (fun k => W1.heap.size ≤ k ∧ Zb W k) a s.subs) (hlen : L.length ≤ 1000000) (ty : TypeId) :
    ∃ v' w', (Builtin.append_ #[25, 25] ty #[u, .slice (some ⟨W.heap.size + 1, 0, none⟩) 1 1]).run Try.prog ((W.alloc (.cells (ncells s a c ++ ncells epsT none 0) 27)).alloc (.cells (ncells (optP s) (some ⟨W.heap.size, 0, none⟩) 2) 27)) = .ok v' w' ∧ Gw w v' (L ++ [optP s]) w' := by
  have qa := (Keep.refl (fun _ => False) W).alloc (.cells (ncells s a c ++ ncells epsT none 0) 27)
  have hz := Zb.of (At.new W (ncells s a c ++ ncells epsT none 0) 27)
  have h1 := ((lie_twoE (u := epsT) (b := none) (d := 0) hl (.nil _) hc (Nat.le_refl 0)).under).mono (ok' := fun k => W1.heap.size ≤ k ∧ Zb (W.alloc (.cells (ncells s a c ++ ncells epsT none 0) 27)) k) fun k hk => by
    rcases hk.1 with h0 | h0
    · exact ⟨h0.1, h0.2.keep qa (fun h => h)⟩
    · have h3 : k < W.heap.size + 1 := by simpa using hk.2
      have h4 : k = W.heap.size := by omega
      rw [h4]
      exact ⟨q.size, hz⟩
  have h2 := h.push (q.trans qa) (optP s) (some ⟨W.heap.size, 0, none⟩) 2 (Nat.le_refl 2) h1 hlen ty
  rw [show (W.alloc (.cells (ncells s a c ++ ncells epsT none 0) 27)).heap.size = W.heap.size + 1 from by simp] at h2
  exact h2

set_option maxRecDepth 100000 in
set_option maxHeartbeats 16000000 in
theorem tms_any (s : T) (p : Addr) (mn mx : Int) (w : World) (b0 : 0 ≤ mn) (b1 : mn ≤ 20) (bx : mx = -1 ∨ mn ≤ mx ∧ mx ≤ 20) (HW : ∀ W, Keep (fun _ => False) w W → Calls Try.prog 55 #[.pointer (some p)] W (GivesN W.heap.size W s)) :
    Calls Try.prog 78 #[.pointer (some p), .int .i64 mn, .int .i64 mx] w fun e w' => ∃ v, e = .returned v ∧ Gw w v (tmsP mn mx s) w' := by
  obtain ⟨m, rfl⟩ : ∃ m : Nat, mn = m := ⟨mn.toNat, by omega⟩
  have HWW := Lib.hid HW
  have H0 := Lib.hid (Gw.start w)
  clear HW
  have hm20 : m ≤ 20 := by omega
  clear b0 b1
  have HB := Lib.hid bx
  go_enter Try.func78, Try.ntmps78
  go_wp2_with fail
  go_loopg [6, 8] m (fun gg u i wr => ∃ j : Nat, i = .int .i64 j ∧ j + gg = m ∧ Gw w u (List.replicate j s) wr)
  case atStart => exact ⟨0, rfl, by omega, H0.out⟩
  case round =>
    obtain ⟨j, rfl, hj, I⟩ := hrel
    have j0 : (0 : Int) ≤ j := by omega
    by_cases hlt : j < m
    · have hlt' : (j : Int) < m := by omega
      have II := Lib.hid I
      clear I
      go_wp2_with (first
        | (go_at_call 55; refine (HWW.out _ II.out.keep).mono ?_; rintro e w2 ⟨⟨a, c, rfl, hc, hl⟩, q2⟩; obtain ⟨v', w3, hrun, hG⟩ := II.out.push q2 s a c hc hl (by rw [List.length_replicate]; omega) 25; have HG := Lib.hid hG; clear hG hl q2 hc)
        | (at_builtin; refine Lib.wpList_append_run _ rfl _ _ _ _ rfl _ _ rfl rfl _ _ hrun ?_))
      go_roundg (m - (j + 1))
      case measure => omega
      case rel => exact ⟨j + 1, by go_num, by omega, by rw [List.replicate_succ']; exact HG.out⟩
    · have hje : m = j := by omega
      subst hje
      have II := Lib.hid I
      clear I hj hlt
      rcases HB.out with hx | ⟨hx1, hx2⟩
      · subst hx
        go_wp2_with (first
          | (go_at_call 55; refine (HWW.out _ II.out.keep).mono ?_; rintro e w2 ⟨⟨a, c, rfl, hc, hl⟩, q2⟩; obtain ⟨v', w3, hrun, hG⟩ := II.out.star q2 s a c hc hl (by rw [List.length_replicate]; omega) 25; have HG := Lib.hid hG; clear hG hl q2 hc)
          | (at_builtin; refine Lib.wpList_append_run _ rfl _ _ _ _ rfl _ _ rfl rfl _ _ hrun ?_))
        go_ret
        refine ⟨_, rfl, ?_⟩
        have h1 := HG.out
        unfold tmsP
        rw [if_pos (by omega), Int.toNat_natCast]
        exact h1
      · obtain ⟨x, rfl⟩ : ∃ x : Nat, mx = x := ⟨mx.toNat, by omega⟩
        have hxn : ((x : Int) == -1) = false := by simp
        have hmx : m ≤ x := by omega
        have hx20 : x ≤ 20 := by omega
        clear hx1 hx2 HB
        go_wp2_with fail
        go_loopg [6, 28] (x - m) (fun gg u i wr => ∃ k : Nat, i = .int .i64 k ∧ k + gg = x - m ∧ Gw w u (List.replicate m s ++ List.replicate k (optP s)) wr)
        case atStart => exact ⟨0, rfl, by omega, by rw [List.replicate_zero, List.append_nil]; exact II.out⟩
        case round =>
          obtain ⟨k, rfl, hk, I⟩ := hrel
          have k0 : (0 : Int) ≤ k := by omega
          by_cases hlt : k < x - m
          · have hlt' : (k : Int) < (x : Int) - m := by omega
            have I2 := Lib.hid I
            clear I
            go_wp2_with (first
              | (go_at_call 55; refine (HWW.out _ I2.out.keep).mono ?_; rintro e w2 ⟨⟨a, c, rfl, hc, hl⟩, q2⟩; obtain ⟨v', w3, hrun, hG⟩ := I2.out.opt q2 s a c hc hl (by rw [List.length_append, List.length_replicate, List.length_replicate]; omega) 25; have HG := Lib.hid hG; clear hG hl q2 hc)
              | (at_builtin; refine Lib.wpList_append_run _ rfl _ _ _ _ rfl _ _ rfl rfl _ _ hrun ?_))
            go_roundg (x - m - (k + 1))
            case measure => omega
            case rel => exact ⟨k + 1, by go_num, by omega, by rw [List.replicate_succ', ← List.append_assoc]; exact HG.out⟩
          · have hlt' : ¬ (k : Int) < (x : Int) - m := by omega
            have I2 := Lib.hid I
            have hke : k = x - m := by omega
            clear I hlt hk
            go_wp2_with fail
            go_ret
            refine ⟨_, rfl, ?_⟩
            have h1 := I2.out
            unfold tmsP
            rw [if_neg (by omega), Int.toNat_natCast, show ((x : Int) - (m : Int)).toNat = x - m by omega, ← hke]
            exact h1
end Go.Proofs.Ythcjfgfbeollpaa.P13
/- The code's written (layer 13). -/
namespace Go.Proofs.Ythcjfgfbeollpaa.P13
open Go.RowKit Go.Proofs.Ythcjfgfbeollpaa.Base Go.Proofs.Ythcjfgfbeollpaa.Bytes Go.Proofs.Ythcjfgfbeollpaa.P07 Go.Proofs.Ythcjfgfbeollpaa.P08 Go.Proofs.Ythcjfgfbeollpaa.P10
open Go.Proofs.Ythcjfgfbeollpaa.Sets (ST)

def WrOk (t : T) : Prop := ∀ (d : Nat), RT d t → cnt t ≤ 400000 → ∀ (bl o : Nat) (a : Option Addr) (c : Nat) (w : World), NodeP w bl o t a c → Lie w (fun _ => True) a t.subs → t.subs.length ≤ c →
  Calls Try.prog 55 #[.pointer (some ⟨bl, o, none⟩)] w (GivesN w.heap.size w (plT t))
/-- The whole as it grows: the result's block, the whole's, its list. -/
structure Wl (w : World) (k : Int) (s : ST) (L : List T) (a : Option Addr) (c : Nat) (W : World) : Prop where
  rb : Rb w w.heap.size W
  at_ : At W (w.heap.size + 1) 27 (ncells (.nd k s 0 0 L) a c)
  row : NZ W (w.heap.size + 2) (.slice a L.length c) L

set_option maxRecDepth 100000 in
set_option maxHeartbeats 32000000 in
theorem wr_rep (d : Nat) (u : T) (mn mx : Int) (hu : RT d u) (b0 : 0 ≤ mn) (b1 : mn ≤ 20) (bx : mx = -1 ∨ mn ≤ mx ∧ mx ≤ 20) (hcu : cnt u ≤ 400000) (ih : WrOk u) (bl o : Nat) (a : Option Addr) (c : Nat) (w : World) (hP : NodeP w bl o (.nd 5 ST.none mn mx [u]) a c) (hL : Lie w (fun _ => True) a [u]) :
    Calls Try.prog 55 #[.pointer (some ⟨bl, o, none⟩)] w (GivesN w.heap.size w (plT (.nd 5 ST.none mn mx [u]))) := by
  obtain ⟨bl2, off2, a2, c2, ea, -, hb2, hle2, L2, C2⟩ := hL.get (i := 0) (t := u) rfl
  subst ea
  have hN2 : NodeP w bl2 off2 u a2 c2 := ⟨hb2, fun j v hv => by have := C2 j v hv; rw [Nat.zero_mul, Nat.add_zero] at this; exact this⟩
  have HW : ∀ W, Keep (fun _ => False) w W → Calls Try.prog 55 #[.pointer (some ⟨bl2, off2, none⟩)] W (GivesN W.heap.size W (plT u)) := fun W q => ih d hu hcu bl2 off2 a2 c2 W (hN2.keepF q) (L2.keepF q) hle2
  have HT := Lib.hid (fun (W : World) (q : Keep (fun _ => False) w W) => tms_any (plT u) ⟨bl2, off2, none⟩ mn mx W b0 b1 bx (fun W' q' => HW W' (q.trans q')))
  rw [plT_rep]
  obtain ⟨M, hM⟩ : ∃ M, tmsP mn mx (plT u) = M := ⟨_, rfl⟩
  rw [hM]
  obtain ⟨X, hX⟩ : ∃ X, rowP M = X := ⟨_, rfl⟩
  rw [hX]
  have HM := Lib.hid (And.intro hM hX)
  have r0 : Rb w w.heap.size (w.alloc (.cells nzeros 27)) := ⟨At.new w nzeros 27, (Keep.refl (fun _ => False) w).alloc _, Nat.le_refl _⟩
  have hs0 : (w.alloc (.cells nzeros 27)).heap.size = w.heap.size + 1 := by simp
  have HR := Lib.hid r0
  have HNP := Lib.hid (hP.keepF r0.keep)
  have hbl := hP.lt
  clear ih hL hP hM hX r0 HW hN2 L2 C2 hle2 hb2 bx b0 b1 hu hcu
  go_enter Try.func55, Try.ntmps55
  go_upto_region 1 with fail
  generalize (w.alloc (.cells nzeros 27)) = W0 at *
  have c0 : W0.cell? ⟨bl, o, none⟩ = some (.int .i64 5) := HNP.out.eight.1
  have HS0 := Lib.hid hs0
  go_upto_region 2 with fail
  have HSq := Lib.hid (fun (W' : World) (q : Keep (fun b => b = w.heap.size) W0 W') => (show W'.cell? ⟨bl, o + 5, none⟩ = some (.int .i64 mn) ∧ W'.cell? ⟨bl, o + 6, none⟩ = some (.int .i64 mx) ∧ W'.cell? ⟨bl, o + 7, none⟩ = some (.slice (some ⟨bl2, off2, none⟩) 1 c) from
      ⟨(HNP.out.keep q (fun h => by have h : bl = w.heap.size := h; omega)).eight.2.2.2.2.2.1, (HNP.out.keep q (fun h => by have h : bl = w.heap.size := h; omega)).eight.2.2.2.2.2.2.1, (HNP.out.keep q (fun h => by have h : bl = w.heap.size := h; omega)).eight.2.2.2.2.2.2.2⟩))
  clear c0 hs0
  · skip
    refine wp_region_noPanic ?_
    refine wp_region_held_drew (S := (fun W => W.cell? ⟨bl, o + 5, none⟩ = some (.int .i64 mn) ∧ W.cell? ⟨bl, o + 6, none⟩ = some (.int .i64 mx) ∧ W.cell? ⟨bl, o + 7, none⟩ = some (.slice (some ⟨bl2, off2, none⟩) 1 c))) (by kernel_rfl) ?_ (fun hHeld => ?_)
    · exact HSq.out _ (((Keep.refl (fun _ => False) W0).drew).mono (fun _ h => h.elim))
    refine wpAnyH_take (i := 0) (oi := { dst := some 10, op := Go.Op.move (Go.Operand.tmp 0), type := 79, pos := "expand.go:31", after := #[], guard := none }) (v := ?_) rfl (by kernel_rfl) (by kernel_rfl) (by kernel_rfl) (fun _ _ _ h => h) (Or.inl ⟨by rfl, ?_⟩) (by assumption) ?_
    rotate_left 1
    · (intro w hSw; (try dsimp only at hSw); go_simp; first | done | with_reducible rfl)
    try simp only [Act.put, List.setIfInBounds_toArray, List.set_cons_zero, List.set_cons_succ]
    refine wpAnyH_take (i := 1) (oi := { dst := some 11, op := Go.Op.nilCheck (Go.Operand.tmp 10), type := 0, pos := "expand.go:31", after := #[{ on := 0, ground := Go.Ground.data }], guard := none }) (v := ?_) rfl (by kernel_rfl) (by kernel_rfl) (by kernel_rfl) (fun _ _ _ h => h) (Or.inl ⟨by rfl, ?_⟩) (by assumption) ?_
    rotate_left 1
    · (intro w hSw; (try dsimp only at hSw); go_simp; first | done | with_reducible rfl)
    try simp only [Act.put, List.setIfInBounds_toArray, List.set_cons_zero, List.set_cons_succ]
    refine wpAnyH_take (i := 2) (oi := { dst := some 12, op := Go.Op.fieldAddr 27 (Go.Operand.tmp 11) 4, type := 0, pos := "expand.go:31", after := #[{ on := 1, ground := Go.Ground.data }], guard := none }) (v := ?_) rfl (by kernel_rfl) (by kernel_rfl) (by kernel_rfl) (fun _ _ _ h => h) (Or.inl ⟨by rfl, ?_⟩) (by assumption) ?_
    rotate_left 1
    · (intro w hSw; (try dsimp only at hSw); go_simp; first | done | with_reducible rfl)
    try simp only [Act.put, List.setIfInBounds_toArray, List.set_cons_zero, List.set_cons_succ]
    refine wpAnyH_take (i := 3) (oi := { dst := some 13, op := Go.Op.load 25 (Go.Operand.tmp 12), type := 25, pos := "expand.go:31", after := #[{ on := 2, ground := Go.Ground.data }], guard := none }) (v := ?_) rfl (by kernel_rfl) (by kernel_rfl) (by kernel_rfl) (fun _ _ _ h => h) (Or.inl ⟨by rfl, ?_⟩) (by assumption) ?_
    rotate_left 1
    · (intro w hSw; (try dsimp only at hSw); go_simp; first | done | with_reducible rfl)
    try simp only [Act.put, List.setIfInBounds_toArray, List.set_cons_zero, List.set_cons_succ]
    refine wpAnyH_take (i := 4) (oi := { dst := some 14, op := Go.Op.indexAddr 25 (Go.Operand.tmp 13) (Go.Operand.const (Go.Value.int Go.IntKind.i64 0)), type := 0, pos := "expand.go:31", after := #[{ on := 3, ground := Go.Ground.data }], guard := none }) (v := ?_) rfl (by kernel_rfl) (by kernel_rfl) (by kernel_rfl) (fun _ _ _ h => h) (Or.inl ⟨by rfl, ?_⟩) (by assumption) ?_
    rotate_left 1
    · (intro w hSw; (try dsimp only at hSw); go_simp; first | done | with_reducible rfl)
    try simp only [Act.put, List.setIfInBounds_toArray, List.set_cons_zero, List.set_cons_succ]
    refine wpAnyH_take (i := 5) (oi := { dst := some 15, op := Go.Op.move (Go.Operand.tmp 0), type := 79, pos := "expand.go:31", after := #[], guard := none }) (v := ?_) rfl (by kernel_rfl) (by kernel_rfl) (by kernel_rfl) (fun _ _ _ h => h) (Or.inl ⟨by rfl, ?_⟩) (by assumption) ?_
    rotate_left 1
    · (intro w hSw; (try dsimp only at hSw); go_simp; first | done | with_reducible rfl)
    try simp only [Act.put, List.setIfInBounds_toArray, List.set_cons_zero, List.set_cons_succ]
    refine wpAnyH_take (i := 6) (oi := { dst := some 16, op := Go.Op.nilCheck (Go.Operand.tmp 15), type := 0, pos := "expand.go:31", after := #[{ on := 5, ground := Go.Ground.data }], guard := none }) (v := ?_) rfl (by kernel_rfl) (by kernel_rfl) (by kernel_rfl) (fun _ _ _ h => h) (Or.inl ⟨by rfl, ?_⟩) (by assumption) ?_
    rotate_left 1
    · (intro w hSw; (try dsimp only at hSw); go_simp; first | done | with_reducible rfl)
    try simp only [Act.put, List.setIfInBounds_toArray, List.set_cons_zero, List.set_cons_succ]
    refine wpAnyH_take (i := 7) (oi := { dst := some 17, op := Go.Op.fieldAddr 27 (Go.Operand.tmp 16) 2, type := 0, pos := "expand.go:31", after := #[{ on := 6, ground := Go.Ground.data }], guard := none }) (v := ?_) rfl (by kernel_rfl) (by kernel_rfl) (by kernel_rfl) (fun _ _ _ h => h) (Or.inl ⟨by rfl, ?_⟩) (by assumption) ?_
    rotate_left 1
    · (intro w hSw; (try dsimp only at hSw); go_simp; first | done | with_reducible rfl)
    try simp only [Act.put, List.setIfInBounds_toArray, List.set_cons_zero, List.set_cons_succ]
    refine wpAnyH_take (i := 8) (oi := { dst := some 18, op := Go.Op.load 3 (Go.Operand.tmp 17), type := 3, pos := "expand.go:31", after := #[{ on := 7, ground := Go.Ground.data }], guard := none }) (v := ?_) rfl (by kernel_rfl) (by kernel_rfl) (by kernel_rfl) (fun _ _ _ h => h) (Or.inl ⟨by rfl, ?_⟩) (by assumption) ?_
    rotate_left 1
    · (intro w hSw; (try dsimp only at hSw); go_simp; first | done | with_reducible rfl)
    try simp only [Act.put, List.setIfInBounds_toArray, List.set_cons_zero, List.set_cons_succ]
    refine wpAnyH_take (i := 9) (oi := { dst := some 19, op := Go.Op.move (Go.Operand.tmp 0), type := 79, pos := "expand.go:31", after := #[], guard := none }) (v := ?_) rfl (by kernel_rfl) (by kernel_rfl) (by kernel_rfl) (fun _ _ _ h => h) (Or.inl ⟨by rfl, ?_⟩) (by assumption) ?_
    rotate_left 1
    · (intro w hSw; (try dsimp only at hSw); go_simp; first | done | with_reducible rfl)
    try simp only [Act.put, List.setIfInBounds_toArray, List.set_cons_zero, List.set_cons_succ]
    refine wpAnyH_take (i := 10) (oi := { dst := some 20, op := Go.Op.nilCheck (Go.Operand.tmp 19), type := 0, pos := "expand.go:31", after := #[{ on := 9, ground := Go.Ground.data }], guard := none }) (v := ?_) rfl (by kernel_rfl) (by kernel_rfl) (by kernel_rfl) (fun _ _ _ h => h) (Or.inl ⟨by rfl, ?_⟩) (by assumption) ?_
    rotate_left 1
    · (intro w hSw; (try dsimp only at hSw); go_simp; first | done | with_reducible rfl)
    try simp only [Act.put, List.setIfInBounds_toArray, List.set_cons_zero, List.set_cons_succ]
    refine wpAnyH_take (i := 11) (oi := { dst := some 21, op := Go.Op.fieldAddr 27 (Go.Operand.tmp 20) 3, type := 0, pos := "expand.go:31", after := #[{ on := 10, ground := Go.Ground.data }], guard := none }) (v := ?_) rfl (by kernel_rfl) (by kernel_rfl) (by kernel_rfl) (fun _ _ _ h => h) (Or.inl ⟨by rfl, ?_⟩) (by assumption) ?_
    rotate_left 1
    · (intro w hSw; (try dsimp only at hSw); go_simp; first | done | with_reducible rfl)
    try simp only [Act.put, List.setIfInBounds_toArray, List.set_cons_zero, List.set_cons_succ]
    refine wpAnyH_take (i := 12) (oi := { dst := some 22, op := Go.Op.load 3 (Go.Operand.tmp 21), type := 3, pos := "expand.go:31", after := #[{ on := 11, ground := Go.Ground.data }], guard := none }) (v := ?_) rfl (by kernel_rfl) (by kernel_rfl) (by kernel_rfl) (fun _ _ _ h => h) (Or.inl ⟨by rfl, ?_⟩) (by assumption) ?_
    rotate_left 1
    · (intro w hSw; (try dsimp only at hSw); go_simp; first | done | with_reducible rfl)
    try simp only [Act.put, List.setIfInBounds_toArray, List.set_cons_zero, List.set_cons_succ]
    refine wpAnyH_ready (rs := [13]) (by kernel_rfl) (by simp) ?_
    refine (AllReadyH.cons (o := { dst := some 23, op := Go.Op.call { callee := Go.Callee.value (Go.Operand.func 78), args := #[Go.Operand.tmp 14, Go.Operand.tmp 18, Go.Operand.tmp 22], argTypes := #[79, 3, 3] }, type := 25, pos := "expand.go:31", after := #[{ on := 4, ground := Go.Ground.data }, { on := 8, ground := Go.Ground.data }, { on := 12, ground := Go.Ground.data }], guard := none }) rfl (fun K hK => ?_) AllReadyH.nil)
    go_simp
    (go_at_call 78; refine (HT.out _ (HR.out.keep.trans ((Keep.refl (fun _ => False) W0).drew))).mono ?_; rintro e w2 ⟨v, rfl, hG⟩)
    rw [HM.out.1] at hG
    have HG := Lib.hid hG
    clear hG
    obtain ⟨ra, rc, rfl, -, -⟩ := HG.out.row.form
    refine hK.out _ _ ?_ (fun hHeld' => ?_)
    · exact HSq.out _ ((((Keep.refl (fun _ => False) W0).drew).trans HG.out.keep).mono (fun _ h => h.elim))
    clear hK K hHeld
    have hHeld := hHeld'
    clear hHeld'
    try simp only [Act.put, List.setIfInBounds_toArray, List.set_cons_zero, List.set_cons_succ]
    refine wpAnyH_ready (rs := [14]) (by kernel_rfl) (by simp) ?_
    refine (AllReadyH.cons (o := { dst := some 24, op := Go.Op.call { callee := Go.Callee.value (Go.Operand.func 77), args := #[Go.Operand.tmp 23], argTypes := #[25] }, type := 27, pos := "expand.go:31", after := #[{ on := 13, ground := Go.Ground.data }, { on := 13, ground := Go.Ground.chain }], guard := none }) rfl (fun K hK => ?_) AllReadyH.nil)
    obtain ⟨ra', rc', er, hrc, hrl⟩ := HG.out.row.form
    injection er with er1 er2 er3
    subst er1 er3
    have HQ := Lib.hid (inrow_any M ra rc (w.heap.size + 1) w2 (hrl.mono fun k hk => ⟨by have h1 := hk.1; have h2 : W0.drew.heap.size = w.heap.size + 1 := HS0.out; omega, hk.2⟩) hrc)
    rw [HM.out.2] at HQ
    clear hrc hrl er2
    go_simp
    (go_at_call 77; refine HQ.out.mono ?_; rintro e w3 ⟨⟨xa, xc, rfl, hxc, hxl⟩, q3⟩)
    have HX := Lib.hid (And.intro hxc (And.intro hxl q3))
    clear hxc hxl q3
    refine hK.out _ _ ?_ (fun hHeld' => ?_)
    · exact HSq.out _ (((((Keep.refl (fun _ => False) W0).drew).trans HG.out.keep).trans HX.out.2.2).mono (fun _ h => h.elim))
    clear hK K hHeld
    have hHeld := hHeld'
    clear hHeld'
    try simp only [Act.put, List.setIfInBounds_toArray, List.set_cons_zero, List.set_cons_succ]
    refine wpAnyH_ready (rs := [15]) (by kernel_rfl) (by simp) ?_
    refine (AllReadyH.cons (o := { dst := none, op := Go.Op.store 27 (Go.Operand.tmp 2) (Go.Operand.tmp 24), type := 0, pos := "expand.go:31", after := #[{ on := 14, ground := Go.Ground.data }, { on := 14, ground := Go.Ground.chain }, { on := 0, ground := Go.Ground.phase }, { on := 1, ground := Go.Ground.phase }, { on := 2, ground := Go.Ground.phase }, { on := 3, ground := Go.Ground.phase }, { on := 4, ground := Go.Ground.phase }, { on := 5, ground := Go.Ground.phase }, { on := 6, ground := Go.Ground.phase }, { on := 7, ground := Go.Ground.phase }, { on := 8, ground := Go.Ground.phase }, { on := 9, ground := Go.Ground.phase }, { on := 10, ground := Go.Ground.phase }, { on := 11, ground := Go.Ground.phase }, { on := 12, ground := Go.Ground.phase }, { on := 13, ground := Go.Ground.phase }, { on := 14, ground := Go.Ground.phase }], guard := none }) rfl (fun K hK => ?_) AllReadyH.nil)
    have R3 := Lib.hid (HR.out.next ((((Keep.refl (fun _ => False) W0).drew).trans HG.out.keep).trans HX.out.2.2))
    obtain ⟨⟨d0, d1, d2, d3, d4, d5, d6, d7⟩, f0, f1, f2, f3, f4, f5, f6, f7⟩ := cells8 R3.out.out
    have hlt3 := R3.out.out.lt
    have HPG := Lib.hid (And.intro (R3.out.put X xa xc).1 ((rb_gives R3.out (n0 := w.heap.size + 1) (t := X) HX.out.1 (HX.out.2.1.mono fun k hk => ⟨hk, by have := hk.1; omega⟩)).wider (n1 := w.heap.size) (by omega)))
    have HSP := Lib.hid (HSq.out (putNd w3 w.heap.size 0 X xa xc) ((((((Keep.refl (fun _ => False) W0).drew).trans HG.out.keep).trans HX.out.2.2).mono (fun _ h => h.elim)).trans (putNd_keep w3 w.heap.size 0 X xa xc)))
    go_simp
    refine hK.out _ (putNd w3 w.heap.size 0 X xa xc) ?_ (fun hHeld' => ?_)
    · exact HSP.out
    clear hK K hHeld
    have hHeld := hHeld'
    clear hHeld'
    generalize (putNd w3 w.heap.size 0 X xa xc) = W9 at *
    try simp only [Act.put, List.setIfInBounds_toArray, List.set_cons_zero, List.set_cons_succ]
    refine wpAnyH_done (by kernel_rfl) ?_ _
    refine NoPanic.normal ?_
    rotate_left 1
    obtain ⟨⟨e0, e1, e2, e3, e4, e5, e6, e7⟩, -⟩ := cells8 HPG.out.1
    go_wp2_with fail
    exact bodyPost_ret (v := nodeV X xa xc) (by simp [results, Try.results55, go_sem, e0, e1, e2, e3, e4, e5, e6, e7]) rfl HPG.out.2
theorem step_append_at {P : Program} (w : World) {ops : Array Oper} {o : Oper} {a : Act} {K : Act → World → Prop} {Q : Exit → Act → World → Prop} {E : Prop} (hw : Region.wanted o (yielded ops a.tmps) = true) (s x : Operand) (t tn : TypeId)
    (ho : o.op = .call { callee := .builtin .append, args := #[s, x], argTypes := #[t, tn] }) (vs vx : Value) (hs : a.eval s = vs) (hx : a.eval x = vx)
    (v' : Value) (w' : World) (hr : (Builtin.append_ #[t, tn] o.type #[vs, vx]).run P w = .ok v' w') (h : K (a.put o.dst v') w') :
    if Region.wanted o (yielded ops a.tmps) = true then Oper.wp P o a w K Q else E := by
  rw [if_pos hw]
  exact Lib.wp_append_run w s x t tn ho vs vx hs hx v' w' hr h
theorem len13 : ∀ L : List T, L.length ≤ cntL L
  | [] => Nat.zero_le _
  | t :: L => by
    have h1 := len13 L
    have h2 := cnt_eq t
    rw [cntL, List.length_cons]
    omega
theorem Wl.next {w : World} {k : Int} {s : ST} {L : List T} {a : Option Addr} {c : Nat} {W W' : World} (h : Wl w k s L a c W) (q : Keep (fun _ => False) W W') : Wl w k s L a c W' := ⟨h.rb.next q, h.at_.keep q (fun h => h), h.row.next q⟩

/-- One part more is written: append of it, then the store of the list. -/
theorem Wl.push {w : World} {k : Int} {s : ST} {L : List T} {a : Option Addr} {c : Nat} {wr w2 : World} (h : Wl w k s L a c wr) (q : Keep (fun _ => False) wr w2) (x : T) (xa : Option Addr) (xc : Nat) (hxc : x.subs.length ≤ xc) (hxl : Lie w2 (fun k => wr.heap.size ≤ k ∧ Zb w2 k) xa x.subs) (hlen : L.length ≤ 400000) (ty : TypeId) :
    ∃ v' w4, (Builtin.append_ #[25, 25] ty #[.slice a L.length c, .slice (some ⟨w2.heap.size, 0, none⟩) 1 1]).run Try.prog (w2.alloc (.cells (ncells x xa xc) 27)) = .ok v' w4 ∧ At w4 (w.heap.size + 1) 27 (ncells (.nd k s 0 0 L) a c) ∧
      Keep (fun b => b = w.heap.size + 1 ∨ w.heap.size + 2 ≤ b) wr w4 ∧ ∃ a' c', v' = .slice a' (L.length + 1) c' ∧ Wl w k s (L ++ [x]) a' c' (w4.setCell ⟨w.heap.size + 1, 7, none⟩ v') := by
  have hlow := h.rb.keep.size
  have hat := h.at_.lt
  have hq := q.size
  obtain ⟨v', w4, hrun, g1, g2, g3⟩ := (h.row.next q).push x xa xc hxc (hxl.mono fun k hk => ⟨⟨by have := hk.1; omega, hk.2⟩, fun e => by have h1 := h.row.lt e; have := hk.1; omega⟩) (by omega) (by omega) ty
  have hown := h.row.own
  have a4 : At w4 (w.heap.size + 1) 27 (ncells (.nd k s 0 0 L) a c) := (h.at_.keep q (fun h => h)).keep g2 (fun e => by have := hown _ e; omega)
  have q4 : Keep (fun b => b = w.heap.size + 1 ∨ w.heap.size + 2 ≤ b) wr w4 := (q.mono (fun _ h => h.elim)).trans (g2.mono fun b hb => .inr (hown b hb))
  have qs := (Keep.refl (fun b => b = w.heap.size + 1) w4).setCell (p := ⟨w.heap.size + 1, 7, none⟩) (fun _ => rfl) v'
  obtain ⟨a', c', rfl, hle, hlie⟩ := g1.form
  refine ⟨_, w4, hrun, a4, q4, a', c', by simp, ⟨⟨?_, ?_, Nat.le_refl _⟩, ?_, ?_⟩⟩
  · exact (h.rb.out.keep q4 (fun e => by have e : w.heap.size = w.heap.size + 1 ∨ w.heap.size + 2 ≤ w.heap.size := e; omega)).keep qs (fun e => by have e : w.heap.size = w.heap.size + 1 := e; omega)
  · exact (h.rb.keep.next q4 (fun i hi hl => by have hi : i = w.heap.size + 1 ∨ w.heap.size + 2 ≤ i := hi; omega)).next qs (fun i hi hl => by have hi : i = w.heap.size + 1 := hi; omega)
  · exact a4.set 7 (.slice a' (L ++ [x]).length c')
  · exact (OT.keep g1 qs (fun k hk e => by have := hk.1; have e : k = w.heap.size + 1 := e; omega)).sub fun k hk => ⟨hk.1, hk.2.keep qs (fun e => by have := hk.1; have e : k = w.heap.size + 1 := e; omega)⟩

set_option maxRecDepth 100000 in
set_option maxHeartbeats 32000000 in
theorem wr_node (t : T) (d : Nat) (hR : RT d t) (hcnt : cnt t ≤ 400000) (hk5 : t.kind ≠ 5) (ih : ∀ u ∈ t.subs, WrOk u) (bl o : Nat) (a : Option Addr) (c : Nat) (w : World) (hP : NodeP w bl o t a c) (hL : Lie w (fun _ => True) a t.subs) :
    Calls Try.prog 55 #[.pointer (some ⟨bl, o, none⟩)] w (GivesN w.heap.size w (plT t)) := by
  rw [plT_not hk5]
  have r0 : Rb w w.heap.size (w.alloc (.cells nzeros 27)) := ⟨At.new w nzeros 27, (Keep.refl (fun _ => False) w).alloc _, Nat.le_refl _⟩
  have hs0 : (w.alloc (.cells nzeros 27)).heap.size = w.heap.size + 1 := by simp
  have hlen : t.subs.length ≤ 400000 := by
    have h1 := len13 t.subs
    have h2 := cnt_eq t
    omega
  have HI := Lib.hid (And.intro hR (And.intro hcnt ih))
  have HL := Lib.hid hL
  have HR := Lib.hid r0
  have HNP := Lib.hid (hP.keepF r0.keep)
  have hP' := Lib.hid hP
  have hbl := hP.lt
  have k5 : (t.kind == 5) = false := by simp [hk5]
  clear ih hR hcnt hL hP r0 hk5
  go_enter Try.func55, Try.ntmps55
  go_upto_region 1 with fail
  generalize (w.alloc (.cells nzeros 27)) = W0 at *
  obtain ⟨c0, c1, c2, c3, c4, -, -, c7⟩ := HNP.out.eight
  have HS0 := Lib.hid hs0
  go_upto_region 3 with fail
  have HSq := Lib.hid (fun (W' : World) (q : Keep (fun b => b = w.heap.size ∨ b = w.heap.size + 1) W0 W') => (show W'.cell? ⟨bl, o, none⟩ = some (.int .i64 t.kind) ∧ W'.cell? ⟨bl, o + 1, none⟩ = some (.int .u64 t.set.x0) ∧ W'.cell? ⟨bl, o + 2, none⟩ = some (.int .u64 t.set.x1) ∧ W'.cell? ⟨bl, o + 3, none⟩ = some (.int .u64 t.set.x2) ∧ W'.cell? ⟨bl, o + 4, none⟩ = some (.int .u64 t.set.x3) from
      ⟨(HNP.out.keep q (fun h => by have h : bl = w.heap.size ∨ bl = w.heap.size + 1 := h; omega)).eight.1, (HNP.out.keep q (fun h => by have h : bl = w.heap.size ∨ bl = w.heap.size + 1 := h; omega)).eight.2.1, (HNP.out.keep q (fun h => by have h : bl = w.heap.size ∨ bl = w.heap.size + 1 := h; omega)).eight.2.2.1, (HNP.out.keep q (fun h => by have h : bl = w.heap.size ∨ bl = w.heap.size + 1 := h; omega)).eight.2.2.2.1, (HNP.out.keep q (fun h => by have h : bl = w.heap.size ∨ bl = w.heap.size + 1 := h; omega)).eight.2.2.2.2.1⟩))
  clear c0 c1 c2 c3 c4 c7 hs0
  · skip
    refine wp_region_noPanic ?_
    refine wp_region_held_drew (S := (fun W => W.cell? ⟨bl, o, none⟩ = some (.int .i64 t.kind) ∧ W.cell? ⟨bl, o + 1, none⟩ = some (.int .u64 t.set.x0) ∧ W.cell? ⟨bl, o + 2, none⟩ = some (.int .u64 t.set.x1) ∧ W.cell? ⟨bl, o + 3, none⟩ = some (.int .u64 t.set.x2) ∧ W.cell? ⟨bl, o + 4, none⟩ = some (.int .u64 t.set.x3))) (by kernel_rfl) ?_ (fun hHeld => ?_)
    · exact HSq.out _ (((Keep.refl (fun _ => False) W0).drew).mono (fun _ h => h.elim))
    refine wpAnyH_take (i := 0) (oi := { dst := some 25, op := Go.Op.move (Go.Operand.tmp 0), type := 79, pos := "expand.go:33", after := #[], guard := none }) (v := ?_) rfl (by kernel_rfl) (by kernel_rfl) (by kernel_rfl) (fun _ _ _ h => h) (Or.inl ⟨by rfl, ?_⟩) (by assumption) ?_
    rotate_left 1
    · (intro w hSw; (try dsimp only at hSw); go_simp; first | done | with_reducible rfl)
    try simp only [Act.put, List.setIfInBounds_toArray, List.set_cons_zero, List.set_cons_succ]
    refine wpAnyH_take (i := 1) (oi := { dst := some 26, op := Go.Op.nilCheck (Go.Operand.tmp 25), type := 0, pos := "expand.go:33", after := #[{ on := 0, ground := Go.Ground.data }], guard := none }) (v := ?_) rfl (by kernel_rfl) (by kernel_rfl) (by kernel_rfl) (fun _ _ _ h => h) (Or.inl ⟨by rfl, ?_⟩) (by assumption) ?_
    rotate_left 1
    · (intro w hSw; (try dsimp only at hSw); go_simp; first | done | with_reducible rfl)
    try simp only [Act.put, List.setIfInBounds_toArray, List.set_cons_zero, List.set_cons_succ]
    refine wpAnyH_take (i := 2) (oi := { dst := some 27, op := Go.Op.fieldAddr 27 (Go.Operand.tmp 26) 0, type := 0, pos := "expand.go:33", after := #[{ on := 1, ground := Go.Ground.data }], guard := none }) (v := ?_) rfl (by kernel_rfl) (by kernel_rfl) (by kernel_rfl) (fun _ _ _ h => h) (Or.inl ⟨by rfl, ?_⟩) (by assumption) ?_
    rotate_left 1
    · (intro w hSw; (try dsimp only at hSw); go_simp; first | done | with_reducible rfl)
    try simp only [Act.put, List.setIfInBounds_toArray, List.set_cons_zero, List.set_cons_succ]
    refine wpAnyH_take (i := 3) (oi := { dst := some 28, op := Go.Op.load 3 (Go.Operand.tmp 27), type := 3, pos := "expand.go:33", after := #[{ on := 2, ground := Go.Ground.data }], guard := none }) (v := ?_) rfl (by kernel_rfl) (by kernel_rfl) (by kernel_rfl) (fun _ _ _ h => h) (Or.inl ⟨by rfl, ?_⟩) (by assumption) ?_
    rotate_left 1
    · (intro w hSw; (try dsimp only at hSw); go_simp; first | done | with_reducible rfl)
    try simp only [Act.put, List.setIfInBounds_toArray, List.set_cons_zero, List.set_cons_succ]
    refine wpAnyH_take (i := 4) (oi := { dst := some 29, op := Go.Op.move (Go.Operand.tmp 0), type := 79, pos := "expand.go:33", after := #[], guard := none }) (v := ?_) rfl (by kernel_rfl) (by kernel_rfl) (by kernel_rfl) (fun _ _ _ h => h) (Or.inl ⟨by rfl, ?_⟩) (by assumption) ?_
    rotate_left 1
    · (intro w hSw; (try dsimp only at hSw); go_simp; first | done | with_reducible rfl)
    try simp only [Act.put, List.setIfInBounds_toArray, List.set_cons_zero, List.set_cons_succ]
    refine wpAnyH_take (i := 5) (oi := { dst := some 30, op := Go.Op.nilCheck (Go.Operand.tmp 29), type := 0, pos := "expand.go:33", after := #[{ on := 4, ground := Go.Ground.data }], guard := none }) (v := ?_) rfl (by kernel_rfl) (by kernel_rfl) (by kernel_rfl) (fun _ _ _ h => h) (Or.inl ⟨by rfl, ?_⟩) (by assumption) ?_
    rotate_left 1
    · (intro w hSw; (try dsimp only at hSw); go_simp; first | done | with_reducible rfl)
    try simp only [Act.put, List.setIfInBounds_toArray, List.set_cons_zero, List.set_cons_succ]
    refine wpAnyH_take (i := 6) (oi := { dst := some 31, op := Go.Op.fieldAddr 27 (Go.Operand.tmp 30) 1, type := 0, pos := "expand.go:33", after := #[{ on := 5, ground := Go.Ground.data }], guard := none }) (v := ?_) rfl (by kernel_rfl) (by kernel_rfl) (by kernel_rfl) (fun _ _ _ h => h) (Or.inl ⟨by rfl, ?_⟩) (by assumption) ?_
    rotate_left 1
    · (intro w hSw; (try dsimp only at hSw); go_simp; first | done | with_reducible rfl)
    try simp only [Act.put, List.setIfInBounds_toArray, List.set_cons_zero, List.set_cons_succ]
    refine wpAnyH_take (i := 7) (oi := { dst := some 32, op := Go.Op.load 24 (Go.Operand.tmp 31), type := 24, pos := "expand.go:33", after := #[{ on := 6, ground := Go.Ground.data }], guard := none }) (v := ?_) rfl (by kernel_rfl) (by kernel_rfl) (by kernel_rfl) (fun _ _ _ h => h) (Or.inl ⟨by rfl, ?_⟩) (by assumption) ?_
    rotate_left 1
    · (intro w hSw; (try dsimp only at hSw); go_simp; first | done | with_reducible rfl)
    try simp only [Act.put, List.setIfInBounds_toArray, List.set_cons_zero, List.set_cons_succ]
    refine wpAnyH_take (i := 8) (oi := { dst := some 33, op := Go.Op.build 27 #[(0, Go.Operand.tmp 28), (1, Go.Operand.tmp 32)], type := 27, pos := "expand.go:33", after := #[{ on := 3, ground := Go.Ground.data }, { on := 7, ground := Go.Ground.data }], guard := none }) (v := ?_) rfl (by kernel_rfl) (by kernel_rfl) (by kernel_rfl) (fun _ _ _ h => h) (Or.inl ⟨by rfl, ?_⟩) (by assumption) ?_
    rotate_left 1
    · (intro w hSw; (try dsimp only at hSw); go_simp; first | done | with_reducible rfl)
    try simp only [Act.put, List.setIfInBounds_toArray, List.set_cons_zero, List.set_cons_succ]
    refine wpAnyH_ready (rs := [9]) (by kernel_rfl) (by simp) ?_
    refine (AllReadyH.cons (o := { dst := some 3, op := Go.Op.alloc 27, type := 0, pos := "expand.go:33", after := #[], guard := none }) rfl (fun K hK => ?_) AllReadyH.nil)
    have A3 := At.new W0.drew nzeros 27
    rw [show W0.drew.heap.size = w.heap.size + 1 from HS0.out] at A3
    have KB := Lib.hid (((Keep.refl (fun _ => False) W0).drew).alloc (.cells nzeros 27))
    have P3 := Lib.hid (show At (putNd (W0.drew.alloc (.cells nzeros 27)) (w.heap.size + 1) 0 (.nd t.kind t.set 0 0 []) none 0) (w.heap.size + 1) 27 (ncells (.nd t.kind t.set 0 0 []) none 0) from set8 A3 (.int .i64 t.kind) (.int .u64 t.set.x0) (.int .u64 t.set.x1) (.int .u64 t.set.x2) (.int .u64 t.set.x3) (.int .i64 0) (.int .i64 0) (.slice none 0 0))
    have Q3 := Lib.hid (putNd_keep (W0.drew.alloc (.cells nzeros 27)) (w.heap.size + 1) 0 (.nd t.kind t.set 0 0 []) none 0)
    obtain ⟨⟨d0, d1, d2, d3, d4, d5, d6, d7⟩, f0, f1, f2, f3, f4, f5, f6, f7⟩ := cells8 A3
    have hlt3 := A3.lt
    have hs0 := HS0.out
    clear A3
    go_simp
    refine hK.out _ (W0.drew.alloc (.cells nzeros 27)) ?_ (fun hHeld' => ?_)
    · exact HSq.out _ (KB.out.mono (fun _ h => h.elim))
    clear hK K hHeld
    have hHeld := hHeld'
    clear hHeld'
    generalize (W0.drew.alloc (.cells nzeros 27)) = WA at *
    try simp only [Act.put, List.setIfInBounds_toArray, List.set_cons_zero, List.set_cons_succ]
    refine wpAnyH_ready (rs := [10]) (by kernel_rfl) (by simp) ?_
    refine (AllReadyH.cons (o := { dst := none, op := Go.Op.store 27 (Go.Operand.tmp 3) (Go.Operand.tmp 33), type := 0, pos := "expand.go:33", after := #[{ on := 9, ground := Go.Ground.data }, { on := 8, ground := Go.Ground.data }, { on := 0, ground := Go.Ground.phase }, { on := 1, ground := Go.Ground.phase }, { on := 2, ground := Go.Ground.phase }, { on := 3, ground := Go.Ground.phase }, { on := 4, ground := Go.Ground.phase }, { on := 5, ground := Go.Ground.phase }, { on := 6, ground := Go.Ground.phase }, { on := 7, ground := Go.Ground.phase }, { on := 8, ground := Go.Ground.phase }, { on := 9, ground := Go.Ground.phase }], guard := none }) rfl (fun K hK => ?_) AllReadyH.nil)
    have HSP := Lib.hid (HSq.out (putNd WA (w.heap.size + 1) 0 (.nd t.kind t.set 0 0 []) none 0) ((KB.out.mono (fun _ h => h.elim)).trans (Q3.out.mono (fun b hb => .inr hb))))
    go_simp
    refine hK.out _ (putNd WA (w.heap.size + 1) 0 (.nd t.kind t.set 0 0 []) none 0) ?_ (fun hHeld' => ?_)
    · exact HSP.out
    clear hK K hHeld
    have hHeld := hHeld'
    clear hHeld'
    generalize (putNd WA (w.heap.size + 1) 0 (.nd t.kind t.set 0 0 []) none 0) = W9 at *
    try simp only [Act.put, List.setIfInBounds_toArray, List.set_cons_zero, List.set_cons_succ]
    refine wpAnyH_done (by kernel_rfl) ?_ _
    refine NoPanic.normal ?_
    rotate_left 1
    have hs9 := HS0.out
    have I0 := Lib.hid (show Wl w t.kind t.set [] none 0 W9 from ⟨HR.out.next (KB.out.next Q3.out (fun i hi hl => by have hi : i = w.heap.size + 1 := hi; omega)), P3.out, NZ.nil _ _⟩)
    have c7 := (HNP.out.keepF (KB.out.next Q3.out (fun i hi hl => by have hi : i = w.heap.size + 1 := hi; omega))).eight.2.2.2.2.2.2.2
    clear hs9 hs0 d0 d1 d2 d3 d4 d5 d6 d7 f0 f1 f2 f3 f4 f5 f6 f7 hlt3 hHeld HSP HSq
    go_wp2_with fail
    go_loopg [39] t.subs.length (fun gg i wr => ∃ (j : Nat) (L : List T) (ga : Option Addr) (gc : Nat), i = .int .i64 j ∧ j + gg = t.subs.length ∧ L = (t.subs.take j).map plT ∧ Wl w t.kind t.set L ga gc wr)
    case atStart => exact ⟨0, [], none, 0, rfl, by omega, rfl, I0.out⟩
    case round =>
      obtain ⟨j, L, ga, gc, rfl, hj, hLe, I⟩ := hrel
      have j0 : (0 : Int) ≤ j := by omega
      by_cases hlt : j < t.subs.length
      · have hlt' : (j : Int) < t.subs.length := by omega
        obtain ⟨u, hu⟩ : ∃ u, t.subs[j]? = some u := ⟨t.subs[j], List.getElem?_eq_getElem hlt⟩
        obtain ⟨bl2, off2, a2, c2, ea, -, hb2, hle2, L2, C2⟩ := HL.out.get hu
        subst ea
        have hmem := List.mem_of_getElem? hu
        have HU := Lib.hid (fun (W : World) (q : Keep (fun _ => False) w W) => HI.out.2.2 u hmem d (sub_right HI.out.1.subs u hmem) (by have h1 := cntL_le hu; have h2 := cnt_eq t; have h3 := HI.out.2.1; omega) bl2 (off2 + j * 8) a2 c2 W ((NodeP.mk hb2 C2).keepF q) (L2.keepF q) hle2)
        have hLl : L.length = j := by rw [hLe, List.length_map, List.length_take]; omega
        have HJ := Lib.hid (show L.length ≤ 400000 by omega)
        have HLe := Lib.hid (show L ++ [plT u] = (t.subs.take (j + 1)).map plT by rw [List.take_add_one, hu, List.map_append, hLe]; rfl)
        have II := Lib.hid I
        have HSr := Lib.hid (fun (W' : World) (q : Keep (fun b => b = w.heap.size + 1 ∨ w.heap.size + 2 ≤ b) wr W') => (show W'.cell? ⟨bl, o + 7, none⟩ = some (.slice (some ⟨bl2, off2, none⟩) t.subs.length c) from ((hP'.out.keepF I.rb.keep).keep q (fun h => by have h : bl = w.heap.size + 1 ∨ w.heap.size + 2 ≤ bl := h; omega)).eight.2.2.2.2.2.2.2))
        clear hLe I L2 C2 hle2 hb2 hmem hu hLl
        go_upto_region 7 with fail
        clear c7
        have l1 : wr.cell? ⟨w.heap.size + 1, 7, none⟩ = some (.slice ga L.length gc) := II.out.at_.cell (o := 7) rfl
        refine wp_region_noPanic ?_
        refine wp_region_held_drew (S := (fun W => W.cell? ⟨bl, o + 7, none⟩ = some (.slice (some ⟨bl2, off2, none⟩) t.subs.length c))) (by kernel_rfl) ?_ (fun hHeld => ?_)
        · exact HSr.out _ (((Keep.refl (fun _ => False) wr).drew).mono (fun _ h => h.elim))
        refine wpAnyH_take (i := 0) (oi := { dst := some 42, op := Go.Op.fieldAddr 27 (Go.Operand.tmp 3) 4, type := 0, pos := "expand.go:35", after := #[], guard := none }) (v := ?_) rfl (by kernel_rfl) (by kernel_rfl) (by kernel_rfl) (fun _ _ _ h => h) (Or.inl ⟨by rfl, ?_⟩) (by assumption) ?_
        rotate_left 1
        · (intro w hSw; (try dsimp only at hSw); go_simp; first | done | with_reducible rfl)
        try simp only [Act.put, List.setIfInBounds_toArray, List.set_cons_zero, List.set_cons_succ]
        refine wpAnyH_take (i := 2) (oi := { dst := some 44, op := Go.Op.move (Go.Operand.tmp 0), type := 79, pos := "expand.go:35", after := #[], guard := none }) (v := ?_) rfl (by kernel_rfl) (by kernel_rfl) (by kernel_rfl) (fun _ _ _ h => h) (Or.inl ⟨by rfl, ?_⟩) (by assumption) ?_
        rotate_left 1
        · (intro w hSw; (try dsimp only at hSw); go_simp; first | done | with_reducible rfl)
        try simp only [Act.put, List.setIfInBounds_toArray, List.set_cons_zero, List.set_cons_succ]
        refine wpAnyH_take (i := 3) (oi := { dst := some 45, op := Go.Op.nilCheck (Go.Operand.tmp 44), type := 0, pos := "expand.go:35", after := #[{ on := 2, ground := Go.Ground.data }], guard := none }) (v := ?_) rfl (by kernel_rfl) (by kernel_rfl) (by kernel_rfl) (fun _ _ _ h => h) (Or.inl ⟨by rfl, ?_⟩) (by assumption) ?_
        rotate_left 1
        · (intro w hSw; (try dsimp only at hSw); go_simp; first | done | with_reducible rfl)
        try simp only [Act.put, List.setIfInBounds_toArray, List.set_cons_zero, List.set_cons_succ]
        refine wpAnyH_take (i := 4) (oi := { dst := some 46, op := Go.Op.fieldAddr 27 (Go.Operand.tmp 45) 4, type := 0, pos := "expand.go:35", after := #[{ on := 3, ground := Go.Ground.data }], guard := none }) (v := ?_) rfl (by kernel_rfl) (by kernel_rfl) (by kernel_rfl) (fun _ _ _ h => h) (Or.inl ⟨by rfl, ?_⟩) (by assumption) ?_
        rotate_left 1
        · (intro w hSw; (try dsimp only at hSw); go_simp; first | done | with_reducible rfl)
        try simp only [Act.put, List.setIfInBounds_toArray, List.set_cons_zero, List.set_cons_succ]
        refine wpAnyH_take (i := 5) (oi := { dst := some 47, op := Go.Op.load 25 (Go.Operand.tmp 46), type := 25, pos := "expand.go:35", after := #[{ on := 4, ground := Go.Ground.data }], guard := none }) (v := ?_) rfl (by kernel_rfl) (by kernel_rfl) (by kernel_rfl) (fun _ _ _ h => h) (Or.inl ⟨by rfl, ?_⟩) (by assumption) ?_
        rotate_left 1
        · (intro w hSw; (try dsimp only at hSw); go_simp; first | done | with_reducible rfl)
        try simp only [Act.put, List.setIfInBounds_toArray, List.set_cons_zero, List.set_cons_succ]
        refine wpAnyH_take (i := 6) (oi := { dst := some 48, op := Go.Op.move (Go.Operand.tmp 4), type := 3, pos := "expand.go:35", after := #[], guard := none }) (v := ?_) rfl (by kernel_rfl) (by kernel_rfl) (by kernel_rfl) (fun _ _ _ h => h) (Or.inl ⟨by rfl, ?_⟩) (by assumption) ?_
        rotate_left 1
        · (intro w hSw; (try dsimp only at hSw); go_simp; first | done | with_reducible rfl)
        try simp only [Act.put, List.setIfInBounds_toArray, List.set_cons_zero, List.set_cons_succ]
        refine wpAnyH_take (i := 7) (oi := { dst := some 49, op := Go.Op.indexAddr 25 (Go.Operand.tmp 47) (Go.Operand.tmp 48), type := 0, pos := "expand.go:35", after := #[{ on := 5, ground := Go.Ground.data }, { on := 6, ground := Go.Ground.data }], guard := none }) (v := ?_) rfl (by kernel_rfl) (by kernel_rfl) (by kernel_rfl) (fun _ _ _ h => h) (Or.inl ⟨by rfl, ?_⟩) (by assumption) ?_
        rotate_left 1
        · (intro w hSw; (try dsimp only at hSw); go_simp; first | done | with_reducible rfl)
        try simp only [Act.put, List.setIfInBounds_toArray, List.set_cons_zero, List.set_cons_succ]
        refine wpAnyH_ready (rs := [1, 8]) (by kernel_rfl) (by simp) ?_
        refine (AllReadyH.cons (o := { dst := some 43, op := Go.Op.load 25 (Go.Operand.tmp 42), type := 25, pos := "expand.go:35", after := #[{ on := 0, ground := Go.Ground.data }], guard := none }) rfl (fun K hK => ?_) (AllReadyH.cons (o := { dst := some 50, op := Go.Op.call { callee := Go.Callee.value (Go.Operand.func 55), args := #[Go.Operand.tmp 49], argTypes := #[79] }, type := 27, pos := "expand.go:35", after := #[{ on := 7, ground := Go.Ground.data }], guard := none }) rfl (fun K hK => ?_) AllReadyH.nil))
        go_simp
        refine hK.out _ _ ?_ (fun hHeld' => ?_)
        · first | exact HSr.out _ (((Keep.refl (fun _ => False) wr).drew).mono (fun _ h => h.elim)) | exact HSr.out _ ((((Keep.refl (fun _ => False) wr).drew).trans HC.out.2.2).mono (fun _ h => h.elim)) | exact HSr.out _ (KB.out.mono (fun _ h => h.elim))
        clear hK K hHeld
        have hHeld := hHeld'
        clear hHeld'
        try simp only [Act.put, List.setIfInBounds_toArray, List.set_cons_zero, List.set_cons_succ]
        refine wpAnyH_ready (rs := [8]) (by kernel_rfl) (by simp) ?_
        refine (AllReadyH.cons (o := { dst := some 50, op := Go.Op.call { callee := Go.Callee.value (Go.Operand.func 55), args := #[Go.Operand.tmp 49], argTypes := #[79] }, type := 27, pos := "expand.go:35", after := #[{ on := 7, ground := Go.Ground.data }], guard := none }) rfl (fun K hK => ?_) AllReadyH.nil)
        go_simp
        (go_at_call 55; refine (HU.out _ (II.out.rb.keep.trans ((Keep.refl (fun _ => False) wr).drew))).mono ?_; rintro e w2 ⟨⟨xa, xc, rfl, hxc, hxl⟩, q2⟩)
        have HC := Lib.hid (And.intro hxc (And.intro hxl q2))
        clear hxc hxl q2
        have l2 : w2.cell? ⟨w.heap.size + 1, 7, none⟩ = some (.slice ga L.length gc) := ((II.out.at_.keep (((Keep.refl (fun _ => False) wr).drew).trans HC.out.2.2) (fun h => h))).cell (o := 7) rfl
        refine hK.out _ _ ?_ (fun hHeld' => ?_)
        · exact HSr.out _ ((((Keep.refl (fun _ => False) wr).drew).trans HC.out.2.2).mono (fun _ h => h.elim))
        clear hK K hHeld
        have hHeld := hHeld'
        clear hHeld'
        try simp only [Act.put, List.setIfInBounds_toArray, List.set_cons_zero, List.set_cons_succ]
        refine wpAnyH_ready (rs := [9]) (by kernel_rfl) (by simp) ?_
        refine (AllReadyH.cons (o := { dst := some 51, op := Go.Op.buildSlice 25 1 #[(0, Go.Operand.tmp 50)], type := 25, pos := "expand.go:35", after := #[{ on := 8, ground := Go.Ground.data }], guard := none }) rfl (fun K hK => ?_) AllReadyH.nil)
        obtain ⟨v', w4, hrun, g1, g2, g3⟩ := II.out.push (((Keep.refl (fun _ => False) wr).drew).trans HC.out.2.2) (plT u) xa xc HC.out.1 (HC.out.2.1.mono fun k hk => ⟨hk.1, hk.2⟩) HJ.out 25
        have KB := Lib.hid ((((Keep.refl (fun _ => False) wr).drew).trans HC.out.2.2).alloc (.cells (ncells (plT u) xa xc) 27))
        have HG := Lib.hid (And.intro g1 (And.intro g2 g3))
        clear g1 g2 g3
        have l3 : (w2.alloc (.cells (ncells (plT u) xa xc) 27)).cell? ⟨w.heap.size + 1, 7, none⟩ = some (.slice ga L.length gc) := (II.out.at_.keep KB.out (fun h => h)).cell (o := 7) rfl
        go_simp
        refine hK.out _ (w2.alloc (.cells (ncells (plT u) xa xc) 27)) ?_ (fun hHeld' => ?_)
        · exact HSr.out _ (KB.out.mono (fun _ h => h.elim))
        clear hK K hHeld
        have hHeld := hHeld'
        clear hHeld'
        generalize (w2.alloc (.cells (ncells (plT u) xa xc) 27)) = wB at *
        try simp only [Act.put, List.setIfInBounds_toArray, List.set_cons_zero, List.set_cons_succ]
        refine wpAnyH_ready (rs := [10]) (by kernel_rfl) (by simp) ?_
        refine (AllReadyH.cons (o := { dst := some 52, op := Go.Op.call { callee := Go.Callee.builtin Go.Builtin.append, args := #[Go.Operand.tmp 43, Go.Operand.tmp 51], argTypes := #[25, 25] }, type := 25, pos := "expand.go:35", after := #[{ on := 1, ground := Go.Ground.data }, { on := 9, ground := Go.Ground.data }, { on := 8, ground := Go.Ground.chain }], guard := none }) rfl (fun K hK => ?_) AllReadyH.nil)
        obtain ⟨⟨d0, d1, d2, d3, d4, d5, d6, d7⟩, f0, f1, f2, f3, f4, f5, f6, f7⟩ := cells8 HG.out.1
        have hlt4 := HG.out.1.lt
        obtain ⟨a', c', rfl, HW9⟩ := HG.out.2.2
        have HN := Lib.hid HW9
        clear HW9
        refine step_append_at _ (by kernel_rfl) (.tmp 43) (.tmp 51) 25 25 rfl _ _ rfl rfl _ _ hrun ?_
        refine hK.out _ _ ?_ (fun hHeld' => ?_)
        · exact HSr.out _ HG.out.2.1
        clear hK K hHeld
        have hHeld := hHeld'
        clear hHeld'
        try simp only [Act.put, List.setIfInBounds_toArray, List.set_cons_zero, List.set_cons_succ]
        refine wpAnyH_take (i := 11) (oi := { dst := some 53, op := Go.Op.fieldAddr 27 (Go.Operand.tmp 3) 4, type := 0, pos := "expand.go:35", after := #[{ on := 0, ground := Go.Ground.phase }, { on := 1, ground := Go.Ground.phase }, { on := 2, ground := Go.Ground.phase }, { on := 3, ground := Go.Ground.phase }, { on := 4, ground := Go.Ground.phase }, { on := 5, ground := Go.Ground.phase }, { on := 6, ground := Go.Ground.phase }, { on := 7, ground := Go.Ground.phase }, { on := 8, ground := Go.Ground.phase }, { on := 9, ground := Go.Ground.phase }, { on := 10, ground := Go.Ground.phase }], guard := none }) (v := ?_) rfl (by kernel_rfl) (by kernel_rfl) (by kernel_rfl) (fun _ _ _ h => h) (Or.inl ⟨by rfl, ?_⟩) (by assumption) ?_
        rotate_left 1
        · (intro w hSw; (try dsimp only at hSw); go_simp; first | done | with_reducible rfl)
        try simp only [Act.put, List.setIfInBounds_toArray, List.set_cons_zero, List.set_cons_succ]
        refine wpAnyH_ready (rs := [12]) (by kernel_rfl) (by simp) ?_
        refine (AllReadyH.cons (o := { dst := none, op := Go.Op.store 25 (Go.Operand.tmp 53) (Go.Operand.tmp 52), type := 0, pos := "expand.go:35", after := #[{ on := 11, ground := Go.Ground.data }, { on := 10, ground := Go.Ground.data }, { on := 10, ground := Go.Ground.chain }, { on := 0, ground := Go.Ground.phase }, { on := 1, ground := Go.Ground.phase }, { on := 2, ground := Go.Ground.phase }, { on := 3, ground := Go.Ground.phase }, { on := 4, ground := Go.Ground.phase }, { on := 5, ground := Go.Ground.phase }, { on := 6, ground := Go.Ground.phase }, { on := 7, ground := Go.Ground.phase }, { on := 8, ground := Go.Ground.phase }, { on := 9, ground := Go.Ground.phase }, { on := 10, ground := Go.Ground.phase }], guard := none }) rfl (fun K hK => ?_) AllReadyH.nil)
        go_simp
        refine hK.out _ (w4.setCell ⟨w.heap.size + 1, 7, none⟩ (.slice a' (L.length + 1) c')) ?_ (fun hHeld' => ?_)
        · exact HSr.out _ (HG.out.2.1.setCell (p := ⟨w.heap.size + 1, 7, none⟩) (fun _ => .inl rfl) (.slice a' (L.length + 1) c'))
        clear hK K hHeld
        have hHeld := hHeld'
        clear hHeld'
        generalize (w4.setCell ⟨w.heap.size + 1, 7, none⟩ (.slice a' (L.length + 1) c')) = W9 at *
        try simp only [Act.put, List.setIfInBounds_toArray, List.set_cons_zero, List.set_cons_succ]
        refine wpAnyH_done (by kernel_rfl) ?_ _
        refine NoPanic.normal ?_
        rotate_left 1
        go_simp
        (go_at_call 55; refine (HU.out _ (II.out.rb.keep.trans ((Keep.refl (fun _ => False) wr).drew))).mono ?_; rintro e w2 ⟨⟨xa, xc, rfl, hxc, hxl⟩, q2⟩)
        have HC := Lib.hid (And.intro hxc (And.intro hxl q2))
        clear hxc hxl q2
        have l2 : w2.cell? ⟨w.heap.size + 1, 7, none⟩ = some (.slice ga L.length gc) := ((II.out.at_.keep (((Keep.refl (fun _ => False) wr).drew).trans HC.out.2.2) (fun h => h))).cell (o := 7) rfl
        refine hK.out _ _ ?_ (fun hHeld' => ?_)
        · exact HSr.out _ ((((Keep.refl (fun _ => False) wr).drew).trans HC.out.2.2).mono (fun _ h => h.elim))
        clear hK K hHeld
        have hHeld := hHeld'
        clear hHeld'
        try simp only [Act.put, List.setIfInBounds_toArray, List.set_cons_zero, List.set_cons_succ]
        refine wpAnyH_ready (rs := [1, 9]) (by kernel_rfl) (by simp) ?_
        refine (AllReadyH.cons (o := { dst := some 43, op := Go.Op.load 25 (Go.Operand.tmp 42), type := 25, pos := "expand.go:35", after := #[{ on := 0, ground := Go.Ground.data }], guard := none }) rfl (fun K hK => ?_) (AllReadyH.cons (o := { dst := some 51, op := Go.Op.buildSlice 25 1 #[(0, Go.Operand.tmp 50)], type := 25, pos := "expand.go:35", after := #[{ on := 8, ground := Go.Ground.data }], guard := none }) rfl (fun K hK => ?_) AllReadyH.nil))
        go_simp
        refine hK.out _ _ ?_ (fun hHeld' => ?_)
        · first | exact HSr.out _ (((Keep.refl (fun _ => False) wr).drew).mono (fun _ h => h.elim)) | exact HSr.out _ ((((Keep.refl (fun _ => False) wr).drew).trans HC.out.2.2).mono (fun _ h => h.elim)) | exact HSr.out _ (KB.out.mono (fun _ h => h.elim))
        clear hK K hHeld
        have hHeld := hHeld'
        clear hHeld'
        try simp only [Act.put, List.setIfInBounds_toArray, List.set_cons_zero, List.set_cons_succ]
        refine wpAnyH_ready (rs := [9]) (by kernel_rfl) (by simp) ?_
        refine (AllReadyH.cons (o := { dst := some 51, op := Go.Op.buildSlice 25 1 #[(0, Go.Operand.tmp 50)], type := 25, pos := "expand.go:35", after := #[{ on := 8, ground := Go.Ground.data }], guard := none }) rfl (fun K hK => ?_) AllReadyH.nil)
        obtain ⟨v', w4, hrun, g1, g2, g3⟩ := II.out.push (((Keep.refl (fun _ => False) wr).drew).trans HC.out.2.2) (plT u) xa xc HC.out.1 (HC.out.2.1.mono fun k hk => ⟨hk.1, hk.2⟩) HJ.out 25
        have KB := Lib.hid ((((Keep.refl (fun _ => False) wr).drew).trans HC.out.2.2).alloc (.cells (ncells (plT u) xa xc) 27))
        have HG := Lib.hid (And.intro g1 (And.intro g2 g3))
        clear g1 g2 g3
        have l3 : (w2.alloc (.cells (ncells (plT u) xa xc) 27)).cell? ⟨w.heap.size + 1, 7, none⟩ = some (.slice ga L.length gc) := (II.out.at_.keep KB.out (fun h => h)).cell (o := 7) rfl
        go_simp
        refine hK.out _ (w2.alloc (.cells (ncells (plT u) xa xc) 27)) ?_ (fun hHeld' => ?_)
        · exact HSr.out _ (KB.out.mono (fun _ h => h.elim))
        clear hK K hHeld
        have hHeld := hHeld'
        clear hHeld'
        generalize (w2.alloc (.cells (ncells (plT u) xa xc) 27)) = wB at *
        try simp only [Act.put, List.setIfInBounds_toArray, List.set_cons_zero, List.set_cons_succ]
        refine wpAnyH_ready (rs := [10]) (by kernel_rfl) (by simp) ?_
        refine (AllReadyH.cons (o := { dst := some 52, op := Go.Op.call { callee := Go.Callee.builtin Go.Builtin.append, args := #[Go.Operand.tmp 43, Go.Operand.tmp 51], argTypes := #[25, 25] }, type := 25, pos := "expand.go:35", after := #[{ on := 1, ground := Go.Ground.data }, { on := 9, ground := Go.Ground.data }, { on := 8, ground := Go.Ground.chain }], guard := none }) rfl (fun K hK => ?_) AllReadyH.nil)
        obtain ⟨⟨d0, d1, d2, d3, d4, d5, d6, d7⟩, f0, f1, f2, f3, f4, f5, f6, f7⟩ := cells8 HG.out.1
        have hlt4 := HG.out.1.lt
        obtain ⟨a', c', rfl, HW9⟩ := HG.out.2.2
        have HN := Lib.hid HW9
        clear HW9
        refine step_append_at _ (by kernel_rfl) (.tmp 43) (.tmp 51) 25 25 rfl _ _ rfl rfl _ _ hrun ?_
        refine hK.out _ _ ?_ (fun hHeld' => ?_)
        · exact HSr.out _ HG.out.2.1
        clear hK K hHeld
        have hHeld := hHeld'
        clear hHeld'
        try simp only [Act.put, List.setIfInBounds_toArray, List.set_cons_zero, List.set_cons_succ]
        refine wpAnyH_take (i := 11) (oi := { dst := some 53, op := Go.Op.fieldAddr 27 (Go.Operand.tmp 3) 4, type := 0, pos := "expand.go:35", after := #[{ on := 0, ground := Go.Ground.phase }, { on := 1, ground := Go.Ground.phase }, { on := 2, ground := Go.Ground.phase }, { on := 3, ground := Go.Ground.phase }, { on := 4, ground := Go.Ground.phase }, { on := 5, ground := Go.Ground.phase }, { on := 6, ground := Go.Ground.phase }, { on := 7, ground := Go.Ground.phase }, { on := 8, ground := Go.Ground.phase }, { on := 9, ground := Go.Ground.phase }, { on := 10, ground := Go.Ground.phase }], guard := none }) (v := ?_) rfl (by kernel_rfl) (by kernel_rfl) (by kernel_rfl) (fun _ _ _ h => h) (Or.inl ⟨by rfl, ?_⟩) (by assumption) ?_
        rotate_left 1
        · (intro w hSw; (try dsimp only at hSw); go_simp; first | done | with_reducible rfl)
        try simp only [Act.put, List.setIfInBounds_toArray, List.set_cons_zero, List.set_cons_succ]
        refine wpAnyH_ready (rs := [12]) (by kernel_rfl) (by simp) ?_
        refine (AllReadyH.cons (o := { dst := none, op := Go.Op.store 25 (Go.Operand.tmp 53) (Go.Operand.tmp 52), type := 0, pos := "expand.go:35", after := #[{ on := 11, ground := Go.Ground.data }, { on := 10, ground := Go.Ground.data }, { on := 10, ground := Go.Ground.chain }, { on := 0, ground := Go.Ground.phase }, { on := 1, ground := Go.Ground.phase }, { on := 2, ground := Go.Ground.phase }, { on := 3, ground := Go.Ground.phase }, { on := 4, ground := Go.Ground.phase }, { on := 5, ground := Go.Ground.phase }, { on := 6, ground := Go.Ground.phase }, { on := 7, ground := Go.Ground.phase }, { on := 8, ground := Go.Ground.phase }, { on := 9, ground := Go.Ground.phase }, { on := 10, ground := Go.Ground.phase }], guard := none }) rfl (fun K hK => ?_) AllReadyH.nil)
        go_simp
        refine hK.out _ (w4.setCell ⟨w.heap.size + 1, 7, none⟩ (.slice a' (L.length + 1) c')) ?_ (fun hHeld' => ?_)
        · exact HSr.out _ (HG.out.2.1.setCell (p := ⟨w.heap.size + 1, 7, none⟩) (fun _ => .inl rfl) (.slice a' (L.length + 1) c'))
        clear hK K hHeld
        have hHeld := hHeld'
        clear hHeld'
        generalize (w4.setCell ⟨w.heap.size + 1, 7, none⟩ (.slice a' (L.length + 1) c')) = W9 at *
        try simp only [Act.put, List.setIfInBounds_toArray, List.set_cons_zero, List.set_cons_succ]
        refine wpAnyH_done (by kernel_rfl) ?_ _
        refine NoPanic.normal ?_
        rotate_left 1
        obtain ⟨v', w4, hrun, g1, g2, g3⟩ := II.out.push (((Keep.refl (fun _ => False) wr).drew).trans HC.out.2.2) (plT u) xa xc HC.out.1 (HC.out.2.1.mono fun k hk => ⟨hk.1, hk.2⟩) HJ.out 25
        have KB := Lib.hid ((((Keep.refl (fun _ => False) wr).drew).trans HC.out.2.2).alloc (.cells (ncells (plT u) xa xc) 27))
        have HG := Lib.hid (And.intro g1 (And.intro g2 g3))
        clear g1 g2 g3
        have l3 : (w2.alloc (.cells (ncells (plT u) xa xc) 27)).cell? ⟨w.heap.size + 1, 7, none⟩ = some (.slice ga L.length gc) := (II.out.at_.keep KB.out (fun h => h)).cell (o := 7) rfl
        go_simp
        refine hK.out _ (w2.alloc (.cells (ncells (plT u) xa xc) 27)) ?_ (fun hHeld' => ?_)
        · exact HSr.out _ (KB.out.mono (fun _ h => h.elim))
        clear hK K hHeld
        have hHeld := hHeld'
        clear hHeld'
        generalize (w2.alloc (.cells (ncells (plT u) xa xc) 27)) = wB at *
        try simp only [Act.put, List.setIfInBounds_toArray, List.set_cons_zero, List.set_cons_succ]
        refine wpAnyH_ready (rs := [1]) (by kernel_rfl) (by simp) ?_
        refine (AllReadyH.cons (o := { dst := some 43, op := Go.Op.load 25 (Go.Operand.tmp 42), type := 25, pos := "expand.go:35", after := #[{ on := 0, ground := Go.Ground.data }], guard := none }) rfl (fun K hK => ?_) AllReadyH.nil)
        go_simp
        refine hK.out _ _ ?_ (fun hHeld' => ?_)
        · first | exact HSr.out _ (((Keep.refl (fun _ => False) wr).drew).mono (fun _ h => h.elim)) | exact HSr.out _ ((((Keep.refl (fun _ => False) wr).drew).trans HC.out.2.2).mono (fun _ h => h.elim)) | exact HSr.out _ (KB.out.mono (fun _ h => h.elim))
        clear hK K hHeld
        have hHeld := hHeld'
        clear hHeld'
        try simp only [Act.put, List.setIfInBounds_toArray, List.set_cons_zero, List.set_cons_succ]
        refine wpAnyH_ready (rs := [10]) (by kernel_rfl) (by simp) ?_
        refine (AllReadyH.cons (o := { dst := some 52, op := Go.Op.call { callee := Go.Callee.builtin Go.Builtin.append, args := #[Go.Operand.tmp 43, Go.Operand.tmp 51], argTypes := #[25, 25] }, type := 25, pos := "expand.go:35", after := #[{ on := 1, ground := Go.Ground.data }, { on := 9, ground := Go.Ground.data }, { on := 8, ground := Go.Ground.chain }], guard := none }) rfl (fun K hK => ?_) AllReadyH.nil)
        obtain ⟨⟨d0, d1, d2, d3, d4, d5, d6, d7⟩, f0, f1, f2, f3, f4, f5, f6, f7⟩ := cells8 HG.out.1
        have hlt4 := HG.out.1.lt
        obtain ⟨a', c', rfl, HW9⟩ := HG.out.2.2
        have HN := Lib.hid HW9
        clear HW9
        refine step_append_at _ (by kernel_rfl) (.tmp 43) (.tmp 51) 25 25 rfl _ _ rfl rfl _ _ hrun ?_
        refine hK.out _ _ ?_ (fun hHeld' => ?_)
        · exact HSr.out _ HG.out.2.1
        clear hK K hHeld
        have hHeld := hHeld'
        clear hHeld'
        try simp only [Act.put, List.setIfInBounds_toArray, List.set_cons_zero, List.set_cons_succ]
        refine wpAnyH_take (i := 11) (oi := { dst := some 53, op := Go.Op.fieldAddr 27 (Go.Operand.tmp 3) 4, type := 0, pos := "expand.go:35", after := #[{ on := 0, ground := Go.Ground.phase }, { on := 1, ground := Go.Ground.phase }, { on := 2, ground := Go.Ground.phase }, { on := 3, ground := Go.Ground.phase }, { on := 4, ground := Go.Ground.phase }, { on := 5, ground := Go.Ground.phase }, { on := 6, ground := Go.Ground.phase }, { on := 7, ground := Go.Ground.phase }, { on := 8, ground := Go.Ground.phase }, { on := 9, ground := Go.Ground.phase }, { on := 10, ground := Go.Ground.phase }], guard := none }) (v := ?_) rfl (by kernel_rfl) (by kernel_rfl) (by kernel_rfl) (fun _ _ _ h => h) (Or.inl ⟨by rfl, ?_⟩) (by assumption) ?_
        rotate_left 1
        · (intro w hSw; (try dsimp only at hSw); go_simp; first | done | with_reducible rfl)
        try simp only [Act.put, List.setIfInBounds_toArray, List.set_cons_zero, List.set_cons_succ]
        refine wpAnyH_ready (rs := [12]) (by kernel_rfl) (by simp) ?_
        refine (AllReadyH.cons (o := { dst := none, op := Go.Op.store 25 (Go.Operand.tmp 53) (Go.Operand.tmp 52), type := 0, pos := "expand.go:35", after := #[{ on := 11, ground := Go.Ground.data }, { on := 10, ground := Go.Ground.data }, { on := 10, ground := Go.Ground.chain }, { on := 0, ground := Go.Ground.phase }, { on := 1, ground := Go.Ground.phase }, { on := 2, ground := Go.Ground.phase }, { on := 3, ground := Go.Ground.phase }, { on := 4, ground := Go.Ground.phase }, { on := 5, ground := Go.Ground.phase }, { on := 6, ground := Go.Ground.phase }, { on := 7, ground := Go.Ground.phase }, { on := 8, ground := Go.Ground.phase }, { on := 9, ground := Go.Ground.phase }, { on := 10, ground := Go.Ground.phase }], guard := none }) rfl (fun K hK => ?_) AllReadyH.nil)
        go_simp
        refine hK.out _ (w4.setCell ⟨w.heap.size + 1, 7, none⟩ (.slice a' (L.length + 1) c')) ?_ (fun hHeld' => ?_)
        · exact HSr.out _ (HG.out.2.1.setCell (p := ⟨w.heap.size + 1, 7, none⟩) (fun _ => .inl rfl) (.slice a' (L.length + 1) c'))
        clear hK K hHeld
        have hHeld := hHeld'
        clear hHeld'
        generalize (w4.setCell ⟨w.heap.size + 1, 7, none⟩ (.slice a' (L.length + 1) c')) = W9 at *
        try simp only [Act.put, List.setIfInBounds_toArray, List.set_cons_zero, List.set_cons_succ]
        refine wpAnyH_done (by kernel_rfl) ?_ _
        refine NoPanic.normal ?_
        rotate_left 1
        all_goals
          go_wp2_with fail
          go_roundg (t.subs.length - (j + 1))
          case measure => omega
          case rel => exact ⟨j + 1, _, a', c', by go_num, by omega, HLe.out, HN.out⟩
      · have hje : j = t.subs.length := by omega
        rw [hje, List.take_length] at hLe
        have II := Lib.hid I
        have hlt' : ¬ (j : Int) < t.subs.length := by omega
        clear I hje hlt c7
        obtain ⟨Y, hY⟩ : ∃ Y, T.nd t.kind t.set 0 0 L = Y := ⟨_, rfl⟩
        have hA := II.out.at_
        have hYs : Y.subs = L := by rw [← hY]; rfl
        rw [hY] at hA
        have HY := Lib.hid (And.intro (hLe ▸ hY : T.nd t.kind t.set 0 0 (t.subs.map plT) = Y) hYs)
        obtain ⟨ga', gc', er, hrc, hrl⟩ := II.out.row.form
        injection er with er1 er2 er3
        subst er1 er3
        rw [← hYs] at hrc hrl
        have HG := Lib.hid ((rb_gives II.out.rb (n0 := w.heap.size + 2) (t := Y) hrc (hrl.mono fun k hk => ⟨hk, by have := hk.1; omega⟩)).wider (n1 := w.heap.size) (by omega))
        have hP9 := Lib.hid (II.out.rb.put Y ga gc)
        obtain ⟨⟨d0, d1, d2, d3, d4, d5, d6, d7⟩, f0, f1, f2, f3, f4, f5, f6, f7⟩ := cells8 II.out.rb.out
        obtain ⟨⟨x0, x1, x2, x3, x4, x5, x6, x7⟩, -⟩ := cells8 hA
        have hlt3 := II.out.rb.out.lt
        clear hLe hY hYs hA hrc hrl er2
        go_wp2_with fail
        change bodyPost _ _ _ _ _ (putNd wr w.heap.size 0 Y ga gc)
        have hP := hP9.out
        have hG := HG.out
        generalize (putNd wr w.heap.size 0 Y ga gc) = W8 at hP hG ⊢
        obtain ⟨⟨e0, e1, e2, e3, e4, e5, e6, e7⟩, -⟩ := cells8 hP.1
        exact bodyPost_ret (v := nodeV Y ga gc) (by simp [results, Try.results55, go_sem, e0, e1, e2, e3, e4, e5, e6, e7]) rfl (by rw [HY.out.1]; exact hG)
theorem wr_step (t : T) (ih : ∀ u ∈ t.subs, WrOk u) : WrOk t := by
  intro d hR hcnt bl o a c w hP hL _
  by_cases h5 : t.kind = 5
  · obtain ⟨u, mn, mx, e, b0, b1, bx, -⟩ := rep_is hR h5
    subst e
    have hm : u ∈ (T.nd 5 ST.none mn mx [u]).subs := List.mem_singleton.2 rfl
    refine wr_rep d u mn mx (sub_right hR.subs u hm) b0 b1 bx ?_ (ih u hm) bl o a c w hP hL
    rw [cnt, cntL] at hcnt
    omega
  · exact wr_node t d hR hcnt h5 ih bl o a c w hP hL
theorem wr_all : ∀ (n : Nat) (t : T), SizeOf.sizeOf t < n → WrOk t
  | 0, _, h => absurd h (Nat.not_lt_zero _)
  | n + 1, t, h => wr_step t fun u hu => wr_all n u (by have := subs_lt hu; omega)
theorem wr_any (t : T) : WrOk t := wr_all _ t (Nat.lt_succ_self _)
end Go.Proofs.Ythcjfgfbeollpaa.P13
