/- The document's Lengths (layer 9), of right expressions: all but repetitions. -/
import Derived.Test.YthcjfgfbeollpaaKG30
import Derived.Test.YthcjfgfbeollpaaKG33
import Derived.Test.YthcjfgfbeollpaaKG31
namespace Go.Proofs.Ythcjfgfbeollpaa.P09
open Go.RowKit Go.Proofs.Ythcjfgfbeollpaa.Base Go.Proofs.Ythcjfgfbeollpaa.Bytes Go.Proofs.Ythcjfgfbeollpaa.P07 Go.Proofs.Ythcjfgfbeollpaa.P08
open Go.Proofs.Ythcjfgfbeollpaa.Sets (ST)

/-- What Lengths answers. -/
def IsLens (m : Nat) (t : T) (w : World) (e : Ending) (w' : World) : Prop := ∃ g, e = .returned (.slice (some ⟨g, 0, none⟩) (m + 1) (m + 1)) ∧ w.heap.size ≤ g ∧ At w' g 4 (bcells (lens m t)) ∧ Keep (fun _ => False) w w'
def LensOk (t : T) : Prop := ∀ (d : Nat), RT d t → ∀ (m : Nat), m ≤ 12 → ∀ (a : Option Addr) (c : Nat) (w : World), Lie w (fun _ => True) a t.subs → Calls Try.prog 85 #[nodeV t a c, .int .i64 (m : Int)] w (IsLens m t w)
theorem noB_get {m k : Nat} (h : k < m + 1) : (noB m)[k]? = some false := by simp [noB, h]

/-- The blocks of a tree lie in the world. -/
theorem lie_under {w : World} {ok : Nat → Prop} {a : Option Addr} {L : List T} (h : Lie w ok a L) : Lie w (fun k => k < w.heap.size) a L := by
  induction h with
  | nil a => exact .nil a
  | cons bl off L A C hL hb hok hC hc _ ih => exact .cons bl off L A C hL hb hb hC hc ih
/-- A node in the box n, its parts in blocks below it. -/
structure Bz (W : World) (n : Nat) (t : T) (a : Option Addr) (c : Nat) : Prop where
  cell : At W n 27 (ncells t a c)
  lie : Lie W (fun k => k < n) a t.subs
theorem Bz.keep {S : Nat → Prop} {W W' : World} {n : Nat} {t : T} {a : Option Addr} {c : Nat} (h : Bz W n t a c) (q : Keep S W W') (hS : ∀ b, b ≤ n → ¬ S b) : Bz W' n t a c := ⟨h.cell.keep q (hS n (Nat.le_refl n)), h.lie.keep q (fun b hb => hS b (by omega))⟩
theorem Bz.box {W : World} {n : Nat} {t : T} {a : Option Addr} {c : Nat} (h : Bz W n t a c) : Bx W n t a c := ⟨h.cell, h.lie.mono (fun _ _ => trivial)⟩
theorem Bz.new {W : World} {t : T} {a : Option Addr} {c : Nat} (hL : Lie W (fun _ => True) a t.subs) : Bz (W.alloc (.cells (ncells t a c) 27)) W.heap.size t a c :=
  ⟨At.new W _ _, (lie_under hL).keepF ((Keep.refl (fun _ => False) W).alloc _)⟩

set_option maxRecDepth 100000 in
set_option maxHeartbeats 16000000 in
theorem flens_low (n : Nat) (ih : ∀ t : T, SizeOf.sizeOf t < n → LensOk t) (t : T) (h : SizeOf.sizeOf t < n + 1) (hk : ¬ t.kind = 5) : LensOk t := fun d hR m hm a c w hL => by
    have HK := Lib.hid hk
    clear hk
    have hlen := hL.len
    have hmk := make_bools (m + 1) (by omega) (w.alloc (.cells (ncells t a c) 27))
    have c0 := At.new (w.alloc (.cells (ncells t a c) 27)) (bcells (noB m)) 4
    rw [show ((m + 1 : Nat) : Int) = (m : Int) + 1 from by omega, show List.replicate (m + 1) false = noB m from rfl] at hmk
    rw [show (w.alloc (.cells (ncells t a c) 27)).heap.size = w.heap.size + 1 from by simp] at hmk c0
    have qb := (Keep.refl (fun _ => False) (w.alloc (.cells (ncells t a c) 27))).alloc (.cells (bcells (noB m)) 4)
    have H0 := Lib.hid (And.intro (((Keep.refl (fun _ => False) w).alloc (.cells (ncells t a c) 27)).trans qb) (And.intro ((Bz.new (c := c) hL).keep qb (fun _ _ h => h)) (And.intro (ih) c0)))
    have hsub := fun (s : T) (i : Nat) (h : t.subs[i]? = some s) => sub_RT hR h
    have e := lens_eq m t
    obtain ⟨A, hA⟩ : ∃ A, lens m t = A := ⟨_, rfl⟩
    rw [hA] at e
    obtain ⟨n0, hn0⟩ : ∃ n0, w.heap.size = n0 := ⟨_, rfl⟩
    have hIs : IsLens m t w = fun e w' => ∃ g, e = .returned (.slice (some ⟨g, 0, none⟩) (m + 1) (m + 1)) ∧ n0 ≤ g ∧ At w' g 4 (bcells A) ∧ Keep (fun _ => False) w w' := by rw [← hA, ← hn0]; rfl
    rw [hIs]
    have hw : ∀ b, n0 ≤ b → ¬ b < w.heap.size := fun b hb => by omega
    have h5 := fun hk => kind5_one hR hk
    have HE := Lib.hid (And.intro hsub (And.intro h5 hw))
    have HN := Lib.hid h
    have HA := Lib.hid e
    clear hL e hA h hsub h5 hR c0 qb hIs hw
    go_enter Try.func85, Try.ntmps85
    go_upto_region 2 with fail
    clear hmk
    generalize ((w.alloc (.cells (ncells t a c) 27)).alloc (.cells (bcells (noB m)) 4)) = W at *
    rw [hn0] at H0
    try rw [hn0]
    clear hn0
    have R0 := Lib.hid H0.out.2.2.2
    have hm0 : (0 : Int) ≤ m := by omega
    have z0 := R0.out.cell (bcells_get (noB_get (m := m) (k := 0) (by omega)))
    have f0 := R0.out.frozen 0
    obtain ⟨c0, c1, c2, c3, c4, c5, c6, c7⟩ := H0.out.2.1.box.eight
    have hstep : ∀ (s : T) (k : Nat), t.subs[k]? = some s → SizeOf.sizeOf s < n := fun s k hs => by have := sub_less hs; have := HN.out; omega
    have HST := Lib.hid hstep
    clear hstep
    by_cases k1 : t.kind = 1
    · have hA := HA.out
      rw [if_pos k1] at hA
      have b1 : (t.kind == 1) = true := by simp [k1]
      have HF := Lib.hid hA
      clear k1 hA
      go_wp2_with fail
      go_ret
      exact ⟨n0 + 1, rfl, by omega, by rw [HF.out, oneB0, ← bcells_set]; exact R0.out.set 0 (.bool true), H0.out.1.setCell (p := ⟨n0 + 1, 0, none⟩) (fun h => HE.out.2.2 (n0 + 1) (by omega) h) (.bool true)⟩
    have b1 : (t.kind == 1) = false := by simp [k1]
    by_cases k2 : t.kind = 2
    · have hA := HA.out
      rw [if_neg k1, if_pos k2] at hA
      have b2 : (t.kind == 2) = true := by simp [k2]
      obtain ⟨E, hE⟩ : ∃ E, eqB t.set ST.none = E := ⟨_, rfl⟩
      have es : ∀ W, (Op.equalIn 10000 24 (.agg #[.int .u64 (t.set.x0 : Int), .int .u64 (t.set.x1 : Int), .int .u64 (t.set.x2 : Int), .int .u64 (t.set.x3 : Int)]) (.agg #[.int .u64 0, .int .u64 0, .int .u64 0, .int .u64 0])).run Try.prog W = .ok E W := fun W => by
        rw [← hE]
        exact eq_set t.set ST.none W
      rw [hE] at hA
      clear k1 k2 hE
      by_cases h1 : 1 ≤ m
      · have h1' : (1 : Int) ≤ m := by omega
        rw [if_pos h1] at hA
        have HF := Lib.hid hA
        have z1 := R0.out.cell (bcells_get (noB_get (m := m) (k := 1) (by omega)))
        have f1 := R0.out.frozen 1
        clear hA
        cases E
        · go_wp2_with fail
          go_ret
          exact ⟨n0 + 1, rfl, by omega, by rw [HF.out, ← bcells_set]; exact R0.out.set 1 (.bool true), H0.out.1.setCell (p := ⟨n0 + 1, 1, none⟩) (fun h => HE.out.2.2 (n0 + 1) (by omega) h) (.bool true)⟩
        · go_wp2_with fail
          go_ret
          exact ⟨n0 + 1, rfl, by omega, by rw [HF.out, ← bcells_set]; exact R0.out.set 1 (.bool false), H0.out.1.setCell (p := ⟨n0 + 1, 1, none⟩) (fun h => HE.out.2.2 (n0 + 1) (by omega) h) (.bool false)⟩
      · have h1' : ¬ (1 : Int) ≤ m := by omega
        rw [if_neg h1] at hA
        have HF := Lib.hid hA
        clear hA es
        go_wp2_with fail
        go_ret
        exact ⟨n0 + 1, rfl, by omega, by rw [HF.out]; exact R0.out, H0.out.1⟩
    have b2 : (t.kind == 2) = false := by simp [k2]
    by_cases k3 : t.kind = 3
    · have hA := HA.out
      rw [if_neg k1, if_neg k2, if_pos k3] at hA
      have HF := Lib.hid hA
      have b3 : (t.kind == 3) = true := by simp [k3]
      have b4 : (t.kind == 4) = false := by simp [k3]
      have b5 : (t.kind == 5) = false := by simp [k3]
      have hq := (Keep.refl (fun b => b = n0 + 1) W).setCell (p := ⟨n0 + 1, 0, none⟩) (fun _ => rfl) (.bool true)
      have R1 := Lib.hid (show At (W.setCell ⟨n0 + 1, 0, none⟩ (.bool true)) (n0 + 1) 4 (bcells (oneB0 m)) from by rw [oneB0, ← bcells_set]; exact R0.out.set 0 (.bool true))
      have K1 := Lib.hid (show Keep (fun _ => False) w (W.setCell ⟨n0 + 1, 0, none⟩ (.bool true)) from H0.out.1.setCell (p := ⟨n0 + 1, 0, none⟩) (fun h => HE.out.2.2 (n0 + 1) (by omega) h) (.bool true))
      have B1 := Lib.hid (H0.out.2.1.keep hq (fun b hb h => by omega))
      clear k1 k2 k3 hA hq
      go_upto_region 10 with fail
      change Code.wp _ _ _ _ (W.setCell ⟨n0 + 1, 0, none⟩ (.bool true))
      generalize (W.setCell ⟨n0 + 1, 0, none⟩ (.bool true)) = W1 at *
      clear z0 f0 c0 c1 c2 c3 c4 c5 c6 c7
      go_wp2_with fail
      go_loopg [5, 6] t.subs.length (fun gg u5 i wr => ∃ (k g : Nat), i = .int .i64 k ∧ k + gg = t.subs.length ∧ u5 = .slice (some ⟨g, 0, none⟩) (m + 1) (m + 1) ∧ n0 < g ∧ At wr g 4 (bcells (catB m (oneB0 m) (t.subs.take k))) ∧ Keep (fun _ => False) W1 wr)
      case atStart => exact ⟨0, n0 + 1, rfl, by omega, rfl, by omega, by rw [List.take_zero, catB]; exact R1.out, Keep.refl _ _⟩
      case round =>
        obtain ⟨k, g, rfl, hk, rfl, hg, hrow, hq⟩ := hrel
        have B2 := (B1.out.keep hq (fun _ _ h => h)).box
        obtain ⟨-, -, -, -, -, -, -, c7⟩ := B2.eight
        by_cases hlt : k < t.subs.length
        · have hlt' : (k : Int) < t.subs.length := by omega
          have i0 : (0 : Int) ≤ k := by omega
          obtain ⟨s, hs⟩ : ∃ s, t.subs[k]? = some s := ⟨t.subs[k], List.getElem?_eq_getElem hlt⟩
          obtain ⟨bl, off, a1, e1, rfl, L1, d0, d1, d2, d3, d4, d5, d6, d7⟩ := B2.sub hs
          have ht := catB_take (m := m) (acc := oneB0 m) hs
          have hcall := H0.out.2.2.1 s (HST.out s k hs) d (HE.out.1 s k hs) m hm a1 e1 wr L1
          have hl1 : (catB m (oneB0 m) (t.subs.take k)).length = m + 1 := by rw [catB_length, oneB0_length]
          have hl2 := lens_length m s
          have hgn : g < wr.heap.size := hrow.lt
          unfold IsLens at hcall
          have HQ := Lib.hid (And.intro hq (And.intro hcall (And.intro ht (And.intro hrow (And.intro hl1 hl2)))))
          clear hq hcall ht hrow B2 hs hl1 hl2 L1
          go_wp2_with fail
          refine HQ.out.2.1.mono ?_
          rintro e w2 ⟨g2, rfl, hg2, hr2, q2⟩
          have Q2 := Lib.hid (And.intro (HQ.out.1.trans q2) (And.intro (HQ.out.2.2.2.1.keep q2 (fun h => h)) hr2))
          have hw2 : wr.heap.size ≤ w2.heap.size := q2.size
          clear q2 hr2 c7 d0 d1 d2 d3 d4 d5 d6 d7
          go_wp2_with fail
          refine (fjoin_any _ _ (m + 1) HQ.out.2.2.2.2.1 HQ.out.2.2.2.2.2 (by omega) g g2 w2 Q2.out.2.1 Q2.out.2.2).mono ?_
          rintro e w3 ⟨g3, rfl, hg3, hr3, q3⟩
          rw [← HQ.out.2.2.1] at hr3
          have Q3 := Lib.hid (And.intro (Q2.out.1.trans q3) hr3)
          have hg4 : n0 < g3 := by omega
          clear q3 hr3
          go_wp2_with fail
          go_roundg (t.subs.length - (k + 1))
          case measure => omega
          case rel => exact ⟨k + 1, g3, by go_num, by omega, rfl, hg4, Q3.out.2, Q3.out.1⟩
        · have hke : k = t.subs.length := by omega
          subst hke
          rw [List.take_length, ← HF.out] at hrow
          have HQ := Lib.hid (And.intro hq hrow)
          clear hq hrow B2
          go_wp2_with fail
          go_ret
          exact ⟨g, rfl, by omega, HQ.out.2, K1.out.trans HQ.out.1⟩
    have b3 : (t.kind == 3) = false := by simp [k3]
    by_cases k4 : t.kind = 4
    · have hA := HA.out
      rw [if_neg k1, if_neg k2, if_neg k3, if_pos k4] at hA
      have HF := Lib.hid hA
      have b4 : (t.kind == 4) = true := by simp [k4]
      have b5 : (t.kind == 5) = false := by simp [k4]
      clear k1 k2 k3 k4 hA
      go_wp2_with fail
      clear z0 f0 c0 c1 c2 c3 c4 c5 c6 c7
      go_loopg [7, 8, 9] t.subs.length (fun gg i s8 s9 wr => ∃ (k : Nat), i = .int .i64 k ∧ k + gg = t.subs.length ∧ At wr (n0 + 1) 4 (bcells (altB m (noB m) (t.subs.take k))) ∧ Keep (fun b => b = n0 + 1) W wr)
      case atStart => exact ⟨0, rfl, by omega, by rw [List.take_zero, altB]; exact R0.out, Keep.refl _ _⟩
      case round =>
        obtain ⟨k, rfl, hk, hrow, hq⟩ := hrel
        have B2 := (H0.out.2.1.keep hq (fun b hb h => by omega)).box
        obtain ⟨-, -, -, -, -, -, -, c7⟩ := B2.eight
        by_cases hlt : k < t.subs.length
        · have hlt' : (k : Int) < t.subs.length := by omega
          have i0 : (0 : Int) ≤ k := by omega
          obtain ⟨s, hs⟩ : ∃ s, t.subs[k]? = some s := ⟨t.subs[k], List.getElem?_eq_getElem hlt⟩
          obtain ⟨bl, off, a1, e1, rfl, L1, d0, d1, d2, d3, d4, d5, d6, d7⟩ := B2.sub hs
          have ht := altB_take (m := m) (acc := noB m) hs
          have hcall := H0.out.2.2.1 s (HST.out s k hs) d (HE.out.1 s k hs) m hm a1 e1 wr L1
          obtain ⟨X, hX⟩ : ∃ X, altB m (noB m) (t.subs.take k) = X := ⟨_, rfl⟩
          have hl1 : X.length = m + 1 := by rw [← hX, altB_length, noB_length]
          have hl2 := lens_length m s
          unfold IsLens at hcall
          obtain ⟨Y, hY⟩ : ∃ Y, lens m s = Y := ⟨_, rfl⟩
          rw [hX] at ht hrow
          rw [hY] at ht hcall hl2
          have hgn : n0 + 1 < wr.heap.size := hrow.lt
          have HQ := Lib.hid (And.intro hq (And.intro hcall (And.intro ht (And.intro hrow (And.intro hl1 hl2)))))
          clear hq hcall ht hrow B2 hs hl1 hl2 L1 hX hY
          go_wp2_with fail
          refine HQ.out.2.1.mono ?_
          rintro e w2 ⟨g2, rfl, hg2, hr2, q2⟩
          have Q2 := Lib.hid (And.intro (HQ.out.1.trans (q2.mono (fun _ h => h.elim))) (And.intro (HQ.out.2.2.2.1.keep q2 (fun h => h)) hr2))
          clear q2 hr2 c7 d0 d1 d2 d3 d4 d5 d6 d7
          go_wp2_with fail
          go_loopg [9] (m + 1) (fun gg s9 wx => ∃ j : Nat, s9 = .int .i64 j ∧ j + gg = m + 1 ∧ At wx (n0 + 1) 4 (bcells (OP X Y j)) ∧ Keep (fun b => b = n0 + 1) w2 wx)
          case atStart => exact ⟨0, rfl, by omega, by rw [OP_start]; exact Q2.out.2.1, Keep.refl _ _⟩
          case round =>
            obtain ⟨j, rfl, hj, hrow, hq⟩ := hrel
            have j0 : (0 : Int) ≤ j := by omega
            by_cases hin : j ≤ m
            · have hin' : (j : Int) ≤ m := by omega
              have e0 := hrow.cell (bcells_get (OP_at X Y (i := j) (by rw [HQ.out.2.2.2.2.1]; omega)))
              have f0 := hrow.frozen j
              have e2 := (Q2.out.2.2.keep hq (by omega)).cell (bcells_get (getD_get (L := Y) (k := j) (by rw [HQ.out.2.2.2.2.2]; omega)))
              have hset := hrow.set j (.bool (X.getD j false || Y.getD j false))
              rw [bcells_set, ← OP_step X Y (i := j) (by rw [HQ.out.2.2.2.2.1]; omega)] at hset
              have hqs := hq.setCell (p := ⟨n0 + 1, j, none⟩) (fun _ => rfl) (.bool (X.getD j false || Y.getD j false))
              obtain ⟨x, hx⟩ : ∃ x, X.getD j false = x := ⟨_, rfl⟩
              obtain ⟨y, hy⟩ : ∃ y, Y.getD j false = y := ⟨_, rfl⟩
              rw [hx, hy] at hset hqs
              rw [hx] at e0
              rw [hy] at e2
              have HS := Lib.hid (And.intro hset hqs)
              clear hset hqs hx hy hrow hq
              cases x <;> cases y
              all_goals
                go_wp2_with fail
                go_roundg (m + 1 - (j + 1))
                case measure => omega
                case rel => exact ⟨j + 1, by go_num, by omega, HS.out.1, HS.out.2⟩
            · have hin' : ¬ (j : Int) ≤ m := by omega
              have hjm : j = m + 1 := by omega
              have ho : OP X Y j = altB m (noB m) (t.subs.take (k + 1)) := by
                rw [HQ.out.2.2.1]
                unfold orB
                rw [HQ.out.2.2.2.2.1, hjm]
              rw [ho] at hrow
              have HS := Lib.hid (And.intro hrow (Q2.out.1.trans hq))
              clear hrow hq ho
              go_wp2_with fail
              go_roundg (t.subs.length - (k + 1))
              case measure => omega
              case rel => exact ⟨k + 1, by go_num, by omega, HS.out.1, HS.out.2⟩
        · have hke : k = t.subs.length := by omega
          subst hke
          rw [List.take_length, ← HF.out] at hrow
          have HQ := Lib.hid (And.intro hq hrow)
          clear hq hrow B2
          go_wp2_with fail
          go_ret
          exact ⟨n0 + 1, rfl, by omega, HQ.out.2, H0.out.1.next HQ.out.1 (fun b hb hl => HE.out.2.2 b (by omega) hl)⟩
    have b4 : (t.kind == 4) = false := by simp [k4]
    have k5 : ¬ t.kind = 5 := HK.out
    have b5 : (t.kind == 5) = false := by simp [k5]
    have hA := HA.out
    rw [if_neg k1, if_neg k2, if_neg k3, if_neg k4, if_neg k5] at hA
    have HF := Lib.hid hA
    clear k1 k2 k3 k4 k5 hA
    go_wp2_with fail
    go_ret
    exact ⟨n0 + 1, rfl, by omega, by rw [HF.out]; exact R0.out, H0.out.1⟩
end Go.Proofs.Ythcjfgfbeollpaa.P09
/- The document's Lengths (layer 9), of right expressions: repetitions; the whole. -/
namespace Go.Proofs.Ythcjfgfbeollpaa.P09
open Go.RowKit Go.Proofs.Ythcjfgfbeollpaa.Base Go.Proofs.Ythcjfgfbeollpaa.Bytes Go.Proofs.Ythcjfgfbeollpaa.P07 Go.Proofs.Ythcjfgfbeollpaa.P08
open Go.Proofs.Ythcjfgfbeollpaa.Sets (ST)

set_option maxRecDepth 100000 in
set_option maxHeartbeats 16000000 in
theorem flens_five (n : Nat) (ih : ∀ t : T, SizeOf.sizeOf t < n → LensOk t) (t : T) (h : SizeOf.sizeOf t < n + 1) (hk : t.kind = 5) : LensOk t := fun d hR m hm a c w hL => by
    have HK := Lib.hid hk
    clear hk
    have hlen := hL.len
    have hmk := make_bools (m + 1) (by omega) (w.alloc (.cells (ncells t a c) 27))
    have c0 := At.new (w.alloc (.cells (ncells t a c) 27)) (bcells (noB m)) 4
    rw [show ((m + 1 : Nat) : Int) = (m : Int) + 1 from by omega, show List.replicate (m + 1) false = noB m from rfl] at hmk
    rw [show (w.alloc (.cells (ncells t a c) 27)).heap.size = w.heap.size + 1 from by simp] at hmk c0
    have qb := (Keep.refl (fun _ => False) (w.alloc (.cells (ncells t a c) 27))).alloc (.cells (bcells (noB m)) 4)
    have H0 := Lib.hid (And.intro (((Keep.refl (fun _ => False) w).alloc (.cells (ncells t a c) 27)).trans qb) (And.intro ((Bz.new (c := c) hL).keep qb (fun _ _ h => h)) (And.intro (ih) c0)))
    have hsub := fun (s : T) (i : Nat) (h : t.subs[i]? = some s) => sub_RT hR h
    have e := lens_eq m t
    obtain ⟨A, hA⟩ : ∃ A, lens m t = A := ⟨_, rfl⟩
    rw [hA] at e
    obtain ⟨n0, hn0⟩ : ∃ n0, w.heap.size = n0 := ⟨_, rfl⟩
    have hIs : IsLens m t w = fun e w' => ∃ g, e = .returned (.slice (some ⟨g, 0, none⟩) (m + 1) (m + 1)) ∧ n0 ≤ g ∧ At w' g 4 (bcells A) ∧ Keep (fun _ => False) w w' := by rw [← hA, ← hn0]; rfl
    rw [hIs]
    have hw : ∀ b, n0 ≤ b → ¬ b < w.heap.size := fun b hb => by omega
    have h5 := fun hk => kind5_one hR hk
    have HE := Lib.hid (And.intro hsub (And.intro h5 hw))
    have HN := Lib.hid h
    have HA := Lib.hid e
    clear hL e hA h hsub h5 hR c0 qb hIs hw
    go_enter Try.func85, Try.ntmps85
    go_upto_region 2 with fail
    clear hmk
    generalize ((w.alloc (.cells (ncells t a c) 27)).alloc (.cells (bcells (noB m)) 4)) = W at *
    rw [hn0] at H0
    try rw [hn0]
    clear hn0
    have R0 := Lib.hid H0.out.2.2.2
    have hm0 : (0 : Int) ≤ m := by omega
    have z0 := R0.out.cell (bcells_get (noB_get (m := m) (k := 0) (by omega)))
    have f0 := R0.out.frozen 0
    obtain ⟨c0, c1, c2, c3, c4, c5, c6, c7⟩ := H0.out.2.1.box.eight
    have hstep : ∀ (s : T) (k : Nat), t.subs[k]? = some s → SizeOf.sizeOf s < n := fun s k hs => by have := sub_less hs; have := HN.out; omega
    have HST := Lib.hid hstep
    clear hstep
    have k5 : t.kind = 5 := HK.out
    have k1 : ¬ t.kind = 1 := by omega
    have k2 : ¬ t.kind = 2 := by omega
    have k3 : ¬ t.kind = 3 := by omega
    have k4 : ¬ t.kind = 4 := by omega
    have b1 : (t.kind == 1) = false := by simp [k1]
    have b2 : (t.kind == 2) = false := by simp [k2]
    have b3 : (t.kind == 3) = false := by simp [k3]
    have b4 : (t.kind == 4) = false := by simp [k4]
    · have hA := HA.out
      rw [if_neg k1, if_neg k2, if_neg k3, if_neg k4, if_pos k5] at hA
      obtain ⟨s, hsub, m0, m1, hxx, -⟩ := HE.out.2.1 k5
      have hs : t.subs[0]? = some s := by rw [hsub]; rfl
      have hl1 : t.subs.length = 1 := by rw [hsub]; rfl
      rw [show headB m t.subs = lens m s from by rw [hsub, headB]] at hA
      have hcall := fun a1 e1 W L => H0.out.2.2.1 s (HST.out s 0 hs) d (HE.out.1 s 0 hs) m hm a1 e1 W L
      unfold IsLens at hcall
      have hl2 := lens_length m s
      obtain ⟨Y, hY⟩ : ∃ Y, lens m s = Y := ⟨_, rfl⟩
      rw [hY] at hA hcall hl2
      unfold repB at hA
      have hLN : lastN m t.mn t.mx = if t.mx < 0 then t.mn + m else t.mx := rfl
      obtain ⟨NL, hNL⟩ : ∃ NL, (lastN m t.mn t.mx + 1).toNat = NL := ⟨_, rfl⟩
      rw [hNL] at hA
      have hN1 : t.mx < 0 → (NL : Int) = t.mn + m + 1 := fun h => by rw [if_pos h] at hLN; omega
      have hN2 : ¬ t.mx < 0 → (NL : Int) = t.mx + 1 := fun h => by rw [if_neg h] at hLN; omega
      have hNb : (NL : Int) ≤ 40 := by
        by_cases h : t.mx < 0
        · have := hN1 h
          omega
        · have := hN2 h
          omega
      have b5 : (t.kind == 5) = true := by simp [k5]
      have HQ := Lib.hid (And.intro hA (And.intro hcall (And.intro hs (And.intro hl2 (And.intro hN1 hN2)))))
      have hgW : n0 + 1 < W.heap.size := R0.out.lt
      have hmx : -1 ≤ t.mx ∧ t.mx ≤ 20 := by omega
      rw [hl1] at c7
      clear k1 k2 k3 k4 k5 hA hcall hs hsub hl2 hY hLN hNL hN1 hN2 hxx z0 f0 c1 c2 c3 c4
      obtain ⟨bl, off, a1, e1, rfl, L1, d0, d1, d2, d3, d4, d5, d6, d7⟩ := H0.out.2.1.box.first HQ.out.2.2.1
      have HL1 := Lib.hid L1
      clear L1
      go_wp2_with fail
      refine (HQ.out.2.1 a1 e1 W HL1.out).mono ?_
      rintro e w2 ⟨g2, rfl, hg2, hr2, q2⟩
      have hmk := make_bools (m + 1) (by omega) w2
      rw [show ((m + 1 : Nat) : Int) = (m : Int) + 1 from by omega, show List.replicate (m + 1) false = noB m from rfl] at hmk
      have qn := (Keep.refl (fun _ => False) w2).alloc (.cells (bcells (noB m)) 4)
      have q3 := q2.trans qn
      have hw2 : W.heap.size ≤ w2.heap.size := q2.size
      have hg2lt : g2 < w2.heap.size := hr2.lt
      have H3 := Lib.hid (And.intro (At.new w2 (bcells (noB m)) 4) (And.intro (R0.out.keep q3 (fun h => h)) (And.intro (hr2.keep qn (fun h => h)) (And.intro (H0.out.2.1.keep q3 (fun _ _ h => h)) (H0.out.1.trans q3)))))
      clear q2 hr2 qn q3 c0 c5 c6 c7 d0 d1 d2 d3 d4 d5 d6 d7
      go_upto_region 26 with fail
      clear hmk
      generalize (w2.alloc (.cells (bcells (noB m)) 4)) = W3 at *
      generalize w2.heap.size = gN at *
      have z0 := H3.out.1.cell (bcells_get (noB_get (m := m) (k := 0) (by omega)))
      have f0 := H3.out.1.frozen 0
      have hq := (Keep.refl (fun b => b = gN) W3).setCell (p := ⟨gN, 0, none⟩) (fun _ => rfl) (.bool true)
      have H4 := Lib.hid (And.intro (show At (W3.setCell ⟨gN, 0, none⟩ (.bool true)) gN 4 (bcells (oneB0 m)) from by rw [oneB0, ← bcells_set]; exact H3.out.1.set 0 (.bool true)) (And.intro (H3.out.2.1.keep hq (by omega)) (And.intro (H3.out.2.2.1.keep hq (by omega)) (And.intro (H3.out.2.2.2.1.keep hq (fun b hb h => by omega)) (H3.out.2.2.2.2.setCell (p := ⟨gN, 0, none⟩) (fun h => HE.out.2.2 gN (by omega) h) (.bool true))))))
      clear hq
      go_upto_region 27 with fail
      change Code.wp _ _ _ _ (W3.setCell ⟨gN, 0, none⟩ (.bool true))
      generalize (W3.setCell ⟨gN, 0, none⟩ (.bool true)) = W4 at *
      clear z0 f0
      obtain ⟨-, -, -, -, -, c5, c6, -⟩ := H4.out.2.2.2.1.box.eight
      have hcs : (t.mx < 0 ∧ (NL : Int) = t.mn + m + 1) ∨ (¬ t.mx < 0 ∧ (NL : Int) = t.mx + 1) := by
        by_cases h : t.mx < 0
        · exact .inl ⟨h, HQ.out.2.2.2.2.1 (by omega)⟩
        · exact .inr ⟨h, HQ.out.2.2.2.2.2 (by omega)⟩
      go_upto_if 104 with fail
      go_cut [12] from 104 to 108 (fun x12 wx => x12 = .int .i64 ((NL : Int) - 1) ∧ wx = W4)
      case first =>
        rcases hcs with ⟨hx, hN⟩ | ⟨hx, hN⟩
        · have hv : t.mn + m = (NL : Int) - 1 := by omega
          have HV := Lib.hid hv
          clear hv hN
          go_wp2_with fail
          go_meet
          case rel => exact ⟨by rw [HV.out], rfl⟩
        · have hv : t.mx = (NL : Int) - 1 := by omega
          have HV := Lib.hid hv
          clear hv hN
          go_wp2_with fail
          go_meet
          case rel => exact ⟨by rw [HV.out], rfl⟩
      case rest =>
      obtain ⟨rfl, hwc⟩ := hcut
      have hwc' := hwc.symm
      subst hwc'
      clear hcs c6 hwc
      go_wp2_with fail
      go_loopg [11, 13, 14] NL (fun gg u11 i s14 wr => ∃ (k g : Nat), i = .int .i64 k ∧ k + gg = NL ∧ u11 = .slice (some ⟨g, 0, none⟩) (m + 1) (m + 1) ∧ n0 + 1 < g ∧ At wr g 4 (bcells (repS m t.mn Y k).2) ∧ At wr (n0 + 1) 4 (bcells (repS m t.mn Y k).1) ∧ Keep (fun b => b = n0 + 1) W4 wr)
      case atStart => exact ⟨0, gN, rfl, by omega, rfl, by omega, H4.out.1, H4.out.2.1, Keep.refl _ _⟩
      case round =>
        obtain ⟨k, g, rfl, hk, rfl, hg, hnow, hrow, hq⟩ := hrel
        by_cases hlt : k < NL
        · have i0 : (0 : Int) ≤ k := by omega
          obtain ⟨-, -, -, -, -, c5, -, -⟩ := (H4.out.2.2.2.1.keep hq (fun b hb h => by omega)).box.eight
          have hlen1 := repS_length m t.mn Y k
          have hst : repS m t.mn Y (k + 1) = ((if t.mn ≤ k then orB (repS m t.mn Y k).1 (repS m t.mn Y k).2 else (repS m t.mn Y k).1), joinB (repS m t.mn Y k).2 Y) := by rw [repS]
          obtain ⟨⟨X, Z⟩, hXZ⟩ : ∃ P, repS m t.mn Y k = P := ⟨_, rfl⟩
          rw [hXZ] at hst hnow hrow hlen1
          dsimp only at hst hnow hrow hlen1
          have hglt : g < wr.heap.size := hnow.lt
          have hry := H4.out.2.2.1.keep hq (by omega)
          have HS := Lib.hid (And.intro hst (And.intro hnow (And.intro hrow (And.intro hlen1 (And.intro hq hry)))))
          clear hst hnow hrow hlen1 hq hXZ hry
          by_cases hmk : t.mn ≤ k
          · have hst := HS.out.1
            rw [if_pos hmk] at hst
            have HT := Lib.hid hst
            clear hst
            go_wp2_with fail
            go_loopg [14] (m + 1) (fun gg s14 wx => ∃ j : Nat, s14 = .int .i64 j ∧ j + gg = m + 1 ∧ At wx (n0 + 1) 4 (bcells (OP X Z j)) ∧ Keep (fun b => b = n0 + 1) wr wx)
            case atStart => exact ⟨0, rfl, by omega, by rw [OP_start]; exact HS.out.2.2.1, Keep.refl _ _⟩
            case round =>
              obtain ⟨j, rfl, hj, hrow, hq⟩ := hrel
              have j0 : (0 : Int) ≤ j := by omega
              by_cases hin : j ≤ m
              · have hin' : (j : Int) ≤ m := by omega
                have e0 := hrow.cell (bcells_get (OP_at X Z (i := j) (by rw [HS.out.2.2.2.1.1]; omega)))
                have f0 := hrow.frozen j
                have e2 := (HS.out.2.1.keep hq (by omega)).cell (bcells_get (getD_get (L := Z) (k := j) (by rw [HS.out.2.2.2.1.2]; omega)))
                have hset := hrow.set j (.bool (X.getD j false || Z.getD j false))
                rw [bcells_set, ← OP_step X Z (i := j) (by rw [HS.out.2.2.2.1.1]; omega)] at hset
                have hqs := hq.setCell (p := ⟨n0 + 1, j, none⟩) (fun _ => rfl) (.bool (X.getD j false || Z.getD j false))
                obtain ⟨x, hx'⟩ : ∃ x, X.getD j false = x := ⟨_, rfl⟩
                obtain ⟨y, hy'⟩ : ∃ y, Z.getD j false = y := ⟨_, rfl⟩
                rw [hx', hy'] at hset hqs
                rw [hx'] at e0
                rw [hy'] at e2
                have HSS := Lib.hid (And.intro hset hqs)
                clear hset hqs hx' hy' hrow hq c5
                cases x <;> cases y
                all_goals
                  go_wp2_with fail
                  go_roundg (m + 1 - (j + 1))
                  case measure => omega
                  case rel => exact ⟨j + 1, by go_num, by omega, HSS.out.1, HSS.out.2⟩
              · have hin' : ¬ (j : Int) ≤ m := by omega
                have hjm : j = m + 1 := by omega
                have ho : OP X Z j = orB X Z := by
                  unfold orB
                  rw [HS.out.2.2.2.1.1, hjm]
                rw [ho] at hrow
                have hj := fjoin_any Z Y (m + 1) HS.out.2.2.2.1.2 HQ.out.2.2.2.1 (by omega) g g2 wr (HS.out.2.1.keep hq (by omega)) (HS.out.2.2.2.2.2.keep hq (by omega))
                have hwx : n0 + 1 < wr.heap.size := hrow.lt
                have HSS := Lib.hid (And.intro hrow (And.intro (HS.out.2.2.2.2.1.trans hq) hj))
                clear hrow hq ho hj c5
                go_wp2_with fail
                refine HSS.out.2.2.mono ?_
                rintro e w5 ⟨g3, rfl, hg3, hr3, q5⟩
                have H5 := Lib.hid (And.intro hr3 (And.intro (HSS.out.1.keep q5 (fun h => h)) (HSS.out.2.1.trans (q5.mono (fun _ h => h.elim)))))
                have hg5 : n0 + 1 < g3 := by omega
                clear hr3 q5
                go_wp2_with fail
                go_roundg (NL - (k + 1))
                case measure => omega
                case rel => exact ⟨k + 1, g3, by go_num, by omega, rfl, hg5, by rw [HT.out]; exact H5.out.1, by rw [HT.out]; exact H5.out.2.1, H5.out.2.2⟩
          · have hst := HS.out.1
            rw [if_neg hmk] at hst
            have HT := Lib.hid hst
            have hmk' : (k : Int) < t.mn := by omega
            have hj := fjoin_any Z Y (m + 1) HS.out.2.2.2.1.2 HQ.out.2.2.2.1 (by omega) g g2 wr HS.out.2.1 HS.out.2.2.2.2.2
            have HSS := Lib.hid hj
            clear hst hj
            go_wp2_with fail
            refine HSS.out.mono ?_
            rintro e w5 ⟨g3, rfl, hg3, hr3, q5⟩
            have H5 := Lib.hid (And.intro hr3 (And.intro (HS.out.2.2.1.keep q5 (fun h => h)) (HS.out.2.2.2.2.1.trans (q5.mono (fun _ h => h.elim)))))
            have hg5 : n0 + 1 < g3 := by omega
            clear hr3 q5
            go_wp2_with fail
            go_roundg (NL - (k + 1))
            case measure => omega
            case rel => exact ⟨k + 1, g3, by go_num, by omega, rfl, hg5, by rw [HT.out]; exact H5.out.1, by rw [HT.out]; exact H5.out.2.1, H5.out.2.2⟩
        · have hke : k = NL := by omega
          subst hke
          rw [← HQ.out.1] at hrow
          have HS := Lib.hid (And.intro hrow hq)
          clear hrow hq hnow
          go_wp2_with fail
          go_ret
          exact ⟨n0 + 1, rfl, by omega, HS.out.1, H4.out.2.2.2.2.next HS.out.2 (fun b hb hl => HE.out.2.2 b (by omega) hl)⟩
theorem flens_all : ∀ (n : Nat) (t : T), SizeOf.sizeOf t < n → LensOk t
  | 0, _, h => absurd h (Nat.not_lt_zero _)
  | n + 1, t, h => by
    by_cases hk : t.kind = 5
    · exact flens_five n (flens_all n) t h hk
    · exact flens_low n (flens_all n) t h hk
end Go.Proofs.Ythcjfgfbeollpaa.P09
/- What is written out has the same longest length, and the same shortest one (layer 13). -/
namespace Go.Proofs.Ythcjfgfbeollpaa.P13
open Go.Proofs.Ythcjfgfbeollpaa.P07 Go.Proofs.Ythcjfgfbeollpaa.P08 Go.Proofs.Ythcjfgfbeollpaa.P09 Go.Proofs.Ythcjfgfbeollpaa.P10 Go.Proofs.Ythcjfgfbeollpaa.Bytes
open Go.Proofs.Ythcjfgfbeollpaa.Sets (ST)

theorem mneg {x : T} (h : noneB x = false) (m : mostI x < 0) (k acc : Int) (l : List T) : mostL k acc (x :: l) = -1 := by
  rw [mostL, if_neg (by rw [h]; decide), if_pos m]
theorem madd {x : T} (h : noneB x = false) (m : 0 ≤ mostI x) (acc : Int) (l : List T) : mostL 3 acc (x :: l) = mostL 3 (acc + mostI x) l := by
  rw [mostL, if_neg (by rw [h]; decide), if_neg (by omega), if_pos rfl]
theorem mreps {x : T} (h : noneB x = false) (m : 0 ≤ mostI x) : ∀ (n : Nat) (acc : Int) (l : List T), mostL 3 acc (List.replicate n x ++ l) = mostL 3 (acc + n * mostI x) l
  | 0, acc, l => by simp
  | n + 1, acc, l => by
    rw [List.replicate_succ, List.cons_append, madd h m, mreps h m n]
    congr 1
    have : ((n + 1 : Nat) : Int) * mostI x = n * mostI x + mostI x := by rw [show ((n + 1 : Nat) : Int) = (n : Int) + 1 by omega, Int.add_mul, Int.one_mul]
    omega
theorem mostL_map (k : Int) : ∀ (l : List T), (∀ u ∈ l, mostI (plT u) = mostI u ∧ noneB (plT u) = noneB u) → ∀ acc, mostL k acc (l.map plT) = mostL k acc l
  | [], _, acc => rfl
  | t :: l, h, acc => by
    have h1 := h t (by simp)
    have ih := mostL_map k l fun u hu => h u (List.mem_cons_of_mem _ hu)
    rw [List.map_cons, mostL, mostL, h1.1, h1.2]
    split
    · exact ih acc
    · split
      · rfl
      · exact ih _
theorem eps_most : mostI epsT = 0 := by kernel_rfl
theorem eps_none : noneB epsT = false := by kernel_rfl
theorem star_none (x : T) : noneB (starP x) = false := by
  rw [noneB_eq]
  unfold starP T.kind T.subs T.mn
  simp
theorem star_most (x : T) : mostI (starP x) = if noneB x = true then 0 else if mostI x = 0 then 0 else -1 := by
  rw [mostI_eq, if_neg (by rw [star_none]; decide)]
  unfold starP T.kind T.subs T.mx
  simp [headN, headM]
theorem opt_none (x : T) : noneB (optP x) = false := by
  rw [noneB_eq]
  unfold optP T.kind T.subs
  simp [allN, eps_none]
theorem opt_most (x : T) : mostI (optP x) = if noneB x = true then 0 else if mostI x < 0 then -1 else mostI x := by
  rw [mostI_eq, if_neg (by rw [opt_none]; decide)]
  have e : mostL 4 0 [x, epsT] = if noneB x = true then 0 else if mostI x < 0 then -1 else mostI x := by
    rw [mostL]
    split
    · rw [mostL, if_neg (by rw [eps_none]; decide), if_neg (by rw [eps_most]; decide), if_neg (by decide), mostL, eps_most]
      rfl
    · split
      · rfl
      · rw [if_neg (by decide), mostL, if_neg (by rw [eps_none]; decide), if_neg (by rw [eps_most]; decide), if_neg (by decide), mostL, eps_most]
        omega
  unfold optP T.kind T.subs
  simp only
  rw [if_neg (by decide), if_pos (by decide)]
  exact e
theorem row_most {L : List T} (hb : ∀ x ∈ L, -1 ≤ mostI x) (h : noneB (rowP L) = false) : mostI (rowP L) = mostL 3 0 L := by
  match L, hb, h with
  | [], _, _ => exact eps_most
  | [x], hb, g =>
    have hg : noneB x = false := g
    have := hb x (by simp)
    show mostI x = _
    by_cases m : mostI x < 0
    · rw [mneg hg m]
      omega
    · rw [madd hg (by omega), mostL]
      omega
  | x :: y :: l, _, h =>
    rw [rowP_two (by simp)] at h ⊢
    rw [mostI_eq, if_neg (by rw [h]; decide)]
    unfold T.kind T.subs
    simp only
    rw [if_neg (by decide), if_pos (by decide)]
theorem pl_most : ∀ (n : Nat) (t : T), SizeOf.sizeOf t < n → ∀ d, RT d t → mostI (plT t) = mostI t
  | 0, _, h, _, _ => absurd h (Nat.not_lt_zero _)
  | n + 1, t, h, d, hR => by
    have none_pl : ∀ (u : T) e, RT e u → noneB (plT u) = noneB u := fun u e hu => by
      obtain ⟨f, hf⟩ := pl_rt hu
      exact none_same hu hf (pl_mat hu)
    have ih : ∀ u ∈ t.subs, mostI (plT u) = mostI u ∧ noneB (plT u) = noneB u := fun u hu => ⟨pl_most n u (by have := subs_lt hu; omega) d (sub_right hR.subs u hu), none_pl u d (sub_right hR.subs u hu)⟩
    have hN := none_pl t d hR
    rcases P10.kinds hR with k | k | k | k | k
    · rw [eps_is hR k, show plT epsT = epsT by kernel_rfl]
    · have hc := cls_is hR k
      rw [hc.1, plT_not (by show (2 : Int) ≠ 5; omega)]
      rfl
    · rw [mostI_eq, mostI_eq t, hN]
      have e : (plT t).kind = t.kind ∧ (plT t).subs = t.subs.map plT := by rw [plT_not (by omega)]; exact ⟨rfl, rfl⟩
      rw [e.1, e.2, if_pos (show t.kind = 3 ∨ t.kind = 4 by omega), if_pos (show t.kind = 3 ∨ t.kind = 4 by omega), mostL_map t.kind t.subs ih]
    · rw [mostI_eq, mostI_eq t, hN]
      have e : (plT t).kind = t.kind ∧ (plT t).subs = t.subs.map plT := by rw [plT_not (by omega)]; exact ⟨rfl, rfl⟩
      rw [e.1, e.2, if_pos (show t.kind = 3 ∨ t.kind = 4 by omega), if_pos (show t.kind = 3 ∨ t.kind = 4 by omega), mostL_map t.kind t.subs ih]
    · obtain ⟨a, mn, mx, e, b0, b1, bx, -⟩ := P10.rep_is hR k
      subst e
      have ha := ih a (by show a ∈ [a]; simp)
      have hRa : RT d a := sub_right hR.subs a (by show a ∈ [a]; simp)
      have hm := (most_bnd a d hRa).1
      rw [plT_rep] at hN ⊢
      have hne : noneB (.nd 5 ST.none mn mx [a]) = (decide (0 < mn) && noneB a) := by
        rw [noneB_eq]
        unfold T.kind T.subs T.mn
        simp [headN]
      have hf : mostI (.nd 5 ST.none mn mx [a]) = if (decide (0 < mn) && noneB a) = true then -1 else if noneB a = true ∨ mx = 0 then 0 else if mostI a = 0 then 0 else if mostI a < 0 ∨ mx < 0 then -1 else mostI a * mx := by
        rw [mostI_eq, hne]
        by_cases c : (decide (0 < mn) && noneB a) = true
        · rw [if_pos c, if_pos c]
        · rw [if_neg c, if_neg c]
          have u3 : ¬ ((T.nd 5 ST.none mn mx [a]).kind = 3 ∨ (T.nd 5 ST.none mn mx [a]).kind = 4) := by
            show ¬ ((5 : Int) = 3 ∨ (5 : Int) = 4)
            omega
          have u2 : ¬ (T.nd 5 ST.none mn mx [a]).kind = 2 := by
            show ¬ (5 : Int) = 2
            omega
          have u5 : (T.nd 5 ST.none mn mx [a]).kind = 5 := rfl
          rw [if_neg u2, if_neg u3, if_pos u5]
          rfl
      rw [hf]
      rw [hne] at hN
      generalize plT a = x at *
      rw [← ha.1] at hm ⊢
      rw [← ha.2] at hN ⊢
      clear hf hne ih h hR hRa none_pl ha
      have hb : ∀ u ∈ tmsP mn mx x, -1 ≤ mostI u := fun u hu => by
        rcases tmsP_mem hu with rfl | rfl | rfl
        · exact hm
        · rw [star_most]
          split
          · omega
          · split <;> omega
        · rw [opt_most x]
          split
          · omega
          · split <;> omega
      cases hF : noneB x with
      | true =>
        rw [hF, Bool.and_true] at hN
        by_cases h0 : 0 < mn
        · rw [decide_eq_true h0] at hN
          rw [mostI_eq, if_pos hN, decide_eq_true h0]
          rfl
        · rw [decide_eq_false h0] at hN
          rw [row_most hb hN, decide_eq_false h0]
          have e0 : mn.toNat = 0 := by omega
          have hs : mostI (starP x) = 0 := by rw [star_most, if_pos hF]
          have ho : mostI (optP x) = 0 := by rw [opt_most x, if_pos hF]
          unfold tmsP
          rw [e0, List.replicate_zero, List.nil_append]
          simp only [Bool.false_and, Bool.false_eq_true, if_false, true_or, if_true]
          split
          · rw [madd (star_none x) (by omega), mostL, hs]
            omega
          · have := mreps (opt_none x) (by omega) (mx - mn).toNat 0 []
            rw [List.append_nil] at this
            rw [this, mostL, ho]
            omega
      | false =>
        rw [hF, Bool.and_false] at hN
        rw [row_most hb hN]
        obtain ⟨y, hy⟩ : ∃ y, mostI x = y := ⟨_, rfl⟩
        have hs : mostI (starP x) = if y = 0 then 0 else -1 := by rw [star_most, if_neg (by rw [hF]; decide), hy]
        have ho : mostI (optP x) = if y < 0 then -1 else y := by rw [opt_most x, if_neg (by rw [hF]; decide), hy]
        rw [hy] at hm ⊢
        have hsimp : (if (decide (0 < mn) && false) = true then (-1 : Int) else if false = true ∨ mx = 0 then 0 else if y = 0 then 0 else if y < 0 ∨ mx < 0 then -1 else y * mx) = if mx = 0 then 0 else if y = 0 then 0 else if y < 0 ∨ mx < 0 then -1 else y * mx := by simp
        obtain ⟨R, hR⟩ : ∃ R, (if mx = 0 then (0 : Int) else if y = 0 then 0 else if y < 0 ∨ mx < 0 then -1 else y * mx) = R := ⟨_, rfl⟩
        rw [hsimp, hR]
        unfold tmsP
        by_cases hx0 : mx = 0
        · rw [if_pos hx0] at hR
          rw [show mn.toNat = 0 by omega, List.replicate_zero, List.nil_append, if_neg (by omega), show (mx - mn).toNat = 0 by omega, List.replicate_zero, mostL, hR]
        · rw [if_neg hx0] at hR
          by_cases hyn : y < 0
          · rw [if_neg (by omega), if_pos (.inl hyn)] at hR
            rw [← hR]
            by_cases h0 : 0 < mn
            · rw [show mn.toNat = (mn.toNat - 1) + 1 by omega, List.replicate_succ, List.cons_append]
              exact mneg hF (by omega) _ _ _
            · rw [show mn.toNat = 0 by omega, List.replicate_zero, List.nil_append]
              split
              · exact mneg (star_none x) (by rw [hs, if_neg (by omega)]; omega) _ _ _
              · rw [show (mx - mn).toNat = ((mx - mn).toNat - 1) + 1 by omega, List.replicate_succ]
                exact mneg (opt_none x) (by rw [ho, if_pos hyn]; omega) _ _ _
          · rw [mreps hF (by omega), hy]
            by_cases hy0 : y = 0
            · rw [if_pos hy0] at hR
              rw [← hR]
              rw [hy0] at hs ho ⊢
              rw [if_pos rfl] at hs
              rw [if_neg (by omega)] at ho
              split
              · rw [madd (star_none x) (by omega), mostL, hs]
                omega
              · have := mreps (opt_none x) (by omega) (mx - mn).toNat (0 + mn.toNat * 0) []
                rw [List.append_nil] at this
                rw [this, mostL, ho]
                omega
            · rw [if_neg hy0] at hR hs
              rw [if_neg hyn] at ho
              by_cases hx1 : mx < 0
              · rw [if_pos (.inr hx1)] at hR
                rw [if_pos hx1, ← hR]
                exact mneg (star_none x) (by omega) _ _ _
              · rw [if_neg (by omega)] at hR
                rw [if_neg hx1, ← hR]
                have := mreps (opt_none x) (by omega) (mx - mn).toNat (0 + mn.toNat * y) []
                rw [List.append_nil] at this
                rw [this, mostL, ho]
                rw [show ((mn.toNat : Nat) : Int) = mn by omega, show (((mx - mn).toNat : Nat) : Int) = mx - mn by omega, Int.sub_mul, Int.mul_comm y mx]
                omega
theorem least_same {t u : T} {d e : Nat} (ht : RT d t) (hu : RT e u) (h : ∀ w, Mat u w ↔ Mat t w) : leastI u = leastI t := by
  have hn := none_same ht hu h
  have hl := lens_same ht hu h
  have h1 := least_bnd t d ht
  have h2 := least_bnd u e hu
  cases hF : noneB t with
  | true =>
    rw [hF] at hn
    rw [h1.1 hF, h2.1 hn]
  | false =>
    rw [hF] at hn
    have p1 := h1.2.1 hF
    have p2 := h2.2.1 hn
    have f1 := lens_facts (max (leastI t) (leastI u)).toNat t d ht
    have f2 := lens_facts (max (leastI t) (leastI u)).toNat u e hu
    have a1 := f1.at_ hF (by omega)
    have a2 := f2.at_ hn (by omega)
    rw [← hl] at a1
    have b1 := (f2.lo _ a1).1
    rw [hl] at a2
    have b2 := (f1.lo _ a2).1
    omega
end Go.Proofs.Ythcjfgfbeollpaa.P13
