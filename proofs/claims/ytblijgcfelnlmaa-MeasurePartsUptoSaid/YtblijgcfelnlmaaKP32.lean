/- The document's Lengths (layer 9), of right expressions: all but repetitions. -/
import Derived.Test.YtblijgcfelnlmaaKP31
namespace Go.Proofs.Ytblijgcfelnlmaa.P09
open Go.RowKit Go.Proofs.Ytblijgcfelnlmaa.Base Go.Proofs.Ytblijgcfelnlmaa.Bytes Go.Proofs.Ytblijgcfelnlmaa.P07 Go.Proofs.Ytblijgcfelnlmaa.P08
open Go.Proofs.Ytblijgcfelnlmaa.Sets (ST)

/-- What Lengths answers. -/
def IsLens (m : Nat) (t : T) (w : World) (e : Ending) (w' : World) : Prop := ∃ g, e = .returned (.slice (some ⟨g, 0, none⟩) (m + 1) (m + 1)) ∧ w.heap.size ≤ g ∧ At w' g 4 (bcells (lens m t)) ∧ Keep (fun _ => False) w w'
def LensOk (t : T) : Prop := ∀ (d : Nat), RT d t → ∀ (m : Nat), m ≤ 12 → ∀ (a : Option Addr) (c : Nat) (w : World), Lie w (fun _ => True) a t.subs → Calls Try.prog 26 #[nodeV t a c, .int .i64 (m : Int)] w (IsLens m t w)
theorem noB_get {m k : Nat} (h : k < m + 1) : (noB m)[k]? = some false := by simp [noB, h]

/-- The blocks of a tree lie in the world. -/
theorem lie_under {w : World} {ok : Nat → Prop} {a : Option Addr} {L : List T} (h : Lie w ok a L) : Lie w (fun k => k < w.heap.size) a L := by
  induction h with
  | nil a => exact .nil a
  | cons bl off L A C hL hb hok hC hc _ ih => exact .cons bl off L A C hL hb hb hC hc ih
/-- A node in the box n, its parts in blocks below it. -/
structure Bz (W : World) (n : Nat) (t : T) (a : Option Addr) (c : Nat) : Prop where
  cell : At W n 27 (ncells t a c)
  lie : Lie W (fun k => k < n) a t.subs
theorem Bz.keep {S : Nat → Prop} {W W' : World} {n : Nat} {t : T} {a : Option Addr} {c : Nat} (h : Bz W n t a c) (q : Keep S W W') (hS : ∀ b, b ≤ n → ¬ S b) : Bz W' n t a c := ⟨h.cell.keep q (hS n (Nat.le_refl n)), h.lie.keep q (fun b hb => hS b (by omega))⟩
theorem Bz.box {W : World} {n : Nat} {t : T} {a : Option Addr} {c : Nat} (h : Bz W n t a c) : Bx W n t a c := ⟨h.cell, h.lie.mono (fun _ _ => trivial)⟩
theorem Bz.new {W : World} {t : T} {a : Option Addr} {c : Nat} (hL : Lie W (fun _ => True) a t.subs) : Bz (W.alloc (.cells (ncells t a c) 27)) W.heap.size t a c :=
  ⟨At.new W _ _, (lie_under hL).keepF ((Keep.refl (fun _ => False) W).alloc _)⟩

set_option maxRecDepth 100000 in
set_option maxHeartbeats 16000000 in
theorem flens_low (n : Nat) (ih : ∀ t : T, SizeOf.sizeOf t < n → LensOk t) (t : T) (h : SizeOf.sizeOf t < n + 1) (hk : ¬ t.kind = 5) : LensOk t := fun d hR m hm a c w hL => by
    have HK := Lib.hid hk
    clear hk
    have hlen := hL.len
    have hmk := make_bools (m + 1) (by omega) (w.alloc (.cells (ncells t a c) 27))
    have c0 := At.new (w.alloc (.cells (ncells t a c) 27)) (bcells (noB m)) 4
    rw [show ((m + 1 : Nat) : Int) = (m : Int) + 1 from by omega, show List.replicate (m + 1) false = noB m from rfl] at hmk
    rw [show (w.alloc (.cells (ncells t a c) 27)).heap.size = w.heap.size + 1 from by simp] at hmk c0
    have qb := (Keep.refl (fun _ => False) (w.alloc (.cells (ncells t a c) 27))).alloc (.cells (bcells (noB m)) 4)
    have H0 := Lib.hid (And.intro (((Keep.refl (fun _ => False) w).alloc (.cells (ncells t a c) 27)).trans qb) (And.intro ((Bz.new (c := c) hL).keep qb (fun _ _ h => h)) (And.intro (ih) c0)))
    have hsub := fun (s : T) (i : Nat) (h : t.subs[i]? = some s) => sub_RT hR h
    have e := lens_eq m t
    obtain ⟨A, hA⟩ : ∃ A, lens m t = A := ⟨_, rfl⟩
    rw [hA] at e
    obtain ⟨n0, hn0⟩ : ∃ n0, w.heap.size = n0 := ⟨_, rfl⟩
    have hIs : IsLens m t w = fun e w' => ∃ g, e = .returned (.slice (some ⟨g, 0, none⟩) (m + 1) (m + 1)) ∧ n0 ≤ g ∧ At w' g 4 (bcells A) ∧ Keep (fun _ => False) w w' := by rw [← hA, ← hn0]; rfl
    rw [hIs]
    have hw : ∀ b, n0 ≤ b → ¬ b < w.heap.size := fun b hb => by omega
    have h5 := fun hk => kind5_one hR hk
    have HE := Lib.hid (And.intro hsub (And.intro h5 hw))
    have HN := Lib.hid h
    have HA := Lib.hid e
    clear hL e hA h hsub h5 hR c0 qb hIs hw
    go_enter Try.func26, Try.ntmps26
    go_upto_region 2 with fail
    clear hmk
    generalize ((w.alloc (.cells (ncells t a c) 27)).alloc (.cells (bcells (noB m)) 4)) = W at *
    rw [hn0] at H0
    try rw [hn0]
    clear hn0
    have R0 := Lib.hid H0.out.2.2.2
    have hm0 : (0 : Int) ≤ m := by omega
    have z0 := R0.out.cell (bcells_get (noB_get (m := m) (k := 0) (by omega)))
    have f0 := R0.out.frozen 0
    obtain ⟨c0, c1, c2, c3, c4, c5, c6, c7⟩ := H0.out.2.1.box.eight
    have hstep : ∀ (s : T) (k : Nat), t.subs[k]? = some s → SizeOf.sizeOf s < n := fun s k hs => by have := sub_less hs; have := HN.out; omega
    have HST := Lib.hid hstep
    clear hstep
    by_cases k1 : t.kind = 1
    · have hA := HA.out
      rw [if_pos k1] at hA
      have b1 : (t.kind == 1) = true := by simp [k1]
      have HF := Lib.hid hA
      clear k1 hA
      go_wp2_with fail
      go_ret
      exact ⟨n0 + 1, rfl, by omega, by rw [HF.out, oneB0, ← bcells_set]; exact R0.out.set 0 (.bool true), H0.out.1.setCell (p := ⟨n0 + 1, 0, none⟩) (fun h => HE.out.2.2 (n0 + 1) (by omega) h) (.bool true)⟩
    have b1 : (t.kind == 1) = false := by simp [k1]
    by_cases k2 : t.kind = 2
    · have hA := HA.out
      rw [if_neg k1, if_pos k2] at hA
      have b2 : (t.kind == 2) = true := by simp [k2]
      obtain ⟨E, hE⟩ : ∃ E, eqB t.set ST.none = E := ⟨_, rfl⟩
      have es : ∀ W, (Op.equalIn 10000 24 (.agg #[.int .u64 (t.set.x0 : Int), .int .u64 (t.set.x1 : Int), .int .u64 (t.set.x2 : Int), .int .u64 (t.set.x3 : Int)]) (.agg #[.int .u64 0, .int .u64 0, .int .u64 0, .int .u64 0])).run Try.prog W = .ok E W := fun W => by
        rw [← hE]
        exact eq_set t.set ST.none W
      rw [hE] at hA
      clear k1 k2 hE
      by_cases h1 : 1 ≤ m
      · have h1' : (1 : Int) ≤ m := by omega
        rw [if_pos h1] at hA
        have HF := Lib.hid hA
        have z1 := R0.out.cell (bcells_get (noB_get (m := m) (k := 1) (by omega)))
        have f1 := R0.out.frozen 1
        clear hA
        cases E
        · go_wp2_with fail
          go_ret
          exact ⟨n0 + 1, rfl, by omega, by rw [HF.out, ← bcells_set]; exact R0.out.set 1 (.bool true), H0.out.1.setCell (p := ⟨n0 + 1, 1, none⟩) (fun h => HE.out.2.2 (n0 + 1) (by omega) h) (.bool true)⟩
        · go_wp2_with fail
          go_ret
          exact ⟨n0 + 1, rfl, by omega, by rw [HF.out, ← bcells_set]; exact R0.out.set 1 (.bool false), H0.out.1.setCell (p := ⟨n0 + 1, 1, none⟩) (fun h => HE.out.2.2 (n0 + 1) (by omega) h) (.bool false)⟩
      · have h1' : ¬ (1 : Int) ≤ m := by omega
        rw [if_neg h1] at hA
        have HF := Lib.hid hA
        clear hA es
        go_wp2_with fail
        go_ret
        exact ⟨n0 + 1, rfl, by omega, by rw [HF.out]; exact R0.out, H0.out.1⟩
    have b2 : (t.kind == 2) = false := by simp [k2]
    by_cases k3 : t.kind = 3
    · have hA := HA.out
      rw [if_neg k1, if_neg k2, if_pos k3] at hA
      have HF := Lib.hid hA
      have b3 : (t.kind == 3) = true := by simp [k3]
      have b4 : (t.kind == 4) = false := by simp [k3]
      have b5 : (t.kind == 5) = false := by simp [k3]
      have hq := (Keep.refl (fun b => b = n0 + 1) W).setCell (p := ⟨n0 + 1, 0, none⟩) (fun _ => rfl) (.bool true)
      have R1 := Lib.hid (show At (W.setCell ⟨n0 + 1, 0, none⟩ (.bool true)) (n0 + 1) 4 (bcells (oneB0 m)) from by rw [oneB0, ← bcells_set]; exact R0.out.set 0 (.bool true))
      have K1 := Lib.hid (show Keep (fun _ => False) w (W.setCell ⟨n0 + 1, 0, none⟩ (.bool true)) from H0.out.1.setCell (p := ⟨n0 + 1, 0, none⟩) (fun h => HE.out.2.2 (n0 + 1) (by omega) h) (.bool true))
      have B1 := Lib.hid (H0.out.2.1.keep hq (fun b hb h => by omega))
      clear k1 k2 k3 hA hq
      go_upto_region 10 with fail
      change Code.wp _ _ _ _ (W.setCell ⟨n0 + 1, 0, none⟩ (.bool true))
      generalize (W.setCell ⟨n0 + 1, 0, none⟩ (.bool true)) = W1 at *
      clear z0 f0 c0 c1 c2 c3 c4 c5 c6 c7
      go_wp2_with fail
      go_loopg [5, 6] t.subs.length (fun gg u5 i wr => ∃ (k g : Nat), i = .int .i64 k ∧ k + gg = t.subs.length ∧ u5 = .slice (some ⟨g, 0, none⟩) (m + 1) (m + 1) ∧ n0 < g ∧ At wr g 4 (bcells (catB m (oneB0 m) (t.subs.take k))) ∧ Keep (fun _ => False) W1 wr)
      case atStart => exact ⟨0, n0 + 1, rfl, by omega, rfl, by omega, by rw [List.take_zero, catB]; exact R1.out, Keep.refl _ _⟩
      case round =>
        obtain ⟨k, g, rfl, hk, rfl, hg, hrow, hq⟩ := hrel
        have B2 := (B1.out.keep hq (fun _ _ h => h)).box
        obtain ⟨-, -, -, -, -, -, -, c7⟩ := B2.eight
        by_cases hlt : k < t.subs.length
        · have hlt' : (k : Int) < t.subs.length := by omega
          have i0 : (0 : Int) ≤ k := by omega
          obtain ⟨s, hs⟩ : ∃ s, t.subs[k]? = some s := ⟨t.subs[k], List.getElem?_eq_getElem hlt⟩
          obtain ⟨bl, off, a1, e1, rfl, L1, d0, d1, d2, d3, d4, d5, d6, d7⟩ := B2.sub hs
          have ht := catB_take (m := m) (acc := oneB0 m) hs
          have hcall := H0.out.2.2.1 s (HST.out s k hs) d (HE.out.1 s k hs) m hm a1 e1 wr L1
          have hl1 : (catB m (oneB0 m) (t.subs.take k)).length = m + 1 := by rw [catB_length, oneB0_length]
          have hl2 := lens_length m s
          have hgn : g < wr.heap.size := hrow.lt
          unfold IsLens at hcall
          have HQ := Lib.hid (And.intro hq (And.intro hcall (And.intro ht (And.intro hrow (And.intro hl1 hl2)))))
          clear hq hcall ht hrow B2 hs hl1 hl2 L1
          go_wp2_with fail
          refine HQ.out.2.1.mono ?_
          rintro e w2 ⟨g2, rfl, hg2, hr2, q2⟩
          have Q2 := Lib.hid (And.intro (HQ.out.1.trans q2) (And.intro (HQ.out.2.2.2.1.keep q2 (fun h => h)) hr2))
          have hw2 : wr.heap.size ≤ w2.heap.size := q2.size
          clear q2 hr2 c7 d0 d1 d2 d3 d4 d5 d6 d7
          go_wp2_with fail
          refine (fjoin_any _ _ (m + 1) HQ.out.2.2.2.2.1 HQ.out.2.2.2.2.2 (by omega) g g2 w2 Q2.out.2.1 Q2.out.2.2).mono ?_
          rintro e w3 ⟨g3, rfl, hg3, hr3, q3⟩
          rw [← HQ.out.2.2.1] at hr3
          have Q3 := Lib.hid (And.intro (Q2.out.1.trans q3) hr3)
          have hg4 : n0 < g3 := by omega
          clear q3 hr3
          go_wp2_with fail
          go_roundg (t.subs.length - (k + 1))
          case measure => omega
          case rel => exact ⟨k + 1, g3, by go_num, by omega, rfl, hg4, Q3.out.2, Q3.out.1⟩
        · have hke : k = t.subs.length := by omega
          subst hke
          rw [List.take_length, ← HF.out] at hrow
          have HQ := Lib.hid (And.intro hq hrow)
          clear hq hrow B2
          go_wp2_with fail
          go_ret
          exact ⟨g, rfl, by omega, HQ.out.2, K1.out.trans HQ.out.1⟩
    have b3 : (t.kind == 3) = false := by simp [k3]
    by_cases k4 : t.kind = 4
    · have hA := HA.out
      rw [if_neg k1, if_neg k2, if_neg k3, if_pos k4] at hA
      have HF := Lib.hid hA
      have b4 : (t.kind == 4) = true := by simp [k4]
      have b5 : (t.kind == 5) = false := by simp [k4]
      clear k1 k2 k3 k4 hA
      go_wp2_with fail
      clear z0 f0 c0 c1 c2 c3 c4 c5 c6 c7
      go_loopg [7, 8, 9] t.subs.length (fun gg i s8 s9 wr => ∃ (k : Nat), i = .int .i64 k ∧ k + gg = t.subs.length ∧ At wr (n0 + 1) 4 (bcells (altB m (noB m) (t.subs.take k))) ∧ Keep (fun b => b = n0 + 1) W wr)
      case atStart => exact ⟨0, rfl, by omega, by rw [List.take_zero, altB]; exact R0.out, Keep.refl _ _⟩
      case round =>
        obtain ⟨k, rfl, hk, hrow, hq⟩ := hrel
        have B2 := (H0.out.2.1.keep hq (fun b hb h => by omega)).box
        obtain ⟨-, -, -, -, -, -, -, c7⟩ := B2.eight
        by_cases hlt : k < t.subs.length
        · have hlt' : (k : Int) < t.subs.length := by omega
          have i0 : (0 : Int) ≤ k := by omega
          obtain ⟨s, hs⟩ : ∃ s, t.subs[k]? = some s := ⟨t.subs[k], List.getElem?_eq_getElem hlt⟩
          obtain ⟨bl, off, a1, e1, rfl, L1, d0, d1, d2, d3, d4, d5, d6, d7⟩ := B2.sub hs
          have ht := altB_take (m := m) (acc := noB m) hs
          have hcall := H0.out.2.2.1 s (HST.out s k hs) d (HE.out.1 s k hs) m hm a1 e1 wr L1
          obtain ⟨X, hX⟩ : ∃ X, altB m (noB m) (t.subs.take k) = X := ⟨_, rfl⟩
          have hl1 : X.length = m + 1 := by rw [← hX, altB_length, noB_length]
          have hl2 := lens_length m s
          unfold IsLens at hcall
          obtain ⟨Y, hY⟩ : ∃ Y, lens m s = Y := ⟨_, rfl⟩
          rw [hX] at ht hrow
          rw [hY] at ht hcall hl2
          have hgn : n0 + 1 < wr.heap.size := hrow.lt
          have HQ := Lib.hid (And.intro hq (And.intro hcall (And.intro ht (And.intro hrow (And.intro hl1 hl2)))))
          clear hq hcall ht hrow B2 hs hl1 hl2 L1 hX hY
          go_wp2_with fail
          refine HQ.out.2.1.mono ?_
          rintro e w2 ⟨g2, rfl, hg2, hr2, q2⟩
          have Q2 := Lib.hid (And.intro (HQ.out.1.trans (q2.mono (fun _ h => h.elim))) (And.intro (HQ.out.2.2.2.1.keep q2 (fun h => h)) hr2))
          clear q2 hr2 c7 d0 d1 d2 d3 d4 d5 d6 d7
          go_wp2_with fail
          go_loopg [9] (m + 1) (fun gg s9 wx => ∃ j : Nat, s9 = .int .i64 j ∧ j + gg = m + 1 ∧ At wx (n0 + 1) 4 (bcells (OP X Y j)) ∧ Keep (fun b => b = n0 + 1) w2 wx)
          case atStart => exact ⟨0, rfl, by omega, by rw [OP_start]; exact Q2.out.2.1, Keep.refl _ _⟩
          case round =>
            obtain ⟨j, rfl, hj, hrow, hq⟩ := hrel
            have j0 : (0 : Int) ≤ j := by omega
            by_cases hin : j ≤ m
            · have hin' : (j : Int) ≤ m := by omega
              have e0 := hrow.cell (bcells_get (OP_at X Y (i := j) (by rw [HQ.out.2.2.2.2.1]; omega)))
              have f0 := hrow.frozen j
              have e2 := (Q2.out.2.2.keep hq (by omega)).cell (bcells_get (getD_get (L := Y) (k := j) (by rw [HQ.out.2.2.2.2.2]; omega)))
              have hset := hrow.set j (.bool (X.getD j false || Y.getD j false))
              rw [bcells_set, ← OP_step X Y (i := j) (by rw [HQ.out.2.2.2.2.1]; omega)] at hset
              have hqs := hq.setCell (p := ⟨n0 + 1, j, none⟩) (fun _ => rfl) (.bool (X.getD j false || Y.getD j false))
              obtain ⟨x, hx⟩ : ∃ x, X.getD j false = x := ⟨_, rfl⟩
              obtain ⟨y, hy⟩ : ∃ y, Y.getD j false = y := ⟨_, rfl⟩
              rw [hx, hy] at hset hqs
              rw [hx] at e0
              rw [hy] at e2
              have HS := Lib.hid (And.intro hset hqs)
              clear hset hqs hx hy hrow hq
              cases x <;> cases y
              all_goals
                go_wp2_with fail
                go_roundg (m + 1 - (j + 1))
                case measure => omega
                case rel => exact ⟨j + 1, by go_num, by omega, HS.out.1, HS.out.2⟩
            · have hin' : ¬ (j : Int) ≤ m := by omega
              have hjm : j = m + 1 := by omega
              have ho : OP X Y j = altB m (noB m) (t.subs.take (k + 1)) := by
                rw [HQ.out.2.2.1]
                unfold orB
                rw [HQ.out.2.2.2.2.1, hjm]
              rw [ho] at hrow
              have HS := Lib.hid (And.intro hrow (Q2.out.1.trans hq))
              clear hrow hq ho
              go_wp2_with fail
              go_roundg (t.subs.length - (k + 1))
              case measure => omega
              case rel => exact ⟨k + 1, by go_num, by omega, HS.out.1, HS.out.2⟩
        · have hke : k = t.subs.length := by omega
          subst hke
          rw [List.take_length, ← HF.out] at hrow
          have HQ := Lib.hid (And.intro hq hrow)
          clear hq hrow B2
          go_wp2_with fail
          go_ret
          exact ⟨n0 + 1, rfl, by omega, HQ.out.2, H0.out.1.next HQ.out.1 (fun b hb hl => HE.out.2.2 b (by omega) hl)⟩
    have b4 : (t.kind == 4) = false := by simp [k4]
    have k5 : ¬ t.kind = 5 := HK.out
    have b5 : (t.kind == 5) = false := by simp [k5]
    have hA := HA.out
    rw [if_neg k1, if_neg k2, if_neg k3, if_neg k4, if_neg k5] at hA
    have HF := Lib.hid hA
    clear k1 k2 k3 k4 k5 hA
    go_wp2_with fail
    go_ret
    exact ⟨n0 + 1, rfl, by omega, by rw [HF.out]; exact R0.out, H0.out.1⟩
end Go.Proofs.Ytblijgcfelnlmaa.P09
