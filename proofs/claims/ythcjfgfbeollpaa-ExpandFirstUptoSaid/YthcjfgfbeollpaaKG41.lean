/- The code's bytesOf, then, or, repeated, length (layer 9). -/
import Derived.Test.YthcjfgfbeollpaaKG33
import Derived.Test.YthcjfgfbeollpaaKG05
import Derived.Test.YthcjfgfbeollpaaKG11
import Derived.Deep.DeepCutAuto
import Derived.Deep.CutBlock
import Derived.Test.YthcjfgfbeollpaaKG29
import Derived.Test.YthcjfgfbeollpaaKG34
import Derived.Test.YthcjfgfbeollpaaKG37
import Derived.Test.YthcjfgfbeollpaaKG31
import Derived.Test.YthcjfgfbeollpaaKG16
import Derived.Test.YthcjfgfbeollpaaKG15
import Derived.Test.YthcjfgfbeollpaaKG25
import Derived.Lib.AppendZeros
import Derived.Maps.AppendAt
namespace Go.Proofs.Ythcjfgfbeollpaa.P09
open Go.RowKit Go.Proofs.Ythcjfgfbeollpaa.Base Go.Proofs.Ythcjfgfbeollpaa.Bytes Go.Proofs.Ythcjfgfbeollpaa.P07 Go.Proofs.Ythcjfgfbeollpaa.P08
open Go.Proofs.Ythcjfgfbeollpaa.Sets (ST)

@[reducible] def xcells (x : TX) : Array Value := #[.bool x.none, .bool x.endless, .int .u64 x.first.x0, .int .u64 x.first.x1, .int .u64 x.first.x2, .int .u64 x.first.x3, .int .i64 x.least, .int .i64 x.most]
@[reducible] def xV (x : TX) : Value := .agg (xcells x)
@[reducible] def xzeros : Array Value := #[.bool false, .bool false, .int .u64 0, .int .u64 0, .int .u64 0, .int .u64 0, .int .i64 0, .int .i64 0]
/-- Length's answer. -/
def TX.len (x : TX) : Int × Int := if x.none = true then (-1, -1) else if x.endless = true then (x.least, -1) else (x.least, x.most)
end Go.Proofs.Ythcjfgfbeollpaa.P09
/- The code's exported measures (layer 9): Size, Wide, Nullable, First, Length, None. -/
namespace Go.Proofs.Ythcjfgfbeollpaa.P09
open Go.RowKit Go.Proofs.Ythcjfgfbeollpaa.Base Go.Proofs.Ythcjfgfbeollpaa.Bytes Go.Proofs.Ythcjfgfbeollpaa.P07 Go.Proofs.Ythcjfgfbeollpaa.P08
open Go.Proofs.Ythcjfgfbeollpaa.Sets (ST)

set_option maxRecDepth 100000 in
set_option maxHeartbeats 2000000 in
theorem mwide_any (t : T) (hs : SOk t)  (a : Option Addr) (c : Nat) (w : World) (hL : Lie w (fun _ => True) a t.subs) :
    Calls Try.prog 54 #[nodeV t a c] w fun e w' => e = .returned (if rightB t = true then .int .i64 (wd t) else .int .i64 0) ∧ Keep (fun _ => False) w w' := by
  have q := (Keep.refl (fun _ => False) w).alloc (.cells (ncells t a c) 27)
  have H0 := Lib.hid (And.intro (Bx.new (c := c) hL) (And.intro q (And.intro hs trivial)))
  clear hL q hs 
  cases hr : rightB t
  all_goals
    have HR := Lib.hid hr
    clear hr
    go_enter Try.func54, Try.ntmps54
    go_upto_region 1 with fail
    generalize (w.alloc (.cells (ncells t a c) 27)) = W at *
    obtain ⟨c0, c1, c2, c3, c4, c5, c6, c7⟩ := H0.out.1.eight
    go_wp2_with fail
    refine (cRight_any t H0.out.2.2.1 a c W H0.out.1.lie).mono ?_
    rintro e w1 ⟨rfl, q1⟩
    rw [HR.out]
    have H1 := Lib.hid (And.intro (H0.out.1.keep q1) (H0.out.2.1.trans q1))
    clear q1 c0 c1 c2 c3 c4 c5 c6 c7
  · go_wp2_with fail
    go_ret
    exact ⟨rfl, H1.out.2⟩
  · have hR := (rightB_iff H0.out.2.2.1).1 HR.out
    have HC := Lib.hid (cwide_all _ t (Nat.lt_succ_self _) 12 hR w.heap.size 0 a c w1 (NodeP.of_at H1.out.1.cell) H1.out.1.lie)
    clear hR
    go_wp2_with fail
    refine HC.out.mono ?_
    rintro e w2 ⟨rfl, q2⟩
    have Q2 := Lib.hid (H1.out.2.trans q2)
    clear q2
    go_wp2_with fail
    go_ret
    exact ⟨rfl, Q2.out⟩

end Go.Proofs.Ythcjfgfbeollpaa.P09
/- The document's Nullable and First (layer 9), of right expressions. -/
namespace Go.Proofs.Ythcjfgfbeollpaa.P09
open Go.RowKit Go.Proofs.Ythcjfgfbeollpaa.Base Go.Proofs.Ythcjfgfbeollpaa.Bytes Go.Proofs.Ythcjfgfbeollpaa.P07 Go.Proofs.Ythcjfgfbeollpaa.P08 Go.Proofs.Ythcjfgfbeollpaa.IL
open Go.Proofs.Ythcjfgfbeollpaa.Sets (ST)

set_option maxRecDepth 100000 in
set_option maxHeartbeats 2000000 in
theorem fnull_any (t : T) (d : Nat) (hR : RT d t) (a : Option Addr) (c : Nat) (w : World) (hL : Lie w (fun _ => True) a t.subs) : Calls Try.prog 61 #[nodeV t a c] w fun e w' => e = .returned (.bool (nullB t)) ∧ Keep (fun _ => False) w w' := by
  have q := (Keep.refl (fun _ => False) w).alloc (.cells (ncells t a c) 27)
  have hl := lens_length 0 t
  obtain ⟨x, hx⟩ : ∃ x, lens 0 t = [x] := by
    match lens 0 t, hl with
    | [x], _ => exact ⟨x, rfl⟩
  have hv : nullB t = x := by unfold nullB; rw [hx]; rfl
  have H0 := Lib.hid (And.intro (Bx.new (c := c) hL) (And.intro q (And.intro hR hx)))
  rw [hv]
  clear hL q hR hl hx hv
  go_enter Try.func61, Try.ntmps61
  go_upto_region 1 with fail
  generalize (w.alloc (.cells (ncells t a c) 27)) = W at *
  obtain ⟨c0, c1, c2, c3, c4, c5, c6, c7⟩ := H0.out.1.eight
  have hcall := flens_all _ t (Nat.lt_succ_self _) d H0.out.2.2.1 0 (by decide) a c W H0.out.1.lie
  have HC := Lib.hid hcall
  clear hcall
  go_wp2_with fail
  refine HC.out.mono ?_
  rintro e w1 ⟨g, rfl, hg, hat, q1⟩
  rw [H0.out.2.2.2] at hat
  have k0 := hat.cell (o := 0) (v := .bool x) rfl
  have Q1 := Lib.hid (H0.out.2.1.trans q1)
  clear hat q1 c0 c1 c2 c3 c4 c5 c6 c7
  go_wp2_with fail
  go_ret
  exact ⟨rfl, Q1.out⟩

/-- The bytes of a set, as a list. -/
def lstN (p : Nat → Bool) : Nat → List Nat
  | 0 => []
  | k + 1 => if p k then lstN p k ++ [k] else lstN p k
theorem lstN_ints (p : Nat → Bool) : ∀ k, Bytes.lst p k = ints (lstN p k)
  | 0 => rfl
  | k + 1 => by
    rw [Bytes.lst, lstN]
    split
    · rw [lstN_ints p k]
      unfold ints
      rw [List.map_append]
      rfl
    · exact lstN_ints p k
theorem lstN_mem (p : Nat → Bool) : ∀ k (x : Nat), x ∈ lstN p k ↔ x < k ∧ p x = true
  | 0, x => by simp [lstN]
  | k + 1, x => by
    rw [lstN]
    split
    · rename_i h
      rw [List.mem_append, lstN_mem p k]
      simp only [List.mem_singleton]
      constructor
      · rintro (⟨h1, h2⟩ | h1)
        · exact ⟨by omega, h2⟩
        · subst h1
          exact ⟨by omega, h⟩
      · rintro ⟨h1, h2⟩
        rcases Nat.lt_or_ge x k with h3 | h3
        · exact .inl ⟨h3, h2⟩
        · exact .inr (by omega)
    · rename_i h
      rw [lstN_mem p k]
      constructor
      · rintro ⟨h1, h2⟩
        exact ⟨by omega, h2⟩
      · rintro ⟨h1, h2⟩
        refine ⟨?_, h2⟩
        rcases Nat.lt_or_ge x k with h3 | h3
        · exact h3
        · have : x = k := by omega
          subst this
          exact absurd h2 h
theorem lstN_length (p : Nat → Bool) : ∀ k, (lstN p k).length ≤ k
  | 0 => by simp [lstN]
  | k + 1 => by
    have := lstN_length p k
    rw [lstN]
    split
    · rw [List.length_append, List.length_singleton]
      omega
    · omega
theorem mk_lstN {s : ST} (hs : s.Ok) : mkS (lstN s.has 256) = s := by
  refine ST.ext (mk_ok _ _ rfl) hs (fun b hb => ?_)
  rw [mk_has b hb _ _ rfl, Bool.eq_iff_iff, decide_eq_true_iff, lstN_mem]
  exact ⟨fun h => h.2, fun h => ⟨hb, h⟩⟩

/-- A list of bytes of the program's own, that was not there in the world b, which make the set S. -/
structure Fb (b w : World) (v : Value) (S : ST) (n : Nat) : Prop where
  q : Keep (fun _ => False) b w
  far : ∀ g, v.ownBlock = some g → b.heap.size ≤ g
  il : ∃ L : List Nat, IL w v (ints L) ∧ (∀ x ∈ L, x < 256) ∧ L.length ≤ 256 * n ∧ mkS L = S
theorem Fb.keep {b w w' : World} {v : Value} {S : ST} {n : Nat} (h : Fb b w v S n) (k : Keep (fun _ => False) w w') : Fb b w' v S n := by
  obtain ⟨L, h1, h2⟩ := h.il
  exact ⟨h.q.trans k, h.far, L, h1.keep k (fun _ _ h => h), h2⟩
theorem Fb.nil (b : World) : Fb b b (.slice none 0 0) .none 0 := ⟨Keep.refl _ _, fun g hg => (by cases hg), [], IL.nil b, by simp, by simp, rfl⟩
theorem Fb.append {b w : World} {v : Value} {S : ST} {n : Nat} (h : Fb b w v S n) {s : ST} (hs : s.Ok) (hn : n ≤ 8190) {v2 : Value} (hi : IL w v2 (Bytes.lst s.has 256)) (ty : TypeId) :
    ∃ v' w', (Builtin.append_ #[38, 38] ty #[v, v2]).run Try.prog w = .ok v' w' ∧ Fb b w' v' (S.or s) (n + 1) := by
  obtain ⟨L, h1, h2, h3, h4⟩ := h.il
  obtain ⟨a2, cap2, rfl, hc⟩ := hi.form
  have hlN := lstN_length s.has 256
  have hlen : (Bytes.lst s.has 256).length = (lstN s.has 256).length := by rw [lstN_ints]; unfold ints; rw [List.length_map]
  obtain ⟨v', w', hrun, g1, g2, g3⟩ := h1.append (Bytes.lst s.has 256) a2 cap2 (fun j x hx => by
    obtain ⟨g, -, e, hcell⟩ := hc j x hx
    refine ⟨⟨g, 0, none⟩, e, ?_⟩
    rw [show (⟨g, 0, none⟩ : Addr).add j = ⟨g, j, none⟩ from by
      unfold Addr.add
      split
      · rename_i hz
        rw [hz]
      · simp]
    exact hcell) (by unfold ints; rw [List.length_map, hlen]; omega) ty
  refine ⟨v', w', hrun, h.q.next g2 (fun i hh hi => by have := h.far i hh; omega), fun g hg => ?_, L ++ lstN s.has 256, ?_, ?_, ?_, ?_⟩
  · rcases g3 g hg with h5 | h5
    · exact h.far g h5
    · exact Nat.le_trans h.q.size h5
  · rw [lstN_ints] at g1
    unfold ints at g1 ⊢
    rw [List.map_append]
    exact g1
  · intro x hx
    rcases List.mem_append.1 hx with h5 | h5
    · exact h2 x h5
    · exact ((lstN_mem _ _ _).1 h5).1
  · rw [List.length_append]
    omega
  · rw [mk_append, h4, mk_lstN hs]
theorem Fb.set {b w : World} {v : Value} {S : ST} {n : Nat} (h : Fb b w v S n) (hn : n ≤ 8190) : Calls Try.prog 62 #[v] w fun e w' => e = .returned (val S) ∧ Keep (fun _ => False) w w' := by
  obtain ⟨L, h1, h2, h3, h4⟩ := h.il
  rw [← h4]
  exact set_is L h2 (by omega) v w h1
theorem first_ok {t : T} {d : Nat} (hR : RT d t) : (firstS t).Ok := by
  rw [← tx_first t d hR]
  exact (tx_in t d hR).ok
end Go.Proofs.Ythcjfgfbeollpaa.P09
/- The document's First (layer 9), of right expressions: the whole. -/
namespace Go.Proofs.Ythcjfgfbeollpaa.P09
open Go.RowKit Go.Proofs.Ythcjfgfbeollpaa.Base Go.Proofs.Ythcjfgfbeollpaa.Bytes Go.Proofs.Ythcjfgfbeollpaa.P07 Go.Proofs.Ythcjfgfbeollpaa.P08 Go.Proofs.Ythcjfgfbeollpaa.IL
open Go.Proofs.Ythcjfgfbeollpaa.Sets (ST)

theorem len_cntL : ∀ L : List T, L.length ≤ cntL L
  | [] => by simp
  | t :: L => by
    rw [cntL, List.length_cons]
    have := len_cntL L
    have := cnt_pos t
    omega
def FirstOk (t : T) : Prop := cnt t ≤ 8100 → ∀ (d : Nat), RT d t → ∀ (a : Option Addr) (c : Nat) (w : World), Lie w (fun _ => True) a t.subs → Calls Try.prog 26 #[nodeV t a c] w fun e w' => e = .returned (val (firstS t)) ∧ Keep (fun _ => False) w w'
/-- The node's box, the result's. -/
structure Fi (w : World) (n0 : Nat) (t : T) (a : Option Addr) (c : Nat) (W : World) : Prop where
  bx : Bx W n0 t a c
  out : At W (n0 + 1) 24 Bytes.zeros
  q : Keep (fun _ => False) w W
theorem Fi.keep {w : World} {n0 : Nat} {t : T} {a : Option Addr} {c : Nat} {W W' : World} (h : Fi w n0 t a c W) (k : Keep (fun _ => False) W W') : Fi w n0 t a c W' := ⟨h.bx.keep k, h.out.keep k (fun h => h), h.q.trans k⟩
theorem Fi.start (w : World) (t : T) (a : Option Addr) (c : Nat) (hL : Lie w (fun _ => True) a t.subs) : Fi w w.heap.size t a c ((w.alloc (.cells (ncells t a c) 27)).alloc (.cells Bytes.zeros 24)) := by
  have q := ((Keep.refl (fun _ => False) w).alloc (.cells (ncells t a c) 27)).alloc (.cells Bytes.zeros 24)
  have a1 := At.new (w.alloc (.cells (ncells t a c) 27)) Bytes.zeros 24
  rw [show (w.alloc (.cells (ncells t a c) 27)).heap.size = w.heap.size + 1 from by simp] at a1
  exact ⟨(Bx.new (c := c) hL).keep ((Keep.refl (fun _ => False) _).alloc _), a1, q⟩

set_option maxRecDepth 100000 in
set_option maxHeartbeats 8000000 in
theorem ffirst_step (n : Nat) (ih : ∀ t : T, SizeOf.sizeOf t < n → FirstOk t) (t : T) (h : SizeOf.sizeOf t < n + 1) : FirstOk t := fun hc d hR a c w hL => by
  have hlen : t.subs.length ≤ 8100 := by
    have h1 := len_cntL t.subs
    have h2 := cnt_eq t
    omega
  have H0 := Lib.hid (Fi.start w t a c hL)
  have e := firstS_eq t
  have HK := Lib.hid (And.intro hR (And.intro ih (And.intro h (And.intro hc (cnt_eq t)))))
  have hnc := fun W (hL : Lie W (fun _ => True) a t.subs) => fnone_any t d hR a c W hL
  obtain ⟨A, hA⟩ : ∃ A, firstS t = A := ⟨_, rfl⟩
  obtain ⟨N, hN⟩ : ∃ N, noneB t = N := ⟨_, rfl⟩
  rw [hN] at hnc e
  rw [hA] at e ⊢
  have HC := Lib.hid (And.intro hnc (And.intro e (first_ok hR)))
  have hks := kinds hR
  clear hL e hnc hA hN hR ih h hc
  go_enter Try.func26, Try.ntmps26
  go_upto_region 1 with fail
  generalize ((w.alloc (.cells (ncells t a c) 27)).alloc (.cells Bytes.zeros 24)) = W at *
  obtain ⟨c0, c1, c2, c3, c4, c5, c6, c7⟩ := H0.out.bx.eight
  go_wp2_with fail
  refine (HC.out.1 W H0.out.bx.lie).mono ?_
  rintro e w1 ⟨rfl, q1⟩
  have H1 := Lib.hid (H0.out.keep q1)
  clear q1 c0 c1 c2 c3 c4 c5 c6 c7
  have hA := HC.out.2.1
  cases N with
  | true =>
    rw [if_pos rfl] at hA
    subst hA
    obtain ⟨⟨y0, y1, y2, y3⟩, f0, f1, f2, f3⟩ := cells4 (H1.out.out)
    go_wp2_with fail
    have a9 := set4 (H1.out.out) (.int .u64 (ST.none).x0) (.int .u64 (ST.none).x1) (.int .u64 (ST.none).x2) (.int .u64 (ST.none).x3)
    have q9 := keep4 (H1.out.q) (b := w.heap.size + 1) (fun h => absurd h (by omega)) (.int .u64 (ST.none).x0) (.int .u64 (ST.none).x1) (.int .u64 (ST.none).x2) (.int .u64 (ST.none).x3)
    change bodyPost _ _ _ _ _ ((((w1.setCell ⟨w.heap.size + 1, 0, none⟩ (.int .u64 (ST.none).x0)).setCell ⟨w.heap.size + 1, 1, none⟩ (.int .u64 (ST.none).x1)).setCell ⟨w.heap.size + 1, 2, none⟩ (.int .u64 (ST.none).x2)).setCell ⟨w.heap.size + 1, 3, none⟩ (.int .u64 (ST.none).x3))
    generalize World.setCell _ _ _ = W9 at *
    obtain ⟨⟨z0, z1, z2, z3⟩, -⟩ := cells4 a9
    exact bodyPost_ret (v := val (ST.none)) (by simp [results, Try.results26, go_sem, z0, z1, z2, z3]) rfl ⟨rfl, q9⟩
  | false =>
    rw [if_neg (by decide)] at hA
    obtain ⟨c0, c1, c2, c3, c4, c5, c6, c7⟩ := H1.out.bx.eight
    by_cases k2 : t.kind = 2
    · rw [if_pos k2] at hA
      have HA := Lib.hid hA
      have b2 : (t.kind == 2) = true := by simp [k2]
      clear k2 hA
      obtain ⟨⟨y0, y1, y2, y3⟩, f0, f1, f2, f3⟩ := cells4 (H1.out.out)
      go_wp2_with fail
      have a9 := set4 (H1.out.out) (.int .u64 (t.set).x0) (.int .u64 (t.set).x1) (.int .u64 (t.set).x2) (.int .u64 (t.set).x3)
      have q9 := keep4 (H1.out.q) (b := w.heap.size + 1) (fun h => absurd h (by omega)) (.int .u64 (t.set).x0) (.int .u64 (t.set).x1) (.int .u64 (t.set).x2) (.int .u64 (t.set).x3)
      change bodyPost _ _ _ _ _ ((((w1.setCell ⟨w.heap.size + 1, 0, none⟩ (.int .u64 (t.set).x0)).setCell ⟨w.heap.size + 1, 1, none⟩ (.int .u64 (t.set).x1)).setCell ⟨w.heap.size + 1, 2, none⟩ (.int .u64 (t.set).x2)).setCell ⟨w.heap.size + 1, 3, none⟩ (.int .u64 (t.set).x3))
      generalize World.setCell _ _ _ = W9 at *
      obtain ⟨⟨z0, z1, z2, z3⟩, -⟩ := cells4 a9
      exact bodyPost_ret (v := val (t.set)) (by simp [results, Try.results26, go_sem, z0, z1, z2, z3]) rfl ⟨by rw [HA.out], q9⟩
    have b2 : (t.kind == 2) = false := by simp [k2]
    rw [if_neg k2] at hA
    by_cases k3 : t.kind = 3
    · rw [if_pos k3] at hA
      have HA := Lib.hid hA
      have b3 : (t.kind == 3) = true := by simp [k3]
      have b4 : (t.kind == 4) = false := by simp [k3]
      have b5 : (t.kind == 5) = false := by simp [k3]
      clear k2 k3 hA c1 c2 c3 c4 c5 c6 c7
      go_wp2_with fail
      clear c0
      go_loopg [3, 4] t.subs.length (fun gg u0 i wr => ∃ (k : Nat) (u : Value) (S : ST), i = .int .i64 k ∧ k + gg = t.subs.length ∧ u0 = u ∧ Fb w1 wr u S k ∧ catF S (t.subs.drop k) = A)
      case atStart => exact ⟨0, _, _, rfl, by omega, rfl, Fb.nil w1, by rw [List.drop_zero]; exact HA.out.symm⟩
      case round =>
        obtain ⟨k, u, S, rfl, hk, hu, hfb, hcat⟩ := hrel
        subst hu
        have I1 := Lib.hid (H1.out.keep hfb.q)
        obtain ⟨-, -, -, -, -, -, -, c7⟩ := I1.out.bx.eight
        by_cases hlt : k < t.subs.length
        · have hlt' : (k : Int) < t.subs.length := by omega
          have i0 : (0 : Int) ≤ k := by omega
          obtain ⟨s, hs⟩ : ∃ s, t.subs[k]? = some s := ⟨t.subs[k], List.getElem?_eq_getElem hlt⟩
          obtain ⟨bl, off, a1, e1, rfl, L1, d0, d1, d2, d3, d4, d5, d6, d7⟩ := I1.out.bx.sub hs
          have hsl := sub_less hs
          have hRs := sub_RT HK.out.1 hs
          have hcall := HK.out.2.1 s (by have := HK.out.2.2.1; omega) (by have h1 := HK.out.2.2.2.1; have h2 := HK.out.2.2.2.2; have h3 := cntL_le hs; omega) d hRs a1 e1 wr L1
          rw [catF_at hs] at hcat
          have hnl := fun a1 e1 W hL => fnull_any s d hRs a1 e1 W hL
          have hok := first_ok hRs
          obtain ⟨Y, hY⟩ : ∃ Y, firstS s = Y := ⟨_, rfl⟩
          obtain ⟨E, hE⟩ : ∃ E, nullB s = E := ⟨_, rfl⟩
          rw [hY] at hcall hcat hok
          rw [hE] at hnl hcat
          have HQ := Lib.hid (And.intro hfb (And.intro hcall (And.intro hcat (And.intro hnl (And.intro hok L1)))))
          have HQs := Lib.hid hs
          clear hfb hcall hcat hnl hok hY hE hs hRs L1
          go_wp2_with fail
          refine HQ.out.2.1.mono ?_
          rintro e w2 ⟨rfl, q2⟩
          have Q2 := Lib.hid q2
          clear q2 c7 d0 d1 d2 d3 d4 d5 d6 d7
          go_wp2_with fail
          refine (list_any Y w2).mono ?_
          rintro e w3 ⟨v2, rfl, hil, hfar, q3⟩
          have hq3 := Q2.out.trans q3
          obtain ⟨v', w4, hrun, hfb4⟩ := (HQ.out.1.keep hq3).append HQ.out.2.2.2.2.1 (by omega) hil 38
          have H4 := Lib.hid hfb4
          clear hil hfar q3 hq3 hfb4
          have hL4 := Lib.hid (H1.out.keep H4.out.q)
          obtain ⟨-, -, -, -, -, -, -, c7⟩ := hL4.out.bx.eight
          obtain ⟨bl', off', a1', e1', ea, L1', d0, d1, d2, d3, d4, d5, d6, d7⟩ := hL4.out.bx.sub HQs.out
          cases ea
          have HL1 := Lib.hid (HQ.out.2.2.2.1 a1' e1' w4 L1')
          clear L1'
          go_wp2_with (at_builtin; refine Lib.wpList_append_run _ rfl _ _ _ _ rfl _ _ rfl rfl _ _ hrun ?_)
          clear hrun
          refine HL1.out.mono ?_
          rintro e w5 ⟨rfl, q5⟩
          have H5 := Lib.hid (And.intro (H4.out.keep q5) (hL4.out.keep q5))
          clear q5 c7 d0 d1 d2 d3 d4 d5 d6 d7
          have hcat := HQ.out.2.2.1
          cases E with
          | true =>
            rw [if_pos rfl] at hcat
            have HCT := Lib.hid hcat
            clear hcat
            go_wp2_with fail
            go_roundg (t.subs.length - (k + 1))
            case measure => omega
            case rel => exact ⟨k + 1, v', _, by go_num, by omega, rfl, H5.out.1, HCT.out⟩
          | false =>
            rw [if_neg (by decide)] at hcat
            have HCT := Lib.hid hcat
            clear hcat
            go_wp2_with fail
            refine (H5.out.1.set (by omega)).mono ?_
            rintro e w9 ⟨rfl, q9⟩
            rw [HCT.out]
            have I9 := Lib.hid (H5.out.2.keep q9)
            clear q9
            obtain ⟨⟨y0, y1, y2, y3⟩, f0, f1, f2, f3⟩ := cells4 (I9.out.out)
            go_wp2_with fail
            have a9 := set4 (I9.out.out) (.int .u64 (A).x0) (.int .u64 (A).x1) (.int .u64 (A).x2) (.int .u64 (A).x3)
            have q9 := keep4 (I9.out.q) (b := w.heap.size + 1) (fun h => absurd h (by omega)) (.int .u64 (A).x0) (.int .u64 (A).x1) (.int .u64 (A).x2) (.int .u64 (A).x3)
            change bodyPost _ _ _ _ _ ((((w9.setCell ⟨w.heap.size + 1, 0, none⟩ (.int .u64 (A).x0)).setCell ⟨w.heap.size + 1, 1, none⟩ (.int .u64 (A).x1)).setCell ⟨w.heap.size + 1, 2, none⟩ (.int .u64 (A).x2)).setCell ⟨w.heap.size + 1, 3, none⟩ (.int .u64 (A).x3))
            generalize World.setCell _ _ _ = W9 at *
            obtain ⟨⟨z0, z1, z2, z3⟩, -⟩ := cells4 a9
            exact bodyPost_ret (v := val (A)) (by simp [results, Try.results26, go_sem, z0, z1, z2, z3]) rfl ⟨rfl, q9⟩

        · have hke : k = t.subs.length := by omega
          subst hke
          rw [List.drop_length, catF] at hcat
          have HQ := Lib.hid (And.intro hfb hcat)
          clear hfb hcat
          go_wp2_with fail
          refine (HQ.out.1.set (by omega)).mono ?_
          rintro e w9 ⟨rfl, q9⟩
          rw [HQ.out.2]
          have I9 := Lib.hid (I1.out.keep q9)
          clear q9 c7
          obtain ⟨⟨y0, y1, y2, y3⟩, f0, f1, f2, f3⟩ := cells4 (I9.out.out)
          go_wp2_with fail
          have a9 := set4 (I9.out.out) (.int .u64 (A).x0) (.int .u64 (A).x1) (.int .u64 (A).x2) (.int .u64 (A).x3)
          have q9 := keep4 (I9.out.q) (b := w.heap.size + 1) (fun h => absurd h (by omega)) (.int .u64 (A).x0) (.int .u64 (A).x1) (.int .u64 (A).x2) (.int .u64 (A).x3)
          change bodyPost _ _ _ _ _ ((((w9.setCell ⟨w.heap.size + 1, 0, none⟩ (.int .u64 (A).x0)).setCell ⟨w.heap.size + 1, 1, none⟩ (.int .u64 (A).x1)).setCell ⟨w.heap.size + 1, 2, none⟩ (.int .u64 (A).x2)).setCell ⟨w.heap.size + 1, 3, none⟩ (.int .u64 (A).x3))
          generalize World.setCell _ _ _ = W9 at *
          obtain ⟨⟨z0, z1, z2, z3⟩, -⟩ := cells4 a9
          exact bodyPost_ret (v := val (A)) (by simp [results, Try.results26, go_sem, z0, z1, z2, z3]) rfl ⟨rfl, q9⟩
    have b3 : (t.kind == 3) = false := by simp [k3]
    rw [if_neg k3] at hA
    by_cases k4 : t.kind = 4
    · rw [if_pos k4] at hA
      have HA := Lib.hid hA
      have b4 : (t.kind == 4) = true := by simp [k4]
      have b5 : (t.kind == 5) = false := by simp [k4]
      clear k2 k3 k4 hA c1 c2 c3 c4 c5 c6 c7
      go_wp2_with fail
      clear c0
      go_loopg [3, 5] t.subs.length (fun gg u0 i wr => ∃ (k : Nat) (u : Value) (S : ST), i = .int .i64 k ∧ k + gg = t.subs.length ∧ u0 = u ∧ Fb w1 wr u S k ∧ altF S (t.subs.drop k) = A)
      case atStart => exact ⟨0, _, _, rfl, by omega, rfl, Fb.nil w1, by rw [List.drop_zero]; exact HA.out.symm⟩
      case round =>
        obtain ⟨k, u, S, rfl, hk, hu, hfb, hcat⟩ := hrel
        subst hu
        have I1 := Lib.hid (H1.out.keep hfb.q)
        obtain ⟨-, -, -, -, -, -, -, c7⟩ := I1.out.bx.eight
        by_cases hlt : k < t.subs.length
        · have hlt' : (k : Int) < t.subs.length := by omega
          have i0 : (0 : Int) ≤ k := by omega
          obtain ⟨s, hs⟩ : ∃ s, t.subs[k]? = some s := ⟨t.subs[k], List.getElem?_eq_getElem hlt⟩
          obtain ⟨bl, off, a1, e1, rfl, L1, d0, d1, d2, d3, d4, d5, d6, d7⟩ := I1.out.bx.sub hs
          have hsl := sub_less hs
          have hRs := sub_RT HK.out.1 hs
          have hcall := HK.out.2.1 s (by have := HK.out.2.2.1; omega) (by have h1 := HK.out.2.2.2.1; have h2 := HK.out.2.2.2.2; have h3 := cntL_le hs; omega) d hRs a1 e1 wr L1
          rw [altF_at hs] at hcat
          have hok := first_ok hRs
          obtain ⟨Y, hY⟩ : ∃ Y, firstS s = Y := ⟨_, rfl⟩
          rw [hY] at hcall hcat hok
          have HQ := Lib.hid (And.intro hfb (And.intro hcall (And.intro hcat hok)))
          clear hfb hcall hcat hok hY hs hRs L1
          go_wp2_with fail
          refine HQ.out.2.1.mono ?_
          rintro e w2 ⟨rfl, q2⟩
          have Q2 := Lib.hid q2
          clear q2 c7 d0 d1 d2 d3 d4 d5 d6 d7
          go_wp2_with fail
          refine (list_any Y w2).mono ?_
          rintro e w3 ⟨v2, rfl, hil, hfar, q3⟩
          have hq3 := Q2.out.trans q3
          obtain ⟨v', w4, hrun, hfb4⟩ := (HQ.out.1.keep hq3).append HQ.out.2.2.2 (by omega) hil 38
          have H4 := Lib.hid hfb4
          clear hil hfar q3 hq3 hfb4
          go_wp2_with (at_builtin; refine Lib.wpList_append_run _ rfl _ _ _ _ rfl _ _ rfl rfl _ _ hrun ?_)
          clear hrun
          go_wp2_with fail
          go_roundg (t.subs.length - (k + 1))
          case measure => omega
          case rel => exact ⟨k + 1, v', _, by go_num, by omega, rfl, H4.out, HQ.out.2.2.1⟩
        · have hke : k = t.subs.length := by omega
          subst hke
          rw [List.drop_length, altF] at hcat
          have HQ := Lib.hid (And.intro hfb hcat)
          clear hfb hcat
          go_wp2_with fail
          refine (HQ.out.1.set (by omega)).mono ?_
          rintro e w9 ⟨rfl, q9⟩
          rw [HQ.out.2]
          have I9 := Lib.hid (I1.out.keep q9)
          clear q9 c7
          obtain ⟨⟨y0, y1, y2, y3⟩, f0, f1, f2, f3⟩ := cells4 (I9.out.out)
          go_wp2_with fail
          have a9 := set4 (I9.out.out) (.int .u64 (A).x0) (.int .u64 (A).x1) (.int .u64 (A).x2) (.int .u64 (A).x3)
          have q9 := keep4 (I9.out.q) (b := w.heap.size + 1) (fun h => absurd h (by omega)) (.int .u64 (A).x0) (.int .u64 (A).x1) (.int .u64 (A).x2) (.int .u64 (A).x3)
          change bodyPost _ _ _ _ _ ((((w9.setCell ⟨w.heap.size + 1, 0, none⟩ (.int .u64 (A).x0)).setCell ⟨w.heap.size + 1, 1, none⟩ (.int .u64 (A).x1)).setCell ⟨w.heap.size + 1, 2, none⟩ (.int .u64 (A).x2)).setCell ⟨w.heap.size + 1, 3, none⟩ (.int .u64 (A).x3))
          generalize World.setCell _ _ _ = W9 at *
          obtain ⟨⟨z0, z1, z2, z3⟩, -⟩ := cells4 a9
          exact bodyPost_ret (v := val (A)) (by simp [results, Try.results26, go_sem, z0, z1, z2, z3]) rfl ⟨rfl, q9⟩
    have b4 : (t.kind == 4) = false := by simp [k4]
    rw [if_neg k4] at hA
    by_cases k5 : t.kind = 5 ∧ t.mx ≠ 0
    · rw [if_pos k5] at hA
      obtain ⟨s, hsub, -, -, -, -⟩ := kind5_one HK.out.1 k5.1
      have hs : t.subs[0]? = some s := by rw [hsub]; rfl
      have hl1 : t.subs.length = 1 := by rw [hsub]; rfl
      rw [hsub, headF] at hA
      have b5 : (t.kind == 5) = true := by simp [k5.1]
      have bx : (t.mx == 0) = false := by simp [k5.2]
      have bx2 : (t.mx != 0) = true := by simp [k5.2]
      have hsl := sub_less hs
      obtain ⟨bl, off, a1, e1, rfl, L1, d0, d1, d2, d3, d4, d5, d6, d7⟩ := H1.out.bx.first hs
      have hcall := HK.out.2.1 s (by have := HK.out.2.2.1; omega) (by have h1 := HK.out.2.2.2.1; have h2 := HK.out.2.2.2.2; have h3 := cntL_le hs; omega) d (sub_RT HK.out.1 hs) a1 e1 w1 L1
      rw [← hA] at hcall
      have HQ := Lib.hid hcall
      rw [hl1] at c7
      clear k2 k3 k4 k5 hA hcall hsub hs hsl L1
      go_wp2_with fail
      refine HQ.out.mono ?_
      rintro e w9 ⟨rfl, q9⟩
      have I9 := Lib.hid (H1.out.keep q9)
      clear q9 c0 c1 c2 c3 c4 c5 c6 c7 d0 d1 d2 d3 d4 d5 d6 d7
      obtain ⟨⟨y0, y1, y2, y3⟩, f0, f1, f2, f3⟩ := cells4 (I9.out.out)
      go_wp2_with fail
      have a9 := set4 (I9.out.out) (.int .u64 (A).x0) (.int .u64 (A).x1) (.int .u64 (A).x2) (.int .u64 (A).x3)
      have q9 := keep4 (I9.out.q) (b := w.heap.size + 1) (fun h => absurd h (by omega)) (.int .u64 (A).x0) (.int .u64 (A).x1) (.int .u64 (A).x2) (.int .u64 (A).x3)
      change bodyPost _ _ _ _ _ ((((w9.setCell ⟨w.heap.size + 1, 0, none⟩ (.int .u64 (A).x0)).setCell ⟨w.heap.size + 1, 1, none⟩ (.int .u64 (A).x1)).setCell ⟨w.heap.size + 1, 2, none⟩ (.int .u64 (A).x2)).setCell ⟨w.heap.size + 1, 3, none⟩ (.int .u64 (A).x3))
      generalize World.setCell _ _ _ = W9 at *
      obtain ⟨⟨z0, z1, z2, z3⟩, -⟩ := cells4 a9
      exact bodyPost_ret (v := val (A)) (by simp [results, Try.results26, go_sem, z0, z1, z2, z3]) rfl ⟨rfl, q9⟩
    · rw [if_neg k5] at hA
      have hk5 : ((t.kind == 5) = false) ∨ ((t.kind == 5) = true ∧ (t.mx == 0) = true ∧ (t.mx != 0) = false) := by
        by_cases h5 : t.kind = 5
        · have hm : t.mx = 0 := Decidable.byContradiction fun h => k5 ⟨h5, h⟩
          exact .inr ⟨by simp [h5], by simp [hm], by simp [hm]⟩
        · exact .inl (by simp [h5])
      have HF := Lib.hid ((Fb.nil w1).set (by omega))
      rw [← hA] at HF
      clear k2 k3 k4 k5 hA
      rcases hk5 with b5 | ⟨b5, bx, bx2⟩
      all_goals
        go_wp2_with fail
        refine HF.out.mono ?_
        rintro e w9 ⟨rfl, q9⟩
        have I9 := Lib.hid (H1.out.keep q9)
        clear q9 c0 c1 c2 c3 c4 c5 c6 c7
        obtain ⟨⟨y0, y1, y2, y3⟩, f0, f1, f2, f3⟩ := cells4 (I9.out.out)
        go_wp2_with fail
        have a9 := set4 (I9.out.out) (.int .u64 (A).x0) (.int .u64 (A).x1) (.int .u64 (A).x2) (.int .u64 (A).x3)
        have q9 := keep4 (I9.out.q) (b := w.heap.size + 1) (fun h => absurd h (by omega)) (.int .u64 (A).x0) (.int .u64 (A).x1) (.int .u64 (A).x2) (.int .u64 (A).x3)
        change bodyPost _ _ _ _ _ ((((w9.setCell ⟨w.heap.size + 1, 0, none⟩ (.int .u64 (A).x0)).setCell ⟨w.heap.size + 1, 1, none⟩ (.int .u64 (A).x1)).setCell ⟨w.heap.size + 1, 2, none⟩ (.int .u64 (A).x2)).setCell ⟨w.heap.size + 1, 3, none⟩ (.int .u64 (A).x3))
        generalize World.setCell _ _ _ = W9 at *
        obtain ⟨⟨z0, z1, z2, z3⟩, -⟩ := cells4 a9
        exact bodyPost_ret (v := val (A)) (by simp [results, Try.results26, go_sem, z0, z1, z2, z3]) rfl ⟨rfl, q9⟩
theorem ffirst_all : ∀ (n : Nat) (t : T), SizeOf.sizeOf t < n → FirstOk t
  | 0, _, h => absurd h (Nat.not_lt_zero _)
  | n + 1, t, h => ffirst_step n (ffirst_all n) t h
end Go.Proofs.Ythcjfgfbeollpaa.P09
