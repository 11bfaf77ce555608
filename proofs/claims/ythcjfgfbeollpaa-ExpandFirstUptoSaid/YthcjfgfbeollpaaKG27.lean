/- The document's Right (layer 8). -/
import Derived.Test.YthcjfgfbeollpaaKG26
namespace Go.Proofs.Ythcjfgfbeollpaa.P08
open Go.RowKit Go.Proofs.Ythcjfgfbeollpaa.Base Go.Proofs.Ythcjfgfbeollpaa.Bytes Go.Proofs.Ythcjfgfbeollpaa.P07
open Go.Proofs.Ythcjfgfbeollpaa.Sets (ST)

set_option maxRecDepth 100000 in
theorem fright_any (t : T) (hc : cnt t ≤ 1000000000) (a : Option Addr) (c : Nat) (w : World) (hL : Lie w (fun _ => True) a t.subs) : Calls Try.prog 16 #[nodeV t a c] w fun e w' => e = .returned (.bool (rightB t)) ∧ Keep (fun _ => False) w w' := by
  have hO := fun w' (q : Keep (fun _ => False) w w') => fopen_all _ t (Nat.lt_succ_self _) hc a c w' (hL.keepF q)
  have HO := Lib.hid hO
  have q0 := (Keep.refl (fun _ => False) w).alloc (.cells (ncells t a c) 27)
  have HQ0 := Lib.hid q0
  obtain ⟨x, hx⟩ : ∃ x, opn t = x := ⟨_, rfl⟩
  have hr : rightB t = (decide (0 ≤ x) && decide (x ≤ 12)) := by rw [← hx]; rfl
  rw [hx] at HO
  rw [hr]
  clear hO hr hx q0
  go_enter Try.func16, Try.ntmps16
  go_wp2_with fail
  refine (HO.out _ (by first | exact HQ0.out | exact Keep.refl _ _)).mono ?_
  rintro e w1 ⟨rfl, q1⟩
  have HQ := Lib.hid q1
  clear q1
  by_cases h1 : 0 ≤ x <;> by_cases h2 : x ≤ 12
  all_goals
    have b1 := h1
    have b2 := h2
    go_wp2
    all_goals
      go_ret
      refine ⟨?_, by first | exact HQ0.out.trans HQ.out | exact HQ.out⟩
      all_goals (first | rfl | simp [b1, b2])
end Go.Proofs.Ythcjfgfbeollpaa.P08
/- Plain (layer 8): brackets counted down, as the code's right does. -/
namespace Go.Proofs.Ythcjfgfbeollpaa.P08
open Go.Proofs.Ythcjfgfbeollpaa.P07
open Go.Proofs.Ythcjfgfbeollpaa.Sets (ST)

mutual
/-- Right where so many brackets, less one, may still be opened. -/
def rgt : Nat → T → Bool
  | d, .nd k s mn mx l => if d = 0 then false else bareB (.nd k s mn mx l) && rgtL (d - 1) k l
def rgtL : Nat → Int → List T → Bool
  | _, _, [] => true
  | d, k, t :: l => rgt (if rnd k t.kind then d else d + 1) t && rgtL d k l
end
theorem rgt_zero (t : T) : rgt 0 t = false := by
  cases t
  rw [rgt, if_pos rfl]
theorem rgt_succ (d : Nat) (t : T) : rgt (d + 1) t = (bareB t && rgtL d t.kind t.subs) := by
  cases t
  rw [rgt, if_neg (by omega)]
  rfl
mutual
theorem rgt_iff : ∀ (t : T) (d : Nat), SOk t → (rgt (d + 1) t = true ↔ RT d t)
  | .nd k s mn mx l, d, h => by
    rw [SOk] at h
    rw [rgt, if_neg (by omega), RT, Bool.and_eq_true, bareB_iff, Nat.add_sub_cancel, rgtL_iff l d k h.2]
    exact ⟨fun h1 => ⟨h1.1, h.1, h1.2⟩, fun h1 => ⟨h1.1, h1.2.2⟩⟩
theorem rgtL_iff : ∀ (l : List T) (d : Nat) (k : Int), SOkL l → (rgtL d k l = true ↔ RL d k l)
  | [], d, k, _ => by
    rw [rgtL, RL]
    simp
  | t :: l, d, k, h => by
    obtain ⟨h1, h2⟩ := SOk_cons h
    rw [rgtL, RL, Bool.and_eq_true, rgtL_iff l d k h2]
    refine and_congr ?_ Iff.rfl
    cases rnd k t.kind with
    | true =>
      rw [if_pos rfl, if_pos rfl]
      cases d with
      | zero =>
        rw [rgt_zero]
        simp
      | succ e =>
        rw [rgt_iff t e h1]
        simp
    | false =>
      rw [if_neg (by decide), if_neg (by decide)]
      exact rgt_iff t d h1
end
theorem rgt_right {t : T} (h : SOk t) : rgt 13 t = rightB t := by
  have h1 := rgt_iff t 12 h
  have h2 := rightB_iff h
  cases e : rgt 13 t with
  | true => exact ((h2.2 (h1.1 e))).symm
  | false =>
    cases e2 : rightB t with
    | true => rw [h1.2 (h2.1 e2)] at e; cases e
    | false => rfl
theorem rgtL_get {d : Nat} {k : Int} : ∀ (L : List T) (i : Nat) (s : T), L[i]? = some s → rgtL d k L = true → rgt (if rnd k s.kind then d else d + 1) s = true
  | [], i, s, h, _ => by simp at h
  | t :: L, 0, s, h, hr => by
    simp at h
    subst h
    rw [rgtL, Bool.and_eq_true] at hr
    exact hr.1
  | t :: L, i + 1, s, h, hr => by
    rw [rgtL, Bool.and_eq_true] at hr
    exact rgtL_get L i s (by simpa using h) hr.2
theorem rgtL_not {d : Nat} {k : Int} (L : List T) (i : Nat) (s : T) (h : L[i]? = some s) (hr : rgt (if rnd k s.kind then d else d + 1) s = false) : rgtL d k L = false := by
  cases e : rgtL d k L with
  | false => rfl
  | true =>
    rw [rgtL_get L i s h e] at hr
    cases hr
theorem rgtL_take {d : Nat} {k : Int} (L : List T) (i : Nat) (s : T) (h : L[i]? = some s) (h0 : rgtL d k (L.take i) = true) (hr : rgt (if rnd k s.kind then d else d + 1) s = true) : rgtL d k (L.take (i + 1)) = true := by
  have key : ∀ M : List T, rgtL d k M = true → rgtL d k (M ++ [s]) = true := fun M => by
    induction M with
    | nil =>
      intro _
      rw [List.nil_append, rgtL, rgtL, hr]
      rfl
    | cons t M ih =>
      intro hM
      rw [rgtL, Bool.and_eq_true] at hM
      rw [List.cons_append, rgtL, hM.1, ih hM.2]
      rfl
  rw [List.take_add_one, h]
  exact key _ h0
end Go.Proofs.Ythcjfgfbeollpaa.P08
/- The code's bracketed, timesRight, fieldsRight (layer 8). -/
namespace Go.Proofs.Ythcjfgfbeollpaa.P08
open Go.RowKit Go.Proofs.Ythcjfgfbeollpaa.Base Go.Proofs.Ythcjfgfbeollpaa.Bytes Go.Proofs.Ythcjfgfbeollpaa.P07
open Go.Proofs.Ythcjfgfbeollpaa.Sets (ST)

/-- A node at an address. -/
structure NodeP (w : World) (bl o : Nat) (t : T) (a : Option Addr) (c : Nat) : Prop where
  lt : bl < w.heap.size
  cs : ∀ j v, (ncells t a c)[j]? = some v → w.cell? ⟨bl, o + j, none⟩ = some v
theorem NodeP.keep {S : Nat → Prop} {w w' : World} {bl o : Nat} {t : T} {a : Option Addr} {c : Nat} (h : NodeP w bl o t a c) (q : Keep S w w') (hS : ¬ S bl) : NodeP w' bl o t a c :=
  ⟨Nat.lt_of_lt_of_le h.lt q.size, fun j v hv => (q.cell (a := ⟨bl, o + j, none⟩) h.lt hS).trans (h.cs j v hv)⟩
theorem NodeP.keepF {w w' : World} {bl o : Nat} {t : T} {a : Option Addr} {c : Nat} (h : NodeP w bl o t a c) (q : Keep (fun _ => False) w w') : NodeP w' bl o t a c := h.keep q (fun h => h)
theorem NodeP.of_at {w : World} {b : Nat} {t : T} {a : Option Addr} {c : Nat} {ty : TypeId} (h : At w b ty (ncells t a c)) : NodeP w b 0 t a c :=
  ⟨h.lt, fun j v hv => by rw [Nat.zero_add]; exact h.cell hv⟩
/-- Its eight cells. -/
theorem NodeP.eight {w : World} {bl o : Nat} {t : T} {a : Option Addr} {c : Nat} (h : NodeP w bl o t a c) :
    w.cell? ⟨bl, o, none⟩ = some (.int .i64 t.kind) ∧ w.cell? ⟨bl, o + 1, none⟩ = some (.int .u64 t.set.x0) ∧ w.cell? ⟨bl, o + 2, none⟩ = some (.int .u64 t.set.x1) ∧ w.cell? ⟨bl, o + 3, none⟩ = some (.int .u64 t.set.x2) ∧ w.cell? ⟨bl, o + 4, none⟩ = some (.int .u64 t.set.x3) ∧ w.cell? ⟨bl, o + 5, none⟩ = some (.int .i64 t.mn) ∧ w.cell? ⟨bl, o + 6, none⟩ = some (.int .i64 t.mx) ∧ w.cell? ⟨bl, o + 7, none⟩ = some (.slice a t.subs.length c) :=
  ⟨h.cs 0 _ rfl, h.cs 1 _ rfl, h.cs 2 _ rfl, h.cs 3 _ rfl, h.cs 4 _ rfl, h.cs 5 _ rfl, h.cs 6 _ rfl, h.cs 7 _ rfl⟩

set_option maxRecDepth 100000 in
set_option maxHeartbeats 4000000 in
theorem brk_is {k j : Int} {r : Bool} (hr : rnd k j = r) (w : World) : Calls Try.prog 94 #[.int .i64 k, .int .i64 j] w fun e w' => e = .returned (.bool r) ∧ w = w' := by
  subst hr
  go_enter Try.func94, Try.ntmps94
  go_wp2_with fail
  all_goals
    go_ret
    refine ⟨Bytes.ret_bool ?_, rfl⟩
    rw [Bool.eq_iff_iff]
    unfold rnd
    try simp_all
    try omega

/-- The bounds of a repetition. -/
def tmsB (lo hi : Int) : Bool := decide (0 ≤ lo) && (decide (lo ≤ 20) && (decide (hi = -1) || (decide (lo ≤ hi) && decide (hi ≤ 20))))
set_option maxRecDepth 100000 in
set_option maxHeartbeats 4000000 in
theorem tms_is {lo hi : Int} {r : Bool} (hr : tmsB lo hi = r) (w : World) : Calls Try.prog 105 #[.int .i64 lo, .int .i64 hi] w fun e w' => e = .returned (.bool r) ∧ w = w' := by
  subst hr
  go_enter Try.func105, Try.ntmps105
  go_wp2_with fail
  all_goals
    go_ret
    refine ⟨Bytes.ret_bool ?_, rfl⟩
    rw [Bool.eq_iff_iff]
    unfold tmsB
    try simp_all
    try omega

set_option maxRecDepth 100000 in
set_option maxHeartbeats 8000000 in
theorem fields_any (t : T) (bl o : Nat) (a : Option Addr) (c : Nat) (w : World) (h : NodeP w bl o t a c) : Calls Try.prog 93 #[.pointer (some ⟨bl, o, none⟩)] w fun e w' => e = .returned (.bool (bareB t)) ∧ Keep (fun _ => False) w w' := by
  obtain ⟨E, hE⟩ : ∃ E, eqB t.set ST.none = E := ⟨_, rfl⟩
  have es : ∀ W, (Op.equalIn 10000 24 (.agg #[.int .u64 (t.set.x0 : Int), .int .u64 (t.set.x1 : Int), .int .u64 (t.set.x2 : Int), .int .u64 (t.set.x3 : Int)]) (.agg #[.int .u64 0, .int .u64 0, .int .u64 0, .int .u64 0])).run Try.prog W = .ok E W := fun W => by
    rw [← hE]
    exact eq_set t.set ST.none W
  have HE := Lib.hid hE
  have HP := Lib.hid h
  have hk : (t.kind == 1) = true ∨ ((t.kind == 1) = false ∧ (t.kind == 2) = true) ∨ True := .inr (.inr trivial)
  obtain ⟨c0, c1, c2, c3, c4, c5, c6, c7⟩ := h.eight
  clear hE h hk
  obtain ⟨R, hR⟩ : ∃ R, tmsB t.mn t.mx = R := ⟨_, rfl⟩
  have HR := Lib.hid hR
  clear hR
  have hz : ((t.mn == 0) = true ∧ (t.mx == 0) = true ∧ t.mn = 0 ∧ t.mx = 0) ∨ ((t.mn == 0) = true ∧ (t.mx == 0) = false ∧ ¬ (t.mn = 0 ∧ t.mx = 0)) ∨ ((t.mn == 0) = false ∧ ¬ (t.mn = 0 ∧ t.mx = 0)) := by
    by_cases h1 : t.mn = 0 <;> by_cases h2 : t.mx = 0 <;> simp [h1, h2]
  have q : ∀ k, Keep (fun _ => False) w (w.drewN k) := fun k => (Keep.refl _ w).drewN k
  have HQ := Lib.hid q
  clear q
  by_cases h5 : t.kind = 5
  · have k1 : (t.kind == 1) = false := by simp [h5]
    have k2 : (t.kind == 2) = false := by simp [h5]
    have k3 : (t.kind == 3) = false := by simp [h5]
    have k4 : (t.kind == 4) = false := by simp [h5]
    have k5 : (t.kind == 5) = true := by simp [h5]
    have hb : bareB t = (E && (decide (t.subs.length = 1) && R)) := by
      unfold bareB
      rw [if_neg (by omega), if_neg (by omega), if_neg (by omega), if_pos h5, HE.out, ← HR.out]
      rfl
    rw [hb]
    clear hb h5
    have hl : (((t.subs.length : Int) == 1) = true ∧ t.subs.length = 1) ∨ (((t.subs.length : Int) == 1) = false ∧ ¬ t.subs.length = 1) := by
      by_cases h1 : t.subs.length = 1
      · exact .inl ⟨by simp [h1], h1⟩
      · exact .inr ⟨by simp; omega, h1⟩
    rcases hz with ⟨z1, z2, -, -⟩ | ⟨z1, z2, -⟩ | ⟨z1, -⟩
    all_goals
      rcases hl with ⟨l1, l2⟩ | ⟨l1, l2⟩
    all_goals
      have HL := Lib.hid l2
      clear l2
      cases E <;> cases R
    all_goals
      go_enter Try.func93, Try.ntmps93
      go_wp2_with fail
      go_quiet (fail)
      go_wp2_with fail
      go_quiet ((go_at_call 105; exact quiet_same2 (tms_is HR.out _)))
      go_wp2_with fail
      go_ret
      exact ⟨Bytes.ret_bool (by simp [HL.out]), (HQ.out _).drewN _⟩
  · have k5 : (t.kind == 5) = false := by simp [h5]
    have H5 := Lib.hid h5
    clear h5
    rcases hz with ⟨z1, z2, z3, z4⟩ | ⟨z1, z2, z3⟩ | ⟨z1, z3⟩
    · have HZ := Lib.hid (And.intro z3 z4)
      clear z3 z4
      cases E
      all_goals
        go_enter Try.func93, Try.ntmps93
        go_wp2_with fail
        go_quiet (fail)
        go_wp2_with fail
        all_goals
          go_ret
          refine ⟨Bytes.ret_bool ?_, HQ.out _⟩
          have h5 := H5.out
          have hz := HZ.out
          rw [Bool.eq_iff_iff]
          unfold bareB
          rw [HE.out]
          clear es HE c0 c1 c2 c3 c4 c5 c6 c7
          try simp_all
          try omega
    · have HZ := Lib.hid z3
      clear z3
      cases E
      all_goals
        go_enter Try.func93, Try.ntmps93
        go_wp2_with fail
        go_quiet (fail)
        go_wp2_with fail
        all_goals
          go_ret
          refine ⟨Bytes.ret_bool ?_, HQ.out _⟩
          have h5 := H5.out
          have hz := HZ.out
          rw [Bool.eq_iff_iff]
          unfold bareB
          rw [HE.out]
          clear es HE c0 c1 c2 c3 c4 c5 c6 c7
          try simp_all
          try omega
    · have HZ := Lib.hid z3
      clear z3
      cases E
      all_goals
        go_enter Try.func93, Try.ntmps93
        go_wp2_with fail
        go_quiet (fail)
        go_wp2_with fail
        all_goals
          go_ret
          refine ⟨Bytes.ret_bool ?_, HQ.out _⟩
          have h5 := H5.out
          have hz := HZ.out
          rw [Bool.eq_iff_iff]
          unfold bareB
          rw [HE.out]
          clear es HE c0 c1 c2 c3 c4 c5 c6 c7
          try simp_all
          try omega
end Go.Proofs.Ythcjfgfbeollpaa.P08
