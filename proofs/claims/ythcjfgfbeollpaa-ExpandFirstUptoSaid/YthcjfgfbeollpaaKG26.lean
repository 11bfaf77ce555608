/- Layer 8 (show), plain. Part 4: the document's own way to count: is a node bare, how many brackets stand open; and that this says which expressions are right. -/
import Derived.Test.YthcjfgfbeollpaaKG25
import Derived.Test.YthcjfgfbeollpaaKG20
import Derived.Laws.StructEq
namespace Go.Proofs.Ythcjfgfbeollpaa.P08
open Go.Proofs.Ythcjfgfbeollpaa.P07 Go.Proofs.Ythcjfgfbeollpaa.Bytes
open Go.Proofs.Ythcjfgfbeollpaa.Sets (ST)

/-- Bare, by its kind. -/
def bareB (t : T) : Bool :=
  if t.kind = 1 then eqB t.set ST.none && (decide (t.mn = 0) && (decide (t.mx = 0) && decide (t.subs.length = 0)))
  else if t.kind = 2 then decide (t.mn = 0) && (decide (t.mx = 0) && decide (t.subs.length = 0))
  else if t.kind = 3 ∨ t.kind = 4 then eqB t.set ST.none && (decide (t.mn = 0) && (decide (t.mx = 0) && decide (2 ≤ t.subs.length)))
  else if t.kind = 5 then eqB t.set ST.none && (decide (t.subs.length = 1) && (decide (0 ≤ t.mn) && (decide (t.mn ≤ 20) && (decide (t.mx = -1) || (decide (t.mn ≤ t.mx) && decide (t.mx ≤ 20))))))
  else false

theorem bareB_iff (k : Int) (s : ST) (mn mx : Int) (l : List T) : bareB (.nd k s mn mx l) = true ↔ Bare k s mn mx l.length := by
  unfold bareB Bare T.kind T.set T.mn T.mx T.subs
  dsimp only
  by_cases h1 : k = 1
  · rw [if_pos h1]
    simp only [Bool.and_eq_true, decide_eq_true_eq, eqB_iff]
    constructor
    · rintro ⟨e1, h2, h3, h4⟩
      exact .inl ⟨h1, e1, h2, h3, h4⟩
    · rintro (h | h | h | h)
      · exact h.2
      · omega
      · omega
      · omega
  · rw [if_neg h1]
    by_cases h2 : k = 2
    · rw [if_pos h2]
      simp only [Bool.and_eq_true, decide_eq_true_eq]
      constructor
      · rintro ⟨e2, e3, e4⟩
        exact .inr (.inl ⟨h2, e2, e3, e4⟩)
      · rintro (h | h | h | h)
        · omega
        · exact h.2
        · omega
        · omega
    · rw [if_neg h2]
      by_cases h3 : k = 3 ∨ k = 4
      · rw [if_pos h3]
        simp only [Bool.and_eq_true, decide_eq_true_eq, eqB_iff]
        constructor
        · rintro ⟨e1, e2, e3, e4⟩
          exact .inr (.inr (.inl ⟨h3, e1, e2, e3, e4⟩))
        · rintro (h | h | h | h)
          · omega
          · omega
          · exact h.2
          · omega
      · rw [if_neg h3]
        by_cases h4 : k = 5
        · rw [if_pos h4]
          simp only [Bool.and_eq_true, Bool.or_eq_true, decide_eq_true_eq, eqB_iff]
          constructor
          · rintro ⟨e1, e2, e3, e4, e5⟩
            exact .inr (.inr (.inr ⟨h4, e1, e2, e3, e4, e5⟩))
          · rintro (h | h | h | h)
            · omega
            · omega
            · omega
            · exact h.2
        · rw [if_neg h4]
          constructor
          · intro h
            cases h
          · intro h
            omega

mutual
/-- All sets are sets. -/
def SOk : T → Prop
  | .nd _ s _ _ l => s.Ok ∧ SOkL l
def SOkL : List T → Prop
  | [] => True
  | t :: l => SOk t ∧ SOkL l
end
mutual
/-- How many brackets stand open at most; -1: it isn't right. -/
def opn : T → Int
  | .nd k s mn mx l => if bareB (.nd k s mn mx l) then opnL k 0 l else -1
def opnL : Int → Int → List T → Int
  | _, m, [] => m
  | k, m, t :: l => if opn t < 0 then -1 else opnL k (max m (if rnd k t.kind then opn t + 1 else opn t)) l
end

theorem SOk_cons {t : T} {l : List T} (h : SOkL (t :: l)) : SOk t ∧ SOkL l := by rw [SOkL] at h; exact h
mutual
theorem opn_iff : ∀ (t : T) (d : Nat), SOk t → ((0 ≤ opn t ∧ opn t ≤ d) ↔ RT d t)
  | .nd k s mn mx l, d, hs => by
    rw [SOk] at hs
    rw [opn, RT]
    have hb := bareB_iff k s mn mx l
    by_cases h : bareB (.nd k s mn mx l) = true
    · rw [if_pos h]
      have := opnL_iff l d k 0 hs.2 (Int.le_refl 0)
      rw [this]
      constructor
      · rintro ⟨-, h2⟩
        exact ⟨hb.1 h, hs.1, h2⟩
      · rintro ⟨-, -, h2⟩
        exact ⟨by omega, h2⟩
    · rw [if_neg h]
      constructor
      · intro h2
        omega
      · rintro ⟨h2, -⟩
        exact absurd (hb.2 h2) h
theorem opnL_iff : ∀ (l : List T) (d : Nat) (k m : Int), SOkL l → 0 ≤ m → ((0 ≤ opnL k m l ∧ opnL k m l ≤ d) ↔ m ≤ d ∧ RL d k l)
  | [], d, k, m, _, hm => by
    rw [opnL, RL]
    exact ⟨fun h => ⟨h.2, trivial⟩, fun h => ⟨hm, h.1⟩⟩
  | t :: l, d, k, m, hs, hm => by
    obtain ⟨h1, h2⟩ := SOk_cons hs
    rw [opnL, RL]
    by_cases h : opn t < 0
    · rw [if_pos h]
      constructor
      · intro h3
        omega
      · rintro ⟨-, h3, -⟩
        split at h3
        · have := (opn_iff t (d - 1) h1).2 h3.2
          omega
        · have := (opn_iff t d h1).2 h3
          omega
    · rw [if_neg h]
      rw [opnL_iff l d k _ h2 (by omega)]
      constructor
      · rintro ⟨h3, h4⟩
        refine ⟨by omega, ?_, h4⟩
        split
        · rename_i hr
          rw [if_pos hr] at h3
          exact ⟨by omega, (opn_iff t (d - 1) h1).1 (by omega)⟩
        · rename_i hr
          rw [if_neg hr] at h3
          exact (opn_iff t d h1).1 (by omega)
      · rintro ⟨h3, h4, h5⟩
        refine ⟨?_, h5⟩
        split
        · rename_i hr
          rw [if_pos hr] at h4
          have := (opn_iff t (d - 1) h1).2 h4.2
          omega
        · rename_i hr
          rw [if_neg hr] at h4
          have := (opn_iff t d h1).2 h4
          omega
end

/-- Right, as the document counts. -/
def rightB (t : T) : Bool := decide (0 ≤ opn t) && decide (opn t ≤ 12)
theorem rightB_iff {t : T} (h : SOk t) : rightB t = true ↔ RT 12 t := by
  rw [← opn_iff t 12 h]
  unfold rightB
  simp

/-- Over the parts gone over: as far as they are right. -/
theorem opnL_append (k : Int) : ∀ (l : List T) (m : Int) (t : T), 0 ≤ m → opnL k m (l ++ [t]) = if opnL k m l < 0 then -1 else if opn t < 0 then -1 else max (opnL k m l) (if rnd k t.kind then opn t + 1 else opn t)
  | [], m, t, hm => by
    rw [List.nil_append, opnL, opnL, opnL, if_neg (show ¬ m < 0 by omega)]
  | s :: l, m, t, hm => by
    rw [List.cons_append, opnL, opnL]
    by_cases h : opn s < 0
    · rw [if_pos h, if_pos h, if_pos (by omega)]
    · rw [if_neg h, if_neg h, opnL_append k l _ t (by omega)]
mutual
theorem opn_le : ∀ t : T, opn t ≤ cnt t
  | .nd k s mn mx l => by
    rw [opn, cnt]
    split
    · have := opnL_le l k 0
      omega
    · omega
theorem opnL_le : ∀ (l : List T) (k m : Int), opnL k m l ≤ max m (cntL l + 1)
  | [], k, m => by rw [opnL]; omega
  | t :: l, k, m => by
    rw [opnL, cntL]
    split
    · omega
    · have h1 := opnL_le l k (max m (if rnd k t.kind then opn t + 1 else opn t))
      have h2 := opn_le t
      have h3 : (if rnd k t.kind then opn t + 1 else opn t) ≤ opn t + 1 := by split <;> omega
      generalize (if rnd k t.kind then opn t + 1 else opn t) = X at *
      omega
end

end Go.Proofs.Ythcjfgfbeollpaa.P08
/- The document's bare and round (layer 8). -/
namespace Go.Proofs.Ythcjfgfbeollpaa.P08
open Go.RowKit Go.Proofs.Ythcjfgfbeollpaa.Base Go.Proofs.Ythcjfgfbeollpaa.Bytes Go.Proofs.Ythcjfgfbeollpaa.P07
open Go.Proofs.Ythcjfgfbeollpaa.Sets (ST)

set_option maxRecDepth 100000 in
set_option maxHeartbeats 4000000 in
theorem fround_any (t s : T) (a : Option Addr) (c : Nat) (b : Option Addr) (e : Nat) (w : World) : Calls Try.prog 80 #[nodeV t a c, nodeV s b e] w fun e w' => e = .returned (.bool (rnd t.kind s.kind)) ∧ Keep (fun _ => False) w w' := by
  have q := ((Keep.refl (fun _ => False) w).alloc (.cells (ncells t a c) 27)).alloc (.cells (ncells s b e) 27)
  go_enter Try.func80, Try.ntmps80
  go_wp2_with fail
  all_goals
    go_ret
    refine ⟨Bytes.ret_bool ?_, q⟩
    rw [Bool.eq_iff_iff]
    unfold rnd
    try simp_all
    try omega

set_option maxRecDepth 100000 in
set_option maxHeartbeats 4000000 in
theorem fbare_any (t : T) (a : Option Addr) (c : Nat) (w : World) : Calls Try.prog 79 #[nodeV t a c] w fun e w' => e = .returned (.bool (bareB t)) ∧ Keep (fun _ => False) w w' := by
  have a0 := At.new w (ncells t a c) 27
  have q := (Keep.refl (fun _ => False) w).alloc (.cells (ncells t a c) 27)
  obtain ⟨E, hE⟩ : ∃ E, eqB t.set ST.none = E := ⟨_, rfl⟩
  have es : ∀ W, (Op.equalIn 10000 24 (.agg #[.int .u64 (t.set.x0 : Int), .int .u64 (t.set.x1 : Int), .int .u64 (t.set.x2 : Int), .int .u64 (t.set.x3 : Int)]) (.agg #[.int .u64 0, .int .u64 0, .int .u64 0, .int .u64 0])).run Try.prog W = .ok E W := fun W => by
    rw [← hE]
    exact eq_set t.set ST.none W
  have HE := Lib.hid (And.intro hE q)
  clear hE q
  cases E
  all_goals
    go_enter Try.func79, Try.ntmps79
    go_wp2_with fail
    all_goals
      go_ret
      refine ⟨Bytes.ret_bool ?_, HE.out.2⟩
      rw [Bool.eq_iff_iff]
      unfold bareB
      rw [HE.out.1]
      clear a0 es HE
      try simp_all
      try omega
end Go.Proofs.Ythcjfgfbeollpaa.P08
/- The document's open and Right (layer 8). -/
namespace Go.Proofs.Ythcjfgfbeollpaa.P08
open Go.RowKit Go.Proofs.Ythcjfgfbeollpaa.Base Go.Proofs.Ythcjfgfbeollpaa.Bytes Go.Proofs.Ythcjfgfbeollpaa.P07
open Go.Proofs.Ythcjfgfbeollpaa.Sets (ST)

theorem opnL_neg (k : Int) : ∀ (L : List T) (m : Int) (i : Nat) (s : T), L[i]? = some s → opn s < 0 → opnL k m L = -1
  | [], m, i, s, h, _ => by simp at h
  | t :: L, m, 0, s, h, hs => by
    simp at h
    subst h
    rw [opnL, if_pos hs]
  | t :: L, m, i + 1, s, h, hs => by
    rw [opnL]
    split
    · rfl
    · exact opnL_neg k L _ i s (by simpa using h) hs
theorem opn_bare {t : T} (h : bareB t = true) : opn t = opnL t.kind 0 t.subs := by
  cases t with
  | nd k s mn mx l => rw [opn, if_pos h]; rfl
theorem opn_not {t : T} (h : bareB t = false) : opn t = -1 := by
  cases t with
  | nd k s mn mx l => rw [opn, if_neg (by rw [h]; decide)]
theorem opnL_pre (k : Int) (L : List T) (i : Nat) {s : T} (hs : L[i]? = some s) (h : 0 ≤ opnL k 0 (L.take i)) (h2 : 0 ≤ opn s) : opnL k 0 (L.take (i + 1)) = max (opnL k 0 (L.take i)) (if rnd k s.kind then opn s + 1 else opn s) := by
  rw [List.take_add_one, hs]
  show opnL k 0 (L.take i ++ [s]) = _
  rw [opnL_append k _ 0 s (by omega), if_neg (by omega), if_neg (by omega)]

theorem ncells_keep {w w' : World} {bl o : Nat} {t : T} {a : Option Addr} {c : Nat} (h : ∀ j v, (ncells t a c)[j]? = some v → w.cell? ⟨bl, o + j, none⟩ = some v) (q : Keep (fun _ => False) w w') (hb : bl < w.heap.size) :
    ∀ j v, (ncells t a c)[j]? = some v → w'.cell? ⟨bl, o + j, none⟩ = some v := fun j v hv => (q.cell (a := ⟨bl, o + j, none⟩) hb (fun h => h)).trans (h j v hv)

set_option maxRecDepth 100000 in
set_option maxHeartbeats 4000000 in
theorem fopen_all : ∀ (n : Nat) (t : T), SizeOf.sizeOf t < n → cnt t ≤ 1000000000 → ∀ (a : Option Addr) (c : Nat) (w : World), Lie w (fun _ => True) a t.subs →
    Calls Try.prog 56 #[nodeV t a c] w fun e w' => e = .returned (.int .i64 (opn t)) ∧ Keep (fun _ => False) w w'
  | 0, _, h, _, _, _, _, _ => absurd h (Nat.not_lt_zero _)
  | n + 1, t, h, hc, a, c, w, hL => by
    have hlen := hL.len
    have a0 := At.new w (ncells t a c) 27
    have q := (Keep.refl (fun _ => False) w).alloc (.cells (ncells t a c) 27)
    have H0 := Lib.hid (And.intro a0 (And.intro q (And.intro hL (fopen_all n))))
    rw [cnt_eq] at hc
    have hbl : ∀ k, opnL t.kind 0 (t.subs.take k) ≤ 1000000001 := fun k => by
      have h0 := opnL_le (t.subs.take k) t.kind 0
      have h2 := cntL_append (t.subs.take k) (t.subs.drop k)
      rw [List.take_append_drop] at h2
      omega
    have HD := Lib.hid hbl
    clear q hL hbl
    have c0 := a0
    clear a0
    go_enter Try.func56, Try.ntmps56
    go_wp2_with fail
    have c7' : (w.alloc (.cells (ncells t a c) 27)).cell? ⟨w.heap.size, 7, none⟩ = some (.slice a t.subs.length c) := c0.cell (o := 7) rfl
    generalize (w.alloc (.cells (ncells t a c) 27)) = W at *
    refine (fbare_any t a c W).mono ?_
    rintro e w1 ⟨rfl, q1⟩
    have C0 := c0.keep q1 (fun h => h)
    have Q1 := Lib.hid (H0.out.2.1.trans q1)
    cases hb : bareB t with
    | false =>
      have ho := opn_not hb
      have HO := Lib.hid ho
      clear ho hb
      go_wp2
      go_ret
      exact ⟨by rw [HO.out]; rfl, Q1.out⟩
    | true =>
      obtain ⟨D, hD⟩ : ∃ D, opnL t.kind 0 t.subs = D := ⟨_, rfl⟩
      have HO := Lib.hid (And.intro (opn_bare hb) hD)
      clear hb hD c7' c0
      go_wp2_with fail
      go_loopg [3, 4] t.subs.length (fun gg m i wr => ∃ k : Nat, i = .int .i64 k ∧ k + gg = t.subs.length ∧ m = .int .i64 (opnL t.kind 0 (t.subs.take k)) ∧ 0 ≤ opnL t.kind 0 (t.subs.take k) ∧ Keep (fun _ => False) w1 wr)
      case atStart => exact ⟨0, rfl, by omega, by rw [List.take_zero, opnL], by rw [List.take_zero, opnL]; exact Int.le_refl 0, Keep.refl _ _⟩
      case round =>
        obtain ⟨k, rfl, hk, rfl, h0, hq⟩ := hrel
        have A0 := C0.keep hq (fun h => h)
        have c0 : wr.cell? ⟨w.heap.size, 0, none⟩ = some (.int .i64 t.kind) := A0.cell (o := 0) rfl
        have c1 : wr.cell? ⟨w.heap.size, 1, none⟩ = some (.int .u64 t.set.x0) := A0.cell (o := 1) rfl
        have c2 : wr.cell? ⟨w.heap.size, 2, none⟩ = some (.int .u64 t.set.x1) := A0.cell (o := 2) rfl
        have c3 : wr.cell? ⟨w.heap.size, 3, none⟩ = some (.int .u64 t.set.x2) := A0.cell (o := 3) rfl
        have c4 : wr.cell? ⟨w.heap.size, 4, none⟩ = some (.int .u64 t.set.x3) := A0.cell (o := 4) rfl
        have c5 : wr.cell? ⟨w.heap.size, 5, none⟩ = some (.int .i64 t.mn) := A0.cell (o := 5) rfl
        have c6 : wr.cell? ⟨w.heap.size, 6, none⟩ = some (.int .i64 t.mx) := A0.cell (o := 6) rfl
        have c7 : wr.cell? ⟨w.heap.size, 7, none⟩ = some (.slice a t.subs.length c) := A0.cell (o := 7) rfl
        have hm := HD.out k
        by_cases hlt : k < t.subs.length
        · have hlt' : (k : Int) < t.subs.length := by omega
          obtain ⟨s, hs⟩ : ∃ s, t.subs[k]? = some s := ⟨t.subs[k], List.getElem?_eq_getElem hlt⟩
          have LL := Lib.hid (H0.out.2.2.1.keepF (Q1.out.trans hq))
          obtain ⟨bl, off, a1, e1, rfl, -, hbl, -, L1, C1⟩ := LL.out.get hs
          obtain ⟨d0, d1, d2, d3, d4, d5, d6, d7⟩ := ncell C1
          have hsl := sub_less hs
          have hcl := cntL_le hs
          have hcall := H0.out.2.2.2 s (by omega) (by omega) a1 e1 wr L1
          have hds : opn s ≤ 1000000000 := by
            have := opn_le s
            omega
          have hpre : 0 ≤ opn s → _ := opnL_pre t.kind t.subs k hs h0
          have hneg := opnL_neg t.kind t.subs 0 k s hs
          have HQ := Lib.hid (And.intro hq (And.intro hcall (And.intro hpre (And.intro hneg (And.intro hs (And.intro C1 hbl))))))
          clear hq hcall hpre hneg hs L1 C1 A0 hbl
          have i0 : (0 : Int) ≤ k := by omega
          obtain ⟨x, hx⟩ : ∃ x, opn s = x := ⟨_, rfl⟩
          obtain ⟨m, hmm⟩ : ∃ m, opnL t.kind 0 (t.subs.take k) = m := ⟨_, rfl⟩
          rw [hx] at hds
          rw [hmm] at hm h0
          have HX := Lib.hid (And.intro hx hmm)
          rw [hmm]
          clear hx hmm
          go_wp2_with fail
          refine HQ.out.2.1.mono ?_
          rintro e w2 ⟨rfl, q2⟩
          rw [HX.out.1]
          have QQ := Lib.hid (And.intro (HQ.out.1.trans q2) q2)
          by_cases hx : x < 0
          · have hneg := HQ.out.2.2.2.1
            rw [HX.out.1] at hneg
            have hD : D = -1 := HO.out.2.symm.trans (hneg hx)
            have HD1 := Lib.hid (And.intro hD QQ.out.1)
            clear hD hneg q2
            go_wp2
            go_ret
            exact ⟨by rw [HO.out.1, HO.out.2, HD1.out.1]; rfl, Q1.out.trans HD1.out.2⟩
          · have A0 := C0.keep QQ.out.1 (fun h => h)
            have C2 := ncells_keep HQ.out.2.2.2.2.2.1 q2 HQ.out.2.2.2.2.2.2
            have hS : ∀ w', Keep (fun _ => False) w2 w' → Keep (fun _ => False) w2 w' ∧ w'.cell? ⟨w.heap.size, 0, none⟩ = some (.int .i64 t.kind) ∧ w'.cell? ⟨w.heap.size, 1, none⟩ = some (.int .u64 t.set.x0) ∧ w'.cell? ⟨w.heap.size, 2, none⟩ = some (.int .u64 t.set.x1) ∧ w'.cell? ⟨w.heap.size, 3, none⟩ = some (.int .u64 t.set.x2) ∧ w'.cell? ⟨w.heap.size, 4, none⟩ = some (.int .u64 t.set.x3) ∧ w'.cell? ⟨w.heap.size, 5, none⟩ = some (.int .i64 t.mn) ∧ w'.cell? ⟨w.heap.size, 6, none⟩ = some (.int .i64 t.mx) ∧ w'.cell? ⟨w.heap.size, 7, none⟩ = some (.slice (some ⟨bl, off, none⟩) t.subs.length c) ∧ w'.cell? ⟨bl, off + k * 8, none⟩ = some (.int .i64 s.kind) ∧ w'.cell? ⟨bl, off + k * 8 + 1, none⟩ = some (.int .u64 s.set.x0) ∧ w'.cell? ⟨bl, off + k * 8 + 2, none⟩ = some (.int .u64 s.set.x1) ∧ w'.cell? ⟨bl, off + k * 8 + 3, none⟩ = some (.int .u64 s.set.x2) ∧ w'.cell? ⟨bl, off + k * 8 + 4, none⟩ = some (.int .u64 s.set.x3) ∧ w'.cell? ⟨bl, off + k * 8 + 5, none⟩ = some (.int .i64 s.mn) ∧ w'.cell? ⟨bl, off + k * 8 + 6, none⟩ = some (.int .i64 s.mx) ∧ w'.cell? ⟨bl, off + k * 8 + 7, none⟩ = some (.slice a1 s.subs.length e1) := fun w' q' => by
              have e1 := fun j v h => (q'.cell (a := ⟨bl, off + k * 8 + j, none⟩) (World.block_lt_of_cell? w2 _ (C2 j v h)) (fun h => h)).trans (C2 j v h)
              have e0 := A0.keep q' (fun h => h)
              exact ⟨q', e0.cell (o := 0) rfl, e0.cell (o := 1) rfl, e0.cell (o := 2) rfl, e0.cell (o := 3) rfl, e0.cell (o := 4) rfl, e0.cell (o := 5) rfl, e0.cell (o := 6) rfl, e0.cell (o := 7) rfl, e1 0 _ rfl, e1 1 _ rfl, e1 2 _ rfl, e1 3 _ rfl, e1 4 _ rfl, e1 5 _ rfl, e1 6 _ rfl, e1 7 _ rfl⟩
            have HS := Lib.hid hS
            have hst := HQ.out.2.2.1
            rw [HX.out.1, HX.out.2] at hst
            have HP := Lib.hid (And.intro (hst (by omega)) HQ.out.2.2.2.2.1)
            have hx0 : 0 ≤ x := by omega
            have HR := Lib.hid (fun W' => fround_any t s (some ⟨bl, off, none⟩) c a1 e1 W')
            obtain ⟨r, hr⟩ : ∃ r, rnd t.kind s.kind = r := ⟨_, rfl⟩
            rw [hr] at HP HR
            clear hst A0 q2 d0 d1 d2 d3 d4 d5 d6 d7 C2 hS hr
            go_wp2_with fail
            go_region_held3 (fun w' => Keep (fun _ => False) w2 w' ∧ w'.cell? ⟨w.heap.size, 0, none⟩ = some (.int .i64 t.kind) ∧ w'.cell? ⟨w.heap.size, 1, none⟩ = some (.int .u64 t.set.x0) ∧ w'.cell? ⟨w.heap.size, 2, none⟩ = some (.int .u64 t.set.x1) ∧ w'.cell? ⟨w.heap.size, 3, none⟩ = some (.int .u64 t.set.x2) ∧ w'.cell? ⟨w.heap.size, 4, none⟩ = some (.int .u64 t.set.x3) ∧ w'.cell? ⟨w.heap.size, 5, none⟩ = some (.int .i64 t.mn) ∧ w'.cell? ⟨w.heap.size, 6, none⟩ = some (.int .i64 t.mx) ∧ w'.cell? ⟨w.heap.size, 7, none⟩ = some (.slice (some ⟨bl, off, none⟩) t.subs.length c) ∧ w'.cell? ⟨bl, off + k * 8, none⟩ = some (.int .i64 s.kind) ∧ w'.cell? ⟨bl, off + k * 8 + 1, none⟩ = some (.int .u64 s.set.x0) ∧ w'.cell? ⟨bl, off + k * 8 + 2, none⟩ = some (.int .u64 s.set.x1) ∧ w'.cell? ⟨bl, off + k * 8 + 3, none⟩ = some (.int .u64 s.set.x2) ∧ w'.cell? ⟨bl, off + k * 8 + 4, none⟩ = some (.int .u64 s.set.x3) ∧ w'.cell? ⟨bl, off + k * 8 + 5, none⟩ = some (.int .i64 s.mn) ∧ w'.cell? ⟨bl, off + k * 8 + 6, none⟩ = some (.int .i64 s.mx) ∧ w'.cell? ⟨bl, off + k * 8 + 7, none⟩ = some (.slice a1 s.subs.length e1)) (first | exact HS.out _ ((Keep.refl _ _).drew) | exact HS.out _ (Keep.trans (And.left (by assumption)) q)) (first
              | (go_at_call 80; refine (HR.out _).mono ?_; rintro e w2 ⟨rfl, q⟩))
            all_goals
              rename_i hh
              have HK := Lib.hid (QQ.out.1.trans hh.1)
              clear hh
              have j1 : IntKind.i64.wrap (x + 1) = x + 1 := by rw [IntKind.wrap_i64]; omega
              cases r
              · have em : opnL t.kind 0 (t.subs.take (k + 1)) = max m (x) := by rw [HP.out.1, if_neg (by decide)]
                have EM := Lib.hid em
                clear em
                go_wp2_with fail
                go_roundg (t.subs.length - (k + 1))
                case measure => omega
                case rel => exact ⟨k + 1, by go_num, by omega, by rw [EM.out], by rw [EM.out]; omega, HK.out⟩
              · have em : opnL t.kind 0 (t.subs.take (k + 1)) = max m (x + 1) := by rw [HP.out.1, if_pos rfl]
                have EM := Lib.hid em
                clear em
                go_wp2_with fail
                go_roundg (t.subs.length - (k + 1))
                case measure => omega
                case rel => exact ⟨k + 1, by go_num, by omega, by rw [EM.out], by rw [EM.out]; omega, HK.out⟩
        · have hke : k = t.subs.length := by omega
          subst hke
          rw [List.take_length, HO.out.2] at hm h0 ⊢
          have HQ := Lib.hid hq
          clear hq A0
          go_wp2_with fail
          go_ret
          exact ⟨by rw [HO.out.1, HO.out.2]; rfl, Q1.out.trans HQ.out⟩
end Go.Proofs.Ythcjfgfbeollpaa.P08
