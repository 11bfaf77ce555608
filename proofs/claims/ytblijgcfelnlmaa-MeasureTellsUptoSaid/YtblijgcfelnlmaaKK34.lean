/- Rows of truth values (layer 9): a slice of bools of the program's own; the document's join. -/
import Derived.Test.YtblijgcfelnlmaaKK33
import Derived.Lib.AppendZeros
import Derived.Maps.AppendAt
import Derived.Test.YtblijgcfelnlmaaKK30
namespace Go.Proofs.Ytblijgcfelnlmaa.P09
open Go.RowKit Go.Proofs.Ytblijgcfelnlmaa.Base Go.Proofs.Ytblijgcfelnlmaa.Bytes Go.Proofs.Ytblijgcfelnlmaa.P07 Go.Proofs.Ytblijgcfelnlmaa.P08
open Go.Proofs.Ytblijgcfelnlmaa.Sets (ST)

/-- The cells of a row of truth values. -/
def bcells (L : List Bool) : Array Value := (L.map Value.bool).toArray
theorem bcells_get {L : List Bool} {k : Nat} {b : Bool} (h : L[k]? = some b) : (bcells L)[k]? = some (.bool b) := by
  unfold bcells
  simp [h]
theorem bcells_set (L : List Bool) (k : Nat) (b : Bool) : (bcells L).setIfInBounds k (.bool b) = bcells (L.set k b) := by
  unfold bcells
  apply Array.ext'
  simp [List.map_set]
theorem infoB : (Try.prog.info? 4).map (fun i => (i.zero, i.size, i.bytes)) = some (some (.bool false), 1, 1) := by kernel_rfl
theorem make_bools (n : Nat) (hn : n ≤ 1048576) (w : World) :
    (Instr.makeSlice 37 (.int .i64 (n : Int)) (.int .i64 (n : Int))).run Try.prog w = .ok (.slice (some ⟨w.heap.size, 0, none⟩) n n) (w.alloc (.cells (bcells (List.replicate n false)) 4)) := by
  obtain ⟨i0, hi0, hz0, hz1, hz2⟩ := info_parts infoB
  have hr := run_make (P := Try.prog) w 37 4 i0 (.bool false) Try.underlying37 hi0 hz0 .i64 .i64 (n : Int) (n : Int) (by omega) (Int.le_refl _) (by rw [hz2]; omega) (by omega)
  rw [Int.toNat_natCast, hz1, Nat.mul_one] at hr
  rw [hr]
  congr 3
  apply Array.ext
  · simp [madeCells, bcells]
  · intro j h1 h2
    simp [madeCells, Value.cells, Nat.mod_one, bcells]

/-- The lengths so far: all pairs of the first i, and k of the next one. -/
def jrow (a b : List Bool) (i m : Nat) : Bool := (List.range i).any fun j => decide (j ≤ m) && (a.getD j false && b.getD (m - j) false)
def JB (a b : List Bool) (n i k : Nat) : List Bool := (List.range n).map fun m => jrow a b i m || (decide (i ≤ m ∧ m < i + k) && (a.getD i false && b.getD (m - i) false))
theorem JB_length (a b : List Bool) (n i k : Nat) : (JB a b n i k).length = n := by simp [JB]
theorem JB_get (a b : List Bool) {n i k m : Nat} (h : m < n) : (JB a b n i k)[m]? = some (jrow a b i m || (decide (i ≤ m ∧ m < i + k) && (a.getD i false && b.getD (m - i) false))) := by
  simp [JB, h]
theorem JB_start (a b : List Bool) (n : Nat) : JB a b n 0 0 = List.replicate n false := by
  apply List.ext_getElem?
  intro m
  by_cases h : m < n
  · rw [JB_get a b h]
    simp [jrow, h]
  · rw [List.getElem?_eq_none (by rw [JB_length]; omega), List.getElem?_eq_none (by simp; omega)]
theorem JB_step (a b : List Bool) {n i k : Nat} (_h : i + k < n) : JB a b n i (k + 1) = (JB a b n i k).set (i + k) (jrow a b i (i + k) || (a.getD i false && b.getD k false)) := by
  apply List.ext_getElem?
  intro m
  by_cases hm : m < n
  · rw [JB_get a b hm, List.getElem?_set]
    by_cases e : i + k = m
    · subst e
      rw [if_pos rfl, if_pos (by rw [JB_length]; omega)]
      have e1 : decide (i ≤ i + k ∧ i + k < i + (k + 1)) = true := decide_eq_true (by omega)
      rw [e1, Nat.add_sub_cancel_left, Bool.true_and]
    · rw [if_neg e, JB_get a b hm]
      have e1 : decide (i ≤ m ∧ m < i + (k + 1)) = decide (i ≤ m ∧ m < i + k) := by
        rw [decide_eq_decide]
        omega
      rw [e1]
  · rw [List.getElem?_eq_none (by rw [JB_length]; omega), List.getElem?_eq_none (by rw [List.length_set, JB_length]; omega)]
theorem JB_at (a b : List Bool) {n i k : Nat} (h : i + k < n) : (JB a b n i k)[i + k]? = some (jrow a b i (i + k)) := by
  rw [JB_get a b h]
  have e1 : decide (i ≤ i + k ∧ i + k < i + k) = false := decide_eq_false (by omega)
  rw [e1, Bool.false_and, Bool.or_false]
theorem JB_next (a b : List Bool) {n i k : Nat} (h : n ≤ i + k) : JB a b n (i + 1) 0 = JB a b n i k := by
  apply List.ext_getElem?
  intro m
  by_cases hm : m < n
  · rw [JB_get a b hm, JB_get a b hm]
    have e1 : decide (i + 1 ≤ m ∧ m < i + 1 + 0) = false := decide_eq_false (by omega)
    have e2 : decide (i ≤ m ∧ m < i + k) = decide (i ≤ m) := by
      rw [decide_eq_decide]
      omega
    rw [e1, e2, Bool.false_and, Bool.or_false]
    unfold jrow
    rw [List.range_succ, List.any_append]
    simp
  · rw [List.getElem?_eq_none (by rw [JB_length]; omega), List.getElem?_eq_none (by rw [JB_length]; omega)]
/-- Lengths of one behind the other. -/
def joinB (a b : List Bool) : List Bool := JB a b a.length a.length 0
theorem getD_get {L : List Bool} {k : Nat} (h : k < L.length) : L[k]? = some (L.getD k false) := by
  rw [List.getD_eq_getElem?_getD, List.getElem?_eq_getElem h]
  rfl

set_option maxRecDepth 100000 in
set_option maxHeartbeats 4000000 in
theorem fjoin_any (A B : List Bool) (n : Nat) (hA : A.length = n) (hB : B.length = n) (hn : n ≤ 1000) (ga gb : Nat) (w : World) (ha : At w ga 4 (bcells A)) (hb : At w gb 4 (bcells B)) :
    Calls Try.prog 40 #[.slice (some ⟨ga, 0, none⟩) n n, .slice (some ⟨gb, 0, none⟩) n n] w fun e w' => ∃ g, e = .returned (.slice (some ⟨g, 0, none⟩) n n) ∧ w.heap.size ≤ g ∧ At w' g 4 (bcells (joinB A B)) ∧ Keep (fun _ => False) w w' := by
  have hmk := make_bools n (by omega) w
  have q0 := (Keep.refl (fun _ => False) w).alloc (.cells (bcells (List.replicate n false)) 4)
  have c0 := At.new w (bcells (List.replicate n false)) 4
  have hJ : joinB A B = JB A B n n 0 := by unfold joinB; rw [hA]
  rw [← JB_start A B n] at hmk q0 c0
  have hga := ha.lt
  have hgb := hb.lt
  have H0 := Lib.hid (And.intro (ha.keep q0 (fun h => h)) (And.intro (hb.keep q0 (fun h => h)) (And.intro c0 (And.intro q0 hJ))))
  have HL := Lib.hid (And.intro hA hB)
  clear ha hb c0 q0 hJ hA hB
  go_enter Try.func40, Try.ntmps40
  go_wp2_with fail
  clear hmk
  generalize (w.alloc (.cells (bcells (JB A B n 0 0)) 4)) = W at *
  go_loopg [6, 7] n (fun gg i s7 wr => ∃ k : Nat, i = .int .i64 k ∧ k + gg = n ∧ At wr w.heap.size 4 (bcells (JB A B n k 0)) ∧ Keep (fun b => b = w.heap.size) W wr)
  case atStart => exact ⟨0, rfl, by omega, H0.out.2.2.1, Keep.refl _ _⟩
  case round =>
    obtain ⟨i, rfl, hi, hrow, hq⟩ := hrel
    by_cases hlt : i < n
    · have hlt' : (i : Int) < n := by omega
      have HR := Lib.hid (And.intro hrow hq)
      clear hrow hq
      go_wp2_with fail
      go_loopg [7] (n + 1) (fun gg s7 wx => ∃ k : Nat, s7 = .int .i64 k ∧ k + gg = n + 1 ∧ At wx w.heap.size 4 (bcells (JB A B n i k)) ∧ Keep (fun b => b = w.heap.size) W wx)
      case atStart => exact ⟨0, rfl, by omega, HR.out.1, HR.out.2⟩
      case round =>
        obtain ⟨k, rfl, hk, hrow, hq⟩ := hrel
        by_cases hin : i + k < n
        · have hin' : (i : Int) + k < n := by omega
          have i0 : (0 : Int) ≤ i := by omega
          have k0 : (0 : Int) ≤ k := by omega
          have e0 := hrow.cell (bcells_get (JB_at A B hin))
          have f0 := hrow.frozen (i + k)
          have e1 := (H0.out.1.keep hq (by omega)).cell (bcells_get (getD_get (L := A) (k := i) (by rw [HL.out.1]; omega)))
          have e2 := (H0.out.2.1.keep hq (by omega)).cell (bcells_get (getD_get (L := B) (k := k) (by rw [HL.out.2]; omega)))
          have hset := hrow.set (i + k) (.bool (jrow A B i (i + k) || (A.getD i false && B.getD k false)))
          rw [bcells_set, ← JB_step A B hin] at hset
          have hqs := hq.setCell (p := ⟨w.heap.size, i + k, none⟩) (fun _ => rfl) (.bool (jrow A B i (i + k) || (A.getD i false && B.getD k false)))
          obtain ⟨x, hx⟩ : ∃ x, jrow A B i (i + k) = x := ⟨_, rfl⟩
          obtain ⟨y, hy⟩ : ∃ y, A.getD i false = y := ⟨_, rfl⟩
          obtain ⟨z, hz⟩ : ∃ z, B.getD k false = z := ⟨_, rfl⟩
          rw [hx, hy, hz] at hset hqs
          rw [hx] at e0
          rw [hy] at e1
          rw [hz] at e2
          have HS := Lib.hid (And.intro hset hqs)
          clear hset hqs hx hy hz hrow hq
          cases x <;> cases y <;> cases z
          all_goals
            go_wp2_with fail
            go_roundg (n + 1 - (k + 1))
            case measure => omega
            case rel => exact ⟨k + 1, by go_num, by omega, HS.out.1, HS.out.2⟩
        · have hin' : ¬ (i : Int) + k < n := by omega
          rw [← JB_next A B (show n ≤ i + k by omega)] at hrow
          have HS := Lib.hid (And.intro hrow hq)
          clear hrow hq
          go_wp2_with fail
          go_roundg (n - (i + 1))
          case measure => omega
          case rel => exact ⟨i + 1, by go_num, by omega, HS.out.1, HS.out.2⟩
    · have hke : i = n := by omega
      subst hke
      have HS := Lib.hid (And.intro hrow hq)
      clear hrow hq
      go_wp2_with fail
      go_ret
      exact ⟨w.heap.size, rfl, Nat.le_refl _, by rw [H0.out.2.2.2.2]; exact HS.out.1, H0.out.2.2.2.1.next HS.out.2 (fun b hb hl => by omega)⟩
end Go.Proofs.Ytblijgcfelnlmaa.P09
/- Layer 9, plain: the lengths up to a bound, as the document counts them. -/
namespace Go.Proofs.Ytblijgcfelnlmaa.P09
open Go.RowKit Go.Proofs.Ytblijgcfelnlmaa.Base Go.Proofs.Ytblijgcfelnlmaa.Bytes Go.Proofs.Ytblijgcfelnlmaa.P07 Go.Proofs.Ytblijgcfelnlmaa.P08
open Go.Proofs.Ytblijgcfelnlmaa.Sets (ST)

def noB (m : Nat) : List Bool := List.replicate (m + 1) false
def oneB0 (m : Nat) : List Bool := (noB m).set 0 true
/-- Or, in the first i places. -/
def OP (a b : List Bool) (i : Nat) : List Bool := (List.range a.length).map fun j => a.getD j false || (decide (j < i) && b.getD j false)
def orB (a b : List Bool) : List Bool := OP a b a.length
theorem OP_length (a b : List Bool) (i : Nat) : (OP a b i).length = a.length := by simp [OP]
theorem OP_get (a b : List Bool) {i j : Nat} (h : j < a.length) : (OP a b i)[j]? = some (a.getD j false || (decide (j < i) && b.getD j false)) := by
  simp [OP, h]
theorem OP_start (a b : List Bool) : OP a b 0 = a := by
  apply List.ext_getElem?
  intro j
  by_cases h : j < a.length
  · rw [OP_get a b h, getD_get h]
    simp
  · rw [List.getElem?_eq_none (by rw [OP_length]; omega), List.getElem?_eq_none (by omega)]
theorem OP_step (a b : List Bool) {i : Nat} (h : i < a.length) : OP a b (i + 1) = (OP a b i).set i (a.getD i false || b.getD i false) := by
  apply List.ext_getElem?
  intro j
  by_cases hj : j < a.length
  · rw [OP_get a b hj, List.getElem?_set]
    by_cases e : i = j
    · subst e
      rw [if_pos rfl, if_pos (by rw [OP_length]; exact h)]
      have e1 : decide (i < i + 1) = true := decide_eq_true (by omega)
      rw [e1, Bool.true_and]
    · rw [if_neg e, OP_get a b hj]
      have e1 : decide (j < i + 1) = decide (j < i) := by
        rw [decide_eq_decide]
        omega
      rw [e1]
  · rw [List.getElem?_eq_none (by rw [OP_length]; omega), List.getElem?_eq_none (by rw [List.length_set, OP_length]; omega)]
theorem OP_at (a b : List Bool) {i : Nat} (h : i < a.length) : (OP a b i)[i]? = some (a.getD i false) := by
  rw [OP_get a b h]
  have e1 : decide (i < i) = false := decide_eq_false (by omega)
  rw [e1, Bool.false_and, Bool.or_false]
theorem joinB_length (a b : List Bool) : (joinB a b).length = a.length := by
  unfold joinB
  exact JB_length a b _ _ _
theorem noB_length (m : Nat) : (noB m).length = m + 1 := by simp [noB]
theorem oneB0_length (m : Nat) : (oneB0 m).length = m + 1 := by simp [oneB0, noB]
/-- So often, one behind the other: what is reached so far, and what so many make. -/
def repS (m : Nat) (mn : Int) (L : List Bool) : Nat → List Bool × List Bool
  | 0 => (noB m, oneB0 m)
  | k + 1 => ((if mn ≤ k then orB (repS m mn L k).1 (repS m mn L k).2 else (repS m mn L k).1), joinB (repS m mn L k).2 L)
def lastN (m : Nat) (mn mx : Int) : Int := if mx < 0 then mn + m else mx
def repB (m : Nat) (mn mx : Int) (L : List Bool) : List Bool := (repS m mn L (lastN m mn mx + 1).toNat).1
theorem repS_length (m : Nat) (mn : Int) (L : List Bool) : ∀ k, (repS m mn L k).1.length = m + 1 ∧ (repS m mn L k).2.length = m + 1
  | 0 => ⟨noB_length m, oneB0_length m⟩
  | k + 1 => by
    have ih := repS_length m mn L k
    rw [repS]
    refine ⟨?_, by rw [joinB_length]; exact ih.2⟩
    dsimp only
    split
    · unfold orB
      rw [OP_length]
      exact ih.1
    · exact ih.1
mutual
/-- Which lengths up to m are of a match? -/
def lens (m : Nat) : T → List Bool
  | .nd k s mn mx l => if k = 1 then oneB0 m else if k = 2 then (if 1 ≤ m then (noB m).set 1 (!eqB s ST.none) else noB m) else if k = 3 then catB m (oneB0 m) l else if k = 4 then altB m (noB m) l else if k = 5 then repB m mn mx (headB m l) else noB m
def catB (m : Nat) : List Bool → List T → List Bool
  | acc, [] => acc
  | acc, t :: l => catB m (joinB acc (lens m t)) l
def altB (m : Nat) : List Bool → List T → List Bool
  | acc, [] => acc
  | acc, t :: l => altB m (orB acc (lens m t)) l
def headB (m : Nat) : List T → List Bool
  | [] => []
  | t :: _ => lens m t
end
theorem lens_eq (m : Nat) (t : T) : lens m t = if t.kind = 1 then oneB0 m else if t.kind = 2 then (if 1 ≤ m then (noB m).set 1 (!eqB t.set ST.none) else noB m) else if t.kind = 3 then catB m (oneB0 m) t.subs else if t.kind = 4 then altB m (noB m) t.subs else if t.kind = 5 then repB m t.mn t.mx (headB m t.subs) else noB m := by
  cases t
  rw [lens]
  rfl
theorem catB_length (m : Nat) : ∀ (l : List T) (acc : List Bool), (catB m acc l).length = acc.length
  | [], acc => by rw [catB]
  | t :: l, acc => by rw [catB, catB_length m l, joinB_length]
theorem altB_length (m : Nat) : ∀ (l : List T) (acc : List Bool), (altB m acc l).length = acc.length
  | [], acc => by rw [altB]
  | t :: l, acc => by
    rw [altB, altB_length m l]
    unfold orB
    rw [OP_length]
theorem lens_length (m : Nat) (t : T) : (lens m t).length = m + 1 := by
  rw [lens_eq]
  split
  · exact oneB0_length m
  · split
    · split
      · rw [List.length_set, noB_length]
      · exact noB_length m
    · split
      · rw [catB_length, oneB0_length]
      · split
        · rw [altB_length, noB_length]
        · split
          · exact (repS_length m _ _ _).1
          · exact noB_length m
theorem catB_append (m : Nat) : ∀ (L : List T) (acc : List Bool) (t : T), catB m acc (L ++ [t]) = joinB (catB m acc L) (lens m t)
  | [], acc, t => by rw [List.nil_append, catB, catB, catB]
  | s :: L, acc, t => by rw [List.cons_append, catB, catB, catB_append m L]
theorem catB_take {m : Nat} {acc : List Bool} {L : List T} {i : Nat} {s : T} (h : L[i]? = some s) : catB m acc (L.take (i + 1)) = joinB (catB m acc (L.take i)) (lens m s) := by
  rw [List.take_add_one, h]
  exact catB_append m _ acc s
theorem altB_append (m : Nat) : ∀ (L : List T) (acc : List Bool) (t : T), altB m acc (L ++ [t]) = orB (altB m acc L) (lens m t)
  | [], acc, t => by rw [List.nil_append, altB, altB, altB]
  | s :: L, acc, t => by rw [List.cons_append, altB, altB, altB_append m L]
theorem altB_take {m : Nat} {acc : List Bool} {L : List T} {i : Nat} {s : T} (h : L[i]? = some s) : altB m acc (L.take (i + 1)) = orB (altB m acc (L.take i)) (lens m s) := by
  rw [List.take_add_one, h]
  exact altB_append m _ acc s
end Go.Proofs.Ytblijgcfelnlmaa.P09
/- Layer 9, plain: which lengths a match may have, by the document's own count: none if nothing is matched, none shorter than the shortest, none longer than the longest, and one as short. -/
namespace Go.Proofs.Ytblijgcfelnlmaa.P09
open Go.Proofs.Ytblijgcfelnlmaa.P07 Go.Proofs.Ytblijgcfelnlmaa.P08 Go.Proofs.Ytblijgcfelnlmaa.Bytes
open Go.Proofs.Ytblijgcfelnlmaa.Sets (ST)

/-- A length that is there. -/
def Hs (L : List Bool) (k : Nat) : Prop := L.getD k false = true
theorem Hs.lt {L : List Bool} {k : Nat} (h : Hs L k) : k < L.length := by
  unfold Hs at h
  rcases Nat.lt_or_ge k L.length with h1 | h1
  · exact h1
  · rw [List.getD_eq_getElem?_getD, List.getElem?_eq_none h1] at h
    cases h
theorem hs_of {L : List Bool} {k : Nat} {b : Bool} (h : L[k]? = some b) : Hs L k ↔ b = true := by
  unfold Hs
  rw [List.getD_eq_getElem?_getD, h]
  rfl
theorem hs_no {m k : Nat} : ¬ Hs (noB m) k := by
  intro h
  have h1 := h.lt
  rw [noB_length] at h1
  have := (hs_of (L := noB m) (k := k) (b := false) (by simp [noB, h1])).1 h
  cases this
theorem hs_one {m k : Nat} : Hs (oneB0 m) k ↔ k = 0 := by
  constructor
  · intro h
    have h1 := h.lt
    rw [oneB0_length] at h1
    rcases Nat.eq_zero_or_pos k with h0 | h0
    · exact h0
    · have := (hs_of (L := oneB0 m) (k := k) (b := false) (by unfold oneB0; rw [List.getElem?_set, if_neg (by omega)]; simp [noB, h1])).1 h
      cases this
  · intro h
    subst h
    exact (hs_of (L := oneB0 m) (k := 0) (b := true) (by unfold oneB0; rw [List.getElem?_set, if_pos rfl, if_pos (by rw [noB_length]; omega)])).2 rfl
theorem hs_or {a b : List Bool} {k : Nat} (hl : b.length = a.length) : Hs (orB a b) k ↔ Hs a k ∨ Hs b k := by
  rcases Nat.lt_or_ge k a.length with h1 | h1
  · unfold orB
    rw [hs_of (OP_get a b h1), Bool.or_eq_true, decide_eq_true h1, Bool.true_and]
    exact Iff.rfl
  · constructor
    · intro h
      have := h.lt
      unfold orB at this
      rw [OP_length] at this
      omega
    · rintro (h | h)
      · have := h.lt
        omega
      · have := h.lt
        omega
theorem hs_join {a b : List Bool} {k : Nat} : Hs (joinB a b) k ↔ k < a.length ∧ ∃ i j, i + j = k ∧ Hs a i ∧ Hs b j := by
  rcases Nat.lt_or_ge k a.length with h1 | h1
  · unfold joinB
    have e : decide (a.length ≤ k ∧ k < a.length + 0) = false := decide_eq_false (by omega)
    rw [hs_of (JB_get a b h1), e, Bool.false_and, Bool.or_false]
    unfold jrow
    rw [List.any_eq_true]
    constructor
    · rintro ⟨i, hi, h⟩
      rw [Bool.and_eq_true, Bool.and_eq_true, decide_eq_true_eq] at h
      exact ⟨h1, i, k - i, by omega, h.2.1, h.2.2⟩
    · rintro ⟨-, i, j, hk, hi, hj⟩
      refine ⟨i, List.mem_range.2 hi.lt, ?_⟩
      rw [Bool.and_eq_true, Bool.and_eq_true, decide_eq_true_eq]
      refine ⟨by omega, hi, ?_⟩
      rw [show k - i = j from by omega]
      exact hj
  · constructor
    · intro h
      have := h.lt
      rw [joinB_length] at this
      omega
    · rintro ⟨h, -⟩
      omega

/-- What the lengths say. -/
structure LF (m : Nat) (t : T) : Prop where
  no : noneB t = true → ∀ k, ¬ Hs (lens m t) k
  lo : ∀ k, Hs (lens m t) k → leastI t ≤ k ∧ (0 ≤ mostI t → (k : Int) ≤ mostI t)
  at_ : noneB t = false → leastI t ≤ m → Hs (lens m t) (leastI t).toNat

theorem sumLe_mono : ∀ (l : List T) (a b : Int), a ≤ b → sumLe a l ≤ sumLe b l
  | [], a, b, h => by rw [sumLe, sumLe]; exact h
  | t :: l, a, b, h => by rw [sumLe, sumLe]; exact sumLe_mono l _ _ (by omega)
theorem mostL_mono : ∀ (l : List T) (a b : Int), 0 ≤ a → a ≤ b → mostL 3 a l ≤ mostL 3 b l ∧ (0 ≤ mostL 3 b l → 0 ≤ mostL 3 a l)
  | [], a, b, h0, h => by rw [mostL, mostL]; omega
  | t :: l, a, b, h0, h => by
    rw [mostL, mostL]
    split
    · exact mostL_mono l a b h0 h
    · split
      · omega
      · rw [if_pos rfl, if_pos rfl]
        exact mostL_mono l _ _ (by omega) (by omega)
theorem mostL4_ge : ∀ (l : List T) (a : Int), 0 ≤ a → 0 ≤ mostL 4 a l → a ≤ mostL 4 a l
  | [], a, h0, h => by rw [mostL]; omega
  | t :: l, a, h0, h => by
    rw [mostL] at h ⊢
    split
    · rename_i hn
      rw [if_pos hn] at h
      exact mostL4_ge l a h0 h
    · rename_i hn
      rw [if_neg hn] at h
      split
      · rename_i hm
        rw [if_pos hm] at h
        omega
      · rename_i hm
        rw [if_neg hm, if_neg (by decide)] at h
        rw [if_neg (by decide)]
        have := mostL4_ge l _ (by omega) h
        omega

theorem min_le : ∀ (l : List T) (a : Int), 0 ≤ a → minLe a l ≤ a
  | [], a, h => by rw [minLe]; exact Int.le_refl _
  | t :: l, a, h => by
    rw [minLe]
    split
    · have := min_le l (leastI t) (by omega)
      omega
    · exact min_le l a h
/-- So often. -/
theorem rep_two {m : Nat} {mn : Int} {L : List Bool} (hl : L.length = m + 1) {lo hi : Int} (hlo : ∀ k, Hs L k → lo ≤ k ∧ (0 ≤ hi → (k : Int) ≤ hi)) : ∀ (n i : Nat), Hs (repS m mn L n).2 i → (n : Int) * lo ≤ i ∧ (0 ≤ hi → (i : Int) ≤ n * hi)
  | 0, i, h => by
    rw [repS] at h
    have := hs_one.1 h
    subst this
    simp
  | n + 1, i, h => by
    rw [repS] at h
    obtain ⟨-, a, b, rfl, ha, hb⟩ := hs_join.1 h
    have h1 := rep_two hl hlo n a ha
    have h2 := hlo b hb
    have e1 : ((n + 1 : Nat) : Int) * lo = n * lo + lo := by rw [Int.natCast_add, Int.add_mul]; omega
    have e2 : ((n + 1 : Nat) : Int) * hi = n * hi + hi := by rw [Int.natCast_add, Int.add_mul]; omega
    rw [e1, e2]
    refine ⟨by have := h1.1; have := h2.1; omega, fun h => ?_⟩
    have := h1.2 h
    have := h2.2 h
    omega
theorem rep_at {m : Nat} {mn : Int} {L : List Bool} {a : Nat} (ha : Hs L a) : ∀ (n : Nat), n * a ≤ m → Hs (repS m mn L n).2 (n * a)
  | 0, h => by
    rw [repS, Nat.zero_mul]
    exact hs_one.2 rfl
  | n + 1, h => by
    rw [Nat.add_mul, Nat.one_mul] at h ⊢
    rw [repS]
    exact hs_join.2 ⟨by rw [(repS_length m mn L n).2]; omega, n * a, a, rfl, rep_at ha n (by omega), ha⟩
theorem rep_one {m : Nat} {mn : Int} {L : List Bool} : ∀ (n i : Nat), Hs (repS m mn L n).1 i ↔ ∃ k : Nat, k < n ∧ mn ≤ k ∧ Hs (repS m mn L k).2 i
  | 0, i => by
    rw [repS]
    exact ⟨fun h => absurd h hs_no, fun ⟨k, h, _⟩ => by omega⟩
  | n + 1, i => by
    rw [repS]
    have ih := rep_one (m := m) (mn := mn) (L := L) n i
    have hl := repS_length m mn L n
    dsimp only
    split
    · rename_i hm
      rw [hs_or (by rw [hl.1, hl.2]), ih]
      constructor
      · rintro (⟨k, h1, h2, h3⟩ | h)
        · exact ⟨k, by omega, h2, h3⟩
        · exact ⟨n, by omega, hm, h⟩
      · rintro ⟨k, h1, h2, h3⟩
        rcases Nat.lt_or_ge k n with h4 | h4
        · exact .inl ⟨k, h4, h2, h3⟩
        · have : k = n := by omega
          subst this
          exact .inr h3
    · rename_i hm
      rw [ih]
      constructor
      · rintro ⟨k, h1, h2, h3⟩
        exact ⟨k, by omega, h2, h3⟩
      · rintro ⟨k, h1, h2, h3⟩
        rcases Nat.lt_or_ge k n with h4 | h4
        · exact ⟨k, h4, h2, h3⟩
        · have : k = n := by omega
          subst this
          exact absurd h2 hm
theorem rep_nothing {m : Nat} {mn : Int} {L : List Bool} (h : ∀ k, ¬ Hs L k) : ∀ (n i : Nat), 0 < n → ¬ Hs (repS m mn L n).2 i
  | 0, i, h0 => by omega
  | n + 1, i, _ => by
    rw [repS]
    intro hh
    obtain ⟨-, a, b, -, -, hb⟩ := hs_join.1 hh
    exact h b hb

mutual
theorem lens_facts (m : Nat) : ∀ (t : T) (d : Nat), RT d t → LF m t
  | .nd k s mn mx l, d, h => by
    obtain ⟨hb, hs, hl⟩ := h.bare
    have en := noneB_eq (.nd k s mn mx l)
    have el := leastI_eq (.nd k s mn mx l)
    have em := mostI_eq (.nd k s mn mx l)
    have eL := lens_eq m (.nd k s mn mx l)
    obtain ⟨N, hN⟩ : ∃ N, noneB (.nd k s mn mx l) = N := ⟨_, rfl⟩
    obtain ⟨Le, hLe⟩ : ∃ Le, leastI (.nd k s mn mx l) = Le := ⟨_, rfl⟩
    obtain ⟨M, hM⟩ : ∃ M, mostI (.nd k s mn mx l) = M := ⟨_, rfl⟩
    obtain ⟨B, hB⟩ : ∃ B, lens m (.nd k s mn mx l) = B := ⟨_, rfl⟩
    rw [hN] at en el em
    rw [hLe] at el
    rw [hM] at em
    rw [hB] at eL
    unfold T.kind T.set T.mn T.subs at en
    unfold T.kind T.mn T.subs at el
    unfold T.kind T.mx T.subs at em
    unfold T.kind T.set T.mn T.mx T.subs at eL
    dsimp only at en el em eL
    suffices hh : (N = true → ∀ k, ¬ Hs B k) ∧ (∀ k, Hs B k → Le ≤ k ∧ (0 ≤ M → (k : Int) ≤ M)) ∧ (N = false → Le ≤ m → Hs B Le.toNat) by
      exact ⟨by rw [hN, hB]; exact hh.1, by rw [hLe, hM, hB]; exact hh.2.1, by rw [hN, hLe, hB]; exact hh.2.2⟩
    clear hN hLe hM hB
    by_cases h2 : k = 2
    · rw [if_pos h2] at en el em
      rw [if_neg (by omega), if_pos h2] at eL
      have hB : ∀ i, Hs B i ↔ i = 1 ∧ 1 ≤ m ∧ N = false := fun i => by
        rw [eL]
        split
        · rename_i h1
          by_cases hi : i = 1
          · subst hi
            rw [hs_of (b := !eqB s ST.none) (by rw [List.getElem?_set, if_pos rfl, if_pos (by rw [noB_length]; omega)]), en]
            cases eqB s ST.none <;> simp [h1]
          · constructor
            · intro hh
              have hlt := hh.lt
              rw [List.length_set, noB_length] at hlt
              have := (hs_of (b := false) (by rw [List.getElem?_set, if_neg (by omega)]; simp [noB, hlt])).1 hh
              cases this
            · rintro ⟨h3, -⟩
              exact absurd h3 hi
        · rename_i h1
          exact ⟨fun h => absurd h hs_no, fun h => absurd h.2.1 h1⟩
      refine ⟨fun hn i hh => ?_, fun i hh => ?_, fun hn hle => ?_⟩
      · have := ((hB i).1 hh).2.2
        rw [hn] at this
        cases this
      · obtain ⟨h3, h4, h5⟩ := (hB i).1 hh
        rw [h5, if_neg (by decide)] at el em
        omega
      · rw [hn, if_neg (by decide)] at el
        rw [el]
        exact (hB _).2 ⟨rfl, by omega, hn⟩
    · rw [if_neg h2] at en el em
      by_cases h3 : k = 3
      · rw [if_pos h3] at en el
        rw [if_pos (show k = 3 ∨ k = 4 from .inl h3)] at em
        rw [if_neg (by omega), if_neg h2, if_pos h3] at eL
        have hc := cat_facts m l d k hl
        subst h3
        refine ⟨fun hn i hh => ?_, fun i hh => ?_, fun hn hle => ?_⟩
        · rw [eL] at hh
          obtain ⟨-, -, -, -, h5⟩ := hc.1 _ i (oneB0_length m) hh
          rw [← en, hn] at h5
          cases h5
        · rw [eL] at hh
          obtain ⟨j, hj, h4, h6, h5⟩ := hc.1 _ i (oneB0_length m) hh
          have := hs_one.1 hj
          subst this
          rw [en, h5, if_neg (by decide)] at el em
          rw [el, em]
          exact ⟨h4, h6⟩
        · rw [hn, if_neg (by decide)] at el
          rw [eL, el]
          rw [el] at hle
          exact hc.2 (by rw [← en, hn]) _ 0 (oneB0_length m) (hs_one.2 rfl) hle
      · rw [if_neg h3] at en el
        by_cases h4 : k = 4
        · rw [if_pos h4] at en el
          rw [if_pos (show k = 3 ∨ k = 4 from .inr h4)] at em
          rw [if_neg (by omega), if_neg h2, if_neg h3, if_pos h4] at eL
          have hc := alt_facts m l d k hl
          subst h4
          refine ⟨fun hn i hh => ?_, fun i hh => ?_, fun hn hle => ?_⟩
          · rw [eL] at hh
            rcases hc.1 _ i (noB_length m) hh with hh | ⟨h5, -⟩
            · exact hs_no hh
            · rw [← en, hn] at h5
              cases h5
          · rw [eL] at hh
            rcases hc.1 _ i (noB_length m) hh with hh | ⟨h5, h6⟩
            · exact absurd hh hs_no
            · rw [en, h5, if_neg (by decide)] at el em
              have h7 := h6 (-1) 0 (by omega) (by omega)
              rw [el, em]
              exact ⟨h7.1, h7.2⟩
          · rw [hn, if_neg (by decide)] at el
            rw [eL, el]
            rw [el] at hle
            exact hc.2 _ (-1) (noB_length m) (Int.le_refl _) (by rw [← en]; exact .inr hn) (fun h => by omega) hle
        · rw [if_neg h4] at en el
          rw [if_neg (show ¬ (k = 3 ∨ k = 4) by omega)] at em
          by_cases h5 : k = 5
          · rw [if_pos h5] at en em
            rw [if_neg (by omega), if_neg h2, if_neg h3, if_neg h4, if_pos h5] at eL
            obtain ⟨a, rfl, b0, b1, bx, ha⟩ := one_sub h h5
            have hra : RT d a := IS.rt (k := 5) ha
            have hF := lens_facts m a d hra
            have hlb := least_bnd a d hra
            have hmb := most_bnd a d hra
            rw [headN] at en em
            rw [headM] at em
            rw [headLe] at el
            rw [headB] at eL
            have hL := lens_length m a
            unfold repB at eL
            have hK : mn < ((lastN m mn mx + 1).toNat : Int) ∧ (0 ≤ mx → (((lastN m mn mx + 1).toNat : Nat) : Int) ≤ mx + 1) := by
              unfold lastN
              split <;> omega
            generalize (lastN m mn mx + 1).toNat = K at eL hK
            have hB : ∀ i, Hs B i ↔ ∃ k : Nat, k < K ∧ mn ≤ k ∧ Hs (repS m mn (lens m a) k).2 i := fun i => by
              rw [eL]
              exact rep_one K i
            obtain ⟨hno, hlo, hat⟩ := hF
            generalize lens m a = L at hno hlo hat hL hB
            refine ⟨fun hn i hh => ?_, fun i hh => ?_, fun hn hle => ?_⟩
            · rw [hn] at en
              have en2 := en.symm
              rw [Bool.and_eq_true, decide_eq_true_eq] at en2
              obtain ⟨q, h6, h7, h8⟩ := (hB i).1 hh
              exact rep_nothing (hno en2.2) q i (by omega) h8
            · obtain ⟨q, h6, h7, h8⟩ := (hB i).1 hh
              cases hna : noneB a with
              | true =>
                rw [hna, Bool.and_true] at en
                have hq0 : q = 0 := by
                  rcases Nat.eq_zero_or_pos q with h9 | h9
                  · exact h9
                  · exact absurd h8 (rep_nothing (hno hna) q i h9)
                subst hq0
                rw [repS] at h8
                have hi := hs_one.1 h8
                subst hi
                rw [decide_eq_false (by omega)] at en
                rw [en, if_neg (by decide)] at el em
                rw [if_neg (by omega)] at el
                rw [if_pos (.inl hna)] at em
                omega
              | false =>
                rw [hna, Bool.and_false] at en
                rw [en, if_neg (by decide)] at el em
                have h9 := rep_two (mn := mn) hL hlo q i h8
                have h0 := hlb.2.1 hna
                have hLe : Le = mn * leastI a := by
                  rw [el]
                  split
                  · rfl
                  · rw [show mn = 0 from by omega, Int.zero_mul]
                have hml := Int.mul_le_mul_of_nonneg_right h7 h0
                refine ⟨by omega, fun hM0 => ?_⟩
                by_cases hm0 : mx = 0
                · rw [if_pos (.inr hm0)] at em
                  have hq0 : q = 0 := by
                    have := hK.2 (by omega)
                    omega
                  subst hq0
                  rw [repS] at h8
                  have hi := hs_one.1 h8
                  omega
                · rw [if_neg (by rintro (h | h); rw [hna] at h; cases h; exact hm0 h)] at em
                  by_cases hv : mostI a = 0
                  · rw [if_pos hv] at em
                    have h10 := h9.2 (by omega)
                    rw [hv, Int.mul_zero] at h10
                    omega
                  · rw [if_neg hv] at em
                    by_cases hv2 : mostI a < 0 ∨ mx < 0
                    · rw [if_pos hv2] at em
                      omega
                    · rw [if_neg hv2] at em
                      have h10 := h9.2 (by omega)
                      have h11 : (q : Int) ≤ mx := by
                        have := hK.2 (by omega)
                        omega
                      have h12 := Int.mul_le_mul_of_nonneg_right h11 (show 0 ≤ mostI a by omega)
                      rw [em, Int.mul_comm]
                      omega
            · rw [hn, if_neg (by decide)] at el
              obtain ⟨q, rfl⟩ : ∃ q : Nat, mn = q := ⟨mn.toNat, by omega⟩
              refine (hB _).2 ⟨q, by omega, Int.le_refl _, ?_⟩
              rcases Nat.eq_zero_or_pos q with h9 | h9
              · subst h9
                rw [if_neg (by omega)] at el
                rw [el, repS]
                exact hs_one.2 rfl
              · rw [if_pos ⟨h5, by omega⟩] at el
                have hna : noneB a = false := by
                  rw [hn, decide_eq_true (by omega), Bool.true_and] at en
                  exact en.symm
                have h0 := hlb.2.1 hna
                obtain ⟨x, hx⟩ : ∃ x : Nat, leastI a = x := ⟨(leastI a).toNat, by omega⟩
                rw [hx] at el hat
                have hqx : Le.toNat = q * x := by
                  rw [el]
                  omega
                have hqm : q * x ≤ m := by omega
                rw [hqx]
                refine rep_at (mn := q) (hat hna ?_) q hqm
                have : 1 * x ≤ q * x := Nat.mul_le_mul_right x h9
                omega
          · rw [if_neg h5] at en em
            subst en
            rw [if_neg (by decide)] at el em
            rw [if_neg (show ¬ (k = 5 ∧ 0 < mn) by omega)] at el
            have h1 : k = 1 := by
              unfold Bare at hb
              omega
            rw [if_pos h1] at eL
            subst eL el em
            refine ⟨fun h => (by cases h), fun i hh => ?_, fun _ _ => hs_one.2 rfl⟩
            have := hs_one.1 hh
            omega
theorem cat_facts (m : Nat) : ∀ (l : List T) (d : Nat) (k : Int), RL d k l →
    (∀ (acc : List Bool) (i : Nat), acc.length = m + 1 → Hs (catB m acc l) i → ∃ j : Nat, Hs acc j ∧ sumLe j l ≤ i ∧ (0 ≤ mostL 3 j l → (i : Int) ≤ mostL 3 j l) ∧ anyN l = false)
    ∧ (anyN l = false → ∀ (acc : List Bool) (j : Nat), acc.length = m + 1 → Hs acc j → sumLe j l ≤ m → Hs (catB m acc l) (sumLe j l).toNat)
  | [], d, k, _ => by
    refine ⟨fun acc i _ h => ?_, fun _ acc j _ h _ => ?_⟩
    · rw [catB] at h
      exact ⟨i, h, by rw [sumLe]; exact Int.le_refl _, by rw [mostL]; exact fun _ => Int.le_refl _, by rw [anyN]⟩
    · rw [catB, sumLe, Int.toNat_natCast]
      exact h
  | t :: l, d, k, hR => by
    obtain ⟨h1, h2⟩ := RL_cons hR
    have hF := lens_facts m t d (IS.rt (k := k) h1)
    have hlb := least_bnd t d (IS.rt (k := k) h1)
    have ih := cat_facts m l d k h2
    refine ⟨fun acc i hal h => ?_, fun hn acc j hal h hle => ?_⟩
    · rw [catB] at h
      obtain ⟨j', hj', h3, h4, h5⟩ := ih.1 _ i (by rw [joinB_length]; exact hal) h
      obtain ⟨-, p, q, rfl, hp, hq⟩ := hs_join.1 hj'
      have h6 := hF.lo q hq
      have hn : noneB t = false := by
        cases e : noneB t with
        | false => rfl
        | true => exact absurd hq (hF.no e q)
      refine ⟨p, hp, ?_, ?_, by rw [anyN, hn, h5]; rfl⟩
      · rw [sumLe]
        have := sumLe_mono l ((p : Int) + leastI t) ((p + q : Nat) : Int) (by omega)
        omega
      · rw [mostL, if_neg (by rw [hn]; decide)]
        split
        · intro h; omega
        · rename_i hm
          rw [if_pos rfl]
          intro h7
          have h8 := h6.2 (by omega)
          have h9 := mostL_mono l ((p + q : Nat) : Int) ((p : Int) + mostI t) (by omega) (by omega)
          have := h4 (h9.2 h7)
          omega
    · rw [anyN, Bool.or_eq_false_iff] at hn
      have h0 := hlb.2.1 hn.1
      obtain ⟨x, hx⟩ : ∃ x : Nat, leastI t = x := ⟨(leastI t).toNat, by omega⟩
      rw [sumLe, hx] at hle ⊢
      rw [catB]
      have hs0 := (sum_bnd l d k h2 hn.2 ((j : Int) + x) (by omega)).1
      have hat := hF.at_ hn.1
      rw [hx] at hat
      have hk := ih.2 hn.2 (joinB acc (lens m t)) (j + x) (by rw [joinB_length]; exact hal) (hs_join.2 ⟨by rw [hal]; omega, j, x, rfl, h, hat (by omega)⟩) (by rw [Int.natCast_add]; exact hle)
      rw [Int.natCast_add] at hk
      exact hk
theorem alt_facts (m : Nat) : ∀ (l : List T) (d : Nat) (k : Int), RL d k l →
    (∀ (acc : List Bool) (i : Nat), acc.length = m + 1 → Hs (altB m acc l) i → Hs acc i ∨ (allN l = false ∧ ∀ a b : Int, -1 ≤ a → 0 ≤ b → minLe a l ≤ i ∧ (0 ≤ mostL 4 b l → (i : Int) ≤ mostL 4 b l)))
    ∧ (∀ (acc : List Bool) (a : Int), acc.length = m + 1 → -1 ≤ a → (0 ≤ a ∨ allN l = false) → (0 ≤ a → a ≤ m → Hs acc a.toNat) → minLe a l ≤ m → Hs (altB m acc l) (minLe a l).toNat)
  | [], d, k, _ => by
    refine ⟨fun acc i _ h => ?_, fun acc a _ h0 h1 h2 h3 => ?_⟩
    · rw [altB] at h
      exact .inl h
    · rw [minLe] at h3 ⊢
      rw [altB]
      rw [allN] at h1
      rcases h1 with h1 | h1
      · exact h2 h1 h3
      · cases h1
  | t :: l, d, k, hR => by
    obtain ⟨h1, h2⟩ := RL_cons hR
    have hF := lens_facts m t d (IS.rt (k := k) h1)
    have hlb := least_bnd t d (IS.rt (k := k) h1)
    have ih := alt_facts m l d k h2
    refine ⟨fun acc i hal h => ?_, fun acc a hal h0 ha hh hle => ?_⟩
    · rw [altB] at h
      have hll : (orB acc (lens m t)).length = m + 1 := by
        unfold orB
        rw [OP_length]
        exact hal
      have hmin : ∀ a : Int, -1 ≤ a → -1 ≤ (if 0 ≤ leastI t ∧ (a < 0 ∨ leastI t < a) then leastI t else a) := fun a h => by split <;> omega
      rcases ih.1 _ i hll h with h3 | ⟨h3, h4⟩
      · rcases (hs_or (by rw [lens_length, hal])).1 h3 with h5 | h5
        · exact .inl h5
        · right
          have hn : noneB t = false := by
            cases e : noneB t with
            | false => rfl
            | true => exact absurd h5 (hF.no e i)
          have h6 := hF.lo i h5
          refine ⟨by rw [allN, hn]; rfl, fun a b ha hb => ?_⟩
          rw [minLe, mostL, if_neg (show ¬ noneB t = true by rw [hn]; decide)]
          have h7 := hlb.2.1 hn
          have hA : (if 0 ≤ leastI t ∧ (a < 0 ∨ leastI t < a) then leastI t else a) ≤ i ∧ 0 ≤ (if 0 ≤ leastI t ∧ (a < 0 ∨ leastI t < a) then leastI t else a) := by
            split <;> omega
          refine ⟨?_, ?_⟩
          · have := min_le l _ hA.2
            omega
          · split
            · intro h; omega
            · rw [if_neg (by decide)]
              intro h8
              have h9 := mostL4_ge l _ (by omega) h8
              have := h6.2 (by omega)
              omega
      · right
        refine ⟨by rw [allN, h3, Bool.and_false], fun a b ha hb => ?_⟩
        rw [minLe, mostL]
        have h5 := h4 _ b (hmin a ha) hb
        refine ⟨h5.1, ?_⟩
        split
        · exact h5.2
        · split
          · intro h; omega
          · rw [if_neg (by decide)]
            exact (h4 (-1) _ (by omega) (by omega)).2
    · rw [minLe] at hle ⊢
      rw [altB]
      refine ih.2 _ _ (by unfold orB; rw [OP_length]; exact hal) (by split <;> omega) ?_ ?_ hle
      · rcases ha with ha | ha
        · left
          split <;> omega
        · rw [allN] at ha
          cases hn : noneB t with
          | true =>
            rw [hn, Bool.true_and] at ha
            exact .inr ha
          | false =>
            left
            have := hlb.2.1 hn
            split <;> omega
      · split
        · rename_i hc
          intro h3 h4
          refine (hs_or (by rw [lens_length, hal])).2 (.inr (hF.at_ ?_ h4))
          cases hn : noneB t with
          | false => rfl
          | true =>
            have := hlb.1 hn
            omega
        · intro h3 h4
          exact (hs_or (by rw [lens_length, hal])).2 (.inl (hh h3 h4))
end

/-- Does it match the empty text? As the document counts. -/
def nullB (t : T) : Bool := (lens 0 t).getD 0 false
theorem nullB_iff {t : T} {d : Nat} (h : RT d t) : nullB t = (!noneB t && decide (leastI t = 0)) := by
  have hF := lens_facts 0 t d h
  have hlb := least_bnd t d h
  rw [Bool.eq_iff_iff]
  show Hs (lens 0 t) 0 ↔ _
  rw [Bool.and_eq_true, decide_eq_true_eq]
  cases hn : noneB t with
  | true => exact ⟨fun hh => absurd hh (hF.no hn 0), fun hh => by cases hh.1⟩
  | false =>
    have h0 := hlb.2.1 hn
    constructor
    · intro hh
      have := (hF.lo 0 hh).1
      exact ⟨rfl, by omega⟩
    · rintro ⟨-, h1⟩
      have := hF.at_ hn (by omega)
      rw [h1] at this
      exact this
end Go.Proofs.Ytblijgcfelnlmaa.P09
