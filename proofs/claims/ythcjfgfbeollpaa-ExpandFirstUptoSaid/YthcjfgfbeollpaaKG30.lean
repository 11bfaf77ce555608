/- Rows of truth values (layer 9): a slice of bools of the program's own; the document's join. -/
import Derived.Test.YthcjfgfbeollpaaKG29
import Derived.Lib.AppendZeros
import Derived.Maps.AppendAt
import Derived.Test.YthcjfgfbeollpaaKG28
namespace Go.Proofs.Ythcjfgfbeollpaa.P09
open Go.RowKit Go.Proofs.Ythcjfgfbeollpaa.Base Go.Proofs.Ythcjfgfbeollpaa.Bytes Go.Proofs.Ythcjfgfbeollpaa.P07 Go.Proofs.Ythcjfgfbeollpaa.P08
open Go.Proofs.Ythcjfgfbeollpaa.Sets (ST)

/-- The cells of a row of truth values. -/
def bcells (L : List Bool) : Array Value := (L.map Value.bool).toArray
theorem bcells_get {L : List Bool} {k : Nat} {b : Bool} (h : L[k]? = some b) : (bcells L)[k]? = some (.bool b) := by
  unfold bcells
  simp [h]
theorem bcells_set (L : List Bool) (k : Nat) (b : Bool) : (bcells L).setIfInBounds k (.bool b) = bcells (L.set k b) := by
  unfold bcells
  apply Array.ext'
  simp [List.map_set]
theorem infoB : (Try.prog.info? 4).map (fun i => (i.zero, i.size, i.bytes)) = some (some (.bool false), 1, 1) := by kernel_rfl
set_option maxRecDepth 100000 in
theorem make_bools (n : Nat) (hn : n ≤ 1048576) (w : World) :
    (Instr.makeSlice 72 (.int .i64 (n : Int)) (.int .i64 (n : Int))).run Try.prog w = .ok (.slice (some ⟨w.heap.size, 0, none⟩) n n) (w.alloc (.cells (bcells (List.replicate n false)) 4)) := by
  obtain ⟨i0, hi0, hz0, hz1, hz2⟩ := info_parts infoB
  have hr := run_make (P := Try.prog) w 72 4 i0 (.bool false) Try.underlying72 hi0 hz0 .i64 .i64 (n : Int) (n : Int) (by omega) (Int.le_refl _) (by rw [hz2]; omega) (by omega)
  rw [Int.toNat_natCast, hz1, Nat.mul_one] at hr
  rw [hr]
  congr 3
  apply Array.ext
  · simp [madeCells, bcells]
  · intro j h1 h2
    simp [madeCells, Value.cells, Nat.mod_one, bcells]

/-- The lengths so far: all pairs of the first i, and k of the next one. -/
def jrow (a b : List Bool) (i m : Nat) : Bool := (List.range i).any fun j => decide (j ≤ m) && (a.getD j false && b.getD (m - j) false)
def JB (a b : List Bool) (n i k : Nat) : List Bool := (List.range n).map fun m => jrow a b i m || (decide (i ≤ m ∧ m < i + k) && (a.getD i false && b.getD (m - i) false))
theorem JB_length (a b : List Bool) (n i k : Nat) : (JB a b n i k).length = n := by simp [JB]
theorem JB_get (a b : List Bool) {n i k m : Nat} (h : m < n) : (JB a b n i k)[m]? = some (jrow a b i m || (decide (i ≤ m ∧ m < i + k) && (a.getD i false && b.getD (m - i) false))) := by
  simp [JB, h]
theorem JB_start (a b : List Bool) (n : Nat) : JB a b n 0 0 = List.replicate n false := by
  apply List.ext_getElem?
  intro m
  by_cases h : m < n
  · rw [JB_get a b h]
    simp [jrow, h]
  · rw [List.getElem?_eq_none (by rw [JB_length]; omega), List.getElem?_eq_none (by simp; omega)]
theorem JB_step (a b : List Bool) {n i k : Nat} (_h : i + k < n) : JB a b n i (k + 1) = (JB a b n i k).set (i + k) (jrow a b i (i + k) || (a.getD i false && b.getD k false)) := by
  apply List.ext_getElem?
  intro m
  by_cases hm : m < n
  · rw [JB_get a b hm, List.getElem?_set]
    by_cases e : i + k = m
    · subst e
      rw [if_pos rfl, if_pos (by rw [JB_length]; omega)]
      have e1 : decide (i ≤ i + k ∧ i + k < i + (k + 1)) = true := decide_eq_true (by omega)
      rw [e1, Nat.add_sub_cancel_left, Bool.true_and]
    · rw [if_neg e, JB_get a b hm]
      have e1 : decide (i ≤ m ∧ m < i + (k + 1)) = decide (i ≤ m ∧ m < i + k) := by
        rw [decide_eq_decide]
        omega
      rw [e1]
  · rw [List.getElem?_eq_none (by rw [JB_length]; omega), List.getElem?_eq_none (by rw [List.length_set, JB_length]; omega)]
theorem JB_at (a b : List Bool) {n i k : Nat} (h : i + k < n) : (JB a b n i k)[i + k]? = some (jrow a b i (i + k)) := by
  rw [JB_get a b h]
  have e1 : decide (i ≤ i + k ∧ i + k < i + k) = false := decide_eq_false (by omega)
  rw [e1, Bool.false_and, Bool.or_false]
theorem JB_next (a b : List Bool) {n i k : Nat} (h : n ≤ i + k) : JB a b n (i + 1) 0 = JB a b n i k := by
  apply List.ext_getElem?
  intro m
  by_cases hm : m < n
  · rw [JB_get a b hm, JB_get a b hm]
    have e1 : decide (i + 1 ≤ m ∧ m < i + 1 + 0) = false := decide_eq_false (by omega)
    have e2 : decide (i ≤ m ∧ m < i + k) = decide (i ≤ m) := by
      rw [decide_eq_decide]
      omega
    rw [e1, e2, Bool.false_and, Bool.or_false]
    unfold jrow
    rw [List.range_succ, List.any_append]
    simp
  · rw [List.getElem?_eq_none (by rw [JB_length]; omega), List.getElem?_eq_none (by rw [JB_length]; omega)]
/-- Lengths of one behind the other. -/
def joinB (a b : List Bool) : List Bool := JB a b a.length a.length 0
theorem getD_get {L : List Bool} {k : Nat} (h : k < L.length) : L[k]? = some (L.getD k false) := by
  rw [List.getD_eq_getElem?_getD, List.getElem?_eq_getElem h]
  rfl

set_option maxRecDepth 100000 in
set_option maxHeartbeats 4000000 in
theorem fjoin_any (A B : List Bool) (n : Nat) (hA : A.length = n) (hB : B.length = n) (hn : n ≤ 1000) (ga gb : Nat) (w : World) (ha : At w ga 4 (bcells A)) (hb : At w gb 4 (bcells B)) :
    Calls Try.prog 96 #[.slice (some ⟨ga, 0, none⟩) n n, .slice (some ⟨gb, 0, none⟩) n n] w fun e w' => ∃ g, e = .returned (.slice (some ⟨g, 0, none⟩) n n) ∧ w.heap.size ≤ g ∧ At w' g 4 (bcells (joinB A B)) ∧ Keep (fun _ => False) w w' := by
  have hmk := make_bools n (by omega) w
  have q0 := (Keep.refl (fun _ => False) w).alloc (.cells (bcells (List.replicate n false)) 4)
  have c0 := At.new w (bcells (List.replicate n false)) 4
  have hJ : joinB A B = JB A B n n 0 := by unfold joinB; rw [hA]
  rw [← JB_start A B n] at hmk q0 c0
  have hga := ha.lt
  have hgb := hb.lt
  have H0 := Lib.hid (And.intro (ha.keep q0 (fun h => h)) (And.intro (hb.keep q0 (fun h => h)) (And.intro c0 (And.intro q0 hJ))))
  have HL := Lib.hid (And.intro hA hB)
  clear ha hb c0 q0 hJ hA hB
  go_enter Try.func96, Try.ntmps96
  go_wp2_with fail
  clear hmk
  generalize (w.alloc (.cells (bcells (JB A B n 0 0)) 4)) = W at *
  go_loopg [6, 7] n (fun gg i s7 wr => ∃ k : Nat, i = .int .i64 k ∧ k + gg = n ∧ At wr w.heap.size 4 (bcells (JB A B n k 0)) ∧ Keep (fun b => b = w.heap.size) W wr)
  case atStart => exact ⟨0, rfl, by omega, H0.out.2.2.1, Keep.refl _ _⟩
  case round =>
    obtain ⟨i, rfl, hi, hrow, hq⟩ := hrel
    by_cases hlt : i < n
    · have hlt' : (i : Int) < n := by omega
      have HR := Lib.hid (And.intro hrow hq)
      clear hrow hq
      go_wp2_with fail
      go_loopg [7] (n + 1) (fun gg s7 wx => ∃ k : Nat, s7 = .int .i64 k ∧ k + gg = n + 1 ∧ At wx w.heap.size 4 (bcells (JB A B n i k)) ∧ Keep (fun b => b = w.heap.size) W wx)
      case atStart => exact ⟨0, rfl, by omega, HR.out.1, HR.out.2⟩
      case round =>
        obtain ⟨k, rfl, hk, hrow, hq⟩ := hrel
        by_cases hin : i + k < n
        · have hin' : (i : Int) + k < n := by omega
          have i0 : (0 : Int) ≤ i := by omega
          have k0 : (0 : Int) ≤ k := by omega
          have e0 := hrow.cell (bcells_get (JB_at A B hin))
          have f0 := hrow.frozen (i + k)
          have e1 := (H0.out.1.keep hq (by omega)).cell (bcells_get (getD_get (L := A) (k := i) (by rw [HL.out.1]; omega)))
          have e2 := (H0.out.2.1.keep hq (by omega)).cell (bcells_get (getD_get (L := B) (k := k) (by rw [HL.out.2]; omega)))
          have hset := hrow.set (i + k) (.bool (jrow A B i (i + k) || (A.getD i false && B.getD k false)))
          rw [bcells_set, ← JB_step A B hin] at hset
          have hqs := hq.setCell (p := ⟨w.heap.size, i + k, none⟩) (fun _ => rfl) (.bool (jrow A B i (i + k) || (A.getD i false && B.getD k false)))
          obtain ⟨x, hx⟩ : ∃ x, jrow A B i (i + k) = x := ⟨_, rfl⟩
          obtain ⟨y, hy⟩ : ∃ y, A.getD i false = y := ⟨_, rfl⟩
          obtain ⟨z, hz⟩ : ∃ z, B.getD k false = z := ⟨_, rfl⟩
          rw [hx, hy, hz] at hset hqs
          rw [hx] at e0
          rw [hy] at e1
          rw [hz] at e2
          have HS := Lib.hid (And.intro hset hqs)
          clear hset hqs hx hy hz hrow hq
          cases x <;> cases y <;> cases z
          all_goals
            go_wp2_with fail
            go_roundg (n + 1 - (k + 1))
            case measure => omega
            case rel => exact ⟨k + 1, by go_num, by omega, HS.out.1, HS.out.2⟩
        · have hin' : ¬ (i : Int) + k < n := by omega
          rw [← JB_next A B (show n ≤ i + k by omega)] at hrow
          have HS := Lib.hid (And.intro hrow hq)
          clear hrow hq
          go_wp2_with fail
          go_roundg (n - (i + 1))
          case measure => omega
          case rel => exact ⟨i + 1, by go_num, by omega, HS.out.1, HS.out.2⟩
    · have hke : i = n := by omega
      subst hke
      have HS := Lib.hid (And.intro hrow hq)
      clear hrow hq
      go_wp2_with fail
      go_ret
      exact ⟨w.heap.size, rfl, Nat.le_refl _, by rw [H0.out.2.2.2.2]; exact HS.out.1, H0.out.2.2.2.1.next HS.out.2 (fun b hb hl => by omega)⟩
end Go.Proofs.Ythcjfgfbeollpaa.P09
/- Layer 9, plain: the lengths up to a bound, as the document counts them. -/
namespace Go.Proofs.Ythcjfgfbeollpaa.P09
open Go.RowKit Go.Proofs.Ythcjfgfbeollpaa.Base Go.Proofs.Ythcjfgfbeollpaa.Bytes Go.Proofs.Ythcjfgfbeollpaa.P07 Go.Proofs.Ythcjfgfbeollpaa.P08
open Go.Proofs.Ythcjfgfbeollpaa.Sets (ST)

def noB (m : Nat) : List Bool := List.replicate (m + 1) false
def oneB0 (m : Nat) : List Bool := (noB m).set 0 true
/-- Or, in the first i places. -/
def OP (a b : List Bool) (i : Nat) : List Bool := (List.range a.length).map fun j => a.getD j false || (decide (j < i) && b.getD j false)
def orB (a b : List Bool) : List Bool := OP a b a.length
theorem OP_length (a b : List Bool) (i : Nat) : (OP a b i).length = a.length := by simp [OP]
theorem OP_get (a b : List Bool) {i j : Nat} (h : j < a.length) : (OP a b i)[j]? = some (a.getD j false || (decide (j < i) && b.getD j false)) := by
  simp [OP, h]
theorem OP_start (a b : List Bool) : OP a b 0 = a := by
  apply List.ext_getElem?
  intro j
  by_cases h : j < a.length
  · rw [OP_get a b h, getD_get h]
    simp
  · rw [List.getElem?_eq_none (by rw [OP_length]; omega), List.getElem?_eq_none (by omega)]
theorem OP_step (a b : List Bool) {i : Nat} (h : i < a.length) : OP a b (i + 1) = (OP a b i).set i (a.getD i false || b.getD i false) := by
  apply List.ext_getElem?
  intro j
  by_cases hj : j < a.length
  · rw [OP_get a b hj, List.getElem?_set]
    by_cases e : i = j
    · subst e
      rw [if_pos rfl, if_pos (by rw [OP_length]; exact h)]
      have e1 : decide (i < i + 1) = true := decide_eq_true (by omega)
      rw [e1, Bool.true_and]
    · rw [if_neg e, OP_get a b hj]
      have e1 : decide (j < i + 1) = decide (j < i) := by
        rw [decide_eq_decide]
        omega
      rw [e1]
  · rw [List.getElem?_eq_none (by rw [OP_length]; omega), List.getElem?_eq_none (by rw [List.length_set, OP_length]; omega)]
theorem OP_at (a b : List Bool) {i : Nat} (h : i < a.length) : (OP a b i)[i]? = some (a.getD i false) := by
  rw [OP_get a b h]
  have e1 : decide (i < i) = false := decide_eq_false (by omega)
  rw [e1, Bool.false_and, Bool.or_false]
theorem joinB_length (a b : List Bool) : (joinB a b).length = a.length := by
  unfold joinB
  exact JB_length a b _ _ _
theorem noB_length (m : Nat) : (noB m).length = m + 1 := by simp [noB]
theorem oneB0_length (m : Nat) : (oneB0 m).length = m + 1 := by simp [oneB0, noB]
/-- So often, one behind the other: what is reached so far, and what so many make. -/
def repS (m : Nat) (mn : Int) (L : List Bool) : Nat → List Bool × List Bool
  | 0 => (noB m, oneB0 m)
  | k + 1 => ((if mn ≤ k then orB (repS m mn L k).1 (repS m mn L k).2 else (repS m mn L k).1), joinB (repS m mn L k).2 L)
def lastN (m : Nat) (mn mx : Int) : Int := if mx < 0 then mn + m else mx
def repB (m : Nat) (mn mx : Int) (L : List Bool) : List Bool := (repS m mn L (lastN m mn mx + 1).toNat).1
theorem repS_length (m : Nat) (mn : Int) (L : List Bool) : ∀ k, (repS m mn L k).1.length = m + 1 ∧ (repS m mn L k).2.length = m + 1
  | 0 => ⟨noB_length m, oneB0_length m⟩
  | k + 1 => by
    have ih := repS_length m mn L k
    rw [repS]
    refine ⟨?_, by rw [joinB_length]; exact ih.2⟩
    dsimp only
    split
    · unfold orB
      rw [OP_length]
      exact ih.1
    · exact ih.1
mutual
/-- Which lengths up to m are of a match? -/
def lens (m : Nat) : T → List Bool
  | .nd k s mn mx l => if k = 1 then oneB0 m else if k = 2 then (if 1 ≤ m then (noB m).set 1 (!eqB s ST.none) else noB m) else if k = 3 then catB m (oneB0 m) l else if k = 4 then altB m (noB m) l else if k = 5 then repB m mn mx (headB m l) else noB m
def catB (m : Nat) : List Bool → List T → List Bool
  | acc, [] => acc
  | acc, t :: l => catB m (joinB acc (lens m t)) l
def altB (m : Nat) : List Bool → List T → List Bool
  | acc, [] => acc
  | acc, t :: l => altB m (orB acc (lens m t)) l
def headB (m : Nat) : List T → List Bool
  | [] => []
  | t :: _ => lens m t
end
theorem lens_eq (m : Nat) (t : T) : lens m t = if t.kind = 1 then oneB0 m else if t.kind = 2 then (if 1 ≤ m then (noB m).set 1 (!eqB t.set ST.none) else noB m) else if t.kind = 3 then catB m (oneB0 m) t.subs else if t.kind = 4 then altB m (noB m) t.subs else if t.kind = 5 then repB m t.mn t.mx (headB m t.subs) else noB m := by
  cases t
  rw [lens]
  rfl
theorem catB_length (m : Nat) : ∀ (l : List T) (acc : List Bool), (catB m acc l).length = acc.length
  | [], acc => by rw [catB]
  | t :: l, acc => by rw [catB, catB_length m l, joinB_length]
theorem altB_length (m : Nat) : ∀ (l : List T) (acc : List Bool), (altB m acc l).length = acc.length
  | [], acc => by rw [altB]
  | t :: l, acc => by
    rw [altB, altB_length m l]
    unfold orB
    rw [OP_length]
theorem lens_length (m : Nat) (t : T) : (lens m t).length = m + 1 := by
  rw [lens_eq]
  split
  · exact oneB0_length m
  · split
    · split
      · rw [List.length_set, noB_length]
      · exact noB_length m
    · split
      · rw [catB_length, oneB0_length]
      · split
        · rw [altB_length, noB_length]
        · split
          · exact (repS_length m _ _ _).1
          · exact noB_length m
theorem catB_append (m : Nat) : ∀ (L : List T) (acc : List Bool) (t : T), catB m acc (L ++ [t]) = joinB (catB m acc L) (lens m t)
  | [], acc, t => by rw [List.nil_append, catB, catB, catB]
  | s :: L, acc, t => by rw [List.cons_append, catB, catB, catB_append m L]
theorem catB_take {m : Nat} {acc : List Bool} {L : List T} {i : Nat} {s : T} (h : L[i]? = some s) : catB m acc (L.take (i + 1)) = joinB (catB m acc (L.take i)) (lens m s) := by
  rw [List.take_add_one, h]
  exact catB_append m _ acc s
theorem altB_append (m : Nat) : ∀ (L : List T) (acc : List Bool) (t : T), altB m acc (L ++ [t]) = orB (altB m acc L) (lens m t)
  | [], acc, t => by rw [List.nil_append, altB, altB, altB]
  | s :: L, acc, t => by rw [List.cons_append, altB, altB, altB_append m L]
theorem altB_take {m : Nat} {acc : List Bool} {L : List T} {i : Nat} {s : T} (h : L[i]? = some s) : altB m acc (L.take (i + 1)) = orB (altB m acc (L.take i)) (lens m s) := by
  rw [List.take_add_one, h]
  exact altB_append m _ acc s
end Go.Proofs.Ythcjfgfbeollpaa.P09
/- Layer 9, plain: what the code tells of an expression's texts; that lengths and nothing are the document's; what bounds them. -/
namespace Go.Proofs.Ythcjfgfbeollpaa.P09
open Go.Proofs.Ythcjfgfbeollpaa.P07 Go.Proofs.Ythcjfgfbeollpaa.P08 Go.Proofs.Ythcjfgfbeollpaa.Bytes
open Go.Proofs.Ythcjfgfbeollpaa.Sets (ST)

structure TX where
  none : Bool
  endless : Bool
  first : ST
  least : Int
  most : Int
def TX.empty : TX := ⟨false, false, .none, 0, 0⟩
def TX.nothing : TX := ⟨true, false, .none, 0, 0⟩
def TX.cls (s : ST) : TX := if s.count = 0 then .nothing else ⟨false, false, s, 1, 1⟩
def TX.then_ (t n : TX) : TX := if t.none = true ∨ n.none = true then .nothing else ⟨false, t.endless || n.endless, if t.least = 0 then t.first.or n.first else t.first, t.least + n.least, t.most + n.most⟩
def TX.or_ (t o : TX) : TX := if t.none = true then o else if o.none = true then t else ⟨false, t.endless || o.endless, t.first.or o.first, min t.least o.least, max t.most o.most⟩
def TX.rep (t : TX) (mn mx : Int) : TX := if mx = 0 ∨ (t.none = true ∧ mn = 0) then .empty else if t.none = true then t else if mx = -1 then ⟨false, t.endless || decide (0 < t.most), t.first, mn * t.least, t.most⟩ else ⟨false, t.endless, t.first, mn * t.least, mx * t.most⟩
mutual
def txOf : T → TX
  | .nd k s mn mx l => if k = 2 then .cls s else if k = 3 then catX .empty l else if k = 4 then altX .nothing l else if k = 5 then (headX l).rep mn mx else .empty
def catX : TX → List T → TX
  | acc, [] => acc
  | acc, t :: l => catX (acc.then_ (txOf t)) l
def altX : TX → List T → TX
  | acc, [] => acc
  | acc, t :: l => altX (acc.or_ (txOf t)) l
def headX : List T → TX
  | [] => .empty
  | t :: _ => txOf t
end
theorem txOf_eq (t : T) : txOf t = if t.kind = 2 then .cls t.set else if t.kind = 3 then catX .empty t.subs else if t.kind = 4 then altX .nothing t.subs else if t.kind = 5 then (headX t.subs).rep t.mn t.mx else .empty := by
  cases t
  rw [txOf]
  rfl
theorem count_none : ST.none.count = 0 := by decide +kernel
theorem count_zero {s : ST} (hs : s.Ok) : s.count = 0 ↔ s = .none := by
  constructor
  · intro h
    exact ST.ext hs ST.none_ok fun b hb => by rw [Sets.cnt_zero h b hb, ST.has_none]
  · intro h
    rw [h]
    exact count_none
theorem or_none {s : ST} (hs : s.Ok) : s.or .none = s := ST.ext (ST.or_ok hs ST.none_ok) hs fun b hb => by rw [ST.has_or _ _ b hb, ST.has_none, Bool.or_false]
theorem none_or {s : ST} (hs : s.Ok) : ST.or .none s = s := ST.ext (ST.or_ok ST.none_ok hs) hs fun b hb => by rw [ST.has_or _ _ b hb, ST.has_none, Bool.false_or]

/-- Its numbers are none below 0, and no greater; its set is a set. -/
structure TX.In (x : TX) (B : Int) : Prop where
  l0 : 0 ≤ x.least
  l1 : x.least ≤ B
  m0 : 0 ≤ x.most
  m1 : x.most ≤ B
  ok : x.first.Ok
theorem TX.In.mono {x : TX} {A B : Int} (h : x.In A) (hB : A ≤ B) : x.In B := ⟨h.l0, by have := h.l1; omega, h.m0, by have := h.m1; omega, h.ok⟩
theorem TX.In.empty {B : Int} (h : 0 ≤ B) : TX.empty.In B := ⟨Int.le_refl _, h, Int.le_refl _, h, ST.none_ok⟩
theorem TX.In.nothing {B : Int} (h : 0 ≤ B) : TX.nothing.In B := ⟨Int.le_refl _, h, Int.le_refl _, h, ST.none_ok⟩
theorem TX.In.cls {s : ST} (hs : s.Ok) {B : Int} (h : 1 ≤ B) : (TX.cls s).In B := by
  unfold TX.cls
  split
  · exact TX.In.nothing (by omega)
  · exact ⟨by show (0 : Int) ≤ 1; omega, h, by show (0 : Int) ≤ 1; omega, h, hs⟩
theorem TX.In.then_ {x y : TX} {A B : Int} (h : x.In A) (k : y.In B) : (x.then_ y).In (A + B) := by
  have h1 := h.l0; have h2 := h.l1; have h3 := h.m0; have h4 := h.m1
  have k1 := k.l0; have k2 := k.l1; have k3 := k.m0; have k4 := k.m1
  unfold TX.then_
  split
  · exact TX.In.nothing (by omega)
  · refine ⟨?_, ?_, ?_, ?_, ?_⟩
    · show 0 ≤ x.least + y.least; omega
    · show x.least + y.least ≤ _; omega
    · show 0 ≤ x.most + y.most; omega
    · show x.most + y.most ≤ _; omega
    · show (if x.least = 0 then _ else _ : ST).Ok
      split
      · exact ST.or_ok h.ok k.ok
      · exact h.ok
theorem TX.In.or_ {x y : TX} {A B : Int} (h : x.In A) (k : y.In B) : (x.or_ y).In (A + B) := by
  have h1 := h.l0; have h2 := h.l1; have h3 := h.m0; have h4 := h.m1
  have k1 := k.l0; have k2 := k.l1; have k3 := k.m0; have k4 := k.m1
  unfold TX.or_
  split
  · exact k.mono (by omega)
  · split
    · exact h.mono (by omega)
    · refine ⟨?_, ?_, ?_, ?_, ST.or_ok h.ok k.ok⟩
      · show 0 ≤ min x.least y.least; omega
      · show min x.least y.least ≤ _; omega
      · show 0 ≤ max x.most y.most; omega
      · show max x.most y.most ≤ _; omega

/-- The numbers of what stands in a repetition are as its brackets say. -/
theorem rep_in {d : Nat} {a : T} (h : if rnd 5 a.kind then 1 ≤ d ∧ RT (d - 1) a else RT d a) {x mn : Int} (hx : x = (txOf a).least ∨ x = (txOf a).most) (hi : ∀ e, RT e a → (txOf a).In (bnd e (cnt a))) (hm : mn ≤ 20) : mn * x ≤ bnd d (cnt a + 1) := by
  have h0 : 0 ≤ x := by
    rcases hx with h1 | h1 <;> rw [h1]
    · exact (hi d (IS.rt (k := 5) h)).l0
    · exact (hi d (IS.rt (k := 5) h)).m0
  rw [Int.mul_comm]
  refine rep_bnd h h0 (fun e he => ?_) (fun hk => ?_) hm
  · rcases hx with h1 | h1 <;> rw [h1]
    · exact (hi e he).l1
    · exact (hi e he).m1
  · have h2 : txOf a = .cls a.set := by rw [txOf_eq, if_pos hk]
    have h3 : (TX.cls a.set).least ≤ 1 ∧ (TX.cls a.set).most ≤ 1 := by
      unfold TX.cls
      split
      · exact ⟨by decide, by decide⟩
      · exact ⟨Int.le_refl _, Int.le_refl _⟩
    rcases hx with h1 | h1 <;> rw [h1, h2]
    · exact h3.1
    · exact h3.2

mutual
theorem tx_in : ∀ (t : T) (d : Nat), RT d t → (txOf t).In (bnd d (cnt t))
  | .nd k s mn mx l, d, h => by
    obtain ⟨hb, hs, hl⟩ := h.bare
    have hg := bnd_ge d (1 + cntL l)
    have hm := bnd_mono (Nat.le_refl d) (show cntL l ≤ 1 + cntL l by omega)
    rw [txOf, cnt]
    by_cases h2 : k = 2
    · rw [if_pos h2]
      exact TX.In.cls hs (by omega)
    · rw [if_neg h2]
      by_cases h3 : k = 3
      · rw [if_pos h3]
        exact (cat_in l d k hl .empty 0 (TX.In.empty (Int.le_refl 0))).mono (by omega)
      · rw [if_neg h3]
        by_cases h4 : k = 4
        · rw [if_pos h4]
          exact (alt_in l d k hl .nothing 0 (TX.In.nothing (Int.le_refl 0))).mono (by omega)
        · rw [if_neg h4]
          by_cases h5 : k = 5
          · rw [if_pos h5]
            obtain ⟨a, rfl, b0, b1, bx, ha⟩ := one_sub h h5
            have ec : 1 + cntL [a] = cnt a + 1 := by rw [cntL, cntL]; omega
            rw [headX, ec]
            rw [ec] at hg
            have hi := fun e he => tx_in a e he
            have hx := hi d (IS.rt (k := 5) ha)
            have hmo := bnd_mono (Nat.le_refl d) (show cnt a ≤ cnt a + 1 by omega)
            have hr1 := rep_in ha (.inl rfl) hi b1
            have hr2 := rep_in ha (mn := mx) (.inr rfl) hi (by omega)
            unfold TX.rep
            split
            · exact TX.In.empty (by omega)
            · split
              · exact hx.mono (by omega)
              · rename_i q1 q2
                split
                · exact ⟨Int.mul_nonneg b0 hx.l0, hr1, hx.m0, by have := hx.m1; show (txOf a).most ≤ _; omega, hx.ok⟩
                · exact ⟨Int.mul_nonneg b0 hx.l0, hr1, Int.mul_nonneg (by omega) hx.m0, hr2, hx.ok⟩
          · rw [if_neg h5]
            exact TX.In.empty (by omega)
theorem cat_in : ∀ (l : List T) (d : Nat) (k : Int), RL d k l → ∀ (acc : TX) (A : Int), acc.In A → (catX acc l).In (A + bnd d (cntL l))
  | [], d, k, _, acc, A, h => by rw [catX]; exact h.mono (by omega)
  | t :: l, d, k, hR, acc, A, h => by
    obtain ⟨h1, h2⟩ := RL_cons hR
    rw [catX, cntL]
    have h6 := bnd_add d (cnt t) (cntL l)
    exact (cat_in l d k h2 _ _ (h.then_ (tx_in t d (IS.rt (k := k) h1)))).mono (by omega)
theorem alt_in : ∀ (l : List T) (d : Nat) (k : Int), RL d k l → ∀ (acc : TX) (A : Int), acc.In A → (altX acc l).In (A + bnd d (cntL l))
  | [], d, k, _, acc, A, h => by rw [altX]; exact h.mono (by omega)
  | t :: l, d, k, hR, acc, A, h => by
    obtain ⟨h1, h2⟩ := RL_cons hR
    rw [altX, cntL]
    have h6 := bnd_add d (cnt t) (cntL l)
    exact (alt_in l d k h2 _ _ (h.or_ (tx_in t d (IS.rt (k := k) h1)))).mono (by omega)
end

/-- The code tells what the document tells. -/
structure Same (x : TX) (t : T) : Prop where
  none : x.none = noneB t
  zero : noneB t = true → x = .nothing
  least : noneB t = false → x.least = leastI t
  inf : noneB t = false → x.endless = true → mostI t = -1
  fin : noneB t = false → x.endless = false → mostI t = x.most
theorem catX_nothing : ∀ l, catX .nothing l = .nothing
  | [] => by rw [catX]
  | t :: l => by
    rw [catX]
    have : TX.nothing.then_ (txOf t) = .nothing := by
      unfold TX.then_
      rw [if_pos (.inl rfl)]
    rw [this]
    exact catX_nothing l
theorem mostL_neg {k : Int} {t : T} {l : List T} {acc : Int} (hn : noneB t = false) (hm : mostI t = -1) : mostL k acc (t :: l) = -1 := by
  rw [mostL, if_neg (by rw [hn]; decide), if_pos (by omega)]
mutual
theorem tx_same : ∀ (t : T) (d : Nat), RT d t → Same (txOf t) t
  | .nd k s mn mx l, d, h => by
    obtain ⟨hb, hs, hl⟩ := h.bare
    have en := noneB_eq (.nd k s mn mx l)
    have el := leastI_eq (.nd k s mn mx l)
    have em := mostI_eq (.nd k s mn mx l)
    obtain ⟨N, hN⟩ : ∃ N, noneB (.nd k s mn mx l) = N := ⟨_, rfl⟩
    obtain ⟨Le, hLe⟩ : ∃ Le, leastI (.nd k s mn mx l) = Le := ⟨_, rfl⟩
    obtain ⟨M, hM⟩ : ∃ M, mostI (.nd k s mn mx l) = M := ⟨_, rfl⟩
    rw [hN] at en el em
    rw [hLe] at el
    rw [hM] at em
    unfold T.kind T.set T.mn T.subs at en
    unfold T.kind T.mn T.subs at el
    unfold T.kind T.mx T.subs at em
    dsimp only at en el em
    suffices hh : (txOf (.nd k s mn mx l)).none = N ∧ (N = true → txOf (.nd k s mn mx l) = .nothing) ∧ (N = false → (txOf (.nd k s mn mx l)).least = Le ∧ ((txOf (.nd k s mn mx l)).endless = true → M = -1) ∧ ((txOf (.nd k s mn mx l)).endless = false → M = (txOf (.nd k s mn mx l)).most)) by
      exact ⟨by rw [hN]; exact hh.1, by rw [hN]; exact hh.2.1, fun h => by rw [hN] at h; rw [hLe]; exact (hh.2.2 h).1, fun h => by rw [hN] at h; rw [hM]; exact (hh.2.2 h).2.1, fun h => by rw [hN] at h; rw [hM]; exact (hh.2.2 h).2.2⟩
    clear hN hLe hM
    rw [txOf]
    by_cases h2 : k = 2
    · rw [if_pos h2] at en el em ⊢
      unfold TX.cls
      by_cases hc : s.count = 0
      · rw [if_pos hc]
        have : N = true := by rw [en]; exact eqB_iff.2 ((count_zero hs).1 hc)
        subst this
        exact ⟨rfl, fun _ => rfl, fun h => by cases h⟩
      · rw [if_neg hc]
        have : N = false := by
          rw [en]
          exact eqB_ne fun h => hc ((count_zero hs).2 h)
        subst this
        rw [if_neg (by decide)] at el em
        exact ⟨rfl, fun h => (by cases h), fun _ => ⟨el.symm, fun h => (by cases h), fun _ => em⟩⟩
    · rw [if_neg h2] at en el em ⊢
      by_cases h3 : k = 3
      · rw [if_pos h3] at en el ⊢
        rw [if_pos (show k = 3 ∨ k = 4 from .inl h3)] at em
        have hc := cat_same l d k hl
        cases N with
        | true =>
          have h1 := hc.1 en.symm .empty
          rw [h1]
          exact ⟨rfl, fun _ => rfl, fun h => by cases h⟩
        | false =>
          rw [if_neg (by decide)] at el em
          have h1 := hc.2 en.symm .empty rfl (Int.le_refl 0) (Int.le_refl 0)
          subst h3
          refine ⟨h1.1, fun h => (by cases h), fun _ => ⟨by rw [el]; exact h1.2.1, fun h => ?_, fun h => ?_⟩⟩
          · rw [em]; exact (h1.2.2.2 rfl).1 h
          · rw [em]; exact (h1.2.2.2 rfl).2 h
      · rw [if_neg h3] at en el ⊢
        by_cases h4 : k = 4
        · rw [if_pos h4] at en el ⊢
          rw [if_pos (show k = 3 ∨ k = 4 from .inr h4)] at em
          have hc := (alt_same l d k hl).1
          cases N with
          | true =>
            rw [hc.1 en.symm]
            exact ⟨rfl, fun _ => rfl, fun h => by cases h⟩
          | false =>
            rw [if_neg (by decide)] at el em
            have h1 := hc.2 en.symm
            subst h4
            exact ⟨h1.1, fun h => (by cases h), fun _ => ⟨by rw [el]; exact h1.2.1, fun h => by rw [em]; exact h1.2.2.1 h, fun h => by rw [em]; exact h1.2.2.2 h⟩⟩
        · rw [if_neg h4] at en el ⊢
          rw [if_neg (show ¬ (k = 3 ∨ k = 4) by omega)] at em
          by_cases h5 : k = 5
          · rw [if_pos h5] at en em ⊢
            obtain ⟨a, rfl, b0, b1, bx, ha⟩ := one_sub h h5
            have hra : RT d a := IS.rt (k := 5) ha
            have hS := tx_same a d hra
            have hI := tx_in a d hra
            rw [headN] at en em
            rw [headM] at em
            rw [headLe] at el
            rw [headX]
            have hmo := most_bnd a d hra
            generalize txOf a = x at hS hI ⊢
            cases hna : noneB a with
            | true =>
              rw [hna, Bool.and_true] at en
              have hx := hS.zero hna
              subst hx
              unfold TX.rep
              by_cases hm : 0 < mn
              · rw [decide_eq_true hm] at en
                subst en
                rw [if_neg (by rintro (h | h); omega; omega), if_pos (show TX.nothing.none = true from rfl)]
                exact ⟨rfl, fun _ => rfl, fun h => by cases h⟩
              · rw [decide_eq_false hm] at en
                subst en
                rw [if_pos (.inr ⟨rfl, by omega⟩)]
                rw [if_neg (by decide), if_neg (by omega)] at el
                rw [if_neg (by decide), if_pos (.inl hna)] at em
                exact ⟨rfl, fun h => (by cases h), fun _ => ⟨el.symm, fun h => (by cases h), fun _ => em⟩⟩
            | false =>
              rw [hna, Bool.and_false] at en
              subst en
              rw [if_neg (by decide)] at el em
              have hxn : x.none = false := hS.none.trans hna
              have hle := hS.least hna
              have hin := hS.inf hna
              have hfi := hS.fin hna
              have h0 := hI.l0
              have h1 := hI.m0
              unfold TX.rep
              by_cases hm : mx = 0
              · rw [if_pos (.inl hm)]
                rw [if_pos (.inr hm)] at em
                have : mn = 0 := by omega
                rw [if_neg (by omega)] at el
                exact ⟨rfl, fun h => (by cases h), fun _ => ⟨el.symm, fun h => (by cases h), fun _ => em⟩⟩
              · rw [if_neg (by rintro (h | h); exact hm h; rw [hxn] at h; cases h.1), if_neg (by rw [hxn]; decide)]
                rw [if_neg (by rintro (h | h); rw [hna] at h; cases h; exact hm h)] at em
                have hLe : Le = mn * x.least := by
                  rw [el, hle]
                  split
                  · rfl
                  · have : mn = 0 := by omega
                    rw [this, Int.zero_mul]
                by_cases hu : mx = -1
                · rw [if_pos hu]
                  refine ⟨rfl, fun h => (by cases h), fun _ => ⟨hLe.symm, ?_, ?_⟩⟩
                  · intro he
                    dsimp only at he
                    rw [Bool.or_eq_true] at he
                    cases hxe : x.endless with
                    | true =>
                      have := hin hxe
                      rw [if_neg (by omega), if_pos (by omega)] at em
                      exact em
                    | false =>
                      have h2 := hfi hxe
                      rw [hxe] at he
                      have h3 : 0 < x.most := by
                        rcases he with he | he
                        · cases he
                        · exact of_decide_eq_true he
                      rw [if_neg (by omega), if_pos (by omega)] at em
                      exact em
                  · intro he
                    dsimp only at he ⊢
                    rw [Bool.or_eq_false_iff] at he
                    have h2 := hfi he.1
                    have h3 := of_decide_eq_false he.2
                    rw [if_pos (by omega)] at em
                    omega
                · rw [if_neg hu]
                  refine ⟨rfl, fun h => (by cases h), fun _ => ⟨hLe.symm, ?_, ?_⟩⟩
                  · intro he
                    have := hin he
                    rw [if_neg (by omega), if_pos (by omega)] at em
                    exact em
                  · intro he
                    have h2 := hfi he
                    dsimp only
                    by_cases h3 : mostI a = 0
                    · rw [if_pos h3] at em
                      rw [em, show x.most = 0 from by omega, Int.mul_zero]
                    · rw [if_neg h3, if_neg (by omega)] at em
                      rw [em, h2, Int.mul_comm]
          · rw [if_neg h5] at en em ⊢
            subst en
            rw [if_neg (by decide)] at el em
            rw [if_neg (show ¬ (k = 5 ∧ 0 < mn) by omega)] at el
            exact ⟨rfl, fun h => (by cases h), fun _ => ⟨el.symm, fun h => (by cases h), fun _ => em⟩⟩
theorem cat_same : ∀ (l : List T) (d : Nat) (k : Int), RL d k l → (anyN l = true → ∀ acc : TX, catX acc l = .nothing) ∧ (anyN l = false → ∀ acc : TX, acc.none = false → 0 ≤ acc.least → 0 ≤ acc.most → (catX acc l).none = false ∧ (catX acc l).least = sumLe acc.least l ∧ (acc.endless = true → (catX acc l).endless = true) ∧ (acc.endless = false → ((catX acc l).endless = true → mostL 3 acc.most l = -1) ∧ ((catX acc l).endless = false → mostL 3 acc.most l = (catX acc l).most)))
  | [], d, k, _ => by
    refine ⟨fun h => ?_, fun _ acc h0 h1 h2 => ?_⟩
    · rw [anyN] at h
      cases h
    · rw [catX, sumLe, mostL]
      exact ⟨h0, rfl, fun h => h, fun h => ⟨fun h' => (by rw [h] at h'; cases h'), fun _ => rfl⟩⟩
  | t :: l, d, k, hR => by
    obtain ⟨h1, h2⟩ := RL_cons hR
    have hS := tx_same t d (IS.rt (k := k) h1)
    have hI := tx_in t d (IS.rt (k := k) h1)
    have ih := cat_same l d k h2
    refine ⟨fun h acc => ?_, fun h acc h0 hl0 hm0 => ?_⟩
    · rw [anyN] at h
      rw [catX]
      cases hn : noneB t with
      | true =>
        have : acc.then_ (txOf t) = .nothing := by
          unfold TX.then_
          rw [if_pos (.inr (hS.none.trans hn))]
        rw [this]
        exact catX_nothing l
      | false =>
        rw [hn, Bool.false_or] at h
        exact ih.1 h _
    · rw [anyN, Bool.or_eq_false_iff] at h
      have hth : acc.then_ (txOf t) = ⟨false, acc.endless || (txOf t).endless, if acc.least = 0 then acc.first.or (txOf t).first else acc.first, acc.least + (txOf t).least, acc.most + (txOf t).most⟩ := by
        unfold TX.then_
        rw [if_neg (by rw [h0, hS.none, h.1]; simp)]
      rw [catX, sumLe]
      have hle := hS.least h.1
      have hi0 := hI.l0
      have hi1 := hI.m0
      have h3 := ih.2 h.2 (acc.then_ (txOf t)) (by rw [hth]) (by rw [hth]; show 0 ≤ acc.least + (txOf t).least; omega) (by rw [hth]; show 0 ≤ acc.most + (txOf t).most; omega)
      have e1 : (acc.then_ (txOf t)).least = acc.least + leastI t := by rw [hth, ← hle]
      have e2 : (acc.then_ (txOf t)).most = acc.most + (txOf t).most := by rw [hth]
      have e3 : (acc.then_ (txOf t)).endless = (acc.endless || (txOf t).endless) := by rw [hth]
      rw [e1, e2, e3] at h3
      refine ⟨h3.1, h3.2.1, fun he => h3.2.2.1 (by rw [he]; rfl), fun he => ?_⟩
      rw [he, Bool.false_or] at h3
      cases hxe : (txOf t).endless with
      | true =>
        have h4 := h3.2.2.1 hxe
        rw [mostL_neg h.1 (hS.inf h.1 hxe), h4]
        exact ⟨fun _ => rfl, fun h => by cases h⟩
      | false =>
        have h4 := hS.fin h.1 hxe
        rw [mostL, if_neg (by rw [h.1]; decide), if_neg (by omega), if_pos rfl, h4]
        exact h3.2.2.2 hxe
theorem alt_same : ∀ (l : List T) (d : Nat) (k : Int), RL d k l → ((allN l = true → altX .nothing l = .nothing) ∧ (allN l = false → (altX .nothing l).none = false ∧ (altX .nothing l).least = minLe (-1) l ∧ ((altX .nothing l).endless = true → mostL 4 0 l = -1) ∧ ((altX .nothing l).endless = false → mostL 4 0 l = (altX .nothing l).most)))
    ∧ ∀ acc : TX, acc.none = false → 0 ≤ acc.least → 0 ≤ acc.most → (altX acc l).none = false ∧ (altX acc l).least = minLe acc.least l ∧ (acc.endless = true → (altX acc l).endless = true) ∧ (acc.endless = false → ((altX acc l).endless = true → mostL 4 acc.most l = -1) ∧ ((altX acc l).endless = false → mostL 4 acc.most l = (altX acc l).most))
  | [], d, k, _ => by
    refine ⟨⟨fun _ => by rw [altX], fun h => ?_⟩, fun acc h0 h1 h2 => ?_⟩
    · rw [allN] at h
      cases h
    · rw [altX, minLe, mostL]
      exact ⟨h0, rfl, fun h => h, fun h => ⟨fun h' => (by rw [h] at h'; cases h'), fun _ => rfl⟩⟩
  | t :: l, d, k, hR => by
    obtain ⟨h1, h2⟩ := RL_cons hR
    have hS := tx_same t d (IS.rt (k := k) h1)
    have hI := tx_in t d (IS.rt (k := k) h1)
    have hB := (least_bnd t d (IS.rt (k := k) h1))
    have ih := alt_same l d k h2
    have hno : TX.nothing.or_ (txOf t) = txOf t := by
      unfold TX.or_
      rw [if_pos (show TX.nothing.none = true from rfl)]
    have hi0 := hI.l0
    have hi1 := hI.m0
    refine ⟨?_, fun acc h0 hl0 hm0 => ?_⟩
    · rw [altX, hno, allN, minLe]
      cases hn : noneB t with
      | true =>
        rw [hS.zero hn, Bool.true_and, mostL, if_pos hn, if_neg (by have := hB.1 hn; omega)]
        exact ih.1
      | false =>
        rw [Bool.false_and]
        refine ⟨fun h => (by cases h), fun _ => ?_⟩
        have h3 := ih.2 (txOf t) (hS.none.trans hn) hi0 hi1
        have hle := hS.least hn
        rw [if_pos (by omega), ← hle]
        refine ⟨h3.1, h3.2.1, ?_⟩
        cases hxe : (txOf t).endless with
        | true =>
          have h4 := h3.2.2.1 hxe
          rw [mostL_neg hn (hS.inf hn hxe), h4]
          exact ⟨fun _ => rfl, fun h => by cases h⟩
        | false =>
          have h4 := hS.fin hn hxe
          rw [mostL, if_neg (by rw [hn]; decide), if_neg (by omega), if_neg (by decide), h4, show max 0 (txOf t).most = (txOf t).most from by omega]
          exact h3.2.2.2 hxe
    · rw [altX, minLe]
      cases hn : noneB t with
      | true =>
        have : acc.or_ (txOf t) = acc := by
          unfold TX.or_
          rw [if_neg (by rw [h0]; decide), if_pos (hS.none.trans hn)]
        rw [this, mostL, if_pos hn, if_neg (by have := hB.1 hn; omega)]
        exact ih.2 acc h0 hl0 hm0
      | false =>
        have hth : acc.or_ (txOf t) = ⟨false, acc.endless || (txOf t).endless, acc.first.or (txOf t).first, min acc.least (txOf t).least, max acc.most (txOf t).most⟩ := by
          unfold TX.or_
          rw [if_neg (by rw [h0]; decide), if_neg (by rw [hS.none, hn]; decide)]
        have hle := hS.least hn
        have h3 := ih.2 (acc.or_ (txOf t)) (by rw [hth]) (by rw [hth]; show 0 ≤ min acc.least (txOf t).least; omega) (by rw [hth]; show 0 ≤ max acc.most (txOf t).most; omega)
        have e1 : (acc.or_ (txOf t)).least = if 0 ≤ leastI t ∧ (acc.least < 0 ∨ leastI t < acc.least) then leastI t else acc.least := by
          rw [hth, ← hle]
          show min acc.least (txOf t).least = _
          split <;> omega
        have e2 : (acc.or_ (txOf t)).most = max acc.most (txOf t).most := by rw [hth]
        have e3 : (acc.or_ (txOf t)).endless = (acc.endless || (txOf t).endless) := by rw [hth]
        rw [e1, e2, e3] at h3
        refine ⟨h3.1, h3.2.1, fun he => h3.2.2.1 (by rw [he]; rfl), fun he => ?_⟩
        rw [he, Bool.false_or] at h3
        cases hxe : (txOf t).endless with
        | true =>
          have h4 := h3.2.2.1 hxe
          rw [mostL_neg hn (hS.inf hn hxe), h4]
          exact ⟨fun _ => rfl, fun h => by cases h⟩
        | false =>
          have h4 := hS.fin hn hxe
          rw [mostL, if_neg (by rw [hn]; decide), if_neg (by omega), if_neg (by decide), h4]
          exact h3.2.2.2 hxe
end
end Go.Proofs.Ythcjfgfbeollpaa.P09
