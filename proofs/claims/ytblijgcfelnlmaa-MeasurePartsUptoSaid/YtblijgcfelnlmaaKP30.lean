/- Rows of truth values (layer 9): a slice of bools of the program's own; the document's join. -/
import Derived.Test.YtblijgcfelnlmaaKP29
import Derived.Lib.AppendZeros
import Derived.Maps.AppendAt
namespace Go.Proofs.Ytblijgcfelnlmaa.P09
open Go.RowKit Go.Proofs.Ytblijgcfelnlmaa.Base Go.Proofs.Ytblijgcfelnlmaa.Bytes Go.Proofs.Ytblijgcfelnlmaa.P07 Go.Proofs.Ytblijgcfelnlmaa.P08
open Go.Proofs.Ytblijgcfelnlmaa.Sets (ST)

/-- The cells of a row of truth values. -/
def bcells (L : List Bool) : Array Value := (L.map Value.bool).toArray
theorem bcells_get {L : List Bool} {k : Nat} {b : Bool} (h : L[k]? = some b) : (bcells L)[k]? = some (.bool b) := by
  unfold bcells
  simp [h]
theorem bcells_set (L : List Bool) (k : Nat) (b : Bool) : (bcells L).setIfInBounds k (.bool b) = bcells (L.set k b) := by
  unfold bcells
  apply Array.ext'
  simp [List.map_set]
theorem infoB : (Try.prog.info? 4).map (fun i => (i.zero, i.size, i.bytes)) = some (some (.bool false), 1, 1) := by kernel_rfl
theorem make_bools (n : Nat) (hn : n ≤ 1048576) (w : World) :
    (Instr.makeSlice 37 (.int .i64 (n : Int)) (.int .i64 (n : Int))).run Try.prog w = .ok (.slice (some ⟨w.heap.size, 0, none⟩) n n) (w.alloc (.cells (bcells (List.replicate n false)) 4)) := by
  obtain ⟨i0, hi0, hz0, hz1, hz2⟩ := info_parts infoB
  have hr := run_make (P := Try.prog) w 37 4 i0 (.bool false) Try.underlying37 hi0 hz0 .i64 .i64 (n : Int) (n : Int) (by omega) (Int.le_refl _) (by rw [hz2]; omega) (by omega)
  rw [Int.toNat_natCast, hz1, Nat.mul_one] at hr
  rw [hr]
  congr 3
  apply Array.ext
  · simp [madeCells, bcells]
  · intro j h1 h2
    simp [madeCells, Value.cells, Nat.mod_one, bcells]

/-- The lengths so far: all pairs of the first i, and k of the next one. -/
def jrow (a b : List Bool) (i m : Nat) : Bool := (List.range i).any fun j => decide (j ≤ m) && (a.getD j false && b.getD (m - j) false)
def JB (a b : List Bool) (n i k : Nat) : List Bool := (List.range n).map fun m => jrow a b i m || (decide (i ≤ m ∧ m < i + k) && (a.getD i false && b.getD (m - i) false))
theorem JB_length (a b : List Bool) (n i k : Nat) : (JB a b n i k).length = n := by simp [JB]
theorem JB_get (a b : List Bool) {n i k m : Nat} (h : m < n) : (JB a b n i k)[m]? = some (jrow a b i m || (decide (i ≤ m ∧ m < i + k) && (a.getD i false && b.getD (m - i) false))) := by
  simp [JB, h]
theorem JB_start (a b : List Bool) (n : Nat) : JB a b n 0 0 = List.replicate n false := by
  apply List.ext_getElem?
  intro m
  by_cases h : m < n
  · rw [JB_get a b h]
    simp [jrow, h]
  · rw [List.getElem?_eq_none (by rw [JB_length]; omega), List.getElem?_eq_none (by simp; omega)]
theorem JB_step (a b : List Bool) {n i k : Nat} (_h : i + k < n) : JB a b n i (k + 1) = (JB a b n i k).set (i + k) (jrow a b i (i + k) || (a.getD i false && b.getD k false)) := by
  apply List.ext_getElem?
  intro m
  by_cases hm : m < n
  · rw [JB_get a b hm, List.getElem?_set]
    by_cases e : i + k = m
    · subst e
      rw [if_pos rfl, if_pos (by rw [JB_length]; omega)]
      have e1 : decide (i ≤ i + k ∧ i + k < i + (k + 1)) = true := decide_eq_true (by omega)
      rw [e1, Nat.add_sub_cancel_left, Bool.true_and]
    · rw [if_neg e, JB_get a b hm]
      have e1 : decide (i ≤ m ∧ m < i + (k + 1)) = decide (i ≤ m ∧ m < i + k) := by
        rw [decide_eq_decide]
        omega
      rw [e1]
  · rw [List.getElem?_eq_none (by rw [JB_length]; omega), List.getElem?_eq_none (by rw [List.length_set, JB_length]; omega)]
theorem JB_at (a b : List Bool) {n i k : Nat} (h : i + k < n) : (JB a b n i k)[i + k]? = some (jrow a b i (i + k)) := by
  rw [JB_get a b h]
  have e1 : decide (i ≤ i + k ∧ i + k < i + k) = false := decide_eq_false (by omega)
  rw [e1, Bool.false_and, Bool.or_false]
theorem JB_next (a b : List Bool) {n i k : Nat} (h : n ≤ i + k) : JB a b n (i + 1) 0 = JB a b n i k := by
  apply List.ext_getElem?
  intro m
  by_cases hm : m < n
  · rw [JB_get a b hm, JB_get a b hm]
    have e1 : decide (i + 1 ≤ m ∧ m < i + 1 + 0) = false := decide_eq_false (by omega)
    have e2 : decide (i ≤ m ∧ m < i + k) = decide (i ≤ m) := by
      rw [decide_eq_decide]
      omega
    rw [e1, e2, Bool.false_and, Bool.or_false]
    unfold jrow
    rw [List.range_succ, List.any_append]
    simp
  · rw [List.getElem?_eq_none (by rw [JB_length]; omega), List.getElem?_eq_none (by rw [JB_length]; omega)]
/-- Lengths of one behind the other. -/
def joinB (a b : List Bool) : List Bool := JB a b a.length a.length 0
theorem getD_get {L : List Bool} {k : Nat} (h : k < L.length) : L[k]? = some (L.getD k false) := by
  rw [List.getD_eq_getElem?_getD, List.getElem?_eq_getElem h]
  rfl

set_option maxRecDepth 100000 in
set_option maxHeartbeats 4000000 in
theorem fjoin_any (A B : List Bool) (n : Nat) (hA : A.length = n) (hB : B.length = n) (hn : n ≤ 1000) (ga gb : Nat) (w : World) (ha : At w ga 4 (bcells A)) (hb : At w gb 4 (bcells B)) :
    Calls Try.prog 40 #[.slice (some ⟨ga, 0, none⟩) n n, .slice (some ⟨gb, 0, none⟩) n n] w fun e w' => ∃ g, e = .returned (.slice (some ⟨g, 0, none⟩) n n) ∧ w.heap.size ≤ g ∧ At w' g 4 (bcells (joinB A B)) ∧ Keep (fun _ => False) w w' := by
  have hmk := make_bools n (by omega) w
  have q0 := (Keep.refl (fun _ => False) w).alloc (.cells (bcells (List.replicate n false)) 4)
  have c0 := At.new w (bcells (List.replicate n false)) 4
  have hJ : joinB A B = JB A B n n 0 := by unfold joinB; rw [hA]
  rw [← JB_start A B n] at hmk q0 c0
  have hga := ha.lt
  have hgb := hb.lt
  have H0 := Lib.hid (And.intro (ha.keep q0 (fun h => h)) (And.intro (hb.keep q0 (fun h => h)) (And.intro c0 (And.intro q0 hJ))))
  have HL := Lib.hid (And.intro hA hB)
  clear ha hb c0 q0 hJ hA hB
  go_enter Try.func40, Try.ntmps40
  go_wp2_with fail
  clear hmk
  generalize (w.alloc (.cells (bcells (JB A B n 0 0)) 4)) = W at *
  go_loopg [6, 7] n (fun gg i s7 wr => ∃ k : Nat, i = .int .i64 k ∧ k + gg = n ∧ At wr w.heap.size 4 (bcells (JB A B n k 0)) ∧ Keep (fun b => b = w.heap.size) W wr)
  case atStart => exact ⟨0, rfl, by omega, H0.out.2.2.1, Keep.refl _ _⟩
  case round =>
    obtain ⟨i, rfl, hi, hrow, hq⟩ := hrel
    by_cases hlt : i < n
    · have hlt' : (i : Int) < n := by omega
      have HR := Lib.hid (And.intro hrow hq)
      clear hrow hq
      go_wp2_with fail
      go_loopg [7] (n + 1) (fun gg s7 wx => ∃ k : Nat, s7 = .int .i64 k ∧ k + gg = n + 1 ∧ At wx w.heap.size 4 (bcells (JB A B n i k)) ∧ Keep (fun b => b = w.heap.size) W wx)
      case atStart => exact ⟨0, rfl, by omega, HR.out.1, HR.out.2⟩
      case round =>
        obtain ⟨k, rfl, hk, hrow, hq⟩ := hrel
        by_cases hin : i + k < n
        · have hin' : (i : Int) + k < n := by omega
          have i0 : (0 : Int) ≤ i := by omega
          have k0 : (0 : Int) ≤ k := by omega
          have e0 := hrow.cell (bcells_get (JB_at A B hin))
          have f0 := hrow.frozen (i + k)
          have e1 := (H0.out.1.keep hq (by omega)).cell (bcells_get (getD_get (L := A) (k := i) (by rw [HL.out.1]; omega)))
          have e2 := (H0.out.2.1.keep hq (by omega)).cell (bcells_get (getD_get (L := B) (k := k) (by rw [HL.out.2]; omega)))
          have hset := hrow.set (i + k) (.bool (jrow A B i (i + k) || (A.getD i false && B.getD k false)))
          rw [bcells_set, ← JB_step A B hin] at hset
          have hqs := hq.setCell (p := ⟨w.heap.size, i + k, none⟩) (fun _ => rfl) (.bool (jrow A B i (i + k) || (A.getD i false && B.getD k false)))
          obtain ⟨x, hx⟩ : ∃ x, jrow A B i (i + k) = x := ⟨_, rfl⟩
          obtain ⟨y, hy⟩ : ∃ y, A.getD i false = y := ⟨_, rfl⟩
          obtain ⟨z, hz⟩ : ∃ z, B.getD k false = z := ⟨_, rfl⟩
          rw [hx, hy, hz] at hset hqs
          rw [hx] at e0
          rw [hy] at e1
          rw [hz] at e2
          have HS := Lib.hid (And.intro hset hqs)
          clear hset hqs hx hy hz hrow hq
          cases x <;> cases y <;> cases z
          all_goals
            go_wp2_with fail
            go_roundg (n + 1 - (k + 1))
            case measure => omega
            case rel => exact ⟨k + 1, by go_num, by omega, HS.out.1, HS.out.2⟩
        · have hin' : ¬ (i : Int) + k < n := by omega
          rw [← JB_next A B (show n ≤ i + k by omega)] at hrow
          have HS := Lib.hid (And.intro hrow hq)
          clear hrow hq
          go_wp2_with fail
          go_roundg (n - (i + 1))
          case measure => omega
          case rel => exact ⟨i + 1, by go_num, by omega, HS.out.1, HS.out.2⟩
    · have hke : i = n := by omega
      subst hke
      have HS := Lib.hid (And.intro hrow hq)
      clear hrow hq
      go_wp2_with fail
      go_ret
      exact ⟨w.heap.size, rfl, Nat.le_refl _, by rw [H0.out.2.2.2.2]; exact HS.out.1, H0.out.2.2.2.1.next HS.out.2 (fun b hb hl => by omega)⟩
end Go.Proofs.Ytblijgcfelnlmaa.P09
