/- The document's parser (layer 7): plain (by the length of what layer 4's Escape answers), one. -/
import Derived.Test.YthcjfgfbeollpaaKG06
import Derived.BigQuiet
import Derived.LaidMore
namespace Go.Proofs.Ythcjfgfbeollpaa.P07
open Go.RowKit Go.Proofs.Ythcjfgfbeollpaa.Base

def sgns : List UInt8 := [32, 33, 34, 35, 37, 38, 39, 44, 47, 58, 59, 60, 61, 62, 64, 95, 96, 126]
theorem plain_low {b : Nat} (h : 97 ≤ b ∧ b ≤ 122 ∨ 65 ≤ b ∧ b ≤ 90 ∨ 48 ≤ b ∧ b ≤ 57) : plainN b = true := by
  unfold plainN
  rw [decide_eq_true h]
  rfl
theorem conv1 (b : Nat) (hb : b < 256) (w : World) : (convert 156 9 (.slice (some ⟨w.heap.size, 0, none⟩) 1 1)).run Try.prog (w.alloc (.cells #[.int .u8 b] 5)) = .ok (str [UInt8.ofNat b]) (w.alloc (.cells #[.int .u8 b] 5)) := by
  refine run_convert_bytes_back (P := Try.prog) _ _ _ 5 ⟨w.heap.size, 0, none⟩ 1 [UInt8.ofNat b] Try.underlying156 Try.underlying5 Try.underlying9 (fun j hj => ?_)
  obtain rfl : j = 0 := by simp at hj; omega
  have e : (UInt8.ofNat b).toNat = b := by simp; omega
  have h := (At.new w #[.int .u8 b] 5).cell (o := 0) rfl
  simp only [List.getElem_cons_zero, e]
  exact h
/-- How long what Escape answers is. -/
def escL (b : Nat) : List UInt8 := if plainN b = true then [UInt8.ofNat b] else [92, 120, UInt8.ofNat (byteAt hexs (b / 16)), UInt8.ofNat (byteAt hexs (b % 16))]
theorem plainI_nat {b : Nat} : plainI (b : Int) = plainN b := by
  unfold plainI
  rw [decide_eq_true (by omega)]
  rfl
end Go.Proofs.Ythcjfgfbeollpaa.P07
/- The document's parser (layer 7): one (a byte, or an escape). -/
namespace Go.Proofs.Ythcjfgfbeollpaa.P07
open Go.RowKit Go.Proofs.Ythcjfgfbeollpaa.Base

def sgL : List UInt8 := [124, 42, 43, 63, 40, 41, 91, 93, 123, 125, 46, 92, 94, 36, 45]
theorem nxt_range (l : List UInt8) (s : PS) : -1 ≤ nxt l s ∧ nxt l s < 256 := by
  unfold nxt
  split
  · have := byteAt_lt l s.pos
    omega
  · omega
theorem digit_range (l : List UInt8) (s : PS) : 0 ≤ (digit l s).1 ∧ (digit l s).1 ≤ 15 := by
  unfold digit
  split
  · have := hexv_ge (nxt l s)
    dsimp only
    omega
  · dsimp only
    omega
end Go.Proofs.Ythcjfgfbeollpaa.P07
/- The document's parser (layer 7): number. -/
namespace Go.Proofs.Ythcjfgfbeollpaa.P07
open Go.RowKit Go.Proofs.Ythcjfgfbeollpaa.Base

/-- The state k bytes on. -/
def PS.on (s : PS) (k : Nat) : PS := { s with pos := s.pos + k }
theorem on_0 (s : PS) : s.on 0 = s := rfl
theorem on_1 (s : PS) : s.on 1 = s.adv := rfl
theorem on_2 (s : PS) : s.on 2 = s.adv.adv := rfl
theorem dig_range {c : Int} (h : isDig c = true) : 48 ≤ c ∧ c ≤ 57 := of_decide_eq_true h
/-- What was read, k digits on. -/
def numAt (l : List UInt8) (s : PS) : Nat → Int
  | 0 => 0
  | k + 1 => 10 * numAt l s k + nxt l (s.on k) - 48
/-- So many digits stand there. -/
def digs (l : List UInt8) (s : PS) (k : Nat) : Prop := k ≤ 2 ∧ ∀ j, j < k → isDig (nxt l (s.on j)) = true
theorem digs_0 (l : List UInt8) (s : PS) : digs l s 0 := ⟨by omega, fun j h => absurd h (Nat.not_lt_zero _)⟩
theorem digs_succ {l : List UInt8} {s : PS} {k : Nat} (h : digs l s k) (hk : k < 2) (hd : isDig (nxt l (s.on k)) = true) : digs l s (k + 1) :=
  ⟨by omega, fun j hj => by
    by_cases e : j = k
    · rw [e]; exact hd
    · exact h.2 j (by omega)⟩
theorem numAt_range {l : List UInt8} {s : PS} : ∀ {k}, digs l s k → 0 ≤ numAt l s k ∧ numAt l s k ≤ 999
  | 0, _ => by unfold numAt; omega
  | 1, h => by
    have := dig_range (h.2 0 (by omega))
    unfold numAt numAt
    omega
  | 2, h => by
    have := dig_range (h.2 0 (by omega))
    have := dig_range (h.2 1 (by omega))
    unfold numAt numAt numAt
    omega
  | k + 3, h => by have := h.1; omega
/-- Where it ends. -/
theorem num_end {l : List UInt8} {s : PS} {k : Nat} (h : digs l s k) (he : k = 2 ∨ isDig (nxt l (s.on k)) = false) :
    num l s = (numAt l s k, if k = 0 then s.fail s.pos else s.on k) := by
  match k, h, he with
  | 0, _, he =>
    have e : isDig (nxt l s) = false := by
      rcases he with he | he
      · cases he
      · exact he
    unfold num numB
    rw [e]
    rfl
  | 1, h, he =>
    have e : isDig (nxt l s) = true := h.2 0 (by omega)
    have e2 : isDig (nxt l s.adv) = false := by
      rcases he with he | he
      · cases he
      · exact he
    unfold num numB num2 numB2
    rw [e, e2, if_pos rfl, if_neg (by decide), if_neg (by decide)]
    unfold numAt numAt
    rw [on_0, on_1]
    congr 1
    omega
  | 2, h, _ =>
    have e : isDig (nxt l s) = true := h.2 0 (by omega)
    have e2 : isDig (nxt l s.adv) = true := h.2 1 (by omega)
    unfold num numB num2 numB2
    rw [e, e2, if_pos rfl, if_pos rfl, if_neg (by decide)]
    unfold numAt numAt numAt
    rw [on_0, on_1, on_2]
    congr 1
    omega
  | k + 3, h, _ => exact absurd h.1 (by omega)

end Go.Proofs.Ythcjfgfbeollpaa.P07
