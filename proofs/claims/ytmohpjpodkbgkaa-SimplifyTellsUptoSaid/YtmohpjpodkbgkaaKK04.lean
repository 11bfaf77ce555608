/- The document's parser (layer 7) in memory: its state; next, fail, must. -/
import Derived.Test.YtmohpjpodkbgkaaKK03
import Derived.Test.YtmohpjpodkbgkaaChecked
import Derived.Test.YtmohpjpodkbgkaaKK01
import Derived.Deep.LoopGhost
import Derived.TacticsInMore
namespace Go.Proofs.Ytmohpjpodkbgkaa.P07
open Go.RowKit Go.Proofs.Ytmohpjpodkbgkaa.Base

/-- A string's value, by its bytes. -/
@[reducible] def str (l : List UInt8) : Value := .string ⟨l.toArray⟩
theorem ret_bool {a b : Bool} (h : a = b) : Ending.returned (.bool a) = .returned (.bool b) := by rw [h]
theorem ret_int {k : IntKind} {a b : Int} (h : a = b) : Ending.returned (.int k a) = .returned (.int k b) := by rw [h]
theorem size_str (l : List UInt8) : ByteArray.size ⟨l.toArray⟩ = l.length := rfl
theorem byteAt_lt (l : List UInt8) (k : Nat) : byteAt l k < 256 := UInt8.toNat_lt _
theorem index_run (l : List UInt8) (k : Nat) (h : k < l.length) (w : World) : (Instr.index 9 (str l) (.int .i64 k)).run Try.prog w = .ok (.int .u8 (byteAt l k)) w := by
  have h1 : ByteArray.size ⟨l.toArray⟩ = l.length := rfl
  have e : l[k]?.getD 0 = l[k] := by
    rw [List.getElem?_eq_getElem h]
    rfl
  unfold byteAt
  rw [e]
  simp [Instr.index, run_underlying (P := Try.prog) Try.underlying9, asIntOf, h1, h, go_sem]
  rfl

def badI : Option Nat → Int
  | none => -1
  | some b => b
@[reducible] def pcells (l : List UInt8) (s : PS) : Array Value := #[str l, .int .i64 s.pos, .int .i64 (badI s.bad), .int .i64 s.opn]
end Go.Proofs.Ytmohpjpodkbgkaa.P07
/- The document's parser (layer 7): must, hex, digit, in, plain, one. -/
namespace Go.Proofs.Ytmohpjpodkbgkaa.P07
open Go.RowKit Go.Proofs.Ytmohpjpodkbgkaa.Base

theorem upk {w w' : World} (b : Nat) (q : Keep (fun _ => False) w w') : Keep (fun i => i = b) w w' := q.mono (fun _ h => h.elim)

def hexs : List UInt8 := [48, 49, 50, 51, 52, 53, 54, 55, 56, 57, 97, 98, 99, 100, 101, 102]
theorem hexs_at : ∀ k, k < 16 → hexv (byteAt hexs k) = k := by decide +kernel
theorem hexv_ge (c : Int) : -1 ≤ hexv c ∧ hexv c ≤ 15 := by
  unfold hexv
  split
  · omega
  · split <;> omega
theorem hexs_no (c : Int) (h : ∀ k, k < 16 → (byteAt hexs k : Int) ≠ c) : hexv c = -1 := by
  have e : ∀ k, k < 16 → (byteAt hexs k : Int) = if k < 10 then (k : Int) + 48 else (k : Int) + 87 := by decide +kernel
  by_cases h1 : 48 ≤ c ∧ c ≤ 57
  · have := h (c - 48).toNat (by omega)
    rw [e _ (by omega), if_pos (by omega)] at this
    omega
  · by_cases h2 : 97 ≤ c ∧ c ≤ 102
    · have := h (c - 87).toNat (by omega)
      rw [e _ (by omega), if_neg (by omega)] at this
      omega
    · unfold hexv
      rw [if_neg h1, if_neg h2]

/-- Is a byte one of some? -/
def inL (l : List UInt8) (c : Int) : Bool := (List.range l.length).any fun k => decide ((byteAt l k : Int) = c)
theorem inL_yes {l : List UInt8} {c : Int} {k : Nat} (hk : k < l.length) (h : (byteAt l k : Int) = c) : inL l c = true := List.any_eq_true.2 ⟨k, List.mem_range.2 hk, decide_eq_true h⟩
theorem inL_no {l : List UInt8} {c : Int} (h : ∀ k, k < l.length → (byteAt l k : Int) ≠ c) : inL l c = false := by
  rw [Bool.eq_false_iff]
  intro e
  obtain ⟨k, hk, h1⟩ := List.any_eq_true.1 e
  exact h k (List.mem_range.1 hk) (of_decide_eq_true h1)

/-- The state behind a place that is wrong. -/
theorem fail_pos (s : PS) (k : Nat) : (s.fail k).pos = s.pos := by
  unfold PS.fail
  split <;> rfl
end Go.Proofs.Ytmohpjpodkbgkaa.P07
