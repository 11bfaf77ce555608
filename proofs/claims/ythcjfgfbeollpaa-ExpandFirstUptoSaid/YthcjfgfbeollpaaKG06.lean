/- The document's parser (layer 7) in memory: its state; next, fail, must. -/
import Derived.Test.YthcjfgfbeollpaaKG05
import Derived.Test.YthcjfgfbeollpaaChecked
import Derived.Test.YthcjfgfbeollpaaKG01
import Derived.Deep.LoopGhost
import Derived.TacticsInMore
namespace Go.Proofs.Ythcjfgfbeollpaa.P07
open Go.RowKit Go.Proofs.Ythcjfgfbeollpaa.Base

/-- A string's value, by its bytes. -/
@[reducible] def str (l : List UInt8) : Value := .string ⟨l.toArray⟩
theorem ret_bool {a b : Bool} (h : a = b) : Ending.returned (.bool a) = .returned (.bool b) := by rw [h]
theorem size_str (l : List UInt8) : ByteArray.size ⟨l.toArray⟩ = l.length := rfl
theorem byteAt_lt (l : List UInt8) (k : Nat) : byteAt l k < 256 := UInt8.toNat_lt _
theorem index_run (l : List UInt8) (k : Nat) (h : k < l.length) (w : World) : (Instr.index 9 (str l) (.int .i64 k)).run Try.prog w = .ok (.int .u8 (byteAt l k)) w := by
  have h1 : ByteArray.size ⟨l.toArray⟩ = l.length := rfl
  have e : l[k]?.getD 0 = l[k] := by
    rw [List.getElem?_eq_getElem h]
    rfl
  unfold byteAt
  rw [e]
  simp [Instr.index, run_underlying (P := Try.prog) Try.underlying9, asIntOf, h1, h, go_sem]
  rfl

def badI : Option Nat → Int
  | none => -1
  | some b => b
@[reducible] def pcells (l : List UInt8) (s : PS) : Array Value := #[str l, .int .i64 s.pos, .int .i64 (badI s.bad), .int .i64 s.opn]
end Go.Proofs.Ythcjfgfbeollpaa.P07
/- The document's parser (layer 7): must, hex, digit, in, plain, one. -/
namespace Go.Proofs.Ythcjfgfbeollpaa.P07
open Go.RowKit Go.Proofs.Ythcjfgfbeollpaa.Base

theorem upk {w w' : World} (b : Nat) (q : Keep (fun _ => False) w w') : Keep (fun i => i = b) w w' := q.mono (fun _ h => h.elim)

def hexs : List UInt8 := [48, 49, 50, 51, 52, 53, 54, 55, 56, 57, 97, 98, 99, 100, 101, 102]
theorem hexv_ge (c : Int) : -1 ≤ hexv c ∧ hexv c ≤ 15 := by
  unfold hexv
  split
  · omega
  · split <;> omega
end Go.Proofs.Ythcjfgfbeollpaa.P07
