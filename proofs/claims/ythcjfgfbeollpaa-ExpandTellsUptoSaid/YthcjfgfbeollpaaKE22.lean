/- Which bytes are written as themselves, and how a byte is written: contracts of bytes256's plain and Escape and of the document's own. -/
import Derived.Test.YthcjfgfbeollpaaKE16
import Derived.Test.YthcjfgfbeollpaaKE03
namespace Go.Proofs.Ythcjfgfbeollpaa.Bytes
open Go.RowKit Go.Proofs.Ythcjfgfbeollpaa.Base Go.Proofs.Ythcjfgfbeollpaa.Sets

def signs : List UInt8 := [32, 33, 34, 35, 37, 38, 39, 44, 47, 58, 59, 60, 61, 62, 64, 95, 96, 126]
/-- Where among the signs; -1: it is none. -/
def sgn (b : Nat) : Int := Lib.indexByte signs (UInt8.ofNat b)
def alnum (b : Nat) : Bool := decide (97 ≤ b ∧ b ≤ 122 ∨ 65 ≤ b ∧ b ≤ 90 ∨ 48 ≤ b ∧ b ≤ 57)
/-- Is it written as itself? -/
def plainB (b : Nat) : Bool := alnum b || decide (0 ≤ sgn b)

theorem idx_any (b : Nat) (w : World) : Calls Try.prog 137 #[.string ⟨#[32, 33, 34, 35, 37, 38, 39, 44, 47, 58, 59, 60, 61, 62, 64, 95, 96, 126]⟩, .int .u8 b] w fun e w' => e = .returned (.int .i64 (sgn b)) ∧ w = w' := by
  refine (Lay.strings_IndexByte _ (b : Int) w).mono ?_
  rintro e w' ⟨rfl, rfl⟩
  exact ⟨by rw [Int.toNat_natCast]; rfl, rfl⟩

@[reducible] def signsV : Value := .string ⟨#[32, 33, 34, 35, 37, 38, 39, 44, 47, 58, 59, 60, 61, 62, 64, 95, 96, 126]⟩

def hexs : List UInt8 := [48, 49, 50, 51, 52, 53, 54, 55, 56, 57, 97, 98, 99, 100, 101, 102]
/-- A digit of sixteen. -/
def hexd (k : Nat) : UInt8 := hexs.getD k 0
@[reducible] def hexV : Value := .string ⟨#[48, 49, 50, 51, 52, 53, 54, 55, 56, 57, 97, 98, 99, 100, 101, 102]⟩
/-- How a byte is written. -/
def esc (b : Nat) : List UInt8 := if plainB b then [UInt8.ofNat b] else [92, 120, hexd (b / 16), hexd (b % 16)]

/-- A text. -/
@[reducible] def str (l : List UInt8) : Value := .string ⟨l.toArray⟩

theorem conv1 (b : Nat) (hb : b < 256) (w : World) : (convert 156 9 (.slice (some ⟨w.heap.size, 0, none⟩) 1 1)).run Try.prog (w.alloc (.cells #[.int .u8 b] 5)) = .ok (str [UInt8.ofNat b]) (w.alloc (.cells #[.int .u8 b] 5)) := by
  refine run_convert_bytes_back (P := Try.prog) _ _ _ 5 ⟨w.heap.size, 0, none⟩ 1 [UInt8.ofNat b] Try.underlying156 Try.underlying5 Try.underlying9 (fun j hj => ?_)
  obtain rfl : j = 0 := by simp at hj; omega
  have e : (UInt8.ofNat b).toNat = b := by simp; omega
  have h := (At.new w #[.int .u8 b] 5).cell (o := 0) rfl
  simp only [List.getElem_cons_zero, e]
  exact h

theorem conv4 (x y : UInt8) (w : World) : (convert 156 9 (.slice (some ⟨w.heap.size, 0, none⟩) 4 4)).run Try.prog (w.alloc (.cells #[.int .u8 92, .int .u8 120, .int .u8 x.toNat, .int .u8 y.toNat] 5)).drew = .ok (str [92, 120, x, y]) (w.alloc (.cells #[.int .u8 92, .int .u8 120, .int .u8 x.toNat, .int .u8 y.toNat] 5)).drew := by
  have h := At.new w #[.int .u8 92, .int .u8 120, .int .u8 x.toNat, .int .u8 y.toNat] 5
  refine run_convert_bytes_back (P := Try.prog) _ _ _ 5 ⟨w.heap.size, 0, none⟩ 4 [92, 120, x, y] Try.underlying156 Try.underlying5 Try.underlying9 (fun j hj => ?_)
  match j, hj with
  | 0, _ => exact h.cell rfl
  | 1, _ => exact h.cell rfl
  | 2, _ => exact h.cell rfl
  | 3, _ => exact h.cell rfl

end Go.Proofs.Ythcjfgfbeollpaa.Bytes
/- Contract of the document's Escape, and of bytes256's span. -/
namespace Go.Proofs.Ythcjfgfbeollpaa.Bytes
open Go.RowKit Go.Proofs.Ythcjfgfbeollpaa.Base Go.Proofs.Ythcjfgfbeollpaa.Sets

theorem esc_len (b : Nat) : (esc b).length ≤ 4 := by
  unfold esc
  split <;> simp

/-- A range, as it stands in a class. -/
def spanT (lo hi : Nat) : List UInt8 := if hi = lo then esc lo else if hi = lo + 1 then esc lo ++ esc hi else esc lo ++ [45] ++ esc hi

end Go.Proofs.Ythcjfgfbeollpaa.Bytes
