/- THE INTERFACE of package parts that the laws of stage 5 lean on: what the seat's own code must be shown to keep (Holds), as a premise. -/
import Derived.Test.YtidfjeliofgpmaaDoorOL
import Derived.Test.YtidfjeliofgpmaaDoorCnt
import Derived.Test.YtidfjeliofgpmaaDoorRemap
import Derived.Test.YtidfjeliofgpmaaDoorIL
namespace Go.Proofs.YtidfjeliofgpmaaDoor.Parts
open Go.RowKit Go.Proofs.YtidfjeliofgpmaaDoor.Base Go.Proofs.YtidfjeliofgpmaaDoor.Sets Go.Proofs.YtidfjeliofgpmaaDoor.Bytes Go.Proofs.YtidfjeliofgpmaaDoor.SetL Go.Proofs.YtidfjeliofgpmaaDoor.OL Go.Proofs.YtidfjeliofgpmaaDoor.Cls Go.Proofs.YtidfjeliofgpmaaDoor.IL

/-- A number by its bits; a set by its bytes. -/
def word : (Nat → Bool) → Nat → Nat
  | _, 0 => 0
  | p, k + 1 => (p 0).toNat + 2 * word (fun i => p (i + 1)) k
theorem word_lt : ∀ (p : Nat → Bool) k, word p k < 2 ^ k
  | _, 0 => by simp [word]
  | p, k + 1 => by
    have := word_lt (fun i => p (i + 1)) k
    have := Bool.toNat_lt (p 0)
    unfold word
    rw [Nat.pow_succ]
    omega
theorem word_bit : ∀ (p : Nat → Bool) k j, j < k → (word p k).testBit j = p j
  | p, k + 1, 0, _ => by
    unfold word
    rw [Nat.testBit_zero]
    cases p 0 <;> simp <;> omega
  | p, k + 1, j + 1, h => by
    unfold word
    have i := word_bit (fun i => p (i + 1)) k j (by omega)
    rw [Nat.testBit_succ, show ((p 0).toNat + 2 * word (fun i => p (i + 1)) k) / 2 = word (fun i => p (i + 1)) k from by have := Bool.toNat_lt (p 0); omega, i]
def ofP (p : Nat → Bool) : ST := ST.of4 fun i => word (fun j => p (64 * i + j)) 64
theorem ofP_ok (p : Nat → Bool) : (ofP p).Ok := ST.of4_ok fun _ => word_lt _ 64
theorem has_ofP (p : Nat → Bool) (b : Nat) (h : b < 256) : (ofP p).has b = p b := by
  unfold ofP
  rw [ST.has_of4 _ b h, word_bit _ _ _ (by omega), show 64 * (b / 64) + b % 64 = b from by omega]

/-- The bytes of a class; the classes that lie in a set. -/
def ofC (L : List ST) (c : Int) : ST := ofP fun b => decide ((cls (key L) b : Int) = c)
def inn (L : List ST) (s : ST) (c : Nat) : Bool := (List.range 256).all fun b => !decide (cls (key L) b = c) || s.has b
def cl (L : List ST) (s : ST) : List Int := ((List.range (ncl (key L))).filter (inn L s)).map fun c : Nat => (c : Int)
/-- The classes of all bytes, as bytes. -/
def arr8 (f : Nat → Int) : Array Value := ((List.range 256).map fun i => Value.int .u8 (f i)).toArray

structure Holds (PT : World → Value → List ST → Prop) : Prop where
  form : ∀ {w v L}, PT w v L → ∃ a, v = .pointer (some a)
  keep : ∀ {w w' v L}, PT w v L → Keep (fun _ => False) w w' → PT w' v L
  cut : ∀ {w a L} cap, Tab w → L.length ≤ 1000 → (∀ s ∈ L, s.Ok) → SL w a L → Calls Tryd.prog 9 #[.slice a L.length cap] w fun e w' => ∃ v, e = .returned v ∧ PT w' v L ∧ Keep (fun _ => False) w w'
  len : ∀ {w v L}, Tab w → PT w v L → Calls Tryd.prog 17 #[v] w fun e w' => e = .returned (.int .i64 (ncl (key L))) ∧ Keep (fun _ => False) w w'
  class' : ∀ {w v L} {b : Nat}, Tab w → PT w v L → b < 256 → Calls Tryd.prog 12 #[v, .int .u8 b] w fun e w' => e = .returned (.int .i64 (cls (key L) b)) ∧ Keep (fun _ => False) w w'
  of : ∀ {w v L c}, Tab w → PT w v L → -9223372036854775808 ≤ c → c ≤ 9223372036854775807 → Calls Tryd.prog 14 #[v, .int .i64 c] w fun e w' => e = .returned (val (ofC L c)) ∧ Keep (fun _ => False) w w'
  sample : ∀ {w v L} {b : Nat}, Tab w → PT w v L → b < 256 → first (key L) b = true → Calls Tryd.prog 15 #[v, .int .i64 (cls (key L) b)] w fun e w' => e = .returned (.tuple #[.int .u8 b, .bool true]) ∧ Keep (fun _ => False) w w'
  none : ∀ {w v L c}, Tab w → PT w v L → -9223372036854775808 ≤ c → c ≤ 9223372036854775807 → (c < 0 ∨ (ncl (key L) : Int) ≤ c) → Calls Tryd.prog 15 #[v, .int .i64 c] w fun e w' => e = .returned (.tuple #[.int .u8 0, .bool false]) ∧ Keep (fun _ => False) w w'
  remap : ∀ {w v L}, Tab w → PT w v L → Calls Tryd.prog 11 #[v] w fun e w' => e = .returned (.agg (arr8 fun i => (cls (key L) i : Int))) ∧ Keep (fun _ => False) w w'
  classes : ∀ {w v L s}, Tab w → PT w v L → s.Ok → Calls Tryd.prog 18 #[v, val s] w fun e w' => ∃ u, e = .returned u ∧ IL w' u (cl L s) ∧ Keep (fun _ => False) w w'
  len0 : ∀ {w}, Tab w → Calls Tryd.prog 17 #[.pointer .none] w fun e w' => e = .returned (.int .i64 0) ∧ Keep (fun _ => False) w w'
  class0 : ∀ {w} {b : Nat}, Tab w → b < 256 → Calls Tryd.prog 12 #[.pointer .none, .int .u8 b] w fun e w' => e = .returned (.int .i64 0) ∧ Keep (fun _ => False) w w'
  of0 : ∀ {w c}, Tab w → -9223372036854775808 ≤ c → c ≤ 9223372036854775807 → Calls Tryd.prog 14 #[.pointer .none, .int .i64 c] w fun e w' => e = .returned (val ST.none) ∧ Keep (fun _ => False) w w'
  sample0 : ∀ {w c}, Tab w → -9223372036854775808 ≤ c → c ≤ 9223372036854775807 → Calls Tryd.prog 15 #[.pointer .none, .int .i64 c] w fun e w' => e = .returned (.tuple #[.int .u8 0, .bool false]) ∧ Keep (fun _ => False) w w'
  remap0 : ∀ {w}, Tab w → Calls Tryd.prog 11 #[.pointer .none] w fun e w' => e = .returned (.agg (arr8 fun _ => 0)) ∧ Keep (fun _ => False) w w'
  classes0 : ∀ {w s}, Tab w → s.Ok → Calls Tryd.prog 18 #[.pointer .none, val s] w fun e w' => ∃ u, e = .returned u ∧ IL w' u [] ∧ Keep (fun _ => False) w w'

end Go.Proofs.YtidfjeliofgpmaaDoor.Parts
