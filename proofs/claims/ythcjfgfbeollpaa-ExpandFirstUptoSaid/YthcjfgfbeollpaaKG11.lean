/- Contracts of math/bits.TrailingZeros64, and of bytes256's from and Least. -/
import Derived.Test.YthcjfgfbeollpaaKG09
import Derived.Shelf.Spec.TrailingZeros
import Derived.Deep.RegionHeld3
import Derived.Deep.DeepCutAuto
import Derived.Deep.CutBlock
namespace Go.Proofs.Ythcjfgfbeollpaa.Bytes
open Go.RowKit Go.Proofs.Ythcjfgfbeollpaa.Base Go.Proofs.Ythcjfgfbeollpaa.Sets

/-- The set without its bytes below n. -/
def cut (s : ST) (n : Nat) : ST := s.and (ST.below n).not

theorem index_run (c : ST) (k : Nat) (h : k < 4) (w : World) : (Instr.index 24 (val c) (.int .i64 k)).run Try.prog w = .ok (.int .u64 (c.w k)) w := by
  match k, h with
  | 0, _ => simp [Instr.index, run_underlying (P := Try.prog) Try.underlying24, asIntOf, go_sem]; rfl
  | 1, _ => simp [Instr.index, run_underlying (P := Try.prog) Try.underlying24, asIntOf, go_sem]; rfl
  | 2, _ => simp [Instr.index, run_underlying (P := Try.prog) Try.underlying24, asIntOf, go_sem]; rfl
  | 3, _ => simp [Instr.index, run_underlying (P := Try.prog) Try.underlying24, asIntOf, go_sem]; rfl

end Go.Proofs.Ythcjfgfbeollpaa.Bytes
