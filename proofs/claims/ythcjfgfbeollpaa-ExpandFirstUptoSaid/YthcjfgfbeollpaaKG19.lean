/- A set and a byte as arguments. -/
import Derived.Test.YthcjfgfbeollpaaKG11
import Derived.LaidMore
import Derived.ProofKit
import Derived.OpenShut
import Derived.Stop.Joined
import Derived.MakeChecks
import Derived.Laws.IdiomArrays
namespace Go.Proofs.Ythcjfgfbeollpaa.Tied
open Go.ChangeShapes Go.WideShapes Go.ChangeAt Go.RowKit Go.Proofs.Ythcjfgfbeollpaa.Base Go.Proofs.Ythcjfgfbeollpaa.Sets Go.Proofs.Ythcjfgfbeollpaa.Bytes

theorem c22 : Try.prog.cellsOf 22 = 1 := by kernel_rfl

/-- Four cells that read as a set are four words. -/
theorem set_trod {H : Type} {enc : TypeId × Value → H} {W : World} {sp : Nat → Bool} {hd : Bool} {fuel : Nat} {cs : List Value} {d : DataW H} {p : List MemPlace}
    (hl : cs.length = 4) (hf : DataW.trod enc Try.prog W 0 sp hd fuel 24 cs = some (d, p)) : ∃ s : ST, cs = (cells s).toList ∧ s.Ok := by
  match cs, hl with
  | [a0, a1, a2, a3], _ =>
    obtain ⟨y0, y1, y2, y3, n, -, e0, e1, e2, e3⟩ := trod_array4 Try.underlying24 c22 hf
    obtain ⟨n0, r0, -, w0⟩ := DataW.trod_int Try.underlying22 e0
    obtain ⟨n1, r1, -, w1⟩ := DataW.trod_int Try.underlying22 e1
    obtain ⟨n2, r2, -, w2⟩ := DataW.trod_int Try.underlying22 e2
    obtain ⟨n3, r3, -, w3⟩ := DataW.trod_int Try.underlying22 e3
    injection r0 with r0
    injection r1 with r1
    injection r2 with r2
    injection r3 with r3
    subst r0 r1 r2 r3
    have b0 := bounds_u64 w0
    have b1 := bounds_u64 w1
    have b2 := bounds_u64 w2
    have b3 := bounds_u64 w3
    refine ⟨⟨n0.toNat, n1.toNat, n2.toNat, n3.toNat⟩, ?_, ⟨?_, ?_, ?_, ?_⟩⟩
    · show _ = [Value.int .u64 (n0.toNat : Int), .int .u64 (n1.toNat : Int), .int .u64 (n2.toNat : Int), .int .u64 (n3.toNat : Int)]
      rw [Int.toNat_of_nonneg b0.1, Int.toNat_of_nonneg b1.1, Int.toNat_of_nonneg b2.1, Int.toNat_of_nonneg b3.1]
    · show n0.toNat < _
      omega
    · show n1.toNat < _
      omega
    · show n2.toNat < _
      omega
    · show n3.toNat < _
      omega

end Go.Proofs.Ythcjfgfbeollpaa.Tied
