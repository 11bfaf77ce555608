/-
  NARROWER THAN 'FOR EVERY INPUT', by the rows' own cells (each row's printed sentence says how): MeasureTells: loops · MeasureKnows: loops · MeasureLengths: loops · MeasureParts: loops · MeasureRep: loops.
  DERIVED. THE GIVEN ROWS OF THIS SEAT. 5 by the template 'for every input the law returns true; each argument reads behind the call as it read before'; 0 by the template 'total and deterministic' (their statements: YtblijgcfelnlmaaTotals.lean).
  GIVEN WITH THE SEED: the statements are not yours to turn. If you find one false, say at which input.
  Laid BY PROGRAM, IN A SANDBOX (cutbox-rows.mjs): the forced cells as the released guide's own fill.sh prints them over the translation 320c6ddf3d928717… (all of the seat's roots in one cut). By AI agents, Wed Nov 11 2026. No macro, syntax, notation, axiom, sorry.
-/
import Derived.Test.YtblijgcfelnlmaaChecked
import GoSem.Claim
import GoSem.ClaimJoined
import GoSem.ClaimMapViews
import Derived.JoinedTies
import Derived.KernelRfl
namespace Go.Proofs.Ytblijgcfelnlmaa
/- THE CELL 'sum', in the pinned program and in every row, IS THE sha256 OF THE DUMP (.gsa) THAT YtblijgcfelnlmaaProg.lean LOADS. Nothing in Lean hashes anything: it is a label: what it is worth is what the hold of that sum in a sandbox is worth. -/
noncomputable def Try.pinned : Pinned := { name := "ytblijgcfelnlmaa", sum := "320c6ddf3d92871725c21feec4aef44eda08ebda7eccaf055571735aed57efeb", checked := Try.checked }
namespace Rows
def none {H : Type} : Left H := { results := [], args := [] }

/-- 'sievelaw09.MeasureTells': WHATEVER THE INPUT: true; the input reads as it did. -/
def measureTellsSpec : ChangeSpec := { name := "measureTells", fn := fun _ => fun
  | [d] => { results := [.lit (.bool true)], args := [d] }
  | _ => none }
def measureTellsRow : OpenClaim := { program := "ytblijgcfelnlmaa", sum := "320c6ddf3d92871725c21feec4aef44eda08ebda7eccaf055571735aed57efeb", func := "sieve/sievelaw09.MeasureTells", spec := "measureTells", inPlace := ["internal/bytealg.IndexByteString"], unfollowed := true, recurses := true, loops := true, apart := false }
def MeasureTellsSaid : Prop := measureTellsRow.holds Try.pinned (OpenSpec.ofChange measureTellsSpec)

/-- ITS FALSE NEIGHBOUR: 'it returns false'. Refute it at one input. -/
def measureTellsWrong : ChangeSpec := { name := "measureTells", fn := fun _ => fun
  | [d] => { results := [.lit (.bool false)], args := [d] }
  | _ => none }
def MeasureTellsWrongFalsely : Prop := measureTellsRow.holds Try.pinned (OpenSpec.ofChange measureTellsWrong)

/-- 'sievelaw09.MeasureKnows': WHATEVER THE INPUT: true; the input reads as it did. -/
def measureKnowsSpec : ChangeSpec := { name := "measureKnows", fn := fun _ => fun
  | [d] => { results := [.lit (.bool true)], args := [d] }
  | _ => none }
def measureKnowsRow : OpenClaim := { program := "ytblijgcfelnlmaa", sum := "320c6ddf3d92871725c21feec4aef44eda08ebda7eccaf055571735aed57efeb", func := "sieve/sievelaw09.MeasureKnows", spec := "measureKnows", inPlace := ["internal/bytealg.IndexByteString"], unfollowed := true, recurses := true, loops := true, apart := false }
def MeasureKnowsSaid : Prop := measureKnowsRow.holds Try.pinned (OpenSpec.ofChange measureKnowsSpec)

/-- ITS FALSE NEIGHBOUR: 'it returns false'. Refute it at one input. -/
def measureKnowsWrong : ChangeSpec := { name := "measureKnows", fn := fun _ => fun
  | [d] => { results := [.lit (.bool false)], args := [d] }
  | _ => none }
def MeasureKnowsWrongFalsely : Prop := measureKnowsRow.holds Try.pinned (OpenSpec.ofChange measureKnowsWrong)

/-- 'sievelaw09.MeasureLengths': WHATEVER THE INPUT: true; the input reads as it did. -/
def measureLengthsSpec : ChangeSpec := { name := "measureLengths", fn := fun _ => fun
  | [d1, d2] => { results := [.lit (.bool true)], args := [d1, d2] }
  | _ => none }
def measureLengthsRow : OpenClaim := { program := "ytblijgcfelnlmaa", sum := "320c6ddf3d92871725c21feec4aef44eda08ebda7eccaf055571735aed57efeb", func := "sieve/sievelaw09.MeasureLengths", spec := "measureLengths", inPlace := ["internal/bytealg.IndexByteString"], unfollowed := true, recurses := true, loops := true, apart := false }
def MeasureLengthsSaid : Prop := measureLengthsRow.holds Try.pinned (OpenSpec.ofChange measureLengthsSpec)

/-- ITS FALSE NEIGHBOUR: 'it returns false'. Refute it at one input. -/
def measureLengthsWrong : ChangeSpec := { name := "measureLengths", fn := fun _ => fun
  | [d1, d2] => { results := [.lit (.bool false)], args := [d1, d2] }
  | _ => none }
def MeasureLengthsWrongFalsely : Prop := measureLengthsRow.holds Try.pinned (OpenSpec.ofChange measureLengthsWrong)

/-- 'sievelaw09.MeasureParts': WHATEVER THE INPUT: true; the input reads as it did. -/
def measurePartsSpec : ChangeSpec := { name := "measureParts", fn := fun _ => fun
  | [d1, d2] => { results := [.lit (.bool true)], args := [d1, d2] }
  | _ => none }
def measurePartsRow : OpenClaim := { program := "ytblijgcfelnlmaa", sum := "320c6ddf3d92871725c21feec4aef44eda08ebda7eccaf055571735aed57efeb", func := "sieve/sievelaw09.MeasureParts", spec := "measureParts", inPlace := ["internal/bytealg.IndexByteString"], unfollowed := true, recurses := true, loops := true, apart := false }
def MeasurePartsSaid : Prop := measurePartsRow.holds Try.pinned (OpenSpec.ofChange measurePartsSpec)

/-- ITS FALSE NEIGHBOUR: 'it returns false'. Refute it at one input. -/
def measurePartsWrong : ChangeSpec := { name := "measureParts", fn := fun _ => fun
  | [d1, d2] => { results := [.lit (.bool false)], args := [d1, d2] }
  | _ => none }
def MeasurePartsWrongFalsely : Prop := measurePartsRow.holds Try.pinned (OpenSpec.ofChange measurePartsWrong)

/-- 'sievelaw09.MeasureRep': WHATEVER THE INPUT: true; the input reads as it did. -/
def measureRepSpec : ChangeSpec := { name := "measureRep", fn := fun _ => fun
  | [d1, d2, d3] => { results := [.lit (.bool true)], args := [d1, d2, d3] }
  | _ => none }
def measureRepRow : OpenClaim := { program := "ytblijgcfelnlmaa", sum := "320c6ddf3d92871725c21feec4aef44eda08ebda7eccaf055571735aed57efeb", func := "sieve/sievelaw09.MeasureRep", spec := "measureRep", inPlace := ["internal/bytealg.IndexByteString"], unfollowed := true, recurses := true, loops := true, apart := false }
def MeasureRepSaid : Prop := measureRepRow.holds Try.pinned (OpenSpec.ofChange measureRepSpec)

/-- ITS FALSE NEIGHBOUR: 'it returns false'. Refute it at one input. -/
def measureRepWrong : ChangeSpec := { name := "measureRep", fn := fun _ => fun
  | [d1, d2, d3] => { results := [.lit (.bool false)], args := [d1, d2, d3] }
  | _ => none }
def MeasureRepWrongFalsely : Prop := measureRepRow.holds Try.pinned (OpenSpec.ofChange measureRepWrong)

/- THE SECOND FORM. 'bulk': how many values and letters a reading holds, each counted each time it is reached (what is shared counts as often as it is met; a slice's spare places count too). A statement '..UptoSaid' is the law's where the arguments, and the package variables that the reading takes, are together of bulk at most 1048576: NARROWER than '..Said'. Prove '..Said' where nothing that the law and all that it calls make is longer than what came in: it says more and counts as full. Else prove '..UptoSaid'. A law counts once. -/
mutual
def uptoBulk {H : Type} : DataW H → Nat
  | .lit (.string bytes) => bytes.length + 1
  | .lit _ => 1
  | .nil => 1
  | .ptr d => uptoBulk d + 1
  | .slice elems spare => uptoBulkAll elems + uptoBulkAll spare + 1
  | .agg parts => uptoBulkAll parts + 1
  | .iface _ d => uptoBulk d + 1
  | .map entries => uptoBulkEntries entries + 1
  | .held _ => 1
def uptoBulkAll {H : Type} : List (DataW H) → Nat
  | [] => 0
  | d :: r => uptoBulk d + uptoBulkAll r
def uptoBulkEntries {H : Type} : List (Lit × DataW H) → Nat
  | [] => 0
  | x :: r => uptoBulkEntry x + uptoBulkEntries r
def uptoBulkEntry {H : Type} : Lit × DataW H → Nat
  | (.string bytes, d) => bytes.length + uptoBulk d + 1
  | (_, d) => uptoBulk d + 1
 end
def uptoSmall : (H : Type) → List (DataW H) → Bool := fun _ ds => decide (uptoBulkAll ds ≤ 1048576)
def OpenSpec.upto (s : _root_.Go.ChangeSpec) : _root_.Go.OpenSpec := { _root_.Go.OpenSpec.ofChange s with cond := some uptoSmall }

/-- 'sievelaw09.MeasureTells', WHERE WHAT IT READS IS OF BULK AT MOST 1048576: true; the input reads as it did. -/
def measureTellsUptoRow : OpenClaim := { program := "ytblijgcfelnlmaa", sum := "320c6ddf3d92871725c21feec4aef44eda08ebda7eccaf055571735aed57efeb", func := "sieve/sievelaw09.MeasureTells", spec := "measureTells", inPlace := ["internal/bytealg.IndexByteString"], unfollowed := true, recurses := true, loops := true, apart := false, narrowed := true }
def MeasureTellsUptoSaid : Prop := measureTellsUptoRow.holds Try.pinned (OpenSpec.upto measureTellsSpec)

/-- 'sievelaw09.MeasureKnows', WHERE WHAT IT READS IS OF BULK AT MOST 1048576: true; the input reads as it did. -/
def measureKnowsUptoRow : OpenClaim := { program := "ytblijgcfelnlmaa", sum := "320c6ddf3d92871725c21feec4aef44eda08ebda7eccaf055571735aed57efeb", func := "sieve/sievelaw09.MeasureKnows", spec := "measureKnows", inPlace := ["internal/bytealg.IndexByteString"], unfollowed := true, recurses := true, loops := true, apart := false, narrowed := true }
def MeasureKnowsUptoSaid : Prop := measureKnowsUptoRow.holds Try.pinned (OpenSpec.upto measureKnowsSpec)

/-- 'sievelaw09.MeasureLengths', WHERE WHAT IT READS IS OF BULK AT MOST 1048576: true; the input reads as it did. -/
def measureLengthsUptoRow : OpenClaim := { program := "ytblijgcfelnlmaa", sum := "320c6ddf3d92871725c21feec4aef44eda08ebda7eccaf055571735aed57efeb", func := "sieve/sievelaw09.MeasureLengths", spec := "measureLengths", inPlace := ["internal/bytealg.IndexByteString"], unfollowed := true, recurses := true, loops := true, apart := false, narrowed := true }
def MeasureLengthsUptoSaid : Prop := measureLengthsUptoRow.holds Try.pinned (OpenSpec.upto measureLengthsSpec)

/-- 'sievelaw09.MeasureParts', WHERE WHAT IT READS IS OF BULK AT MOST 1048576: true; the input reads as it did. -/
def measurePartsUptoRow : OpenClaim := { program := "ytblijgcfelnlmaa", sum := "320c6ddf3d92871725c21feec4aef44eda08ebda7eccaf055571735aed57efeb", func := "sieve/sievelaw09.MeasureParts", spec := "measureParts", inPlace := ["internal/bytealg.IndexByteString"], unfollowed := true, recurses := true, loops := true, apart := false, narrowed := true }
def MeasurePartsUptoSaid : Prop := measurePartsUptoRow.holds Try.pinned (OpenSpec.upto measurePartsSpec)

/-- 'sievelaw09.MeasureRep', WHERE WHAT IT READS IS OF BULK AT MOST 1048576: true; the input reads as it did. -/
def measureRepUptoRow : OpenClaim := { program := "ytblijgcfelnlmaa", sum := "320c6ddf3d92871725c21feec4aef44eda08ebda7eccaf055571735aed57efeb", func := "sieve/sievelaw09.MeasureRep", spec := "measureRep", inPlace := ["internal/bytealg.IndexByteString"], unfollowed := true, recurses := true, loops := true, apart := false, narrowed := true }
def MeasureRepUptoSaid : Prop := measureRepUptoRow.holds Try.pinned (OpenSpec.upto measureRepSpec)

end Rows
end Go.Proofs.Ytblijgcfelnlmaa
