/-
  NARROWER THAN 'FOR EVERY INPUT', by the rows' own cells (each row's printed sentence says how): DeriveTells: loops · DeriveLongest: loops · DeriveWords: loops · DeriveSimple: loops.
  DERIVED. THE GIVEN ROWS OF THIS SEAT. 4 by the template 'for every input the law returns true; each argument reads behind the call as it read before'; 0 by the template 'total and deterministic' (their statements: YtlmfbchgkjgljaaGreatTotals.lean).
  GIVEN WITH THE SEED: the statements are not yours to turn. If you find one false, say at which input.
  Laid BY PROGRAM, IN A SANDBOX (cutbox-rows.mjs): the forced cells as the released guide's own fill.sh prints them over the translation 961f88c872f2dbdf… (all of the seat's roots in one cut). By AI agents, Wed Nov 11 2026. No macro, syntax, notation, axiom, sorry.
-/
import Derived.Test.YtlmfbchgkjgljaaGreatChecked
import GoSem.Claim
import GoSem.ClaimJoined
import GoSem.ClaimMapViews
import Derived.JoinedTies
import Derived.KernelRfl
namespace Go.Proofs.YtlmfbchgkjgljaaGreat
/- THE CELL 'sum', in the pinned program and in every row, IS THE sha256 OF THE DUMP (.gsa) THAT YtlmfbchgkjgljaaGreatProg.lean LOADS. Nothing in Lean hashes anything: it is a label: what it is worth is what the hold of that sum in a sandbox is worth. -/
noncomputable def Tryz.pinned : Pinned := { name := "ytlmfbchgkjgljaagreat", sum := "961f88c872f2dbdf7ccb77fd820c6755fcb382f56c2a3f6813f34ccf313646aa", checked := Tryz.checked }
namespace Rows
def none {H : Type} : Left H := { results := [], args := [] }

/-- 'sievelaw12.DeriveTells': WHATEVER THE INPUT: true; the input reads as it did. -/
def deriveTellsSpec : ChangeSpec := { name := "deriveTells", fn := fun _ => fun
  | [d1, d2, d3] => { results := [.lit (.bool true)], args := [d1, d2, d3] }
  | _ => none }
def deriveTellsRow : OpenClaim := { program := "ytlmfbchgkjgljaagreat", sum := "961f88c872f2dbdf7ccb77fd820c6755fcb382f56c2a3f6813f34ccf313646aa", func := "sieve/sievelaw12.DeriveTells", spec := "deriveTells", inPlace := ["internal/bytealg.IndexByteString"], unfollowed := true, recurses := true, loops := true, plainKeys := false, apart := false }
def DeriveTellsSaid : Prop := deriveTellsRow.holds Tryz.pinned (OpenSpec.ofChange deriveTellsSpec)

/-- ITS FALSE NEIGHBOUR: 'it returns false'. Refute it at one input. -/
def deriveTellsWrong : ChangeSpec := { name := "deriveTells", fn := fun _ => fun
  | [d1, d2, d3] => { results := [.lit (.bool false)], args := [d1, d2, d3] }
  | _ => none }
def DeriveTellsWrongFalsely : Prop := deriveTellsRow.holds Tryz.pinned (OpenSpec.ofChange deriveTellsWrong)

/-- 'sievelaw12.DeriveLongest': WHATEVER THE INPUT: true; the input reads as it did. -/
def deriveLongestSpec : ChangeSpec := { name := "deriveLongest", fn := fun _ => fun
  | [d1, d2, d3] => { results := [.lit (.bool true)], args := [d1, d2, d3] }
  | _ => none }
def deriveLongestRow : OpenClaim := { program := "ytlmfbchgkjgljaagreat", sum := "961f88c872f2dbdf7ccb77fd820c6755fcb382f56c2a3f6813f34ccf313646aa", func := "sieve/sievelaw12.DeriveLongest", spec := "deriveLongest", inPlace := ["internal/bytealg.IndexByteString"], unfollowed := true, recurses := true, loops := true, plainKeys := false, apart := false }
def DeriveLongestSaid : Prop := deriveLongestRow.holds Tryz.pinned (OpenSpec.ofChange deriveLongestSpec)

/-- ITS FALSE NEIGHBOUR: 'it returns false'. Refute it at one input. -/
def deriveLongestWrong : ChangeSpec := { name := "deriveLongest", fn := fun _ => fun
  | [d1, d2, d3] => { results := [.lit (.bool false)], args := [d1, d2, d3] }
  | _ => none }
def DeriveLongestWrongFalsely : Prop := deriveLongestRow.holds Tryz.pinned (OpenSpec.ofChange deriveLongestWrong)

/-- 'sievelaw12.DeriveWords': WHATEVER THE INPUT: true; the input reads as it did. -/
def deriveWordsSpec : ChangeSpec := { name := "deriveWords", fn := fun _ => fun
  | [d1, d2, d3] => { results := [.lit (.bool true)], args := [d1, d2, d3] }
  | _ => none }
def deriveWordsRow : OpenClaim := { program := "ytlmfbchgkjgljaagreat", sum := "961f88c872f2dbdf7ccb77fd820c6755fcb382f56c2a3f6813f34ccf313646aa", func := "sieve/sievelaw12.DeriveWords", spec := "deriveWords", inPlace := ["internal/bytealg.IndexByteString"], unfollowed := true, recurses := true, loops := true, plainKeys := false, apart := false }
def DeriveWordsSaid : Prop := deriveWordsRow.holds Tryz.pinned (OpenSpec.ofChange deriveWordsSpec)

/-- ITS FALSE NEIGHBOUR: 'it returns false'. Refute it at one input. -/
def deriveWordsWrong : ChangeSpec := { name := "deriveWords", fn := fun _ => fun
  | [d1, d2, d3] => { results := [.lit (.bool false)], args := [d1, d2, d3] }
  | _ => none }
def DeriveWordsWrongFalsely : Prop := deriveWordsRow.holds Tryz.pinned (OpenSpec.ofChange deriveWordsWrong)

/-- 'sievelaw12.DeriveSimple': WHATEVER THE INPUT: true; the input reads as it did. -/
def deriveSimpleSpec : ChangeSpec := { name := "deriveSimple", fn := fun _ => fun
  | [d1, d2, d3] => { results := [.lit (.bool true)], args := [d1, d2, d3] }
  | _ => none }
def deriveSimpleRow : OpenClaim := { program := "ytlmfbchgkjgljaagreat", sum := "961f88c872f2dbdf7ccb77fd820c6755fcb382f56c2a3f6813f34ccf313646aa", func := "sieve/sievelaw12.DeriveSimple", spec := "deriveSimple", inPlace := ["internal/bytealg.IndexByteString"], unfollowed := true, recurses := true, loops := true, plainKeys := false, apart := false }
def DeriveSimpleSaid : Prop := deriveSimpleRow.holds Tryz.pinned (OpenSpec.ofChange deriveSimpleSpec)

/-- ITS FALSE NEIGHBOUR: 'it returns false'. Refute it at one input. -/
def deriveSimpleWrong : ChangeSpec := { name := "deriveSimple", fn := fun _ => fun
  | [d1, d2, d3] => { results := [.lit (.bool false)], args := [d1, d2, d3] }
  | _ => none }
def DeriveSimpleWrongFalsely : Prop := deriveSimpleRow.holds Tryz.pinned (OpenSpec.ofChange deriveSimpleWrong)

/- THE SECOND FORM. 'bulk': how many values and letters a reading holds, each counted each time it is reached (what is shared counts as often as it is met; a slice's spare places count too). A statement '..UptoSaid' is the law's where the arguments, and the package variables that the reading takes, are together of bulk at most 1048576: NARROWER than '..Said'. Prove '..Said' where nothing that the law and all that it calls make is longer than what came in: it says more and counts as full. Else prove '..UptoSaid'. A law counts once. -/
mutual
def uptoBulk {H : Type} : DataW H → Nat
  | .lit (.string bytes) => bytes.length + 1
  | .lit _ => 1
  | .nil => 1
  | .ptr d => uptoBulk d + 1
  | .slice elems spare => uptoBulkAll elems + uptoBulkAll spare + 1
  | .agg parts => uptoBulkAll parts + 1
  | .iface _ d => uptoBulk d + 1
  | .map entries => uptoBulkEntries entries + 1
  | .held _ => 1
def uptoBulkAll {H : Type} : List (DataW H) → Nat
  | [] => 0
  | d :: r => uptoBulk d + uptoBulkAll r
def uptoBulkEntries {H : Type} : List (Lit × DataW H) → Nat
  | [] => 0
  | x :: r => uptoBulkEntry x + uptoBulkEntries r
def uptoBulkEntry {H : Type} : Lit × DataW H → Nat
  | (.string bytes, d) => bytes.length + uptoBulk d + 1
  | (_, d) => uptoBulk d + 1
 end
def uptoSmall : (H : Type) → List (DataW H) → Bool := fun _ ds => decide (uptoBulkAll ds ≤ 1048576)
def OpenSpec.upto (s : _root_.Go.ChangeSpec) : _root_.Go.OpenSpec := { _root_.Go.OpenSpec.ofChange s with cond := some uptoSmall }

/-- 'sievelaw12.DeriveTells', WHERE WHAT IT READS IS OF BULK AT MOST 1048576: true; the input reads as it did. -/
def deriveTellsUptoRow : OpenClaim := { program := "ytlmfbchgkjgljaagreat", sum := "961f88c872f2dbdf7ccb77fd820c6755fcb382f56c2a3f6813f34ccf313646aa", func := "sieve/sievelaw12.DeriveTells", spec := "deriveTells", inPlace := ["internal/bytealg.IndexByteString"], unfollowed := true, recurses := true, loops := true, plainKeys := false, apart := false, narrowed := true }
def DeriveTellsUptoSaid : Prop := deriveTellsUptoRow.holds Tryz.pinned (OpenSpec.upto deriveTellsSpec)

/-- 'sievelaw12.DeriveLongest', WHERE WHAT IT READS IS OF BULK AT MOST 1048576: true; the input reads as it did. -/
def deriveLongestUptoRow : OpenClaim := { program := "ytlmfbchgkjgljaagreat", sum := "961f88c872f2dbdf7ccb77fd820c6755fcb382f56c2a3f6813f34ccf313646aa", func := "sieve/sievelaw12.DeriveLongest", spec := "deriveLongest", inPlace := ["internal/bytealg.IndexByteString"], unfollowed := true, recurses := true, loops := true, plainKeys := false, apart := false, narrowed := true }
def DeriveLongestUptoSaid : Prop := deriveLongestUptoRow.holds Tryz.pinned (OpenSpec.upto deriveLongestSpec)

/-- 'sievelaw12.DeriveWords', WHERE WHAT IT READS IS OF BULK AT MOST 1048576: true; the input reads as it did. -/
def deriveWordsUptoRow : OpenClaim := { program := "ytlmfbchgkjgljaagreat", sum := "961f88c872f2dbdf7ccb77fd820c6755fcb382f56c2a3f6813f34ccf313646aa", func := "sieve/sievelaw12.DeriveWords", spec := "deriveWords", inPlace := ["internal/bytealg.IndexByteString"], unfollowed := true, recurses := true, loops := true, plainKeys := false, apart := false, narrowed := true }
def DeriveWordsUptoSaid : Prop := deriveWordsUptoRow.holds Tryz.pinned (OpenSpec.upto deriveWordsSpec)

/-- 'sievelaw12.DeriveSimple', WHERE WHAT IT READS IS OF BULK AT MOST 1048576: true; the input reads as it did. -/
def deriveSimpleUptoRow : OpenClaim := { program := "ytlmfbchgkjgljaagreat", sum := "961f88c872f2dbdf7ccb77fd820c6755fcb382f56c2a3f6813f34ccf313646aa", func := "sieve/sievelaw12.DeriveSimple", spec := "deriveSimple", inPlace := ["internal/bytealg.IndexByteString"], unfollowed := true, recurses := true, loops := true, plainKeys := false, apart := false, narrowed := true }
def DeriveSimpleUptoSaid : Prop := deriveSimpleUptoRow.holds Tryz.pinned (OpenSpec.upto deriveSimpleSpec)

end Rows
end Go.Proofs.YtlmfbchgkjgljaaGreat
