/-
  NARROWER THAN 'FOR EVERY INPUT', by the rows' own cells (each row's printed sentence says how): SimplifyTells: loops · SimplifyAgain: loops · SimplifyKeeps: loops · SimplifyOne: loops.
  DERIVED. THE GIVEN ROWS OF THIS SEAT. 4 by the template 'for every input the law returns true; each argument reads behind the call as it read before'; 0 by the template 'total and deterministic' (their statements: YtmohpjpodkbgkaaTotals.lean).
  GIVEN WITH THE SEED: the statements are not yours to turn. If you find one false, say at which input.
  Laid BY PROGRAM, IN A SANDBOX (cutbox-rows.mjs): the forced cells as the released guide's own fill.sh prints them over the translation 7921203b8f5eb0ec… (all of the seat's roots in one cut). By AI agents, Wed Nov 11 2026. No macro, syntax, notation, axiom, sorry.
-/
import Derived.Test.YtmohpjpodkbgkaaChecked
import GoSem.Claim
import GoSem.ClaimJoined
import GoSem.ClaimMapViews
import Derived.JoinedTies
import Derived.KernelRfl
namespace Go.Proofs.Ytmohpjpodkbgkaa
/- THE CELL 'sum', in the pinned program and in every row, IS THE sha256 OF THE DUMP (.gsa) THAT YtmohpjpodkbgkaaProg.lean LOADS. Nothing in Lean hashes anything: it is a label: what it is worth is what the hold of that sum in a sandbox is worth. -/
noncomputable def Try.pinned : Pinned := { name := "ytmohpjpodkbgkaa", sum := "7921203b8f5eb0ec17ddccd976cd6a7a4565d3fa67aed0afba9e16176d144adf", checked := Try.checked }
namespace Rows
def none {H : Type} : Left H := { results := [], args := [] }

/-- 'sievelaw10.SimplifyTells': WHATEVER THE INPUT: true; the input reads as it did. -/
def simplifyTellsSpec : ChangeSpec := { name := "simplifyTells", fn := fun _ => fun
  | [d] => { results := [.lit (.bool true)], args := [d] }
  | _ => none }
def simplifyTellsRow : OpenClaim := { program := "ytmohpjpodkbgkaa", sum := "7921203b8f5eb0ec17ddccd976cd6a7a4565d3fa67aed0afba9e16176d144adf", func := "sieve/sievelaw10.SimplifyTells", spec := "simplifyTells", inPlace := ["internal/bytealg.IndexByteString"], unfollowed := true, recurses := true, loops := true, apart := false }
def SimplifyTellsSaid : Prop := simplifyTellsRow.holds Try.pinned (OpenSpec.ofChange simplifyTellsSpec)

/-- ITS FALSE NEIGHBOUR: 'it returns false'. Refute it at one input. -/
def simplifyTellsWrong : ChangeSpec := { name := "simplifyTells", fn := fun _ => fun
  | [d] => { results := [.lit (.bool false)], args := [d] }
  | _ => none }
def SimplifyTellsWrongFalsely : Prop := simplifyTellsRow.holds Try.pinned (OpenSpec.ofChange simplifyTellsWrong)

/-- 'sievelaw10.SimplifyAgain': WHATEVER THE INPUT: true; the input reads as it did. -/
def simplifyAgainSpec : ChangeSpec := { name := "simplifyAgain", fn := fun _ => fun
  | [d] => { results := [.lit (.bool true)], args := [d] }
  | _ => none }
def simplifyAgainRow : OpenClaim := { program := "ytmohpjpodkbgkaa", sum := "7921203b8f5eb0ec17ddccd976cd6a7a4565d3fa67aed0afba9e16176d144adf", func := "sieve/sievelaw10.SimplifyAgain", spec := "simplifyAgain", inPlace := ["internal/bytealg.IndexByteString"], unfollowed := true, recurses := true, loops := true, apart := false }
def SimplifyAgainSaid : Prop := simplifyAgainRow.holds Try.pinned (OpenSpec.ofChange simplifyAgainSpec)

/-- ITS FALSE NEIGHBOUR: 'it returns false'. Refute it at one input. -/
def simplifyAgainWrong : ChangeSpec := { name := "simplifyAgain", fn := fun _ => fun
  | [d] => { results := [.lit (.bool false)], args := [d] }
  | _ => none }
def SimplifyAgainWrongFalsely : Prop := simplifyAgainRow.holds Try.pinned (OpenSpec.ofChange simplifyAgainWrong)

/-- 'sievelaw10.SimplifyKeeps': WHATEVER THE INPUT: true; the input reads as it did. -/
def simplifyKeepsSpec : ChangeSpec := { name := "simplifyKeeps", fn := fun _ => fun
  | [d] => { results := [.lit (.bool true)], args := [d] }
  | _ => none }
def simplifyKeepsRow : OpenClaim := { program := "ytmohpjpodkbgkaa", sum := "7921203b8f5eb0ec17ddccd976cd6a7a4565d3fa67aed0afba9e16176d144adf", func := "sieve/sievelaw10.SimplifyKeeps", spec := "simplifyKeeps", inPlace := ["internal/bytealg.IndexByteString"], unfollowed := true, recurses := true, loops := true, apart := false }
def SimplifyKeepsSaid : Prop := simplifyKeepsRow.holds Try.pinned (OpenSpec.ofChange simplifyKeepsSpec)

/-- ITS FALSE NEIGHBOUR: 'it returns false'. Refute it at one input. -/
def simplifyKeepsWrong : ChangeSpec := { name := "simplifyKeeps", fn := fun _ => fun
  | [d] => { results := [.lit (.bool false)], args := [d] }
  | _ => none }
def SimplifyKeepsWrongFalsely : Prop := simplifyKeepsRow.holds Try.pinned (OpenSpec.ofChange simplifyKeepsWrong)

/-- 'sievelaw10.SimplifyOne': WHATEVER THE INPUT: true; the input reads as it did. -/
def simplifyOneSpec : ChangeSpec := { name := "simplifyOne", fn := fun _ => fun
  | [d] => { results := [.lit (.bool true)], args := [d] }
  | _ => none }
def simplifyOneRow : OpenClaim := { program := "ytmohpjpodkbgkaa", sum := "7921203b8f5eb0ec17ddccd976cd6a7a4565d3fa67aed0afba9e16176d144adf", func := "sieve/sievelaw10.SimplifyOne", spec := "simplifyOne", inPlace := ["internal/bytealg.IndexByteString"], unfollowed := true, recurses := true, loops := true, apart := false }
def SimplifyOneSaid : Prop := simplifyOneRow.holds Try.pinned (OpenSpec.ofChange simplifyOneSpec)

/-- ITS FALSE NEIGHBOUR: 'it returns false'. Refute it at one input. -/
def simplifyOneWrong : ChangeSpec := { name := "simplifyOne", fn := fun _ => fun
  | [d] => { results := [.lit (.bool false)], args := [d] }
  | _ => none }
def SimplifyOneWrongFalsely : Prop := simplifyOneRow.holds Try.pinned (OpenSpec.ofChange simplifyOneWrong)

/- THE SECOND FORM. 'bulk': how many values and letters a reading holds, each counted each time it is reached (what is shared counts as often as it is met; a slice's spare places count too). A statement '..UptoSaid' is the law's where the arguments, and the package variables that the reading takes, are together of bulk at most 1048576: NARROWER than '..Said'. Prove '..Said' where nothing that the law and all that it calls make is longer than what came in: it says more and counts as full. Else prove '..UptoSaid'. A law counts once. -/
mutual
def uptoBulk {H : Type} : DataW H → Nat
  | .lit (.string bytes) => bytes.length + 1
  | .lit _ => 1
  | .nil => 1
  | .ptr d => uptoBulk d + 1
  | .slice elems spare => uptoBulkAll elems + uptoBulkAll spare + 1
  | .agg parts => uptoBulkAll parts + 1
  | .iface _ d => uptoBulk d + 1
  | .map entries => uptoBulkEntries entries + 1
  | .held _ => 1
def uptoBulkAll {H : Type} : List (DataW H) → Nat
  | [] => 0
  | d :: r => uptoBulk d + uptoBulkAll r
def uptoBulkEntries {H : Type} : List (Lit × DataW H) → Nat
  | [] => 0
  | x :: r => uptoBulkEntry x + uptoBulkEntries r
def uptoBulkEntry {H : Type} : Lit × DataW H → Nat
  | (.string bytes, d) => bytes.length + uptoBulk d + 1
  | (_, d) => uptoBulk d + 1
 end
def uptoSmall : (H : Type) → List (DataW H) → Bool := fun _ ds => decide (uptoBulkAll ds ≤ 1048576)
def OpenSpec.upto (s : _root_.Go.ChangeSpec) : _root_.Go.OpenSpec := { _root_.Go.OpenSpec.ofChange s with cond := some uptoSmall }

/-- 'sievelaw10.SimplifyTells', WHERE WHAT IT READS IS OF BULK AT MOST 1048576: true; the input reads as it did. -/
def simplifyTellsUptoRow : OpenClaim := { program := "ytmohpjpodkbgkaa", sum := "7921203b8f5eb0ec17ddccd976cd6a7a4565d3fa67aed0afba9e16176d144adf", func := "sieve/sievelaw10.SimplifyTells", spec := "simplifyTells", inPlace := ["internal/bytealg.IndexByteString"], unfollowed := true, recurses := true, loops := true, apart := false, narrowed := true }
def SimplifyTellsUptoSaid : Prop := simplifyTellsUptoRow.holds Try.pinned (OpenSpec.upto simplifyTellsSpec)

/-- 'sievelaw10.SimplifyAgain', WHERE WHAT IT READS IS OF BULK AT MOST 1048576: true; the input reads as it did. -/
def simplifyAgainUptoRow : OpenClaim := { program := "ytmohpjpodkbgkaa", sum := "7921203b8f5eb0ec17ddccd976cd6a7a4565d3fa67aed0afba9e16176d144adf", func := "sieve/sievelaw10.SimplifyAgain", spec := "simplifyAgain", inPlace := ["internal/bytealg.IndexByteString"], unfollowed := true, recurses := true, loops := true, apart := false, narrowed := true }
def SimplifyAgainUptoSaid : Prop := simplifyAgainUptoRow.holds Try.pinned (OpenSpec.upto simplifyAgainSpec)

/-- 'sievelaw10.SimplifyKeeps', WHERE WHAT IT READS IS OF BULK AT MOST 1048576: true; the input reads as it did. -/
def simplifyKeepsUptoRow : OpenClaim := { program := "ytmohpjpodkbgkaa", sum := "7921203b8f5eb0ec17ddccd976cd6a7a4565d3fa67aed0afba9e16176d144adf", func := "sieve/sievelaw10.SimplifyKeeps", spec := "simplifyKeeps", inPlace := ["internal/bytealg.IndexByteString"], unfollowed := true, recurses := true, loops := true, apart := false, narrowed := true }
def SimplifyKeepsUptoSaid : Prop := simplifyKeepsUptoRow.holds Try.pinned (OpenSpec.upto simplifyKeepsSpec)

/-- 'sievelaw10.SimplifyOne', WHERE WHAT IT READS IS OF BULK AT MOST 1048576: true; the input reads as it did. -/
def simplifyOneUptoRow : OpenClaim := { program := "ytmohpjpodkbgkaa", sum := "7921203b8f5eb0ec17ddccd976cd6a7a4565d3fa67aed0afba9e16176d144adf", func := "sieve/sievelaw10.SimplifyOne", spec := "simplifyOne", inPlace := ["internal/bytealg.IndexByteString"], unfollowed := true, recurses := true, loops := true, apart := false, narrowed := true }
def SimplifyOneUptoSaid : Prop := simplifyOneUptoRow.holds Try.pinned (OpenSpec.upto simplifyOneSpec)

end Rows
end Go.Proofs.Ytmohpjpodkbgkaa
