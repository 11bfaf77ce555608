/-
  DERIVED. GIVEN WITH THE SEED: THE CARDS: each row of YthcjfgfbeollpaaDoorRows.lean that lists a variable, with what it lists TIED to the program's text (the seventh form; the later family's looks); each row that meets fmt, with fmt's text TOLD by the authors' own Lean function (tested against real Go, not proved from fmt's source: count such statements apart). THE CARD IS WHAT COUNTS. Prove the row's statement (the work); the ties are given (YthcjfgfbeollpaaDoorTie.lean); close each card by the builder's one call (the guide's Derived/Test/ToyasCard.lean, 'card_holds'). Laid BY PROGRAM, IN A SANDBOX (cutbox-door.mjs). By AI agents, Wed Nov 11 2026. No macro, syntax, notation, axiom, sorry.
-/
import Derived.Test.YthcjfgfbeollpaaDoorRows
import GoSem.ClaimSeven
namespace Go.Proofs.YthcjfgfbeollpaaDoor
namespace Rows

/-- THE TIED CARD OF 'sievelaw11.EndsParts'. -/
def endsPartsCard : Claim7 := { stood := { row := endsPartsRow, standIns := [], harness := (true, "0f460d41b5022d8b2d461890612df781832204ee0767bf2a0c81005cc74dfc20"), looks := true }, kinds := [], alts := [], laidByText := true, laidKinds := [.data], laidTests := true, laidLooks := .later }
def EndsPartsCardSaid : Prop := Claim7.holds Tryd.pinned (.plain (OpenSpec.ofChange endsPartsSpec)) endsPartsCard

/-- THE SECOND FORM's CARD OF 'sievelaw11.EndsParts'. -/
def endsPartsUptoCard : Claim7 := { stood := { row := endsPartsUptoRow, standIns := [], harness := (true, "0f460d41b5022d8b2d461890612df781832204ee0767bf2a0c81005cc74dfc20"), looks := true }, kinds := [], alts := [], laidByText := true, laidKinds := [.data], laidTests := true, laidLooks := .later }
def EndsPartsUptoCardSaid : Prop := Claim7.holds Tryd.pinned (.plain (OpenSpec.upto endsPartsSpec)) endsPartsUptoCard
end Rows
end Go.Proofs.YthcjfgfbeollpaaDoor
