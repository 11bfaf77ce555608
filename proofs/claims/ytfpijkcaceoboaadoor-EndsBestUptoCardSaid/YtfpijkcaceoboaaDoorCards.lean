/-
  DERIVED. GIVEN WITH THE SEED: THE CARDS: each row of YtfpijkcaceoboaaDoorRows.lean that lists a variable, with what it lists TIED to the program's text (the seventh form; the later family's looks); each row that meets fmt, with fmt's text TOLD by the authors' own Lean function (tested against real Go, not proved from fmt's source: count such statements apart). THE CARD IS WHAT COUNTS. Prove the row's statement (the work); the ties are given (YtfpijkcaceoboaaDoorTie.lean); close each card by the builder's one call (the guide's Derived/Test/ToyasCard.lean, 'card_holds'). Laid BY PROGRAM, IN A SANDBOX (cutbox-door.mjs). By AI agents, Wed Nov 11 2026. No macro, syntax, notation, axiom, sorry.
-/
import Derived.Test.YtfpijkcaceoboaaDoorRows
import GoSem.ClaimSeven
namespace Go.Proofs.YtfpijkcaceoboaaDoor
namespace Rows

/-- THE TIED CARD OF 'sievelaw11.EndsTell'. -/
def endsTellCard : Claim7 := { stood := { row := endsTellRow, standIns := [], harness := (true, "a9341e46328b65a4f94aa9e9af87762381adcb35da2eda9dced3bc185369d023"), looks := true }, kinds := [], alts := [], laidByText := true, laidKinds := [.data], laidTests := true, laidLooks := .later }
def EndsTellCardSaid : Prop := Claim7.holds Tryd.pinned (.plain (OpenSpec.ofChange endsTellSpec)) endsTellCard

/-- THE TIED CARD OF 'sievelaw11.EndsMatch'. -/
def endsMatchCard : Claim7 := { stood := { row := endsMatchRow, standIns := [], harness := (true, "a9341e46328b65a4f94aa9e9af87762381adcb35da2eda9dced3bc185369d023"), looks := true }, kinds := [], alts := [], laidByText := true, laidKinds := [.data], laidTests := true, laidLooks := .later }
def EndsMatchCardSaid : Prop := Claim7.holds Tryd.pinned (.plain (OpenSpec.ofChange endsMatchSpec)) endsMatchCard

/-- THE TIED CARD OF 'sievelaw11.EndsSimple'. -/
def endsSimpleCard : Claim7 := { stood := { row := endsSimpleRow, standIns := [], harness := (true, "a9341e46328b65a4f94aa9e9af87762381adcb35da2eda9dced3bc185369d023"), looks := true }, kinds := [], alts := [], laidByText := true, laidKinds := [.data], laidTests := true, laidLooks := .later }
def EndsSimpleCardSaid : Prop := Claim7.holds Tryd.pinned (.plain (OpenSpec.ofChange endsSimpleSpec)) endsSimpleCard

/-- THE TIED CARD OF 'sievelaw11.EndsBest'. -/
def endsBestCard : Claim7 := { stood := { row := endsBestRow, standIns := [], harness := (true, "a9341e46328b65a4f94aa9e9af87762381adcb35da2eda9dced3bc185369d023"), looks := true }, kinds := [], alts := [], laidByText := true, laidKinds := [.data], laidTests := true, laidLooks := .later }
def EndsBestCardSaid : Prop := Claim7.holds Tryd.pinned (.plain (OpenSpec.ofChange endsBestSpec)) endsBestCard

/-- THE TIED CARD OF 'sievelaw11.EndsLonger'. -/
def endsLongerCard : Claim7 := { stood := { row := endsLongerRow, standIns := [], harness := (true, "a9341e46328b65a4f94aa9e9af87762381adcb35da2eda9dced3bc185369d023"), looks := true }, kinds := [], alts := [], laidByText := true, laidKinds := [.data], laidTests := true, laidLooks := .later }
def EndsLongerCardSaid : Prop := Claim7.holds Tryd.pinned (.plain (OpenSpec.ofChange endsLongerSpec)) endsLongerCard

/-- THE TIED CARD OF 'sievelaw11.EndsParts'. -/
def endsPartsCard : Claim7 := { stood := { row := endsPartsRow, standIns := [], harness := (true, "a9341e46328b65a4f94aa9e9af87762381adcb35da2eda9dced3bc185369d023"), looks := true }, kinds := [], alts := [], laidByText := true, laidKinds := [.data], laidTests := true, laidLooks := .later }
def EndsPartsCardSaid : Prop := Claim7.holds Tryd.pinned (.plain (OpenSpec.ofChange endsPartsSpec)) endsPartsCard

/-- THE TIED CARD OF 'sievelaw11.EndsStar'. -/
def endsStarCard : Claim7 := { stood := { row := endsStarRow, standIns := [], harness := (true, "a9341e46328b65a4f94aa9e9af87762381adcb35da2eda9dced3bc185369d023"), looks := true }, kinds := [], alts := [], laidByText := true, laidKinds := [.data], laidTests := true, laidLooks := .later }
def EndsStarCardSaid : Prop := Claim7.holds Tryd.pinned (.plain (OpenSpec.ofChange endsStarSpec)) endsStarCard

/-- THE SECOND FORM's CARD OF 'sievelaw11.EndsTell'. -/
def endsTellUptoCard : Claim7 := { stood := { row := endsTellUptoRow, standIns := [], harness := (true, "a9341e46328b65a4f94aa9e9af87762381adcb35da2eda9dced3bc185369d023"), looks := true }, kinds := [], alts := [], laidByText := true, laidKinds := [.data], laidTests := true, laidLooks := .later }
def EndsTellUptoCardSaid : Prop := Claim7.holds Tryd.pinned (.plain (OpenSpec.upto endsTellSpec)) endsTellUptoCard

/-- THE SECOND FORM's CARD OF 'sievelaw11.EndsMatch'. -/
def endsMatchUptoCard : Claim7 := { stood := { row := endsMatchUptoRow, standIns := [], harness := (true, "a9341e46328b65a4f94aa9e9af87762381adcb35da2eda9dced3bc185369d023"), looks := true }, kinds := [], alts := [], laidByText := true, laidKinds := [.data], laidTests := true, laidLooks := .later }
def EndsMatchUptoCardSaid : Prop := Claim7.holds Tryd.pinned (.plain (OpenSpec.upto endsMatchSpec)) endsMatchUptoCard

/-- THE SECOND FORM's CARD OF 'sievelaw11.EndsSimple'. -/
def endsSimpleUptoCard : Claim7 := { stood := { row := endsSimpleUptoRow, standIns := [], harness := (true, "a9341e46328b65a4f94aa9e9af87762381adcb35da2eda9dced3bc185369d023"), looks := true }, kinds := [], alts := [], laidByText := true, laidKinds := [.data], laidTests := true, laidLooks := .later }
def EndsSimpleUptoCardSaid : Prop := Claim7.holds Tryd.pinned (.plain (OpenSpec.upto endsSimpleSpec)) endsSimpleUptoCard

/-- THE SECOND FORM's CARD OF 'sievelaw11.EndsBest'. -/
def endsBestUptoCard : Claim7 := { stood := { row := endsBestUptoRow, standIns := [], harness := (true, "a9341e46328b65a4f94aa9e9af87762381adcb35da2eda9dced3bc185369d023"), looks := true }, kinds := [], alts := [], laidByText := true, laidKinds := [.data], laidTests := true, laidLooks := .later }
def EndsBestUptoCardSaid : Prop := Claim7.holds Tryd.pinned (.plain (OpenSpec.upto endsBestSpec)) endsBestUptoCard

/-- THE SECOND FORM's CARD OF 'sievelaw11.EndsLonger'. -/
def endsLongerUptoCard : Claim7 := { stood := { row := endsLongerUptoRow, standIns := [], harness := (true, "a9341e46328b65a4f94aa9e9af87762381adcb35da2eda9dced3bc185369d023"), looks := true }, kinds := [], alts := [], laidByText := true, laidKinds := [.data], laidTests := true, laidLooks := .later }
def EndsLongerUptoCardSaid : Prop := Claim7.holds Tryd.pinned (.plain (OpenSpec.upto endsLongerSpec)) endsLongerUptoCard

/-- THE SECOND FORM's CARD OF 'sievelaw11.EndsParts'. -/
def endsPartsUptoCard : Claim7 := { stood := { row := endsPartsUptoRow, standIns := [], harness := (true, "a9341e46328b65a4f94aa9e9af87762381adcb35da2eda9dced3bc185369d023"), looks := true }, kinds := [], alts := [], laidByText := true, laidKinds := [.data], laidTests := true, laidLooks := .later }
def EndsPartsUptoCardSaid : Prop := Claim7.holds Tryd.pinned (.plain (OpenSpec.upto endsPartsSpec)) endsPartsUptoCard

/-- THE SECOND FORM's CARD OF 'sievelaw11.EndsStar'. -/
def endsStarUptoCard : Claim7 := { stood := { row := endsStarUptoRow, standIns := [], harness := (true, "a9341e46328b65a4f94aa9e9af87762381adcb35da2eda9dced3bc185369d023"), looks := true }, kinds := [], alts := [], laidByText := true, laidKinds := [.data], laidTests := true, laidLooks := .later }
def EndsStarUptoCardSaid : Prop := Claim7.holds Tryd.pinned (.plain (OpenSpec.upto endsStarSpec)) endsStarUptoCard
end Rows
end Go.Proofs.YtfpijkcaceoboaaDoor
