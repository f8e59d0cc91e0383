/-
  DERIVED. GIVEN WITH THE SEED: THE CARDS: each row of YtalcfcemilmgdaaDoorRows.lean that lists a variable, with what it lists TIED to the program's text (the seventh form; the later family's looks); each row that meets fmt, with fmt's text TOLD by the authors' own Lean function (tested against real Go, not proved from fmt's source: count such statements apart). THE CARD IS WHAT COUNTS. Prove the row's statement (the work); the ties are given (YtalcfcemilmgdaaDoorTie.lean); close each card by the builder's one call (the guide's Derived/Test/ToyasCard.lean, 'card_holds'). Laid BY PROGRAM, IN A SANDBOX (cutbox-door.mjs). By AI agents, Wed Nov 11 2026. No macro, syntax, notation, axiom, sorry.
-/
import Derived.Test.YtalcfcemilmgdaaDoorRows
import GoSem.ClaimSeven
namespace Go.Proofs.YtalcfcemilmgdaaDoor
namespace Rows

/-- THE TIED CARD OF 'towncrierlaw01.WordTells'. -/
def wordTellsCard : Claim7 := { stood := { row := wordTellsRow, standIns := [], harness := (true, "c5d086880e4b316df60f060fe06d52665e0b8f87460d0d3a7b8f43b08e526ef1"), looks := true }, kinds := [], alts := [], laidByText := true, laidKinds := [.data, .data, .data, .sentinel, .sentinel], laidTests := true, laidLooks := .later }
def WordTellsCardSaid : Prop := Claim7.holds Tryd.pinned (.plain (OpenSpec.ofChange wordTellsSpec)) wordTellsCard

/-- THE TIED CARD OF 'towncrierlaw01.WordNums'. -/
def wordNumsCard : Claim7 := { stood := { row := wordNumsRow, standIns := [], harness := (true, "c5d086880e4b316df60f060fe06d52665e0b8f87460d0d3a7b8f43b08e526ef1"), looks := true }, kinds := [], alts := [], laidByText := true, laidKinds := [.data, .data, .data, .sentinel, .sentinel], laidTests := true, laidLooks := .later }
def WordNumsCardSaid : Prop := Claim7.holds Tryd.pinned (.plain (OpenSpec.ofChange wordNumsSpec)) wordNumsCard

/-- THE SECOND FORM's CARD OF 'towncrierlaw01.WordTells'. -/
def wordTellsUptoCard : Claim7 := { stood := { row := wordTellsUptoRow, standIns := [], harness := (true, "c5d086880e4b316df60f060fe06d52665e0b8f87460d0d3a7b8f43b08e526ef1"), looks := true }, kinds := [], alts := [], laidByText := true, laidKinds := [.data, .data, .data, .sentinel, .sentinel], laidTests := true, laidLooks := .later }
def WordTellsUptoCardSaid : Prop := Claim7.holds Tryd.pinned (.plain (OpenSpec.upto wordTellsSpec)) wordTellsUptoCard

/-- THE SECOND FORM's CARD OF 'towncrierlaw01.WordNums'. -/
def wordNumsUptoCard : Claim7 := { stood := { row := wordNumsUptoRow, standIns := [], harness := (true, "c5d086880e4b316df60f060fe06d52665e0b8f87460d0d3a7b8f43b08e526ef1"), looks := true }, kinds := [], alts := [], laidByText := true, laidKinds := [.data, .data, .data, .sentinel, .sentinel], laidTests := true, laidLooks := .later }
def WordNumsUptoCardSaid : Prop := Claim7.holds Tryd.pinned (.plain (OpenSpec.upto wordNumsSpec)) wordNumsUptoCard
end Rows
end Go.Proofs.YtalcfcemilmgdaaDoor
