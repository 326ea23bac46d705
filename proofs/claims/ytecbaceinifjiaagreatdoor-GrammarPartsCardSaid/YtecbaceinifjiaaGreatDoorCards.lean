/-
  DERIVED. GIVEN WITH THE SEED: THE CARDS: each row of YtecbaceinifjiaaGreatDoorRows.lean that lists a variable, with what it lists TIED to the program's text (the seventh form; the later family's looks); each row that meets fmt, with fmt's text TOLD by the authors' own Lean function (tested against real Go, not proved from fmt's source: count such statements apart). THE CARD IS WHAT COUNTS. Prove the row's statement (the work); the ties are given (YtecbaceinifjiaaGreatDoorTie.lean); close each card by the builder's one call (the guide's Derived/Test/ToyasCard.lean, 'card_holds'). Laid BY PROGRAM, IN A SANDBOX (cutbox-door.mjs). By AI agents, Wed Nov 11 2026. No macro, syntax, notation, axiom, sorry.
-/
import Derived.Test.YtecbaceinifjiaaGreatDoorRows
import GoSem.ClaimSeven
namespace Go.Proofs.YtecbaceinifjiaaGreatDoor
namespace Rows

/-- THE TIED CARD OF 'hourglasslaw09.GrammarNames'. -/
def grammarNamesCard : Claim7 := { stood := { row := grammarNamesRow, standIns := [], harness := (true, "f3341eee14071416dcf71f9f262f01277dd517719fc7930215dc925125e87523"), looks := true }, kinds := [], alts := [], laidByText := true, laidKinds := [.data, .data, .data, .sentinel, .sentinel, .data], laidTests := true, laidLooks := .later }
def GrammarNamesCardSaid : Prop := Claim7.holds Tryz.pinned (.plain (OpenSpec.ofChange grammarNamesSpec)) grammarNamesCard

/-- THE TIED CARD OF 'hourglasslaw09.GrammarSigns'. -/
def grammarSignsCard : Claim7 := { stood := { row := grammarSignsRow, standIns := [], harness := (true, "f3341eee14071416dcf71f9f262f01277dd517719fc7930215dc925125e87523"), looks := true }, kinds := [], alts := [], laidByText := true, laidKinds := [.data, .data, .data, .sentinel, .sentinel, .data], laidTests := true, laidLooks := .later }
def GrammarSignsCardSaid : Prop := Claim7.holds Tryz.pinned (.plain (OpenSpec.ofChange grammarSignsSpec)) grammarSignsCard

/-- THE TIED CARD OF 'hourglasslaw09.GrammarParts'. -/
def grammarPartsCard : Claim7 := { stood := { row := grammarPartsRow, standIns := [], harness := (true, "f3341eee14071416dcf71f9f262f01277dd517719fc7930215dc925125e87523"), looks := true }, kinds := [], alts := [], laidByText := true, laidKinds := [.data, .data, .data, .sentinel, .sentinel, .data], laidTests := true, laidLooks := .later }
def GrammarPartsCardSaid : Prop := Claim7.holds Tryz.pinned (.plain (OpenSpec.ofChange grammarPartsSpec)) grammarPartsCard

/-- THE SECOND FORM's CARD OF 'hourglasslaw09.GrammarNames'. -/
def grammarNamesUptoCard : Claim7 := { stood := { row := grammarNamesUptoRow, standIns := [], harness := (true, "f3341eee14071416dcf71f9f262f01277dd517719fc7930215dc925125e87523"), looks := true }, kinds := [], alts := [], laidByText := true, laidKinds := [.data, .data, .data, .sentinel, .sentinel, .data], laidTests := true, laidLooks := .later }
def GrammarNamesUptoCardSaid : Prop := Claim7.holds Tryz.pinned (.plain (OpenSpec.upto grammarNamesSpec)) grammarNamesUptoCard

/-- THE SECOND FORM's CARD OF 'hourglasslaw09.GrammarSigns'. -/
def grammarSignsUptoCard : Claim7 := { stood := { row := grammarSignsUptoRow, standIns := [], harness := (true, "f3341eee14071416dcf71f9f262f01277dd517719fc7930215dc925125e87523"), looks := true }, kinds := [], alts := [], laidByText := true, laidKinds := [.data, .data, .data, .sentinel, .sentinel, .data], laidTests := true, laidLooks := .later }
def GrammarSignsUptoCardSaid : Prop := Claim7.holds Tryz.pinned (.plain (OpenSpec.upto grammarSignsSpec)) grammarSignsUptoCard

/-- THE SECOND FORM's CARD OF 'hourglasslaw09.GrammarParts'. -/
def grammarPartsUptoCard : Claim7 := { stood := { row := grammarPartsUptoRow, standIns := [], harness := (true, "f3341eee14071416dcf71f9f262f01277dd517719fc7930215dc925125e87523"), looks := true }, kinds := [], alts := [], laidByText := true, laidKinds := [.data, .data, .data, .sentinel, .sentinel, .data], laidTests := true, laidLooks := .later }
def GrammarPartsUptoCardSaid : Prop := Claim7.holds Tryz.pinned (.plain (OpenSpec.upto grammarPartsSpec)) grammarPartsUptoCard
end Rows
end Go.Proofs.YtecbaceinifjiaaGreatDoor
