/-
  DERIVED. GIVEN WITH THE SEED: THE CARDS: each row of YtijnjoonbjdafaaGreatDoorRows.lean that lists a variable, with what it lists TIED to the program's text (the seventh form; the later family's looks); each row that meets fmt, with fmt's text TOLD by the authors' own Lean function (tested against real Go, not proved from fmt's source: count such statements apart). THE CARD IS WHAT COUNTS. Prove the row's statement (the work); the ties are given (YtijnjoonbjdafaaGreatDoorTie.lean); close each card by the builder's one call (the guide's Derived/Test/ToyasCard.lean, 'card_holds'). Laid BY PROGRAM, IN A SANDBOX (cutbox-door.mjs). By AI agents, Wed Nov 11 2026. No macro, syntax, notation, axiom, sorry.
-/
import Derived.Test.YtijnjoonbjdafaaGreatDoorRows
import GoSem.ClaimSeven
namespace Go.Proofs.YtijnjoonbjdafaaGreatDoor
namespace Rows

/-- THE TIED CARD OF 'cupellaw05.ParseOne'. -/
def parseOneCard : Claim7 := { stood := { row := parseOneRow, standIns := [], harness := (true, "fdd8c0b5adef6158281b51e6b647c9c41b08859366cd205010f617463d3ad39d"), looks := true }, kinds := [], alts := [], laidByText := true, laidKinds := [.data, .data, .data, .sentinel, .sentinel], laidTests := true, laidLooks := .later }
def ParseOneCardSaid : Prop := Claim7.holds Tryz.pinned (.plain (OpenSpec.ofChange parseOneSpec)) parseOneCard

/-- THE TIED CARD OF 'cupellaw06.PrintTexts'. -/
def printTextsCard : Claim7 := { stood := { row := printTextsRow, standIns := [], harness := (true, "fdd8c0b5adef6158281b51e6b647c9c41b08859366cd205010f617463d3ad39d"), looks := true }, kinds := [], alts := [], laidByText := true, laidKinds := [.data, .data, .data, .sentinel, .sentinel], laidTests := true, laidLooks := .later }
def PrintTextsCardSaid : Prop := Claim7.holds Tryz.pinned (.plain (OpenSpec.ofChange printTextsSpec)) printTextsCard

/-- THE TIED CARD OF 'cupellaw08.AliasRules'. -/
def aliasRulesCard : Claim7 := { stood := { row := aliasRulesRow, standIns := [], harness := (true, "fdd8c0b5adef6158281b51e6b647c9c41b08859366cd205010f617463d3ad39d"), looks := true }, kinds := [], alts := [], laidByText := true, laidKinds := [.data, .data, .data, .sentinel, .sentinel], laidTests := true, laidLooks := .later }
def AliasRulesCardSaid : Prop := Claim7.holds Tryz.pinned (.plain (OpenSpec.ofChange aliasRulesSpec)) aliasRulesCard

/-- THE TIED CARD OF 'cupellaw08.AliasOrder'. -/
def aliasOrderCard : Claim7 := { stood := { row := aliasOrderRow, standIns := [], harness := (true, "fdd8c0b5adef6158281b51e6b647c9c41b08859366cd205010f617463d3ad39d"), looks := true }, kinds := [], alts := [], laidByText := true, laidKinds := [.data, .data, .data, .sentinel, .sentinel], laidTests := true, laidLooks := .later }
def AliasOrderCardSaid : Prop := Claim7.holds Tryz.pinned (.plain (OpenSpec.ofChange aliasOrderSpec)) aliasOrderCard

/-- THE TIED CARD OF 'cupellaw08.AliasChains'. -/
def aliasChainsCard : Claim7 := { stood := { row := aliasChainsRow, standIns := [], harness := (true, "fdd8c0b5adef6158281b51e6b647c9c41b08859366cd205010f617463d3ad39d"), looks := true }, kinds := [], alts := [], laidByText := true, laidKinds := [.data, .data, .data, .sentinel, .sentinel], laidTests := true, laidLooks := .later }
def AliasChainsCardSaid : Prop := Claim7.holds Tryz.pinned (.plain (OpenSpec.ofChange aliasChainsSpec)) aliasChainsCard

/-- THE TIED CARD OF 'cupellaw08.AliasUnions'. -/
def aliasUnionsCard : Claim7 := { stood := { row := aliasUnionsRow, standIns := [], harness := (true, "fdd8c0b5adef6158281b51e6b647c9c41b08859366cd205010f617463d3ad39d"), looks := true }, kinds := [], alts := [], laidByText := true, laidKinds := [.data, .data, .data, .sentinel, .sentinel], laidTests := true, laidLooks := .later }
def AliasUnionsCardSaid : Prop := Claim7.holds Tryz.pinned (.plain (OpenSpec.ofChange aliasUnionsSpec)) aliasUnionsCard

/-- THE SECOND FORM's CARD OF 'cupellaw05.ParseOne'. -/
def parseOneUptoCard : Claim7 := { stood := { row := parseOneUptoRow, standIns := [], harness := (true, "fdd8c0b5adef6158281b51e6b647c9c41b08859366cd205010f617463d3ad39d"), looks := true }, kinds := [], alts := [], laidByText := true, laidKinds := [.data, .data, .data, .sentinel, .sentinel], laidTests := true, laidLooks := .later }
def ParseOneUptoCardSaid : Prop := Claim7.holds Tryz.pinned (.plain (OpenSpec.upto parseOneSpec)) parseOneUptoCard

/-- THE SECOND FORM's CARD OF 'cupellaw06.PrintTexts'. -/
def printTextsUptoCard : Claim7 := { stood := { row := printTextsUptoRow, standIns := [], harness := (true, "fdd8c0b5adef6158281b51e6b647c9c41b08859366cd205010f617463d3ad39d"), looks := true }, kinds := [], alts := [], laidByText := true, laidKinds := [.data, .data, .data, .sentinel, .sentinel], laidTests := true, laidLooks := .later }
def PrintTextsUptoCardSaid : Prop := Claim7.holds Tryz.pinned (.plain (OpenSpec.upto printTextsSpec)) printTextsUptoCard

/-- THE SECOND FORM's CARD OF 'cupellaw08.AliasRules'. -/
def aliasRulesUptoCard : Claim7 := { stood := { row := aliasRulesUptoRow, standIns := [], harness := (true, "fdd8c0b5adef6158281b51e6b647c9c41b08859366cd205010f617463d3ad39d"), looks := true }, kinds := [], alts := [], laidByText := true, laidKinds := [.data, .data, .data, .sentinel, .sentinel], laidTests := true, laidLooks := .later }
def AliasRulesUptoCardSaid : Prop := Claim7.holds Tryz.pinned (.plain (OpenSpec.upto aliasRulesSpec)) aliasRulesUptoCard

/-- THE SECOND FORM's CARD OF 'cupellaw08.AliasOrder'. -/
def aliasOrderUptoCard : Claim7 := { stood := { row := aliasOrderUptoRow, standIns := [], harness := (true, "fdd8c0b5adef6158281b51e6b647c9c41b08859366cd205010f617463d3ad39d"), looks := true }, kinds := [], alts := [], laidByText := true, laidKinds := [.data, .data, .data, .sentinel, .sentinel], laidTests := true, laidLooks := .later }
def AliasOrderUptoCardSaid : Prop := Claim7.holds Tryz.pinned (.plain (OpenSpec.upto aliasOrderSpec)) aliasOrderUptoCard

/-- THE SECOND FORM's CARD OF 'cupellaw08.AliasChains'. -/
def aliasChainsUptoCard : Claim7 := { stood := { row := aliasChainsUptoRow, standIns := [], harness := (true, "fdd8c0b5adef6158281b51e6b647c9c41b08859366cd205010f617463d3ad39d"), looks := true }, kinds := [], alts := [], laidByText := true, laidKinds := [.data, .data, .data, .sentinel, .sentinel], laidTests := true, laidLooks := .later }
def AliasChainsUptoCardSaid : Prop := Claim7.holds Tryz.pinned (.plain (OpenSpec.upto aliasChainsSpec)) aliasChainsUptoCard

/-- THE SECOND FORM's CARD OF 'cupellaw08.AliasUnions'. -/
def aliasUnionsUptoCard : Claim7 := { stood := { row := aliasUnionsUptoRow, standIns := [], harness := (true, "fdd8c0b5adef6158281b51e6b647c9c41b08859366cd205010f617463d3ad39d"), looks := true }, kinds := [], alts := [], laidByText := true, laidKinds := [.data, .data, .data, .sentinel, .sentinel], laidTests := true, laidLooks := .later }
def AliasUnionsUptoCardSaid : Prop := Claim7.holds Tryz.pinned (.plain (OpenSpec.upto aliasUnionsSpec)) aliasUnionsUptoCard
end Rows
end Go.Proofs.YtijnjoonbjdafaaGreatDoor
