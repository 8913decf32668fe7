/-
  DERIVED. GIVEN WITH THE SEED: THE CARDS: each row of YtnhhmndnmkkhlaaDoorRows.lean that lists a variable, with what it lists TIED to the program's text (the seventh form; the later family's looks); each row that meets fmt, with fmt's text TOLD by the authors' own Lean function (tested against real Go, not proved from fmt's source: count such statements apart). THE CARD IS WHAT COUNTS. Prove the row's statement (the work); the ties are given (YtnhhmndnmkkhlaaDoorTie.lean); close each card by the builder's one call (the guide's Derived/Test/ToyasCard.lean, 'card_holds'). Laid BY PROGRAM, IN A SANDBOX (cutbox-door.mjs). By AI agents, Wed Nov 11 2026. No macro, syntax, notation, axiom, sorry.
-/
import Derived.Test.YtnhhmndnmkkhlaaDoorRows
import GoSem.ClaimSeven
namespace Go.Proofs.YtnhhmndnmkkhlaaDoor
namespace Rows

/-- THE TIED CARD OF 'widgetrylaw11.ExprValuesRaw'. -/
def exprValuesRawCard : Claim7 := { stood := { row := exprValuesRawRow, standIns := [], harness := (true, "10be457e3e169ee45b09230beec932e7fee7ec36f8680adc56826366a0d64cae"), looks := false }, kinds := [], alts := [], laidByText := true, laidKinds := [.data, .data, .data, .data, .pinned], laidTests := true, laidLooks := .later }
def ExprValuesRawCardSaid : Prop := Claim7.holds Tryd.pinned (.plain (OpenSpec.ofChange exprValuesRawSpec)) exprValuesRawCard

/-- THE TIED CARD OF 'widgetrylaw11.ExprValuesBuilt'. -/
def exprValuesBuiltCard : Claim7 := { stood := { row := exprValuesBuiltRow, standIns := [], harness := (true, "10be457e3e169ee45b09230beec932e7fee7ec36f8680adc56826366a0d64cae"), looks := false }, kinds := [], alts := [], laidByText := true, laidKinds := [.data, .data, .data, .data, .pinned], laidTests := true, laidLooks := .later }
def ExprValuesBuiltCardSaid : Prop := Claim7.holds Tryd.pinned (.plain (OpenSpec.ofChange exprValuesBuiltSpec)) exprValuesBuiltCard

/-- THE TIED CARD OF 'widgetrylaw11.ExprLimits'. -/
def exprLimitsCard : Claim7 := { stood := { row := exprLimitsRow, standIns := [], harness := (true, "10be457e3e169ee45b09230beec932e7fee7ec36f8680adc56826366a0d64cae"), looks := false }, kinds := [], alts := [], laidByText := true, laidKinds := [.data, .data, .data, .data, .pinned], laidTests := true, laidLooks := .later }
def ExprLimitsCardSaid : Prop := Claim7.holds Tryd.pinned (.plain (OpenSpec.ofChange exprLimitsSpec)) exprLimitsCard

/-- THE TIED CARD OF 'widgetrylaw11.ExprJoins'. -/
def exprJoinsCard : Claim7 := { stood := { row := exprJoinsRow, standIns := [], harness := (true, "10be457e3e169ee45b09230beec932e7fee7ec36f8680adc56826366a0d64cae"), looks := false }, kinds := [], alts := [], laidByText := true, laidKinds := [.data, .data, .data, .data, .pinned], laidTests := true, laidLooks := .later }
def ExprJoinsCardSaid : Prop := Claim7.holds Tryd.pinned (.plain (OpenSpec.ofChange exprJoinsSpec)) exprJoinsCard

/-- THE TIED CARD OF 'widgetrylaw11.ExprLists'. -/
def exprListsCard : Claim7 := { stood := { row := exprListsRow, standIns := [], harness := (true, "10be457e3e169ee45b09230beec932e7fee7ec36f8680adc56826366a0d64cae"), looks := false }, kinds := [], alts := [], laidByText := true, laidKinds := [.data, .data, .data, .data, .pinned], laidTests := true, laidLooks := .later }
def ExprListsCardSaid : Prop := Claim7.holds Tryd.pinned (.plain (OpenSpec.ofChange exprListsSpec)) exprListsCard

/-- THE SECOND FORM's CARD OF 'widgetrylaw11.ExprValuesRaw'. -/
def exprValuesRawUptoCard : Claim7 := { stood := { row := exprValuesRawUptoRow, standIns := [], harness := (true, "10be457e3e169ee45b09230beec932e7fee7ec36f8680adc56826366a0d64cae"), looks := false }, kinds := [], alts := [], laidByText := true, laidKinds := [.data, .data, .data, .data, .pinned], laidTests := true, laidLooks := .later }
def ExprValuesRawUptoCardSaid : Prop := Claim7.holds Tryd.pinned (.plain (OpenSpec.upto exprValuesRawSpec)) exprValuesRawUptoCard

/-- THE SECOND FORM's CARD OF 'widgetrylaw11.ExprValuesBuilt'. -/
def exprValuesBuiltUptoCard : Claim7 := { stood := { row := exprValuesBuiltUptoRow, standIns := [], harness := (true, "10be457e3e169ee45b09230beec932e7fee7ec36f8680adc56826366a0d64cae"), looks := false }, kinds := [], alts := [], laidByText := true, laidKinds := [.data, .data, .data, .data, .pinned], laidTests := true, laidLooks := .later }
def ExprValuesBuiltUptoCardSaid : Prop := Claim7.holds Tryd.pinned (.plain (OpenSpec.upto exprValuesBuiltSpec)) exprValuesBuiltUptoCard

/-- THE SECOND FORM's CARD OF 'widgetrylaw11.ExprLimits'. -/
def exprLimitsUptoCard : Claim7 := { stood := { row := exprLimitsUptoRow, standIns := [], harness := (true, "10be457e3e169ee45b09230beec932e7fee7ec36f8680adc56826366a0d64cae"), looks := false }, kinds := [], alts := [], laidByText := true, laidKinds := [.data, .data, .data, .data, .pinned], laidTests := true, laidLooks := .later }
def ExprLimitsUptoCardSaid : Prop := Claim7.holds Tryd.pinned (.plain (OpenSpec.upto exprLimitsSpec)) exprLimitsUptoCard

/-- THE SECOND FORM's CARD OF 'widgetrylaw11.ExprJoins'. -/
def exprJoinsUptoCard : Claim7 := { stood := { row := exprJoinsUptoRow, standIns := [], harness := (true, "10be457e3e169ee45b09230beec932e7fee7ec36f8680adc56826366a0d64cae"), looks := false }, kinds := [], alts := [], laidByText := true, laidKinds := [.data, .data, .data, .data, .pinned], laidTests := true, laidLooks := .later }
def ExprJoinsUptoCardSaid : Prop := Claim7.holds Tryd.pinned (.plain (OpenSpec.upto exprJoinsSpec)) exprJoinsUptoCard

/-- THE SECOND FORM's CARD OF 'widgetrylaw11.ExprLists'. -/
def exprListsUptoCard : Claim7 := { stood := { row := exprListsUptoRow, standIns := [], harness := (true, "10be457e3e169ee45b09230beec932e7fee7ec36f8680adc56826366a0d64cae"), looks := false }, kinds := [], alts := [], laidByText := true, laidKinds := [.data, .data, .data, .data, .pinned], laidTests := true, laidLooks := .later }
def ExprListsUptoCardSaid : Prop := Claim7.holds Tryd.pinned (.plain (OpenSpec.upto exprListsSpec)) exprListsUptoCard
end Rows
end Go.Proofs.YtnhhmndnmkkhlaaDoor
