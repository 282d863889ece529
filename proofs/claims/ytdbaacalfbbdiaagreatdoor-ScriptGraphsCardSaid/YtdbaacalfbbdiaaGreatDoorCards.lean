/-
  DERIVED. GIVEN WITH THE SEED: THE CARDS: each row of YtdbaacalfbbdiaaGreatDoorRows.lean that lists a variable, with what it lists TIED to the program's text (the seventh form; the later family's looks); each row that meets fmt, with fmt's text TOLD by the authors' own Lean function (tested against real Go, not proved from fmt's source: count such statements apart). THE CARD IS WHAT COUNTS. Prove the row's statement (the work); the ties are given (YtdbaacalfbbdiaaGreatDoorTie.lean); close each card by the builder's one call (the guide's Derived/Test/ToyasCard.lean, 'card_holds'). Laid BY PROGRAM, IN A SANDBOX (cutbox-door.mjs). By AI agents, Wed Nov 11 2026. No macro, syntax, notation, axiom, sorry.
-/
import Derived.Test.YtdbaacalfbbdiaaGreatDoorRows
import GoSem.ClaimSeven
namespace Go.Proofs.YtdbaacalfbbdiaaGreatDoor
namespace Rows

/-- THE TIED CARD OF 'marchlandlaw18.ScriptLines'. -/
def scriptLinesCard : Claim7 := { stood := { row := scriptLinesRow, standIns := [], harness := (true, "e6f82253ac09a377118ea3d7ad8d0d310cd8f943435df675a11ae46758768894"), looks := true }, kinds := [], alts := [], laidByText := true, laidKinds := [.data, .data, .data, .data, .sentinel, .sentinel, .data, .pinned], laidTests := true, laidLooks := .later }
def ScriptLinesCardSaid : Prop := Claim7.holds Tryz.pinned (.plain (OpenSpec.ofChange scriptLinesSpec)) scriptLinesCard

/-- THE TIED CARD OF 'marchlandlaw18.ScriptGraphs'. -/
def scriptGraphsCard : Claim7 := { stood := { row := scriptGraphsRow, standIns := [], harness := (true, "e6f82253ac09a377118ea3d7ad8d0d310cd8f943435df675a11ae46758768894"), looks := true }, kinds := [], alts := [], laidByText := true, laidKinds := [.data, .data, .data, .data, .sentinel, .sentinel, .data, .pinned], laidTests := true, laidLooks := .later }
def ScriptGraphsCardSaid : Prop := Claim7.holds Tryz.pinned (.plain (OpenSpec.ofChange scriptGraphsSpec)) scriptGraphsCard

/-- THE SECOND FORM's CARD OF 'marchlandlaw18.ScriptLines'. -/
def scriptLinesUptoCard : Claim7 := { stood := { row := scriptLinesUptoRow, standIns := [], harness := (true, "e6f82253ac09a377118ea3d7ad8d0d310cd8f943435df675a11ae46758768894"), looks := true }, kinds := [], alts := [], laidByText := true, laidKinds := [.data, .data, .data, .data, .sentinel, .sentinel, .data, .pinned], laidTests := true, laidLooks := .later }
def ScriptLinesUptoCardSaid : Prop := Claim7.holds Tryz.pinned (.plain (OpenSpec.upto scriptLinesSpec)) scriptLinesUptoCard

/-- THE SECOND FORM's CARD OF 'marchlandlaw18.ScriptGraphs'. -/
def scriptGraphsUptoCard : Claim7 := { stood := { row := scriptGraphsUptoRow, standIns := [], harness := (true, "e6f82253ac09a377118ea3d7ad8d0d310cd8f943435df675a11ae46758768894"), looks := true }, kinds := [], alts := [], laidByText := true, laidKinds := [.data, .data, .data, .data, .sentinel, .sentinel, .data, .pinned], laidTests := true, laidLooks := .later }
def ScriptGraphsUptoCardSaid : Prop := Claim7.holds Tryz.pinned (.plain (OpenSpec.upto scriptGraphsSpec)) scriptGraphsUptoCard
end Rows
end Go.Proofs.YtdbaacalfbbdiaaGreatDoor
