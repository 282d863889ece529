/-
  DERIVED. GIVEN WITH THE SEED: THE CARDS: each row of YtdllgeanmlmmfaaGreatDoorRows.lean that lists a variable, with what it lists TIED to the program's text (the seventh form; the later family's looks); each row that meets fmt, with fmt's text TOLD by the authors' own Lean function (tested against real Go, not proved from fmt's source: count such statements apart). THE CARD IS WHAT COUNTS. Prove the row's statement (the work); the ties are given (YtdllgeanmlmmfaaGreatDoorTie.lean); close each card by the builder's one call (the guide's Derived/Test/ToyasCard.lean, 'card_holds'). Laid BY PROGRAM, IN A SANDBOX (cutbox-door.mjs). By AI agents, Wed Nov 11 2026. No macro, syntax, notation, axiom, sorry.
-/
import Derived.Test.YtdllgeanmlmmfaaGreatDoorRows
import GoSem.ClaimSeven
namespace Go.Proofs.YtdllgeanmlmmfaaGreatDoor
namespace Rows

/-- THE TIED CARD OF 'marchlandlaw14.ModelChecks'. -/
def modelChecksCard : Claim7 := { stood := { row := modelChecksRow, standIns := [], harness := (true, "ba58e215f4347cfdb559c662dcb1f8731c50913744499f50cfc47bb2a4a1838f"), looks := true }, kinds := [], alts := [], laidByText := true, laidKinds := [.data, .data, .data, .handle], laidTests := true, laidLooks := .later }
def ModelChecksCardSaid : Prop := Claim7.holds Tryz.pinned (.plain (OpenSpec.ofChange modelChecksSpec)) modelChecksCard

/-- THE TIED CARD OF 'marchlandlaw15.HistTimes'. -/
def histTimesCard : Claim7 := { stood := { row := histTimesRow, standIns := [], harness := (true, "ba58e215f4347cfdb559c662dcb1f8731c50913744499f50cfc47bb2a4a1838f"), looks := true }, kinds := [], alts := [], laidByText := true, laidKinds := [.handle], laidTests := true, laidLooks := .later }
def HistTimesCardSaid : Prop := Claim7.holds Tryz.pinned (.plain (OpenSpec.ofChange histTimesSpec)) histTimesCard

/-- THE SECOND FORM's CARD OF 'marchlandlaw14.ModelChecks'. -/
def modelChecksUptoCard : Claim7 := { stood := { row := modelChecksUptoRow, standIns := [], harness := (true, "ba58e215f4347cfdb559c662dcb1f8731c50913744499f50cfc47bb2a4a1838f"), looks := true }, kinds := [], alts := [], laidByText := true, laidKinds := [.data, .data, .data, .handle], laidTests := true, laidLooks := .later }
def ModelChecksUptoCardSaid : Prop := Claim7.holds Tryz.pinned (.plain (OpenSpec.upto modelChecksSpec)) modelChecksUptoCard

/-- THE SECOND FORM's CARD OF 'marchlandlaw15.HistTimes'. -/
def histTimesUptoCard : Claim7 := { stood := { row := histTimesUptoRow, standIns := [], harness := (true, "ba58e215f4347cfdb559c662dcb1f8731c50913744499f50cfc47bb2a4a1838f"), looks := true }, kinds := [], alts := [], laidByText := true, laidKinds := [.handle], laidTests := true, laidLooks := .later }
def HistTimesUptoCardSaid : Prop := Claim7.holds Tryz.pinned (.plain (OpenSpec.upto histTimesSpec)) histTimesUptoCard
end Rows
end Go.Proofs.YtdllgeanmlmmfaaGreatDoor
