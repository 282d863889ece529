/-
  DERIVED. GIVEN WITH THE SEED: THE CARDS: each row of YtlkljeedlkbkgaaGreatDoorRows.lean that lists a variable, with what it lists TIED to the program's text (the seventh form; the later family's looks); each row that meets fmt, with fmt's text TOLD by the authors' own Lean function (tested against real Go, not proved from fmt's source: count such statements apart). THE CARD IS WHAT COUNTS. Prove the row's statement (the work); the ties are given (YtlkljeedlkbkgaaGreatDoorTie.lean); close each card by the builder's one call (the guide's Derived/Test/ToyasCard.lean, 'card_holds'). Laid BY PROGRAM, IN A SANDBOX (cutbox-door.mjs). By AI agents, Wed Nov 11 2026. No macro, syntax, notation, axiom, sorry.
-/
import Derived.Test.YtlkljeedlkbkgaaGreatDoorRows
import GoSem.ClaimSeven
namespace Go.Proofs.YtlkljeedlkbkgaaGreatDoor
namespace Rows

/-- THE TIED CARD OF 'marchlandlaw07.ClaimActs'. -/
def claimActsCard : Claim7 := { stood := { row := claimActsRow, standIns := [], harness := (true, "cade447ca3e734de9eb7debf5e6492caf94b82de2579c15a1f4bf416cb5adbae"), looks := true }, kinds := [], alts := [], laidByText := true, laidKinds := [.data, .data, .data, .handle], laidTests := true, laidLooks := .later }
def ClaimActsCardSaid : Prop := Claim7.holds Tryz.pinned (.plain (OpenSpec.ofChange claimActsSpec)) claimActsCard

/-- THE TIED CARD OF 'marchlandlaw07.ClaimSinks'. -/
def claimSinksCard : Claim7 := { stood := { row := claimSinksRow, standIns := [], harness := (true, "cade447ca3e734de9eb7debf5e6492caf94b82de2579c15a1f4bf416cb5adbae"), looks := true }, kinds := [], alts := [], laidByText := true, laidKinds := [.data, .data, .data, .handle], laidTests := true, laidLooks := .later }
def ClaimSinksCardSaid : Prop := Claim7.holds Tryz.pinned (.plain (OpenSpec.ofChange claimSinksSpec)) claimSinksCard

/-- THE TIED CARD OF 'marchlandlaw07.ClaimLets'. -/
def claimLetsCard : Claim7 := { stood := { row := claimLetsRow, standIns := [], harness := (true, "cade447ca3e734de9eb7debf5e6492caf94b82de2579c15a1f4bf416cb5adbae"), looks := true }, kinds := [], alts := [], laidByText := true, laidKinds := [.data, .data, .data, .handle], laidTests := true, laidLooks := .later }
def ClaimLetsCardSaid : Prop := Claim7.holds Tryz.pinned (.plain (OpenSpec.ofChange claimLetsSpec)) claimLetsCard

/-- THE SECOND FORM's CARD OF 'marchlandlaw07.ClaimActs'. -/
def claimActsUptoCard : Claim7 := { stood := { row := claimActsUptoRow, standIns := [], harness := (true, "cade447ca3e734de9eb7debf5e6492caf94b82de2579c15a1f4bf416cb5adbae"), looks := true }, kinds := [], alts := [], laidByText := true, laidKinds := [.data, .data, .data, .handle], laidTests := true, laidLooks := .later }
def ClaimActsUptoCardSaid : Prop := Claim7.holds Tryz.pinned (.plain (OpenSpec.upto claimActsSpec)) claimActsUptoCard

/-- THE SECOND FORM's CARD OF 'marchlandlaw07.ClaimSinks'. -/
def claimSinksUptoCard : Claim7 := { stood := { row := claimSinksUptoRow, standIns := [], harness := (true, "cade447ca3e734de9eb7debf5e6492caf94b82de2579c15a1f4bf416cb5adbae"), looks := true }, kinds := [], alts := [], laidByText := true, laidKinds := [.data, .data, .data, .handle], laidTests := true, laidLooks := .later }
def ClaimSinksUptoCardSaid : Prop := Claim7.holds Tryz.pinned (.plain (OpenSpec.upto claimSinksSpec)) claimSinksUptoCard

/-- THE SECOND FORM's CARD OF 'marchlandlaw07.ClaimLets'. -/
def claimLetsUptoCard : Claim7 := { stood := { row := claimLetsUptoRow, standIns := [], harness := (true, "cade447ca3e734de9eb7debf5e6492caf94b82de2579c15a1f4bf416cb5adbae"), looks := true }, kinds := [], alts := [], laidByText := true, laidKinds := [.data, .data, .data, .handle], laidTests := true, laidLooks := .later }
def ClaimLetsUptoCardSaid : Prop := Claim7.holds Tryz.pinned (.plain (OpenSpec.upto claimLetsSpec)) claimLetsUptoCard
end Rows
end Go.Proofs.YtlkljeedlkbkgaaGreatDoor
