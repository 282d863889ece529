/-
  DERIVED. GIVEN WITH THE SEED: THE CARDS: each row of YtpciionbjaoniaaGreatDoorRows.lean that lists a variable, with what it lists TIED to the program's text (the seventh form; the later family's looks); each row that meets fmt, with fmt's text TOLD by the authors' own Lean function (tested against real Go, not proved from fmt's source: count such statements apart). THE CARD IS WHAT COUNTS. Prove the row's statement (the work); the ties are given (YtpciionbjaoniaaGreatDoorTie.lean); close each card by the builder's one call (the guide's Derived/Test/ToyasCard.lean, 'card_holds'). Laid BY PROGRAM, IN A SANDBOX (cutbox-door.mjs). By AI agents, Wed Nov 11 2026. No macro, syntax, notation, axiom, sorry.
-/
import Derived.Test.YtpciionbjaoniaaGreatDoorRows
import GoSem.ClaimSeven
namespace Go.Proofs.YtpciionbjaoniaaGreatDoor
namespace Rows

/-- THE TIED CARD OF 'marchlandlaw07.ClaimActs'. -/
def claimActsCard : Claim7 := { stood := { row := claimActsRow, standIns := [], harness := (true, "726e3c6c47bc286e4c7fd60d7ce81b9fe2cd2f7f8e64cfd966b6a1b070cdfb03"), looks := true }, kinds := [], alts := [], laidByText := true, laidKinds := [.data, .data, .data, .handle], laidTests := true, laidLooks := .later }
def ClaimActsCardSaid : Prop := Claim7.holds Tryz.pinned (.plain (OpenSpec.ofChange claimActsSpec)) claimActsCard

/-- THE TIED CARD OF 'marchlandlaw07.ClaimSinks'. -/
def claimSinksCard : Claim7 := { stood := { row := claimSinksRow, standIns := [], harness := (true, "726e3c6c47bc286e4c7fd60d7ce81b9fe2cd2f7f8e64cfd966b6a1b070cdfb03"), looks := true }, kinds := [], alts := [], laidByText := true, laidKinds := [.data, .data, .data, .handle], laidTests := true, laidLooks := .later }
def ClaimSinksCardSaid : Prop := Claim7.holds Tryz.pinned (.plain (OpenSpec.ofChange claimSinksSpec)) claimSinksCard

/-- THE TIED CARD OF 'marchlandlaw07.ClaimLets'. -/
def claimLetsCard : Claim7 := { stood := { row := claimLetsRow, standIns := [], harness := (true, "726e3c6c47bc286e4c7fd60d7ce81b9fe2cd2f7f8e64cfd966b6a1b070cdfb03"), looks := true }, kinds := [], alts := [], laidByText := true, laidKinds := [.data, .data, .data, .handle], laidTests := true, laidLooks := .later }
def ClaimLetsCardSaid : Prop := Claim7.holds Tryz.pinned (.plain (OpenSpec.ofChange claimLetsSpec)) claimLetsCard

/-- THE TIED CARD OF 'marchlandlaw14.ModelActs'. -/
def modelActsCard : Claim7 := { stood := { row := modelActsRow, standIns := [], harness := (true, "726e3c6c47bc286e4c7fd60d7ce81b9fe2cd2f7f8e64cfd966b6a1b070cdfb03"), looks := true }, kinds := [], alts := [], laidByText := true, laidKinds := [.handle], laidTests := true, laidLooks := .later }
def ModelActsCardSaid : Prop := Claim7.holds Tryz.pinned (.plain (OpenSpec.ofChange modelActsSpec)) modelActsCard

/-- THE TIED CARD OF 'marchlandlaw14.ModelChecks'. -/
def modelChecksCard : Claim7 := { stood := { row := modelChecksRow, standIns := [], harness := (true, "726e3c6c47bc286e4c7fd60d7ce81b9fe2cd2f7f8e64cfd966b6a1b070cdfb03"), looks := true }, kinds := [], alts := [], laidByText := true, laidKinds := [.data, .data, .data, .handle], laidTests := true, laidLooks := .later }
def ModelChecksCardSaid : Prop := Claim7.holds Tryz.pinned (.plain (OpenSpec.ofChange modelChecksSpec)) modelChecksCard

/-- THE TIED CARD OF 'marchlandlaw14.ModelSafe'. -/
def modelSafeCard : Claim7 := { stood := { row := modelSafeRow, standIns := [], harness := (true, "726e3c6c47bc286e4c7fd60d7ce81b9fe2cd2f7f8e64cfd966b6a1b070cdfb03"), looks := true }, kinds := [], alts := [], laidByText := true, laidKinds := [.handle], laidTests := true, laidLooks := .later }
def ModelSafeCardSaid : Prop := Claim7.holds Tryz.pinned (.plain (OpenSpec.ofChange modelSafeSpec)) modelSafeCard

/-- THE TIED CARD OF 'marchlandlaw14.ModelHolds'. -/
def modelHoldsCard : Claim7 := { stood := { row := modelHoldsRow, standIns := [], harness := (true, "726e3c6c47bc286e4c7fd60d7ce81b9fe2cd2f7f8e64cfd966b6a1b070cdfb03"), looks := true }, kinds := [], alts := [], laidByText := true, laidKinds := [.handle], laidTests := true, laidLooks := .later }
def ModelHoldsCardSaid : Prop := Claim7.holds Tryz.pinned (.plain (OpenSpec.ofChange modelHoldsSpec)) modelHoldsCard

/-- THE TIED CARD OF 'marchlandlaw15.HistChecks'. -/
def histChecksCard : Claim7 := { stood := { row := histChecksRow, standIns := [], harness := (true, "726e3c6c47bc286e4c7fd60d7ce81b9fe2cd2f7f8e64cfd966b6a1b070cdfb03"), looks := true }, kinds := [], alts := [], laidByText := true, laidKinds := [.handle], laidTests := true, laidLooks := .later }
def HistChecksCardSaid : Prop := Claim7.holds Tryz.pinned (.plain (OpenSpec.ofChange histChecksSpec)) histChecksCard

/-- THE TIED CARD OF 'marchlandlaw15.HistFinds'. -/
def histFindsCard : Claim7 := { stood := { row := histFindsRow, standIns := [], harness := (true, "726e3c6c47bc286e4c7fd60d7ce81b9fe2cd2f7f8e64cfd966b6a1b070cdfb03"), looks := true }, kinds := [], alts := [], laidByText := true, laidKinds := [.handle], laidTests := true, laidLooks := .later }
def HistFindsCardSaid : Prop := Claim7.holds Tryz.pinned (.plain (OpenSpec.ofChange histFindsSpec)) histFindsCard

/-- THE TIED CARD OF 'marchlandlaw15.HistTimes'. -/
def histTimesCard : Claim7 := { stood := { row := histTimesRow, standIns := [], harness := (true, "726e3c6c47bc286e4c7fd60d7ce81b9fe2cd2f7f8e64cfd966b6a1b070cdfb03"), looks := true }, kinds := [], alts := [], laidByText := true, laidKinds := [.handle], laidTests := true, laidLooks := .later }
def HistTimesCardSaid : Prop := Claim7.holds Tryz.pinned (.plain (OpenSpec.ofChange histTimesSpec)) histTimesCard

/-- THE SECOND FORM's CARD OF 'marchlandlaw07.ClaimActs'. -/
def claimActsUptoCard : Claim7 := { stood := { row := claimActsUptoRow, standIns := [], harness := (true, "726e3c6c47bc286e4c7fd60d7ce81b9fe2cd2f7f8e64cfd966b6a1b070cdfb03"), looks := true }, kinds := [], alts := [], laidByText := true, laidKinds := [.data, .data, .data, .handle], laidTests := true, laidLooks := .later }
def ClaimActsUptoCardSaid : Prop := Claim7.holds Tryz.pinned (.plain (OpenSpec.upto claimActsSpec)) claimActsUptoCard

/-- THE SECOND FORM's CARD OF 'marchlandlaw07.ClaimSinks'. -/
def claimSinksUptoCard : Claim7 := { stood := { row := claimSinksUptoRow, standIns := [], harness := (true, "726e3c6c47bc286e4c7fd60d7ce81b9fe2cd2f7f8e64cfd966b6a1b070cdfb03"), looks := true }, kinds := [], alts := [], laidByText := true, laidKinds := [.data, .data, .data, .handle], laidTests := true, laidLooks := .later }
def ClaimSinksUptoCardSaid : Prop := Claim7.holds Tryz.pinned (.plain (OpenSpec.upto claimSinksSpec)) claimSinksUptoCard

/-- THE SECOND FORM's CARD OF 'marchlandlaw07.ClaimLets'. -/
def claimLetsUptoCard : Claim7 := { stood := { row := claimLetsUptoRow, standIns := [], harness := (true, "726e3c6c47bc286e4c7fd60d7ce81b9fe2cd2f7f8e64cfd966b6a1b070cdfb03"), looks := true }, kinds := [], alts := [], laidByText := true, laidKinds := [.data, .data, .data, .handle], laidTests := true, laidLooks := .later }
def ClaimLetsUptoCardSaid : Prop := Claim7.holds Tryz.pinned (.plain (OpenSpec.upto claimLetsSpec)) claimLetsUptoCard

/-- THE SECOND FORM's CARD OF 'marchlandlaw14.ModelActs'. -/
def modelActsUptoCard : Claim7 := { stood := { row := modelActsUptoRow, standIns := [], harness := (true, "726e3c6c47bc286e4c7fd60d7ce81b9fe2cd2f7f8e64cfd966b6a1b070cdfb03"), looks := true }, kinds := [], alts := [], laidByText := true, laidKinds := [.handle], laidTests := true, laidLooks := .later }
def ModelActsUptoCardSaid : Prop := Claim7.holds Tryz.pinned (.plain (OpenSpec.upto modelActsSpec)) modelActsUptoCard

/-- THE SECOND FORM's CARD OF 'marchlandlaw14.ModelChecks'. -/
def modelChecksUptoCard : Claim7 := { stood := { row := modelChecksUptoRow, standIns := [], harness := (true, "726e3c6c47bc286e4c7fd60d7ce81b9fe2cd2f7f8e64cfd966b6a1b070cdfb03"), looks := true }, kinds := [], alts := [], laidByText := true, laidKinds := [.data, .data, .data, .handle], laidTests := true, laidLooks := .later }
def ModelChecksUptoCardSaid : Prop := Claim7.holds Tryz.pinned (.plain (OpenSpec.upto modelChecksSpec)) modelChecksUptoCard

/-- THE SECOND FORM's CARD OF 'marchlandlaw14.ModelSafe'. -/
def modelSafeUptoCard : Claim7 := { stood := { row := modelSafeUptoRow, standIns := [], harness := (true, "726e3c6c47bc286e4c7fd60d7ce81b9fe2cd2f7f8e64cfd966b6a1b070cdfb03"), looks := true }, kinds := [], alts := [], laidByText := true, laidKinds := [.handle], laidTests := true, laidLooks := .later }
def ModelSafeUptoCardSaid : Prop := Claim7.holds Tryz.pinned (.plain (OpenSpec.upto modelSafeSpec)) modelSafeUptoCard

/-- THE SECOND FORM's CARD OF 'marchlandlaw14.ModelHolds'. -/
def modelHoldsUptoCard : Claim7 := { stood := { row := modelHoldsUptoRow, standIns := [], harness := (true, "726e3c6c47bc286e4c7fd60d7ce81b9fe2cd2f7f8e64cfd966b6a1b070cdfb03"), looks := true }, kinds := [], alts := [], laidByText := true, laidKinds := [.handle], laidTests := true, laidLooks := .later }
def ModelHoldsUptoCardSaid : Prop := Claim7.holds Tryz.pinned (.plain (OpenSpec.upto modelHoldsSpec)) modelHoldsUptoCard

/-- THE SECOND FORM's CARD OF 'marchlandlaw15.HistChecks'. -/
def histChecksUptoCard : Claim7 := { stood := { row := histChecksUptoRow, standIns := [], harness := (true, "726e3c6c47bc286e4c7fd60d7ce81b9fe2cd2f7f8e64cfd966b6a1b070cdfb03"), looks := true }, kinds := [], alts := [], laidByText := true, laidKinds := [.handle], laidTests := true, laidLooks := .later }
def HistChecksUptoCardSaid : Prop := Claim7.holds Tryz.pinned (.plain (OpenSpec.upto histChecksSpec)) histChecksUptoCard

/-- THE SECOND FORM's CARD OF 'marchlandlaw15.HistFinds'. -/
def histFindsUptoCard : Claim7 := { stood := { row := histFindsUptoRow, standIns := [], harness := (true, "726e3c6c47bc286e4c7fd60d7ce81b9fe2cd2f7f8e64cfd966b6a1b070cdfb03"), looks := true }, kinds := [], alts := [], laidByText := true, laidKinds := [.handle], laidTests := true, laidLooks := .later }
def HistFindsUptoCardSaid : Prop := Claim7.holds Tryz.pinned (.plain (OpenSpec.upto histFindsSpec)) histFindsUptoCard

/-- THE SECOND FORM's CARD OF 'marchlandlaw15.HistTimes'. -/
def histTimesUptoCard : Claim7 := { stood := { row := histTimesUptoRow, standIns := [], harness := (true, "726e3c6c47bc286e4c7fd60d7ce81b9fe2cd2f7f8e64cfd966b6a1b070cdfb03"), looks := true }, kinds := [], alts := [], laidByText := true, laidKinds := [.handle], laidTests := true, laidLooks := .later }
def HistTimesUptoCardSaid : Prop := Claim7.holds Tryz.pinned (.plain (OpenSpec.upto histTimesSpec)) histTimesUptoCard
end Rows
end Go.Proofs.YtpciionbjaoniaaGreatDoor
