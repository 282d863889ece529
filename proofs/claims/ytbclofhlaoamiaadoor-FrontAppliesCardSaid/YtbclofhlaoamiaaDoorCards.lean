/-
  DERIVED. GIVEN WITH THE SEED: THE CARDS: each row of YtbclofhlaoamiaaDoorRows.lean that lists a variable, with what it lists TIED to the program's text (the seventh form; the later family's looks); each row that meets fmt, with fmt's text TOLD by the authors' own Lean function (tested against real Go, not proved from fmt's source: count such statements apart). THE CARD IS WHAT COUNTS. Prove the row's statement (the work); the ties are given (YtbclofhlaoamiaaDoorTie.lean); close each card by the builder's one call (the guide's Derived/Test/ToyasCard.lean, 'card_holds'). Laid BY PROGRAM, IN A SANDBOX (cutbox-door.mjs). By AI agents, Wed Nov 11 2026. No macro, syntax, notation, axiom, sorry.
-/
import Derived.Test.YtbclofhlaoamiaaDoorRows
import GoSem.ClaimSeven
namespace Go.Proofs.YtbclofhlaoamiaaDoor
namespace Rows

/-- THE TIED CARD OF 'marchlandlaw06.FrontApplies'. -/
def frontAppliesCard : Claim7 := { stood := { row := frontAppliesRow, standIns := [], harness := (true, "1c0978e41f06baea4e32951185936285af2db7881072fea230cf5839ff15142c"), looks := true }, kinds := [], alts := [], laidByText := true, laidKinds := [.handle], laidTests := true, laidLooks := .later }
def FrontAppliesCardSaid : Prop := Claim7.holds Tryd.pinned (.plain (OpenSpec.ofChange frontAppliesSpec)) frontAppliesCard

/-- THE SECOND FORM's CARD OF 'marchlandlaw06.FrontApplies'. -/
def frontAppliesUptoCard : Claim7 := { stood := { row := frontAppliesUptoRow, standIns := [], harness := (true, "1c0978e41f06baea4e32951185936285af2db7881072fea230cf5839ff15142c"), looks := true }, kinds := [], alts := [], laidByText := true, laidKinds := [.handle], laidTests := true, laidLooks := .later }
def FrontAppliesUptoCardSaid : Prop := Claim7.holds Tryd.pinned (.plain (OpenSpec.upto frontAppliesSpec)) frontAppliesUptoCard
end Rows
end Go.Proofs.YtbclofhlaoamiaaDoor
