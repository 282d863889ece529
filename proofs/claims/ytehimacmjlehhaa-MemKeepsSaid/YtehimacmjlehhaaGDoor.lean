/-
  A START THAT MEETS THE CONDITIONS OF THE ROWS OF THIS SEAT: the heap that the door's own run leaves.
-/
import Derived.Test.YtehimacmjlehhaaRows
import Derived.WalkKit
import Derived.ProofKit
import Derived.OpenShut
import Derived.LaidMore
import Derived.Stop.Joined
namespace Go.Proofs.Ytehimacmjlehhaa.Door
open Go.ChangeShapes Go.WideShapes Go.ChangeAt Go.RowKit

theorem own : ownKnob Try.prog.godebug = none := by kernel_rfl
/-- The start. -/
noncomputable def W0 (os : Os) : World := World.doorLaid Try.prog 100 os
theorem shaped (os : Os) (args : Array Value) : ((W0 os).forCall (fun _ _ => 0) ⟨#[], args, []⟩).Shaped Try.prog :=
  World.shaped_of_RefB (by kernel_rfl) (by kernel_rfl)
end Go.Proofs.Ytehimacmjlehhaa.Door
