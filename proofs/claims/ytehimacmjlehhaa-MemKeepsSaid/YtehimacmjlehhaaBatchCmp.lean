/-
  PACKAGE batch: a Change alone: is its count too great, may it be, which of two stands ahead.
-/
import Derived.Test.YtehimacmjlehhaaRows
import Derived.Test.YtehimacmjlehhaaBatchMem
import Derived.WalkKit
import Derived.WalkLawsBesides
import Derived.WalkSpells
import Derived.WalkSmall
import Derived.StillTactics
import Derived.StillTailTactics
import Derived.Lib.Hide
import Derived.Lib.AtoiErrMem
import Derived.Outline
namespace Go.Proofs.Ytehimacmjlehhaa.Batch
open Go.RowKit
set_option linter.unusedVariables false

end Go.Proofs.Ytehimacmjlehhaa.Batch
