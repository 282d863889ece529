/-
  PACKAGE marchlandref03: Minus, Fix, Merge.
-/
import Derived.Test.YtehimacmjlehhaaBatchRefRest
namespace Go.Proofs.Ytehimacmjlehhaa.Batch
open Go.RowKit
set_option linter.unusedVariables false

end Go.Proofs.Ytehimacmjlehhaa.Batch
