
/-
  PACKAGE marchlandref03: Minus, Fix, Merge.
-/
import Derived.Test.YtkcmeklgnbejiaaBatchRefRest
namespace Go.Proofs.Ytkcmeklgnbejiaa.Batch
open Go.RowKit
set_option linter.unusedVariables false

end Go.Proofs.Ytkcmeklgnbejiaa.Batch
