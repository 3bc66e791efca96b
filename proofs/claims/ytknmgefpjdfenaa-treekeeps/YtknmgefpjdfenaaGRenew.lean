/- The contract of field.renew. -/
import Derived.Test.YtknmgefpjdfenaaGBase
namespace Go.Proofs.Ytknmgefpjdfenaa
open Go.RowKit Go.Shelf
set_option linter.unusedVariables false

end Go.Proofs.Ytknmgefpjdfenaa
