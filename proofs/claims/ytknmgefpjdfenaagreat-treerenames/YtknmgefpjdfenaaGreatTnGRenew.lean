/- The contract of field.renew. -/
import Derived.Test.YtknmgefpjdfenaaGreatTnGBase
namespace Go.Proofs.YtknmgefpjdfenaaGreat
open Go.RowKit Go.Shelf
set_option linter.unusedVariables false

end Go.Proofs.YtknmgefpjdfenaaGreat
