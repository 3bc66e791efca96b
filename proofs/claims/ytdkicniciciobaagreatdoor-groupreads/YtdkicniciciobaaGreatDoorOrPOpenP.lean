/- A plan that came in, opened. -/
import Derived.Test.YtdkicniciciobaaGreatDoorOrJ14
import Derived.Test.YtdkicniciciobaaGreatDoorOrJ7
import Derived.ChangeArms
namespace Go.Proofs.YtdkicniciciobaaGreatDoor
open Go.ChangeShapes Go.WideShapes Go.ChangeAt Go.RowKit
set_option linter.unusedVariables false
set_option maxRecDepth 100000

end Go.Proofs.YtdkicniciciobaaGreatDoor
