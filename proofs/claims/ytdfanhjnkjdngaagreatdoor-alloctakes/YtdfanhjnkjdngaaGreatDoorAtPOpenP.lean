/- A plan that came in, opened. -/
import Derived.Test.YtdfanhjnkjdngaaGreatDoorAtGOpen
import Derived.Test.YtdfanhjnkjdngaaGreatDoorAtJ12
import Derived.ChangeArms
namespace Go.Proofs.YtdfanhjnkjdngaaGreatDoor
open Go.ChangeShapes Go.WideShapes Go.ChangeAt Go.RowKit
set_option linter.unusedVariables false
set_option maxRecDepth 100000

end Go.Proofs.YtdfanhjnkjdngaaGreatDoor
