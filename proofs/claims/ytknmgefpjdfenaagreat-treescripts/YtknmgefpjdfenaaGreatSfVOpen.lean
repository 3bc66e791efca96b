/- Texts and lists of texts that came in, opened: within the reach of the form. -/
import Derived.Test.YtknmgefpjdfenaaGreatSfJ9
import Derived.Test.YtknmgefpjdfenaaGreatSfJ7
import Derived.SliceStrings
namespace Go.Proofs.YtknmgefpjdfenaaGreat
set_option maxRecDepth 100000
set_option maxHeartbeats 8000000
open Go.ChangeShapes Go.WideShapes Go.ChangeAt Go.RowKit
set_option linter.unusedVariables false

theorem cells9:Tryz.prog.cellsOf 9=1:=by kernel_rfl

end Go.Proofs.YtknmgefpjdfenaaGreat
