/- Keys of maps that are small numbers. -/
import Derived.Test.YtokngjcfkkceiaaGreatDoorInJ5
import Derived.Maps.OwnSet
namespace Go.Proofs.YtokngjcfkkceiaaGreatDoor
set_option maxRecDepth 100000
set_option maxHeartbeats 8000000
open Go.RowKit Go.Shelf Go.Maps
set_option linter.unusedVariables false

theorem law3:Keyed Tryz.prog 3:=int_keyed Tryz.underlying3

theorem wf_small {k:Nat}(h:k≤4096):(Lit.int .i64 (k:Int)).wf=true:=WalkArith.wf_i64 ⟨by omega,by omega⟩

theorem key_small {k:Nat}(h:k≤4096):keyOf Tryz.prog 3 (.int .i64 (k:Int))=some (.int .i64 (k:Int)):=keyOf_int_mk Tryz.underlying3 (wf_small h)

end Go.Proofs.YtokngjcfkkceiaaGreatDoor
