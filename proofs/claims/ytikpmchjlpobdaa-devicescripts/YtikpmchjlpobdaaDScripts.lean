/- DeviceScripts' walk, with Write. -/
import Derived.Test.YtikpmchjlpobdaaDScB
import Derived.Test.YtikpmchjlpobdaaDScW
namespace Go.Proofs.Ytikpmchjlpobdaa
open Go.RowKit Go.Shelf
set_option linter.unusedVariables false

theorem scripts_walk (a0 a1 : Int) (a : Option Addr) (len cap : Nat) (w : World) {p0 p1 : Prop} (w0 : p0) (w1 : p1) (hO : OpsAt w a len) :
    Calls Try.prog 3 #[.int .i64 a0, .int .i64 a1, .slice a len cap] w fun e w' => e = .returned (.bool true) ∧ Below w.heap.size w w' :=
  scripts_walk0 a0 a1 a len cap w hO (fun gd gw u S T D h go f hg hS b a len cap zs hr => s_write h hg hS b a len cap zs hr)

end Go.Proofs.Ytikpmchjlpobdaa
