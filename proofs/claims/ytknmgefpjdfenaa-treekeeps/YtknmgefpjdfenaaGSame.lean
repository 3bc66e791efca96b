/- The contract of skerryref01.SameBytes. -/
import Derived.Test.YtknmgefpjdfenaaGBase
namespace Go.Proofs.Ytknmgefpjdfenaa
open Go.RowKit Go.Shelf
set_option linter.unusedVariables false

set_option maxRecDepth 100000 in
set_option maxHeartbeats 400000 in
theorem same_true (a1 a2 : Option Addr) (l c1 c2 : Nat) (zs : List Int) (w : World) (h1 : Has w a1 l zs) (h2 : Has w a2 l zs) :
    Calls Try.prog 13 #[.slice a1 l c1, .slice a2 l c2] w fun e w' => e = .returned (.bool true) ∧ w = w' := by
  have e1 := h1.conv c1
  have e2 := h2.conv c2
  clear h1 h2
  go_enter Try.func13, Try.ntmps13
  go_wp2
  go_ret
  exact ⟨by simp, rfl⟩

end Go.Proofs.Ytknmgefpjdfenaa
