/- The fixed call. -/
import Derived.Test.YtkdiifoipfkmcaaNLeaf
namespace Go.Proofs.Ytkdiifoipfkmcaa
open Go.RowKit Go.Shelf Ieee
set_option linter.unusedVariables false

theorem rd_three : Rd 4613937818241073152 3 := ⟨false, 3, 51, by decide +kernel, rfl⟩

theorem wakes_any (w : World) : Calls Try.prog 6 #[] w fun e w' => e = .returned (.bool true) ∧ w = w' := by
  go_enter Try.func6, Try.ntmps6
  go_wp2_with fail
  go_at_call 17
  refine (amount_ok 3 1 _ ⟨by omega, by omega⟩ ⟨by omega, by omega⟩).mono ?_
  rintro r w1 ⟨⟨x, y, rfl, hx, hy⟩, rfl⟩
  have o1 := order_at hx rd_three (cmp_eq _)
  have o2 := order_at hy rd_one (cmp_eq _)
  clear hx hy
  go_wp2
  go_ret
  exact ⟨rfl, rfl⟩

end Go.Proofs.Ytkdiifoipfkmcaa
