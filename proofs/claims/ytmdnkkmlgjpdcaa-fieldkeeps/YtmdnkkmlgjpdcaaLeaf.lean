/- Contracts of the leaf functions of package field: checkPart, checkNumber, slices.Backward, renew. -/
import Derived.Test.YtmdnkkmlgjpdcaaRows
import Derived.WalkKit
import Derived.WalkSpells
import Derived.WalkLawsBesides
import Derived.RangeFuncBox
import Derived.RangeFuncNested
import Derived.RangeFuncBound
import Derived.RangeFuncCalls
import Derived.RangeFuncLeaves
import Derived.Shelf.Abstract
import Derived.Shelf.RegionOpen
import Derived.OwnWalkIn
import Derived.TacticsInMore
import Derived.LoopNIn
import Derived.LoopIn
namespace Go.Proofs.Ytmdnkkmlgjpdcaa
open Go.RowKit Go.Shelf
set_option linter.unusedVariables false

/-- The error of a part of n bytes from at on. -/
def partErr (len : Nat) (at' n : Int) : Int := if n < 0 then 1 else if at' < 0 then 2 else if (len : Int) - at' < n then 2 else 0

/-- The error of a number of a width. -/
def numErr (len : Nat) (at' n : Int) : Int := if n = 1 then partErr len at' n else if n = 2 then partErr len at' n else if n = 4 then partErr len at' n else 1

theorem ret_int {k : IntKind} {a b : Int} (h : a = b) : Ending.returned (.int k a) = .returned (.int k b) := by rw [h]

theorem partErr_arg {len : Nat} {at' n : Int} (h : n < 0) : partErr len at' n = 1 := by unfold partErr; rw [if_pos h]
theorem partErr_neg {len : Nat} {at' n : Int} (h : 0 ≤ n) (h2 : at' < 0) : partErr len at' n = 2 := by unfold partErr; rw [if_neg (by omega), if_pos h2]
theorem partErr_far {len : Nat} {at' n : Int} (h : 0 ≤ n) (h2 : 0 ≤ at') (h3 : (len : Int) - at' < n) : partErr len at' n = 2 := by unfold partErr; rw [if_neg (by omega), if_neg (by omega), if_pos h3]
theorem partErr_ok {len : Nat} {at' n : Int} (h : 0 ≤ n) (h2 : 0 ≤ at') (h3 : n ≤ (len : Int) - at') : partErr len at' n = 0 := by unfold partErr; rw [if_neg (by omega), if_neg (by omega), if_neg (by omega)]

set_option maxHeartbeats 400000 in
theorem checkPart_any (a : Option Addr) (len cap : Nat) (at' n : Int) (w : World) (hl : len ≤ maxLen) (ha : at' ≤ 9223372036854775807) (hn : -9223372036854775808 ≤ n) :
    Calls Try.prog 27 #[.slice a len cap, .int .i64 at', .int .i64 n] w fun e w' => e = .returned (.int .i64 (partErr len at' n)) ∧ w = w' := by
  unfold maxLen at hl
  by_cases h1 : n < 0
  · rw [partErr_arg h1]
    go_enter Try.func27, Try.ntmps27
    go_wp2
    go_ret
    exact ⟨rfl, rfl⟩
  by_cases h2 : at' < 0
  · rw [partErr_neg (by omega) h2]
    go_enter Try.func27, Try.ntmps27
    go_wp2
    go_ret
    exact ⟨rfl, rfl⟩
  by_cases h3 : (len : Int) - at' < n
  · rw [partErr_far (by omega) (by omega) h3]
    go_enter Try.func27, Try.ntmps27
    go_wp2
    go_ret
    exact ⟨rfl, rfl⟩
  · rw [partErr_ok (by omega) (by omega) (by omega)]
    go_enter Try.func27, Try.ntmps27
    go_wp2
    go_ret
    exact ⟨rfl, rfl⟩

set_option maxHeartbeats 400000 in
theorem checkNumber_any (a : Option Addr) (len cap : Nat) (at' n : Int) (w : World) (hl : len ≤ maxLen) (ha : at' ≤ 9223372036854775807) :
    Calls Try.prog 23 #[.slice a len cap, .int .i64 at', .int .i64 n] w fun e w' => e = .returned (.int .i64 (numErr len at' n)) ∧ w = w' := by
  unfold numErr
  by_cases h1 : n = 1
  · subst h1
    rw [if_pos rfl]
    go_enter Try.func23, Try.ntmps23
    go_wp2_with (go_at_call 27; refine (checkPart_any _ _ _ _ _ _ hl ha (by omega)).mono ?_; rintro e w' ⟨rfl, rfl⟩)
    go_ret
    exact ⟨rfl, rfl⟩
  by_cases h2 : n = 2
  · subst h2
    rw [if_neg (by omega), if_pos rfl]
    go_enter Try.func23, Try.ntmps23
    go_wp2_with (go_at_call 27; refine (checkPart_any _ _ _ _ _ _ hl ha (by omega)).mono ?_; rintro e w' ⟨rfl, rfl⟩)
    go_ret
    exact ⟨rfl, rfl⟩
  by_cases h4 : n = 4
  · subst h4
    rw [if_neg (by omega), if_neg (by omega), if_pos rfl]
    go_enter Try.func23, Try.ntmps23
    go_wp2_with (go_at_call 27; refine (checkPart_any _ _ _ _ _ _ hl ha (by omega)).mono ?_; rintro e w' ⟨rfl, rfl⟩)
    go_ret
    exact ⟨rfl, rfl⟩
  · rw [if_neg h1, if_neg h2, if_neg h4]
    have e1 : (n == 1) = false := by simpa using h1
    have e2 : (n == 2) = false := by simpa using h2
    have e4 : (n == 4) = false := by simpa using h4
    go_enter Try.func23, Try.ntmps23
    go_wp2_with fail
    go_ret
    exact ⟨rfl, rfl⟩

end Go.Proofs.Ytmdnkkmlgjpdcaa
