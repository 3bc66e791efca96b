/- The contracts of the small functions. -/
import Derived.Test.YtkdiifoipfkmcaaPBase
namespace Go.Proofs.Ytkdiifoipfkmcaa
open Go.RowKit Go.Shelf
set_option linter.unusedVariables false

theorem fewest_any (n e : Int) (w : World) (hn : 0 ≤ n ∧ n ≤ 1099511627776) (he : 1 ≤ e ∧ e ≤ 1099511627776) :
    Calls Try.prog 30 #[.int .i64 n, .int .i64 e] w fun r w' => r = .returned (.int .i64 ((n + e - 1) / e)) ∧ w = w' := by
  go_enter Try.func30, Try.ntmps30
  go_wp2
  go_ret
  refine ⟨?_, rfl⟩
  go_num

theorem outside_any (n l m : Int) (w : World) :
    Calls Try.prog 40 #[.int .i64 n, .int .i64 l, .int .i64 m] w fun r w' => r = .returned (.bool (decide (n < l ∨ m < n))) ∧ w = w' := by
  by_cases h1 : n < l
  · go_enter Try.func40, Try.ntmps40
    go_wp2
    go_ret
    simp [h1]
  · by_cases h2 : m < n
    · go_enter Try.func40, Try.ntmps40
      go_wp2
      go_ret
      simp
    · go_enter Try.func40, Try.ntmps40
      go_wp2
      go_ret
      simp [h1, h2]

theorem outside_yes (n l m : Int) (w : World) (h : n < l ∨ m < n) :
    Calls Try.prog 40 #[.int .i64 n, .int .i64 l, .int .i64 m] w fun r w' => r = .returned (.bool true) ∧ w = w' := by
  have := outside_any n l m w
  rwa [decide_eq_true h] at this

theorem outside_no (n l m : Int) (w : World) (h : ¬ (n < l ∨ m < n)) :
    Calls Try.prog 40 #[.int .i64 n, .int .i64 l, .int .i64 m] w fun r w' => r = .returned (.bool false) ∧ w = w' := by
  have := outside_any n l m w
  rwa [decide_eq_false h] at this

/-- Is it a block's size? -/
def isSize (b : Int) : Prop := b = 64 ∨ b = 128 ∨ b = 256 ∨ b = 512 ∨ b = 1024 ∨ b = 2048 ∨ b = 4096

theorem isBlockSize_yes (b : Int) (w : World) (h : isSize b) :
    Calls Try.prog 39 #[.int .i64 b] w fun r w' => r = .returned (.bool true) ∧ w = w' := by
  rcases h with rfl | rfl | rfl | rfl | rfl | rfl | rfl
  all_goals
    go_enter Try.func39, Try.ntmps39
    go_wp2
    go_ret
    exact ⟨rfl, rfl⟩

theorem isBlockSize_no (b : Int) (w : World) (h : ¬ isSize b) :
    Calls Try.prog 39 #[.int .i64 b] w fun r w' => r = .returned (.bool false) ∧ w = w' := by
  unfold isSize at h
  have h1 : b ≠ 64 := by omega
  have h2 : b ≠ 128 := by omega
  have h3 : b ≠ 256 := by omega
  have h4 : b ≠ 512 := by omega
  have h5 : b ≠ 1024 := by omega
  have h6 : b ≠ 2048 := by omega
  have h7 : b ≠ 4096 := by omega
  clear h
  go_enter Try.func39, Try.ntmps39
  go_wp2
  go_ret
  exact ⟨rfl, rfl⟩

end Go.Proofs.Ytkdiifoipfkmcaa
