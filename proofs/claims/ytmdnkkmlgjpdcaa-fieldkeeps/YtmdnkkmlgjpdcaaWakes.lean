/- The fixed call that each statement begins with. -/
import Derived.Test.YtmdnkkmlgjpdcaaPut
namespace Go.Proofs.Ytmdnkkmlgjpdcaa
open Go.RowKit Go.Shelf
set_option linter.unusedVariables false

theorem get_wakes (w : World) : Calls Try.prog 9 #[.slice (some ⟨w.heap.size, 0, none⟩) 4 4, .int .i64 1, .int .i64 2] (w.alloc (.cells #[.int .u8 1, .int .u8 2, .int .u8 3, .int .u8 4] 5)) fun e w' =>
    e = .returned (.tuple #[.int .i64 770, .int .i64 0]) ∧ Below w.heap.size w w' := by
  have hb : Block (w.alloc (.cells #[.int .u8 1, .int .u8 2, .int .u8 3, .int .u8 4] 5)) w.heap.size [1, 2, 3, 4] := World.alloc_heap_new w _
  have hr : Row (w.alloc (.cells #[.int .u8 1, .int .u8 2, .int .u8 3, .int .u8 4] 5)).heap.size (w.alloc (.cells #[.int .u8 1, .int .u8 2, .int .u8 3, .int .u8 4] 5)) (some ⟨w.heap.size, 0, none⟩) 4 4 [1, 2, 3, 4] :=
    ⟨rfl, Nat.le_refl _, by omega, by intro z hz; simp at hz; omega, fun _ => ⟨_, 0, rfl, hb.lt, fun j hj => by rw [Nat.zero_add]; exact hb.cell (by simpa using hj)⟩⟩
  refine (get_any _ 4 4 [1, 2, 3, 4] 1 2 _ hr (by omega)).mono ?_
  rintro e w' ⟨rfl, hB⟩
  exact ⟨ret_two (by decide) (by decide), ((Below.refl _ w).alloc (Nat.le_refl _) _).trans (hB.mono (by simp))⟩

set_option maxHeartbeats 1000000 in
theorem wakes_any (w : World) : Calls Try.prog 8 #[] w fun e w' => e = .returned (.bool true) ∧ Below w.heap.size w w' := by
  go_enter Try.func8, Try.ntmps8
  go_wp2_with (go_at_call 9; refine (get_wakes w).mono ?_; rintro e w' ⟨rfl, hb⟩)
  go_ret
  exact ⟨rfl, hb⟩

end Go.Proofs.Ytmdnkkmlgjpdcaa
