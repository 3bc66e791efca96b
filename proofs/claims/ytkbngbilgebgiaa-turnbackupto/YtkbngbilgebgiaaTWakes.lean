/- The fixed call. -/
import Derived.Test.YtkbngbilgebgiaaTEq
namespace Go.Proofs.Ytkbngbilgebgiaa
open Go.RowKit Go.Shelf Ieee
set_option linter.unusedVariables false

theorem rd_ten : Rd 4621819117588971520 10 := ⟨false, 10, 49, by decide +kernel, rfl⟩
theorem rd_two : Rd 4611686018427387904 2 := ⟨false, 2, 51, by decide +kernel, rfl⟩
theorem rd_mtwo : Rd 13835058055282163712 (-2) := ⟨true, 2, 51, by decide +kernel, rfl⟩

def wk : Nat → Value := fun j => match j with
  | 0 => .complex .f64 4621819117588971520 0
  | 1 => .complex .f64 13835058055282163712 13835058055282163712
  | 2 => .complex .f64 13835058055282163712 0
  | _ => .complex .f64 13835058055282163712 4611686018427387904

theorem wk_c4 : C4 wk (sre (sm [1, 2, 3, 4] 4)) (sim (sm [1, 2, 3, 4] 4)) := by
  intro j hj
  have h : j = 0 ∨ j = 1 ∨ j = 2 ∨ j = 3 := by omega
  rcases h with rfl | rfl | rfl | rfl
  · exact ⟨_, _, rfl, rd_ten, rd_zero⟩
  · exact ⟨_, _, rfl, rd_mtwo, rd_mtwo⟩
  · exact ⟨_, _, rfl, rd_mtwo, rd_zero⟩
  · exact ⟨_, _, rfl, rd_mtwo, rd_two⟩

theorem wakes_any (w : World) : Calls Try.prog 7 #[] w fun e w' => e = .returned (.bool true) ∧ Below w.heap.size w w' := by
  go_enter Try.func7, Try.ntmps7
  go_wp2_with fail
  go_at_call 8
  refine (of_any (some ⟨w.heap.size, 0, none⟩) 4 4 [1, 2, 3, 4] _ ?_ ?_ (by omega)).mono ?_
  · refine ⟨rfl, fun _ => ⟨_, _, rfl, fun j hj => ?_⟩⟩
    have h : j = 0 ∨ j = 1 ∨ j = 2 ∨ j = 3 := by omega
    rcases h with rfl | rfl | rfl | rfl <;> simp [go_sem]
  · intro z hz
    simp at hz
    omega
  rintro e w' ⟨V, rfl, hV, hb⟩
  have q : ∀ w, (binOp .eql 26 (.agg #[V 0, V 1, V 2, V 3]) (.agg #[.complex .f64 4621819117588971520 0, .complex .f64 13835058055282163712 13835058055282163712, .complex .f64 13835058055282163712 0, .complex .f64 13835058055282163712 4611686018427387904])).run Try.prog w = .ok (.bool true) w := fun w => eql_yes hV wk_c4 w
  have HB : Hid (Below w.heap.size w w') := ((Below.refl _ _).alloc (Nat.le_refl _) _).trans (hb.mono (by simp))
  clear hb hV
  go_wp2
  go_ret
  exact ⟨rfl, unhide HB⟩
end Go.Proofs.Ytkbngbilgebgiaa
