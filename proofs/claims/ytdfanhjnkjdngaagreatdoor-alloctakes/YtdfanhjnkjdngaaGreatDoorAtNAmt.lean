/- Amounts of blocks and inodes. -/
import Derived.Test.YtdfanhjnkjdngaaGreatDoorAtJ2
import Derived.Test.YtdfanhjnkjdngaaGreatDoorAtJ3
namespace Go.Proofs.YtdfanhjnkjdngaaGreatDoor
open Go.RowKit Go.Shelf Ieee
set_option linter.unusedVariables false
set_option maxRecDepth 100000

theorem rd_of_int (n : Int) (h : -1125899906842624 ≤ n ∧ n ≤ 1125899906842624) : Rd (floatOfInt .f64 n) n := rd_int n (by omega)

def AnsA (r : Ending) (E B I : Int) : Prop := ∃ x y, r = .returned (.tuple #[.complex .f64 x y, .int .i64 E]) ∧ Rd x B ∧ Rd y I

def inA (b : Int) : Prop := 0 ≤ b ∧ b ≤ 1073741824

theorem noutside_any (b : Int) (w : World) :
    Calls Tryz.prog 228 #[.int .i64 b] w fun e w' => e = .returned (.bool (decide (b < 0 ∨ 1073741824 < b))) ∧ w = w' := by
  by_cases h1 : b < 0
  · go_enter Tryz.func228, Tryz.ntmps228
    go_wp2
    go_ret
    simp [h1]
  · by_cases h2 : 1073741824 < b
    · go_enter Tryz.func228, Tryz.ntmps228
      go_wp2
      go_ret
      simp
    · go_enter Tryz.func228, Tryz.ntmps228
      go_wp2
      go_ret
      simp; omega

theorem amount_ok (b i : Int) (w : World) (hb : inA b) (hi : inA i) :
    Calls Tryz.prog 162 #[.int .i64 b, .int .i64 i] w fun e w' => AnsA e 0 b i ∧ w = w' := by
  obtain ⟨b0, b1⟩ := hb
  obtain ⟨i0, i1⟩ := hi
  have e1 : decide (b < 0 ∨ 1073741824 < b) = false := decide_eq_false (by omega)
  have e2 : decide (i < 0 ∨ 1073741824 < i) = false := decide_eq_false (by omega)
  have H1 := hide (noutside_any b)
  have H2 := hide (noutside_any i)
  rw [e1] at H1
  rw [e2] at H2
  have HR : Hid (Rd (floatOfInt .f64 b) b ∧ Rd (floatOfInt .f64 i) i) := ⟨rd_of_int b (by omega), rd_of_int i (by omega)⟩
  clear e1 e2 b0 b1 i0 i1
  go_enter Tryz.func162, Tryz.ntmps162
  go_wp2_with fail
  go_at_call 228
  refine (unhide H1 _).mono ?_
  rintro e w' ⟨rfl, rfl⟩
  go_wp2_with fail
  go_at_call 228
  refine (unhide H2 _).mono ?_
  rintro e w' ⟨rfl, rfl⟩
  go_wp2
  go_ret2
  exact ⟨⟨_, _, rfl, (unhide HR).1, (unhide HR).2⟩, rfl⟩

end Go.Proofs.YtdfanhjnkjdngaaGreatDoor
