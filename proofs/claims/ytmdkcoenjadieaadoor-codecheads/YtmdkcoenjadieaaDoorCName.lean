/- Contracts of codec.inNames and codec.Name. -/
import Derived.Test.YtmdkcoenjadieaaDoorCText
import Derived.Test.YtmdkcoenjadieaaDoorCBox
namespace Go.Proofs.YtmdkcoenjadieaaDoor
open Go.RowKit Go.Shelf
set_option linter.unusedVariables false
set_option maxRecDepth 100000

/-- May a name have this byte? -/
def inName (z : Int) : Bool := (decide (97 ≤ z) && decide (z ≤ 122)) || (decide (48 ≤ z) && decide (z ≤ 57)) || decide (z = 46) || decide (z = 95) || decide (z = 45)

set_option maxHeartbeats 4000000 in
theorem inNames_any (z : Int) (w : World) (h0 : 0 ≤ z) (h1 : z ≤ 255) :
    Calls Tryd.prog 81 #[.int .u8 z] w fun e w' => e = .returned (.bool (inName z)) ∧ w = w' := by
  have hlast : ∀ b, (inName z = b) → Hid (inName z = b) := fun b h => h
  obtain ⟨b, hb⟩ : ∃ b, inName z = b := ⟨_, rfl⟩
  have HB := hlast b hb
  rw [hb]
  clear hlast
  unfold inName at hb
  by_cases a1 : 97 ≤ z
  · by_cases a2 : z ≤ 122
    · obtain rfl : b = true := by
        rw [← hb]
        simp
        omega
      have d0 : decide (97 ≤ z) = true := by simp; omega
      clear hb
      go_enter Tryd.func81, Tryd.ntmps81
      go_wp2
      go_ret
      exact ⟨rfl, rfl⟩
    · obtain rfl : b = false := by
        rw [← hb]
        simp
        omega
      have d0 : decide (97 ≤ z) = true := by simp; omega
      have d1 : decide (z ≤ 122) = false := by simp; omega
      have d2 : decide (48 ≤ z) = true := by simp; omega
      have d3 : decide (z ≤ 57) = false := by simp; omega
      have d4 : (z == 46) = false := by simp; omega
      have d5 : (z == 95) = false := by simp; omega
      have d6 : (z == 45) = false := by simp; omega
      clear hb
      go_enter Tryd.func81, Tryd.ntmps81
      go_wp2
      go_ret
      exact ⟨rfl, rfl⟩
  · by_cases a2 : 48 ≤ z
    · by_cases a3 : z ≤ 57
      · obtain rfl : b = true := by
          rw [← hb]
          simp
          omega
        have d0 : decide (97 ≤ z) = false := by simp; omega
        have d1 : decide (48 ≤ z) = true := by simp; omega
        clear hb
        go_enter Tryd.func81, Tryd.ntmps81
        go_wp2
        go_ret
        exact ⟨rfl, rfl⟩
      · by_cases a4 : z = 95
        · obtain rfl : b = true := by
            rw [← hb]
            simp
            omega
          have d0 : decide (97 ≤ z) = false := by simp; omega
          have d1 : decide (48 ≤ z) = true := by simp; omega
          have d2 : decide (z ≤ 57) = false := by simp; omega
          have d3 : (z == 46) = false := by simp; omega
          have d4 : (z == 95) = true := by simp; omega
          clear hb
          go_enter Tryd.func81, Tryd.ntmps81
          go_wp2
          go_ret
          exact ⟨rfl, rfl⟩
        · obtain rfl : b = false := by
            rw [← hb]
            simp
            omega
          have d0 : decide (97 ≤ z) = false := by simp; omega
          have d1 : decide (48 ≤ z) = true := by simp; omega
          have d2 : decide (z ≤ 57) = false := by simp; omega
          have d3 : (z == 46) = false := by simp; omega
          have d4 : (z == 95) = false := by simp; omega
          have d5 : (z == 45) = false := by simp; omega
          clear hb
          go_enter Tryd.func81, Tryd.ntmps81
          go_wp2
          go_ret
          exact ⟨rfl, rfl⟩
    · by_cases a3 : z = 46
      · obtain rfl : b = true := by
          rw [← hb]
          simp
          omega
        have d0 : decide (97 ≤ z) = false := by simp; omega
        have d1 : decide (48 ≤ z) = false := by simp; omega
        have d2 : (z == 46) = true := by simp; omega
        clear hb
        go_enter Tryd.func81, Tryd.ntmps81
        go_wp2
        go_ret
        exact ⟨rfl, rfl⟩
      · by_cases a4 : z = 45
        · obtain rfl : b = true := by
            rw [← hb]
            simp
            omega
          have d0 : decide (97 ≤ z) = false := by simp; omega
          have d1 : decide (48 ≤ z) = false := by simp; omega
          have d2 : (z == 46) = false := by simp; omega
          have d3 : (z == 95) = false := by simp; omega
          have d4 : (z == 45) = true := by simp; omega
          clear hb
          go_enter Tryd.func81, Tryd.ntmps81
          go_wp2
          go_ret
          exact ⟨rfl, rfl⟩
        · obtain rfl : b = false := by
            rw [← hb]
            simp
            omega
          have d0 : decide (97 ≤ z) = false := by simp; omega
          have d1 : decide (48 ≤ z) = false := by simp; omega
          have d2 : (z == 46) = false := by simp; omega
          have d3 : (z == 95) = false := by simp; omega
          have d4 : (z == 45) = false := by simp; omega
          clear hb
          go_enter Tryd.func81, Tryd.ntmps81
          go_wp2
          go_ret
          exact ⟨rfl, rfl⟩

end Go.Proofs.YtmdkcoenjadieaaDoor
