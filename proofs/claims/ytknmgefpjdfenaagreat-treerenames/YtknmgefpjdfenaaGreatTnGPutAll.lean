/- The contract of field.Put. -/
import Derived.Test.YtknmgefpjdfenaaGreatTnGPut
import Derived.Test.YtknmgefpjdfenaaGreatTnGGet
namespace Go.Proofs.YtknmgefpjdfenaaGreat
open Go.RowKit Go.Shelf
set_option linter.unusedVariables false
attribute [local go_sem] Oper.semAt_some

/-- The error of Put. -/
def putErr (len : Nat) (at' n v : Int) : Int := if numErr len at' n = 0 then (if v < 0 then 3 else if v < 256 ^ n.toNat then 0 else 3) else numErr len at' n

theorem shift_width (v : Int) (wd : Nat) (hw : wd ≤ 4) : v / 2 ^ (8 * wd) = v / 256 ^ wd := by
  rw [Int.pow_mul]; rfl

theorem putErr_cases (len : Nat) (at' n v : Int) : putErr len at' n v = 0 ∨ putErr len at' n v = 1 ∨ putErr len at' n v = 2 ∨ putErr len at' n v = 3 := by
  unfold putErr
  rcases numErr_cases len at' n with h | h | ⟨h, _⟩
  · rw [h, if_neg (by omega)]; omega
  · rw [h, if_neg (by omega)]; omega
  · rw [if_pos h]
    split
    · omega
    · split <;> omega

theorem putErr_zero {len : Nat} {at' n v : Int} (h : putErr len at' n v = 0) : ∃ at0 wd : Nat, at' = at0 ∧ n = wd ∧ (wd = 1 ∨ wd = 2 ∨ wd = 4) ∧ at0 + wd ≤ len ∧ 0 ≤ v ∧ v < 256 ^ wd := by
  unfold putErr at h
  rcases numErr_cases len at' n with h1 | h1 | ⟨h1, at0, wd, rfl, rfl, hw, hat⟩
  · rw [h1, if_neg (by omega)] at h; omega
  · rw [h1, if_neg (by omega)] at h; omega
  · rw [if_pos h1, Int.toNat_natCast] at h
    by_cases h2 : v < 0
    · rw [if_pos h2] at h; omega
    · rw [if_neg h2] at h
      by_cases h3 : v < 256 ^ wd
      · exact ⟨at0, wd, rfl, rfl, hw, hat, by omega, h3⟩
      · rw [if_neg h3] at h; omega

theorem getVal_put (zs : List Int) (at0 wd : Nat) (v : Int) (hw : wd = 1 ∨ wd = 2 ∨ wd = 4) (hat : at0 + wd ≤ zs.length) (h0 : 0 ≤ v) (h1 : v < 256 ^ wd) : getVal (put zs at0 (digits wd v)) at0 wd = v := by
  have hl := length_digits wd v
  have hlp : (put zs at0 (digits wd v)).length = zs.length := length_put _ _ _ (by omega)
  unfold getVal
  rw [hlp, numErr_ok hw hat, if_pos rfl, Int.toNat_natCast, Int.toNat_natCast]
  have := part_put zs at0 (digits wd v) (by omega)
  rw [hl] at this
  rw [this, num_digits wd v h0 h1]

end Go.Proofs.YtknmgefpjdfenaaGreat
