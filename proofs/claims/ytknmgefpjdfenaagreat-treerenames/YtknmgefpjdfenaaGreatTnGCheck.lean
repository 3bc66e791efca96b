/- Contracts of field.checkPart and field.checkNumber. -/
import Derived.Test.YtknmgefpjdfenaaGreatTnGBase
namespace Go.Proofs.YtknmgefpjdfenaaGreat
open Go.RowKit Go.Shelf
set_option linter.unusedVariables false

/-- The error of a part of n bytes from at on. -/
def partErr (len : Nat) (at' n : Int) : Int := if n < 0 then 1 else if at' < 0 then 2 else if (len : Int) - at' < n then 2 else 0

/-- The error of a number of a width. -/
def numErr (len : Nat) (at' n : Int) : Int := if n = 1 then partErr len at' n else if n = 2 then partErr len at' n else if n = 4 then partErr len at' n else 1

theorem partErr_arg {len : Nat} {at' n : Int} (h : n < 0) : partErr len at' n = 1 := by unfold partErr; rw [if_pos h]

theorem partErr_neg {len : Nat} {at' n : Int} (h : 0 ≤ n) (h2 : at' < 0) : partErr len at' n = 2 := by unfold partErr; rw [if_neg (by omega), if_pos h2]

theorem partErr_far {len : Nat} {at' n : Int} (h : 0 ≤ n) (h2 : 0 ≤ at') (h3 : (len : Int) - at' < n) : partErr len at' n = 2 := by unfold partErr; rw [if_neg (by omega), if_neg (by omega), if_pos h3]

theorem partErr_ok {len : Nat} {at' n : Int} (h : 0 ≤ n) (h2 : 0 ≤ at') (h3 : n ≤ (len : Int) - at') : partErr len at' n = 0 := by unfold partErr; rw [if_neg (by omega), if_neg (by omega), if_neg (by omega)]

theorem partErr_cases (len : Nat) (at' n : Int) : (n < 0 ∧ partErr len at' n = 1) ∨ (0 ≤ n ∧ at' < 0 ∧ partErr len at' n = 2) ∨ (0 ≤ n ∧ 0 ≤ at' ∧ (len : Int) - at' < n ∧ partErr len at' n = 2) ∨ (0 ≤ n ∧ 0 ≤ at' ∧ n ≤ (len : Int) - at' ∧ partErr len at' n = 0) := by
  by_cases h1 : n < 0
  · exact .inl ⟨h1, partErr_arg h1⟩
  by_cases h2 : at' < 0
  · exact .inr (.inl ⟨by omega, h2, partErr_neg (by omega) h2⟩)
  by_cases h3 : (len : Int) - at' < n
  · exact .inr (.inr (.inl ⟨by omega, by omega, h3, partErr_far (by omega) (by omega) h3⟩))
  · exact .inr (.inr (.inr ⟨by omega, by omega, by omega, partErr_ok (by omega) (by omega) (by omega)⟩))

theorem part_ok {len : Nat} {at' n : Int} (h : partErr len at' n = 0) : ∃ at0 n0 : Nat, at' = at0 ∧ n = n0 ∧ at0 + n0 ≤ len := by
  rcases partErr_cases len at' n with g | g | g | g
  · omega
  · omega
  · omega
  · exact ⟨at'.toNat, n.toNat, by omega, by omega, by omega⟩

/-- The three ways of a number's error. -/
theorem numErr_cases (len : Nat) (at' n : Int) : numErr len at' n = 1 ∨ numErr len at' n = 2 ∨ (numErr len at' n = 0 ∧ ∃ at0 wd : Nat, at' = at0 ∧ n = wd ∧ (wd = 1 ∨ wd = 2 ∨ wd = 4) ∧ at0 + wd ≤ len) := by
  have hp : ∀ n : Int, n = 1 ∨ n = 2 ∨ n = 4 → partErr len at' n = 2 ∨ (partErr len at' n = 0 ∧ ∃ at0 wd : Nat, at' = at0 ∧ n = wd ∧ (wd = 1 ∨ wd = 2 ∨ wd = 4) ∧ at0 + wd ≤ len) := by
    intro n hn
    by_cases h2 : at' < 0
    · exact .inl (partErr_neg (by omega) h2)
    by_cases h3 : (len : Int) - at' < n
    · exact .inl (partErr_far (by omega) (by omega) h3)
    · exact .inr ⟨partErr_ok (by omega) (by omega) (by omega), at'.toNat, n.toNat, by omega, by omega, by omega, by omega⟩
  unfold numErr
  by_cases h1 : n = 1
  · rw [if_pos h1]; exact .inr (hp n (.inl h1))
  rw [if_neg h1]
  by_cases h2 : n = 2
  · rw [if_pos h2]; exact .inr (hp n (.inr (.inl h2)))
  rw [if_neg h2]
  by_cases h4 : n = 4
  · rw [if_pos h4]; exact .inr (hp n (.inr (.inr h4)))
  rw [if_neg h4]; exact .inl rfl

theorem numErr_ok {len at0 wd : Nat} (hw : wd = 1 ∨ wd = 2 ∨ wd = 4) (hat : at0 + wd ≤ len) : numErr len (at0 : Int) (wd : Int) = 0 := by
  unfold numErr
  rcases hw with rfl | rfl | rfl
  · rw [if_pos (by omega)]; exact partErr_ok (by omega) (by omega) (by omega)
  · rw [if_neg (by omega), if_pos (by omega)]; exact partErr_ok (by omega) (by omega) (by omega)
  · rw [if_neg (by omega), if_neg (by omega), if_pos (by omega)]; exact partErr_ok (by omega) (by omega) (by omega)

theorem numErr_info (len : Nat) (at' n : Int) : (n ≠ 1 ∧ n ≠ 2 ∧ n ≠ 4 ∧ numErr len at' n = 1) ∨ ((n = 1 ∨ n = 2 ∨ n = 4) ∧ numErr len at' n = partErr len at' n) := by
  unfold numErr
  by_cases h1 : n = 1
  · exact .inr ⟨.inl h1, by rw [if_pos h1]⟩
  by_cases h2 : n = 2
  · exact .inr ⟨.inr (.inl h2), by rw [if_neg h1, if_pos h2]⟩
  by_cases h4 : n = 4
  · exact .inr ⟨.inr (.inr h4), by rw [if_neg h1, if_neg h2, if_pos h4]⟩
  · exact .inl ⟨h1, h2, h4, by rw [if_neg h1, if_neg h2, if_neg h4]⟩

end Go.Proofs.YtknmgefpjdfenaaGreat
