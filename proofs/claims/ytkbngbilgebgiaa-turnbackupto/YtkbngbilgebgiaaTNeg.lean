/- -x of a whole number, whatever the word. -/
import Derived.Test.YtkbngbilgebgiaaGFloat4
namespace Go.Proofs.Ytkbngbilgebgiaa
open Ieee
set_option linter.unusedVariables false

theorem read_minus (x : Nat) : double.read (x ^^^ 9223372036854775808) = (double.read x).opposite := by
  have hp : (9223372036854775808 : Nat) = 2 ^ 63 := by decide
  have h1 := Nat.xor_mod_two_pow (a := x) (b := 9223372036854775808) (n := 63)
  have hd : (x ^^^ 9223372036854775808) / 2 ^ 63 = x / 2 ^ 63 ^^^ 9223372036854775808 / 2 ^ 63 := by
    rw [← Nat.shiftRight_eq_div_pow, ← Nat.shiftRight_eq_div_pow, ← Nat.shiftRight_eq_div_pow, Nat.shiftRight_xor_distrib]
  rw [← hp] at h1 hd
  have e1 : 9223372036854775808 % 9223372036854775808 = 0 := by decide
  have e2 : 9223372036854775808 / 9223372036854775808 = 1 := by decide
  rw [e1, Nat.xor_zero] at h1
  rw [e2] at hd
  have h2 : ((x ^^^ 9223372036854775808) / 9223372036854775808 % 2 == 1) = !(x / 9223372036854775808 % 2 == 1) := by
    rw [hd]
    generalize x / 9223372036854775808 = y
    have h3 := Nat.xor_mod_two_pow (a := y) (b := 1) (n := 1)
    rw [Nat.pow_one] at h3
    rw [h3]
    have hy : y % 2 = 0 ∨ y % 2 = 1 := by omega
    rcases hy with h | h <;> rw [h] <;> rfl
  unfold Format.read
  rw [dbl_sign, dbl_binade, dbl_inf]
  simp only [h1, h2]
  split
  · rfl
  · split
    · rfl
    · split <;> rfl

theorem rd_minus' {x : Nat} {a : Int} (hx : Rd x a) : Rd (x ^^^ 9223372036854775808) (-a) := by
  obtain ⟨s, A, k, h1, ha⟩ := hx
  exact ⟨!s, A, k, by rw [read_minus x, h1]; rfl, by rw [signed_not, ha]⟩
end Go.Proofs.Ytkbngbilgebgiaa
