/- Complex numbers whose parts are whole: sums, differences, products, equality, -z; constants. -/
import Derived.Test.YtkdiifoipfkmcaaGFloat3
namespace Go.Proofs.Ytkdiifoipfkmcaa
open Ieee
set_option linter.unusedVariables false

/-- The two words are the parts a and b. -/
def Rc (x y : Nat) (a b : Int) : Prop := Rd x a ∧ Rd y b

theorem rc_add {x y u v : Nat} {a b c d : Int} (h1 : Rc x y a b) (h2 : Rc u v c d) (hr : (a + c).natAbs < 9007199254740992) (hi : (b + d).natAbs < 9007199254740992) :
    ∃ p q, cSumBits .add .f64 x y u v = some (p, q) ∧ Rc p q (a + c) (b + d) := by
  obtain ⟨p, e1, r1⟩ := rd_add h1.1 h2.1 hr
  obtain ⟨q, e2, r2⟩ := rd_add h1.2 h2.2 hi
  exact ⟨p, q, by simp [cSumBits, e1, e2], r1, r2⟩

theorem rc_sub {x y u v : Nat} {a b c d : Int} (h1 : Rc x y a b) (h2 : Rc u v c d) (hr : (a - c).natAbs < 9007199254740992) (hi : (b - d).natAbs < 9007199254740992) :
    ∃ p q, cSumBits .sub .f64 x y u v = some (p, q) ∧ Rc p q (a - c) (b - d) := by
  obtain ⟨p, e1, r1⟩ := rd_sub h1.1 h2.1 hr
  obtain ⟨q, e2, r2⟩ := rd_sub h1.2 h2.2 hi
  exact ⟨p, q, by simp [cSumBits, e1, e2], r1, r2⟩

theorem rc_mul {x y u v : Nat} {a b c d : Int} (h1 : Rc x y a b) (h2 : Rc u v c d) (k1 : (a * c).natAbs < 9007199254740992) (k2 : (b * d).natAbs < 9007199254740992) (k3 : (a * d).natAbs < 9007199254740992) (k4 : (b * c).natAbs < 9007199254740992)
    (hr : (a * c - b * d).natAbs < 9007199254740992) (hi : (a * d + b * c).natAbs < 9007199254740992) :
    ∃ p q, cMulBits x y u v = some (p, q) ∧ Rc p q (a * c - b * d) (a * d + b * c) := by
  obtain ⟨ac, e1, r1⟩ := rd_mul h1.1 h2.1 k1
  obtain ⟨bd, e2, r2⟩ := rd_mul h1.2 h2.2 k2
  obtain ⟨re, e3, r3⟩ := rd_sub r1 r2 hr
  obtain ⟨ad, e4, r4⟩ := rd_mul h1.1 h2.2 k3
  obtain ⟨bc, e5, r5⟩ := rd_mul h1.2 h2.1 k4
  obtain ⟨im, e6, r6⟩ := rd_add r4 r5 hi
  exact ⟨re, im, by simp [cMulBits, e1, e2, e3, e4, e5, e6], r3, r6⟩

theorem order_eq {x y : Nat} {a b : Int} (h1 : Rd x a) (h2 : Rd y b) : (double.order x y == some .eq) = decide (a = b) := by
  rw [rd_order h1 h2]
  simp only [compare, compareOfLessAndEq]
  by_cases hl : a < b
  · have : ¬ a = b := by omega
    simp [hl, this]
  · by_cases he : a = b
    · simp [he]
    · simp [hl, he]

/-- == of two such numbers, in the walk's own words. -/
theorem rc_eq {x y u v : Nat} {a b c d : Int} (h1 : Rc x y a b) (h2 : Rc u v c d) : ((FloatKind.f64.format.order x u == some .eq) && (FloatKind.f64.format.order y v == some .eq)) = (decide (a = c) && decide (b = d)) := by
  show ((double.order x u == some .eq) && (double.order y v == some .eq)) = _
  rw [order_eq h1.1 h2.1, order_eq h1.2 h2.2]

theorem xor_sign (x : Nat) (h : x < 18446744073709551616) : x ^^^ 9223372036854775808 = if x < 9223372036854775808 then x + 9223372036854775808 else x - 9223372036854775808 := by
  have hp : (9223372036854775808 : Nat) = 2 ^ 63 := by decide
  have hm := Nat.xor_mod_two_pow (a := x) (b := 9223372036854775808) (n := 63)
  have hd : (x ^^^ 9223372036854775808) / 2 ^ 63 = x / 2 ^ 63 ^^^ 9223372036854775808 / 2 ^ 63 := by
    rw [← Nat.shiftRight_eq_div_pow, ← Nat.shiftRight_eq_div_pow, ← Nat.shiftRight_eq_div_pow, Nat.shiftRight_xor_distrib]
  rw [← hp] at hm hd
  have e1 : 9223372036854775808 % 9223372036854775808 = 0 := by decide
  have e2 : 9223372036854775808 / 9223372036854775808 = 1 := by decide
  rw [e1, Nat.xor_zero] at hm
  rw [e2] at hd
  by_cases hx : x < 9223372036854775808
  · have h0 : x / 9223372036854775808 = 0 := by omega
    rw [h0, Nat.zero_xor] at hd
    rw [if_pos hx]
    omega
  · have h0 : x / 9223372036854775808 = 1 := by omega
    rw [h0, Nat.xor_self] at hd
    rw [if_neg hx]
    omega

/-- -x. -/
theorem read_neg (x : Nat) (h : x < 18446744073709551616) : double.read (x ^^^ 9223372036854775808) = (double.read x).opposite := by
  have hx := xor_sign x h
  have h1 : (x ^^^ 9223372036854775808) % 9223372036854775808 = x % 9223372036854775808 := by
    rw [hx]; split <;> omega
  have h2 : ((x ^^^ 9223372036854775808) / 9223372036854775808 % 2 == 1) = !(x / 9223372036854775808 % 2 == 1) := by
    rw [hx]
    by_cases hl : x < 9223372036854775808
    · rw [if_pos hl, show (x + 9223372036854775808) / 9223372036854775808 = 1 by omega, show x / 9223372036854775808 = 0 by omega]; rfl
    · rw [if_neg hl, show (x - 9223372036854775808) / 9223372036854775808 = 0 by omega, show x / 9223372036854775808 = 1 by omega]; rfl
  unfold Format.read
  rw [dbl_sign, dbl_binade, dbl_inf]
  simp only [h1, h2]
  split
  · rfl
  · split
    · rfl
    · split <;> rfl

theorem rd_neg {x : Nat} {a : Int} (h : x < 18446744073709551616) (hx : Rd x a) : Rd (x ^^^ 9223372036854775808) (-a) := by
  obtain ⟨s, A, k, h1, ha⟩ := hx
  exact ⟨!s, A, k, by rw [read_neg x h, h1]; rfl, by rw [signed_not, ha]⟩

theorem negFloat_eq (x : Nat) : Op.negFloat .f64 x = x ^^^ 9223372036854775808 := rfl

theorem rd_of_zero {x : Nat} {s : Bool} (h : double.read x = .number s 0 (-1074)) : Rd x 0 := by
  obtain ⟨z, hz⟩ : ∃ z : Nat, z = 1074 := ⟨_, rfl⟩
  refine ⟨s, 0, z, ?_, by cases s <;> rfl⟩
  rw [Nat.zero_mul, hz]
  exact h

theorem rd_zero : Rd 0 0 := rd_of_zero (s := false) (by decide +kernel)

theorem rd_one : Rd 4607182418800017408 1 := ⟨false, 1, 52, by decide +kernel, rfl⟩

theorem rd_minus : Rd 13830554455654793216 (-1) := ⟨true, 1, 52, by decide +kernel, rfl⟩

theorem rd_negzero : Rd 9223372036854775808 0 := rd_of_zero (s := true) (by decide +kernel)

end Go.Proofs.Ytkdiifoipfkmcaa
