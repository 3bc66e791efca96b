/- Whole numbers as float64: sums, differences, products, comparisons and conversions are exact. -/
import Derived.Test.YtkdiifoipfkmcaaGFloat
namespace Go.Proofs.Ytkdiifoipfkmcaa
open Ieee
set_option linter.unusedVariables false

theorem signed_up (s : Bool) (m u : Nat) : signed s m u = signed s m 0 * 2 ^ u := by
  cases s <;> simp [signed, Nat.shiftLeft_eq, Int.natCast_mul, Int.natCast_pow, Int.neg_mul]

theorem signed_mul (s : Bool) (A B : Nat) : signed s (A * B) 0 = signed s A 0 * (B : Int) := by
  cases s <;> simp [signed, Int.natCast_mul, Int.neg_mul]

theorem signed_not (s : Bool) (A : Nat) : signed (!s) A 0 = - signed s A 0 := by cases s <;> simp [signed]

theorem signed_abs (s : Bool) (A : Nat) : (signed s A 0).natAbs = A := by cases s <;> simp [signed]

theorem pow_pos_int (k : Nat) : (0 : Int) < 2 ^ k := Int.pow_pos (by omega)

/-- Two whole numbers over one place. -/
theorem over_place (s : Bool) (A k K : Nat) (h : k ≤ K) : signed s (A * 2 ^ k) (-(k : Int) - -(K : Int)).toNat = signed s A 0 * 2 ^ K := by
  have e : (-(k : Int) - -(K : Int)).toNat = K - k := by omega
  rw [e, signed_up, signed_mul, Int.natCast_pow, Int.mul_assoc]
  congr 1
  show (2 : Int) ^ k * 2 ^ (K - k) = 2 ^ K
  rw [← Int.pow_add, show k + (K - k) = K by omega]

theorem min_place (k j : Nat) : min (-(k : Int)) (-(j : Int)) = -((max k j : Nat) : Int) := by omega

theorem natAbs_pow (n : Int) (K : Nat) : (n * 2 ^ K).natAbs = n.natAbs * 2 ^ K := by
  rw [Int.natAbs_mul, Int.natAbs_pow]
  rfl

/-- What is written of a whole number with a fitting sign. -/
theorem rd_write' (neg : Bool) (n : Int) (K : Nat) (hn : n.natAbs < 9007199254740992) (hs : if neg then n ≤ 0 else 0 ≤ n) : Rd (double.write (.number neg (n.natAbs * 2 ^ K) (-(K : Int)))) n := by
  have h := rd_write neg n.natAbs K hn
  have e : signed neg n.natAbs 0 = n := by
    rw [signed_zero]
    cases neg <;> simp at hs ⊢ <;> omega
  rwa [e] at h

theorem sign_sum (n : Int) (K : Nat) (s t : Bool) : if (if n * 2 ^ K = 0 then s && t else decide (n * 2 ^ K < 0)) = true then n ≤ 0 else 0 ≤ n := by
  have hp := pow_pos_int K
  by_cases h0 : n = 0
  · subst h0
    rw [Int.zero_mul, if_pos rfl]
    split <;> exact Int.le_refl 0
  · have h1 : n * 2 ^ K ≠ 0 := Int.mul_ne_zero h0 (by omega)
    rw [if_neg h1]
    by_cases h2 : n < 0
    · have : n * 2 ^ K < 0 := Int.mul_neg_of_neg_of_pos h2 hp
      rw [if_pos (by simpa using this)]
      omega
    · have : ¬ n * 2 ^ K < 0 := by
        have := Int.mul_nonneg (by omega : 0 ≤ n) (Int.le_of_lt hp)
        omega
      rw [if_neg (by simpa using this)]
      omega

theorem rd_sum {x y : Nat} {a b : Int} {d1 d2 : Datum} (s t : Bool) (A B k j : Nat) (h1 : d1 = .number s (A * 2 ^ k) (-(k : Int))) (h2 : d2 = .number t (B * 2 ^ j) (-(j : Int))) (ha : a = signed s A 0) (hb : b = signed t B 0) (hn : (a + b).natAbs < 9007199254740992) :
    ∃ r, (d1.sum d2).map double.write = some r ∧ Rd r (a + b) := by
  subst h1 h2
  have e1 := over_place s A k (max k j) (by omega)
  have e2 := over_place t B j (max k j) (by omega)
  have e3 : signed s (A * 2 ^ k) (-(k : Int) - min (-(k : Int)) (-(j : Int))).toNat + signed t (B * 2 ^ j) (-(j : Int) - min (-(k : Int)) (-(j : Int))).toNat = (a + b) * 2 ^ (max k j) := by
    rw [min_place, e1, e2, ha, hb, Int.add_mul]
  have e4 : (Datum.number s (A * 2 ^ k) (-(k : Int))).sum (.number t (B * 2 ^ j) (-(j : Int))) = some (.number (if (a + b) * 2 ^ (max k j) = 0 then s && t else decide ((a + b) * 2 ^ (max k j) < 0)) ((a + b).natAbs * 2 ^ (max k j)) (-((max k j : Nat) : Int))) := by
    simp only [Datum.sum]
    rw [e3, natAbs_pow, min_place]
  refine ⟨_, by rw [e4, Option.map_some], ?_⟩
  exact rd_write' _ _ _ hn (sign_sum _ _ _ _)

/-- Sums are exact. -/
theorem rd_add {x y : Nat} {a b : Int} (hx : Rd x a) (hy : Rd y b) (hn : (a + b).natAbs < 9007199254740992) : ∃ r, floatBits .add .f64 x y = some r ∧ Rd r (a + b) := by
  obtain ⟨s, A, k, h1, ha⟩ := hx
  obtain ⟨t, B, j, h2, hb⟩ := hy
  exact rd_sum (x := x) (y := y) s t A B k j h1 h2 ha hb hn

/-- Differences are exact. -/
theorem rd_sub {x y : Nat} {a b : Int} (hx : Rd x a) (hy : Rd y b) (hn : (a - b).natAbs < 9007199254740992) : ∃ r, floatBits .sub .f64 x y = some r ∧ Rd r (a - b) := by
  obtain ⟨s, A, k, h1, ha⟩ := hx
  obtain ⟨t, B, j, h2, hb⟩ := hy
  have h2' : (double.read y).opposite = .number (!t) (B * 2 ^ j) (-(j : Int)) := by rw [h2]; rfl
  have hb' : -b = signed (!t) B 0 := by rw [signed_not, hb]
  have := rd_sum (x := x) (y := y) s (!t) A B k j h1 h2' ha hb' (by rw [← Int.sub_eq_add_neg]; exact hn)
  rw [← Int.sub_eq_add_neg] at this
  exact this

/-- Products are exact. -/
theorem rd_mul {x y : Nat} {a b : Int} (hx : Rd x a) (hy : Rd y b) (hn : (a * b).natAbs < 9007199254740992) : ∃ r, floatBits .mul .f64 x y = some r ∧ Rd r (a * b) := by
  obtain ⟨s, A, k, h1, ha⟩ := hx
  obtain ⟨t, B, j, h2, hb⟩ := hy
  have hAB : A * B < 9007199254740992 := by rw [ha, hb, Int.natAbs_mul, signed_abs, signed_abs] at hn; exact hn
  have e : double.write (.number (s ^^ t) (A * 2 ^ k * (B * 2 ^ j)) (-(k : Int) + -(j : Int))) = double.write (.number (s ^^ t) (A * B * 2 ^ (k + j)) (-((k + j : Nat) : Int))) := by
    rw [show A * 2 ^ k * (B * 2 ^ j) = A * B * 2 ^ (k + j) by rw [Nat.pow_add]; simp only [Nat.mul_assoc, Nat.mul_left_comm], show -(k : Int) + -(j : Int) = -((k + j : Nat) : Int) by omega]
  refine ⟨double.write (.number (s ^^ t) (A * B * 2 ^ (k + j)) (-((k + j : Nat) : Int))), ?_, ?_⟩
  · show ((double.read x).product (double.read y)).map double.write = _
    rw [h1, h2]
    simp only [Datum.product, Option.map_some, e]
  · have := rd_write (s ^^ t) (A * B) (k + j) hAB
    have e2 : signed (s ^^ t) (A * B) 0 = a * b := by
      rw [ha, hb]
      cases s <;> cases t <;> simp [signed, Int.natCast_mul, Int.neg_mul, Int.mul_neg]
    rwa [e2] at this

theorem compare_scaled (a b : Int) (K : Nat) : compare (a * 2 ^ K) (b * 2 ^ K) = compare a b := by
  have hp := pow_pos_int K
  simp only [compare, compareOfLessAndEq]
  have h1 : (a * 2 ^ K < b * 2 ^ K) ↔ a < b := ⟨fun h => Int.lt_of_mul_lt_mul_right h (Int.le_of_lt hp), fun h => Int.mul_lt_mul_of_pos_right h hp⟩
  have h2 : (a * 2 ^ K = b * 2 ^ K) ↔ a = b := ⟨fun h => Int.eq_of_mul_eq_mul_right (by omega) h, fun h => by rw [h]⟩
  simp only [h1, h2]

/-- Comparisons are those of the numbers. -/
theorem rd_order {x y : Nat} {a b : Int} (hx : Rd x a) (hy : Rd y b) : double.order x y = some (compare a b) := by
  obtain ⟨s, A, k, h1, ha⟩ := hx
  obtain ⟨t, B, j, h2, hb⟩ := hy
  have e1 := over_place s A k (max k j) (by omega)
  have e2 := over_place t B j (max k j) (by omega)
  unfold Format.order
  rw [h1, h2]
  simp only [Datum.order]
  rw [min_place, e1, e2, compare_scaled, ha, hb]

theorem rd_unique {x : Nat} {a b : Int} (h1 : Rd x a) (h2 : Rd x b) : a = b := by
  have := rd_order h1 h2
  have h3 := rd_order h1 h1
  rw [this] at h3
  have : compare a b = compare a a := Option.some.inj h3
  simp only [compare, compareOfLessAndEq] at this
  by_cases hl : a < b
  · simp [hl] at this
  · by_cases he : a = b
    · exact he
    · simp [hl, he] at this

/-- float64(n). -/
theorem rd_int (n : Int) (hn : n.natAbs < 9007199254740992) : Rd (FloatKind.f64.encode (.number (n < 0) n.natAbs 0)) n := by
  have h := rd_write' (decide (n < 0)) n 0 hn (by by_cases h : n < 0 <;> simp [h] <;> omega)
  rw [Nat.pow_zero, Nat.mul_one] at h
  exact h

end Go.Proofs.Ytkdiifoipfkmcaa
