/- Floats of whatever kind: which are whole numbers, what int(x) makes of them, and what -x is. -/
import Derived.Test.YtkdiifoipfkmcaaGFloat2
namespace Go.Proofs.Ytkdiifoipfkmcaa
open Ieee
set_option linter.unusedVariables false

/-- int(x) of a number that is not great: what is behind the point is dropped. -/
theorem toInt_trunc (s : Bool) (m k : Nat) : (Datum.number s m (-(k : Int))).toInt .zero = some (signed s (m / 2 ^ k) 0) := by
  have e1 : (-(k : Int)).toNat = 0 := by omega
  have e2 : (- -(k : Int)).toNat = k := by omega
  unfold Datum.toInt Datum.integral
  simp only [e1, e2, Nat.shiftLeft_zero, Toward.cut, Bool.toNat_false, Nat.add_zero, Nat.one_shiftLeft]
  congr 2
  by_cases h : k ≤ m.log2 + 2
  · rw [Nat.min_eq_left h]
  · rw [Nat.min_eq_right (by omega)]
    have hm : m < 2 ^ (m.log2 + 1) := Nat.lt_log2_self
    have h1 : m < 2 ^ (m.log2 + 2) := Nat.lt_trans hm (Nat.pow_lt_pow_right (by omega) (by omega))
    have h2 : m < 2 ^ k := Nat.lt_trans h1 (Nat.pow_lt_pow_right (by omega) (by omega))
    rw [Nat.div_eq_of_lt h1, Nat.div_eq_of_lt h2]

theorem rd_toInt {x : Nat} {n : Int} (h : Rd x n) : (double.read x).toInt .zero = some n := by
  obtain ⟨s, A, k, h1, rfl⟩ := h
  rw [h1, toInt_trunc, Nat.mul_div_cancel _ (Nat.two_pow_pos k)]

/-- The places of the numbers that a word can be. -/
theorem read_place {x : Nat} {s : Bool} {m : Nat} {p : Int} (h : double.read x = .number s m p) : (∃ k : Nat, p = -(k : Int)) ∨ (0 < p ∧ 4503599627370496 ≤ m) := by
  unfold Format.read at h
  rw [dbl_binade, dbl_inf, dbl_sign, dbl_least] at h
  simp only at h
  split at h
  · simp only [Datum.number.injEq] at h
    exact .inl ⟨1074, h.2.2.symm⟩
  · split at h
    · simp only [Datum.number.injEq] at h
      obtain ⟨_, hm, hp⟩ := h
      by_cases h0 : 0 < p
      · exact .inr ⟨h0, by omega⟩
      · exact .inl ⟨(-p).toNat, by omega⟩
    · split at h <;> cases h

/-- A word that is neither below -b nor above b is a number, and not a great one. -/
theorem in_range {x lo hi : Nat} {b : Nat} (hlo : Rd lo (-(b : Int))) (hhi : Rd hi (b : Int)) (hb : b < 4503599627370496) (h1 : double.order x hi = some .lt ∨ double.order x hi = some .eq) (h2 : double.order x lo = some .gt ∨ double.order x lo = some .eq) :
    ∃ (s : Bool) (m k : Nat), double.read x = .number s m (-(k : Int)) ∧ m ≤ b * 2 ^ k := by
  obtain ⟨s1, A1, k1, e1, a1⟩ := hlo
  obtain ⟨s2, A2, k2, e2, a2⟩ := hhi
  unfold Format.order at h1 h2
  rw [e2] at h1
  rw [e1] at h2
  cases hx : double.read x with
  | nan t f => rw [hx] at h1; simp [Datum.order] at h1
  | infinity t =>
    rw [hx] at h1 h2
    cases t <;> simp [Datum.order] at h1 h2
  | number s m p =>
    rw [hx] at h1 h2
    have u2 : ∀ (K : Nat), signed s2 (A2 * 2 ^ k2) K = (b : Int) * 2 ^ k2 * 2 ^ K := by
      intro K
      rw [signed_up, signed_mul, ← a2, Int.natCast_pow]; rfl
    have v1 : ∀ (K : Nat), signed s1 (A1 * 2 ^ k1) K = -(b : Int) * 2 ^ k1 * 2 ^ K := by
      intro K
      rw [signed_up, signed_mul, ← a1, Int.natCast_pow]; rfl
    simp only [Datum.order] at h1 h2
    rw [u2] at h1
    rw [v1] at h2
    have g1 : signed s m (p - min p (-(k2 : Int))).toNat ≤ (b : Int) * 2 ^ k2 * 2 ^ (-(k2 : Int) - min p (-(k2 : Int))).toNat := by
      rcases h1 with h1 | h1
      · have := Option.some.inj h1
        simp only [compare, compareOfLessAndEq] at this
        split at this
        · omega
        · split at this <;> cases this
      · have := Option.some.inj h1
        simp only [compare, compareOfLessAndEq] at this
        split at this
        · cases this
        · split at this
          · omega
          · cases this
    have g2 : -(b : Int) * 2 ^ k1 * 2 ^ (-(k1 : Int) - min p (-(k1 : Int))).toNat ≤ signed s m (p - min p (-(k1 : Int))).toNat := by
      rcases h2 with h2 | h2
      · have := Option.some.inj h2
        simp only [compare, compareOfLessAndEq] at this
        split at this
        · cases this
        · split at this
          · cases this
          · omega
      · have := Option.some.inj h2
        simp only [compare, compareOfLessAndEq] at this
        split at this
        · cases this
        · split at this
          · omega
          · cases this
    -- over the place of x itself
    rcases read_place hx with ⟨k, rfl⟩ | ⟨hp, hm⟩
    · refine ⟨s, m, k, rfl, ?_⟩
      have f1 : ∀ j : Nat, (2 : Int) ^ (-(k : Int) - min (-(k : Int)) (-(j : Int))).toNat * 2 ^ k = 2 ^ (max k j) := by
        intro j
        rw [← Int.pow_add]; congr 1; omega
      have f2 : ∀ j : Nat, (2 : Int) ^ j * 2 ^ (-(j : Int) - min (-(k : Int)) (-(j : Int))).toNat = 2 ^ (max k j) := by
        intro j
        rw [← Int.pow_add]; congr 1; omega
      have q1 : signed s m 0 ≤ (b : Int) * 2 ^ k := by
        rw [signed_up, Int.mul_assoc, f2] at g1
        have p1 := pow_pos_int (-(k : Int) - min (-(k : Int)) (-(k2 : Int))).toNat
        refine Int.le_of_mul_le_mul_right ?_ p1
        rw [Int.mul_assoc, Int.mul_comm (2 ^ k), f1]
        exact g1
      have q2 : -((b : Int) * 2 ^ k) ≤ signed s m 0 := by
        rw [signed_up, Int.mul_assoc, f2] at g2
        have p1 := pow_pos_int (-(k : Int) - min (-(k : Int)) (-(k1 : Int))).toNat
        refine Int.le_of_mul_le_mul_right ?_ p1
        rw [← Int.neg_mul, Int.mul_assoc, Int.mul_comm (2 ^ k), f1]
        exact g2
      have e3 : ((b * 2 ^ k : Nat) : Int) = (b : Int) * 2 ^ k := by rw [Int.natCast_mul, Int.natCast_pow]; rfl
      rw [← e3] at q1 q2
      have := signed_abs s m
      omega
    · exfalso
      have m1 : min p (-(k1 : Int)) = -(k1 : Int) := by omega
      have m2 : min p (-(k2 : Int)) = -(k2 : Int) := by omega
      rw [m2, show (-(k2 : Int) - -(k2 : Int)).toNat = 0 by omega, signed_up] at g1
      rw [m1, show (-(k1 : Int) - -(k1 : Int)).toNat = 0 by omega, signed_up] at g2
      have r1 : (2 : Int) ^ (p - -(k2 : Int)).toNat = 2 ^ p.toNat * 2 ^ k2 := by rw [← Int.pow_add]; congr 1; omega
      have r2 : (2 : Int) ^ (p - -(k1 : Int)).toNat = 2 ^ p.toNat * 2 ^ k1 := by rw [← Int.pow_add]; congr 1; omega
      rw [r1, ← Int.mul_assoc, Int.pow_zero, Int.mul_one] at g1
      rw [r2, ← Int.mul_assoc, Int.pow_zero, Int.mul_one] at g2
      have g1' := Int.le_of_mul_le_mul_right g1 (pow_pos_int k2)
      have g2' := Int.le_of_mul_le_mul_right g2 (pow_pos_int k1)
      have hpp : (1 : Int) ≤ 2 ^ p.toNat := pow_pos_int p.toNat
      have hab : (m : Int) ≤ (signed s m 0 * 2 ^ p.toNat).natAbs := by
        rw [natAbs_pow, signed_abs]
        have : m * 1 ≤ m * 2 ^ p.toNat := Nat.mul_le_mul_left _ (Nat.two_pow_pos _)
        omega
      omega

/-- A word is equal to a whole number's just if it is that number. -/
theorem eq_whole {x y : Nat} {n : Int} {s : Bool} {m k : Nat} (hy : Rd y n) (hx : double.read x = .number s m (-(k : Int))) : double.order y x = some .eq ↔ Rd x n := by
  constructor
  · intro h
    obtain ⟨t, B, j, h2, hb⟩ := hy
    unfold Format.order at h
    rw [h2, hx] at h
    simp only [Datum.order] at h
    have e1 := over_place t B j (max j k) (by omega)
    have e2 : (-(k : Int) - -((max j k : Nat) : Int)).toNat = max j k - k := by omega
    rw [min_place, e1, e2, ← hb, signed_up s m] at h
    have h' := Option.some.inj h
    have heq : n * 2 ^ (max j k) = signed s m 0 * 2 ^ (max j k - k) := by
      simp only [compare, compareOfLessAndEq] at h'
      split at h'
      · cases h'
      · split at h'
        · assumption
        · cases h'
    have e3 : (2 : Int) ^ (max j k) = 2 ^ k * 2 ^ (max j k - k) := by rw [← Int.pow_add]; congr 1; omega
    rw [e3, ← Int.mul_assoc] at heq
    have heq' := Int.eq_of_mul_eq_mul_right (Int.ne_of_gt (pow_pos_int (max j k - k))) heq
    have hm : m = n.natAbs * 2 ^ k := by
      have := congrArg Int.natAbs heq'
      rw [natAbs_pow, signed_abs] at this
      exact this.symm
    refine ⟨s, n.natAbs, k, by rw [hx, hm], ?_⟩
    rw [hm, signed_mul, Int.natCast_pow] at heq'
    exact Int.eq_of_mul_eq_mul_right (Int.ne_of_gt (pow_pos_int k)) heq'
  · intro h
    rw [rd_order hy h]
    simp [compare, compareOfLessAndEq]

end Go.Proofs.Ytkdiifoipfkmcaa
