/- Sums of whole numbers that may grow beyond what a float64 tells exactly: once they are great they stay great. -/
import Derived.Test.YtkdiifoipfkmcaaGFloat4
namespace Go.Proofs.Ytkdiifoipfkmcaa
open Ieee
set_option linter.unusedVariables false

/-- The word is at least 2^31, or infinite. -/
def Hg (x : Nat) : Prop := double.read x = .infinity false ∨ (∃ (m : Nat) (p : Int), double.read x = .number false m p ∧ 0 < p ∧ 4503599627370496 ≤ m) ∨ ∃ (m k : Nat), double.read x = .number false m (-(k : Int)) ∧ 2147483648 * 2 ^ k ≤ m

/-- The word is the sum n, or both are great. -/
def Am (x : Nat) (n : Int) : Prop := (0 ≤ n ∧ n < 1099511627776 ∧ Rd x n) ∨ (2147483648 ≤ n ∧ Hg x)

theorem Am.nonneg {x : Nat} {n : Int} (h : Am x n) : 0 ≤ n := by
  rcases h with h | h
  · exact h.1
  · omega

theorem am_of {x : Nat} {n : Int} (h : Rd x n) (h0 : 0 ≤ n) (h1 : n ≤ 1073741824) : Am x n := .inl ⟨h0, by omega, h⟩

theorem am_small {x : Nat} {n : Int} (h : Am x n) (h1 : n ≤ 1073741824) : Rd x n := by
  rcases h with h | h
  · exact h.2.2
  · omega

theorem hg_of_rd {x : Nat} {n : Int} (h : Rd x n) (hn : 2147483648 ≤ n) : Hg x := by
  obtain ⟨s, A, k, h1, h2⟩ := h
  rw [signed_zero] at h2
  cases s
  · refine .inr (.inr ⟨A * 2 ^ k, k, h1, Nat.mul_le_mul_right _ ?_⟩)
    simp at h2
    omega
  · simp at h2
    omega

theorem hg_word (R : Nat) (h1 : 4746794007248502784 ≤ R) (h2 : R ≤ 9218868437227405312) : Hg (double.word false R) := by
  have hw : double.word false R = R := rfl
  have e1 : R % 9223372036854775808 = R := by omega
  have e2 : (R / 9223372036854775808 % 2 == 1) = false := by
    have : R / 9223372036854775808 = 0 := by omega
    rw [this]; rfl
  have hr : double.read R = if R < 9218868437227405312 then .number false (4503599627370496 + R % 4503599627370496) (-1074 + ((R / 4503599627370496 - 1 : Nat) : Int)) else if R = 9218868437227405312 then .infinity false else .nan false (R - 9218868437227405312) := by
    unfold Format.read
    rw [dbl_sign, dbl_binade, dbl_inf, dbl_least]
    simp only [e1, e2]
    rw [if_neg (by omega)]
  rw [hw]
  by_cases h3 : R < 9218868437227405312
  · rw [if_pos h3] at hr
    obtain ⟨q, hq⟩ : ∃ q, R / 4503599627370496 = q := ⟨_, rfl⟩
    rw [hq] at hr
    have hq1 : 1054 ≤ q := by omega
    by_cases h4 : 1075 < q
    · exact .inr (.inl ⟨_, _, hr, by omega, by omega⟩)
    · obtain ⟨k, hk⟩ : ∃ k, 1075 = q + k := ⟨1075 - q, by omega⟩
      have hp : (-1074 + ((q - 1 : Nat) : Int)) = -(k : Int) := by omega
      rw [hp] at hr
      refine .inr (.inr ⟨_, k, hr, ?_⟩)
      have h5 : 2 ^ k ≤ 2 ^ 21 := Nat.pow_le_pow_right (by omega) (by omega)
      have h6 : 2147483648 * 2 ^ k ≤ 2147483648 * 2 ^ 21 := Nat.mul_le_mul_left _ h5
      have h7 : 2147483648 * 2 ^ 21 = 4503599627370496 := by decide
      omega
  · rw [if_neg h3, if_pos (by omega)] at hr
    exact .inl hr

theorem cut_ge (n d L : Nat) (hL : n.log2 = L) (hd : d ≤ L) (hn : n ≠ 0) : 2 ^ (L - d) ≤ Toward.even.cut false n d := by
  have hm : min d (n.log2 + 2) = d := by omega
  have h1 : 2 ^ L ≤ n := by rw [← hL]; exact Nat.log2_self_le hn
  unfold Toward.cut
  simp only [hm, Nat.one_shiftLeft]
  have h2 : 2 ^ (L - d) ≤ n / 2 ^ d := by
    rw [Nat.le_div_iff_mul_le (Nat.two_pow_pos d), ← Nat.pow_add, show L - d + d = L by omega]
    exact h1
  exact Nat.le_trans h2 (Nat.le_add_right _ _)

theorem hg_nearest (T K : Nat) (h : 2147483648 * 2 ^ K ≤ T) : Hg (double.nearest false T (-(K : Int))) := by
  have hp : 0 < 2 ^ K := Nat.two_pow_pos K
  have hT : T ≠ 0 := by
    have : 0 < 2147483648 * 2 ^ K := Nat.mul_pos (by omega) hp
    omega
  obtain ⟨L, hL⟩ : ∃ L, T.log2 = L := ⟨_, rfl⟩
  have hL1 : 31 + K ≤ L := by
    rw [← hL, Nat.le_log2 hT, Nat.pow_add]
    exact h
  have hlast : max (-(K : Int) + (L : Int) - 52) (-1074) = (L : Int) - 52 - (K : Int) := by omega
  unfold Format.nearest
  rw [if_neg hT, hL, dbl_frac, dbl_least, dbl_binade, dbl_inf]
  show Hg (double.word false (min ((max (-(K : Int) + (L : Int) - 52) (-1074) - -1074).toNat * 4503599627370496 + Toward.even.cut false (T <<< (-(K : Int) - max (-(K : Int) + (L : Int) - 52) (-1074)).toNat) (max (-(K : Int) + (L : Int) - 52) (-1074) - -(K : Int)).toNat) 9218868437227405312))
  rw [hlast]
  have hk : 4503599627370496 ≤ Toward.even.cut false (T <<< (-(K : Int) - ((L : Int) - 52 - (K : Int))).toNat) ((L : Int) - 52 - (K : Int) - -(K : Int)).toNat := by
    by_cases h52 : 52 ≤ L
    · have e1 : (-(K : Int) - ((L : Int) - 52 - (K : Int))).toNat = 0 := by omega
      have e2 : ((L : Int) - 52 - (K : Int) - -(K : Int)).toNat = L - 52 := by omega
      rw [e1, e2, Nat.shiftLeft_zero]
      have := cut_ge T (L - 52) L hL (by omega) hT
      rw [show L - (L - 52) = 52 by omega] at this
      exact this
    · have e1 : (-(K : Int) - ((L : Int) - 52 - (K : Int))).toNat = 52 - L := by omega
      have e2 : ((L : Int) - 52 - (K : Int) - -(K : Int)).toNat = 0 := by omega
      rw [e1, e2, cut_none _ rfl, Nat.shiftLeft_eq]
      have h1 : 2 ^ L ≤ T := by rw [← hL]; exact Nat.log2_self_le hT
      have h2 : 2 ^ L * 2 ^ (52 - L) ≤ T * 2 ^ (52 - L) := Nat.mul_le_mul_right _ h1
      rw [← Nat.pow_add, show L + (52 - L) = 52 by omega] at h2
      exact h2
  have hr : 1053 ≤ ((L : Int) - 52 - (K : Int) - -1074).toNat := by omega
  generalize Toward.even.cut false (T <<< (-(K : Int) - ((L : Int) - 52 - (K : Int))).toNat) ((L : Int) - 52 - (K : Int) - -(K : Int)).toNat = c at *
  generalize ((L : Int) - 52 - (K : Int) - -1074).toNat = a at *
  exact hg_word _ (by omega) (by omega)

theorem hg_write (T K : Nat) (h : 2147483648 * 2 ^ K ≤ T) : Hg (double.write (.number false T (-(K : Int)))) := hg_nearest T K h

theorem hg_inf : Hg (double.write (.infinity false)) := .inl (by decide +kernel)

theorem signed_false (m u : Nat) : signed false m u = ((m * 2 ^ u : Nat) : Int) := by
  simp [signed, Nat.shiftLeft_eq]

/-- What is great stays great. -/
theorem hg_sum {d1 d2 : Datum} (t : Bool) (B j : Nat) (h2 : d2 = .number t (B * 2 ^ j) (-(j : Int))) (hb : 0 ≤ signed t B 0)
    (h1 : d1 = .infinity false ∨ (∃ (m : Nat) (p : Int), d1 = .number false m p ∧ 0 < p ∧ 4503599627370496 ≤ m) ∨ ∃ (m k : Nat), d1 = .number false m (-(k : Int)) ∧ 2147483648 * 2 ^ k ≤ m) :
    ∃ r, (d1.sum d2).map double.write = some r ∧ Hg r := by
  subst h2
  obtain ⟨N, hN⟩ : ∃ N : Nat, signed t B 0 = (N : Int) := ⟨(signed t B 0).toNat, by omega⟩
  have hN2 : ∀ u, signed t (B * 2 ^ j) u = ((N * 2 ^ j * 2 ^ u : Nat) : Int) := by
    intro u
    rw [signed_up, signed_mul, hN]
    simp [Int.natCast_mul, Int.natCast_pow]
  rcases h1 with rfl | ⟨m, p, rfl, hp, hm⟩ | ⟨m, k, rfl, hm⟩
  · exact ⟨_, rfl, hg_inf⟩
  · obtain ⟨q, rfl⟩ : ∃ q : Nat, p = (q : Int) := ⟨p.toNat, by omega⟩
    have e1 : min (q : Int) (-(j : Int)) = -(j : Int) := by omega
    have e2 : ((q : Int) - -(j : Int)).toNat = q + j := by omega
    have e3 : (-(j : Int) - -(j : Int)).toNat = 0 := by omega
    have e4 : signed false m (q + j) + signed t (B * 2 ^ j) 0 = ((m * 2 ^ (q + j) + N * 2 ^ j * 2 ^ 0 : Nat) : Int) := by
      rw [signed_false, hN2, Int.natCast_add]
    have hge : 2147483648 * 2 ^ j ≤ m * 2 ^ (q + j) + N * 2 ^ j * 2 ^ 0 := by
      have a1 : 2 ^ j ≤ 2 ^ (q + j) := Nat.pow_le_pow_right (by omega) (by omega)
      have a2 : 2147483648 * 2 ^ j ≤ m * 2 ^ (q + j) := Nat.mul_le_mul (by omega) a1
      omega
    have e5 : (Datum.number false m (q : Int)).sum (.number t (B * 2 ^ j) (-(j : Int))) = some (.number false (m * 2 ^ (q + j) + N * 2 ^ j * 2 ^ 0) (-(j : Int))) := by
      simp only [Datum.sum]
      rw [e1, e2, e3, e4, Int.natAbs_natCast]
      have pos : 0 < 2147483648 * 2 ^ j := Nat.mul_pos (by omega) (Nat.two_pow_pos j)
      generalize m * 2 ^ (q + j) + N * 2 ^ j * 2 ^ 0 = T at *
      rw [if_neg (by omega), decide_eq_false (by omega)]
    exact ⟨_, by rw [e5, Option.map_some], hg_write _ _ hge⟩
  · have e1 : min (-(k : Int)) (-(j : Int)) = -((max k j : Nat) : Int) := min_place k j
    have e2 : (-(k : Int) - -((max k j : Nat) : Int)).toNat = max k j - k := by omega
    have e3 : (-(j : Int) - -((max k j : Nat) : Int)).toNat = max k j - j := by omega
    have e4 : signed false m (max k j - k) + signed t (B * 2 ^ j) (max k j - j) = ((m * 2 ^ (max k j - k) + N * 2 ^ j * 2 ^ (max k j - j) : Nat) : Int) := by
      rw [signed_false, hN2, Int.natCast_add]
    have hge : 2147483648 * 2 ^ (max k j) ≤ m * 2 ^ (max k j - k) + N * 2 ^ j * 2 ^ (max k j - j) := by
      have a1 : 2147483648 * 2 ^ k * 2 ^ (max k j - k) ≤ m * 2 ^ (max k j - k) := Nat.mul_le_mul_right _ hm
      rw [Nat.mul_assoc, ← Nat.pow_add, show k + (max k j - k) = max k j by omega] at a1
      omega
    have e5 : (Datum.number false m (-(k : Int))).sum (.number t (B * 2 ^ j) (-(j : Int))) = some (.number false (m * 2 ^ (max k j - k) + N * 2 ^ j * 2 ^ (max k j - j)) (-((max k j : Nat) : Int))) := by
      simp only [Datum.sum]
      rw [e1, e2, e3, e4, Int.natAbs_natCast]
      have pos : 0 < 2147483648 * 2 ^ (max k j) := Nat.mul_pos (by omega) (Nat.two_pow_pos _)
      generalize m * 2 ^ (max k j - k) + N * 2 ^ j * 2 ^ (max k j - j) = T at *
      rw [if_neg (by omega), decide_eq_false (by omega)]
    exact ⟨_, by rw [e5, Option.map_some], hg_write _ _ hge⟩

theorem hg_add {x y : Nat} {b : Int} (hx : Hg x) (hy : Rd y b) (hb : 0 ≤ b) : ∃ r, floatBits .add .f64 x y = some r ∧ Hg r := by
  obtain ⟨t, B, j, h2, h3⟩ := hy
  exact hg_sum (d1 := double.read x) t B j h2 (by omega) hx

/-- A running sum goes on. -/
theorem am_add {x y : Nat} {n b : Int} (hx : Am x n) (hy : Rd y b) (hb : 0 ≤ b) (hb2 : b ≤ 1073741824) : ∃ r, floatBits .add .f64 x y = some r ∧ Am r (n + b) := by
  rcases hx with ⟨h0, h1, h2⟩ | ⟨h1, h2⟩
  · obtain ⟨r, e, hr⟩ := rd_add h2 hy (by omega)
    refine ⟨r, e, ?_⟩
    by_cases h : n + b < 1099511627776
    · exact .inl ⟨by omega, h, hr⟩
    · exact .inr ⟨by omega, hg_of_rd hr (by omega)⟩
  · obtain ⟨r, e, hr⟩ := hg_add h2 hy hb
    exact ⟨r, e, .inr ⟨by omega, hr⟩⟩

/-- What is great is above what is not. -/
theorem hg_order {x y : Nat} {b : Int} (hx : Hg x) (hy : Rd y b) (hb : b < 2147483648) : double.order x y = some .gt := by
  obtain ⟨t, B, j, h2, h3⟩ := hy
  have hv : ∀ u, signed t (B * 2 ^ j) u = b * 2 ^ j * 2 ^ u := by
    intro u
    rw [signed_up, signed_mul, ← h3]
    simp [Int.natCast_pow]
  have gt : ∀ a c : Int, c < a → compare a c = .gt := by
    intro a c h
    have h1 : ¬ a < c := by omega
    have h2 : ¬ a = c := by omega
    simp [compare, compareOfLessAndEq, h1, h2]
  have lift : ∀ K : Nat, b * 2 ^ K < 2147483648 * 2 ^ K := fun K => Int.mul_lt_mul_of_pos_right hb (pow_pos_int K)
  unfold Format.order
  rw [h2]
  rcases hx with h | ⟨m, p, h, hp, hm⟩ | ⟨m, k, h, hm⟩
  · rw [h]; rfl
  · rw [h]
    obtain ⟨q, rfl⟩ : ∃ q : Nat, p = (q : Int) := ⟨p.toNat, by omega⟩
    have e1 : min (q : Int) (-(j : Int)) = -(j : Int) := by omega
    have e2 : ((q : Int) - -(j : Int)).toNat = q + j := by omega
    have e3 : (-(j : Int) - -(j : Int)).toNat = 0 := by omega
    simp only [Datum.order]
    rw [e1, e2, e3, signed_false, hv]
    congr 1
    refine gt _ _ ?_
    have a1 : 2 ^ j ≤ 2 ^ (q + j) := Nat.pow_le_pow_right (by omega) (by omega)
    have a2 : 2147483648 * 2 ^ j ≤ m * 2 ^ (q + j) := Nat.mul_le_mul (by omega) a1
    have a3 : ((2147483648 * 2 ^ j : Nat) : Int) ≤ ((m * 2 ^ (q + j) : Nat) : Int) := Int.ofNat_le.2 a2
    have a4 := lift j
    have a5 : ((2147483648 * 2 ^ j : Nat) : Int) = 2147483648 * 2 ^ j := by simp [Int.natCast_mul, Int.natCast_pow]
    rw [a5] at a3
    rw [Int.pow_zero, Int.mul_one]
    omega
  · rw [h]
    have e2 : (-(k : Int) - -((max k j : Nat) : Int)).toNat = max k j - k := by omega
    have e3 : (-(j : Int) - -((max k j : Nat) : Int)).toNat = max k j - j := by omega
    simp only [Datum.order]
    rw [min_place, e2, e3, signed_false, hv]
    congr 1
    refine gt _ _ ?_
    have a1 : 2147483648 * 2 ^ k * 2 ^ (max k j - k) ≤ m * 2 ^ (max k j - k) := Nat.mul_le_mul_right _ hm
    rw [Nat.mul_assoc, ← Nat.pow_add, show k + (max k j - k) = max k j by omega] at a1
    have a3 : ((2147483648 * 2 ^ (max k j) : Nat) : Int) ≤ ((m * 2 ^ (max k j - k) : Nat) : Int) := Int.ofNat_le.2 a1
    have a4 := lift (max k j)
    have a5 : ((2147483648 * 2 ^ (max k j) : Nat) : Int) = 2147483648 * 2 ^ (max k j) := by simp [Int.natCast_mul, Int.natCast_pow]
    have a6 : b * 2 ^ j * 2 ^ (max k j - j) = b * 2 ^ (max k j) := by rw [Int.mul_assoc, ← Int.pow_add, show j + (max k j - j) = max k j by omega]
    rw [a5] at a3
    rw [a6]
    omega

theorem cmp_lt {a b : Int} (h : a < b) : compare a b = .lt := by simp [compare, compareOfLessAndEq, h]
theorem cmp_gt {a b : Int} (h : b < a) : compare a b = .gt := by
  have h1 : ¬ a < b := by omega
  have h2 : ¬ a = b := by omega
  simp [compare, compareOfLessAndEq, h1, h2]
theorem cmp_eq (a : Int) : compare a a = .eq := by simp [compare, compareOfLessAndEq]

theorem order_at {x y : Nat} {a b : Int} (h1 : Rd x a) (h2 : Rd y b) {o : Ordering} (h : compare a b = o) : FloatKind.f64.format.order x y = some o := by
  show double.order x y = some o
  rw [rd_order h1 h2, h]

theorem to_int {y : Nat} {t : Int} (h : Rd y t) (hb : -9223372036854775808 ≤ t ∧ t ≤ 9223372036854775807) : floatToIntVal .f64 y .i64 = some t := by
  unfold floatToIntVal
  have e : (FloatKind.f64.decode y).toInt .zero = some t := rd_toInt h
  rw [e]
  have : IntKind.i64.min ≤ t ∧ t ≤ IntKind.i64.max := hb
  exact if_pos this

/-- The greatest part of a sound amount. -/
theorem rd_most : Rd 4742290407621132288 1073741824 := ⟨false, 1073741824, 22, by decide +kernel, rfl⟩

end Go.Proofs.Ytkdiifoipfkmcaa
