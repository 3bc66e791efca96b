/- A quarter of a whole number that four divides is exact. -/
import Derived.Test.YtkbngbilgebgiaaGFloat4
namespace Go.Proofs.Ytkbngbilgebgiaa
open Ieee
set_option linter.unusedVariables false

theorem read_four : double.read 4616189618054758400 = .number false 4503599627370496 (-50) := by decide +kernel

theorem log_four (T k : Nat) (hT : 0 < T) : (4 * T * 2 ^ k).log2 = T.log2 + 2 + k := by
  have h1 : 4 * T * 2 ^ k = T * 2 ^ (2 + k) := by rw [Nat.pow_add, Nat.mul_comm 4 T, Nat.mul_assoc]
  rw [h1]
  have hne : T ≠ 0 := by omega
  rw [(Nat.log2_eq_iff (by have := Nat.mul_pos hT (Nat.two_pow_pos (2 + k)); omega))]
  have l1 := Nat.log2_self_le hne
  have l2 : T < 2 ^ (T.log2 + 1) := Nat.lt_log2_self
  constructor
  · rw [show T.log2 + 2 + k = T.log2 + (2 + k) by omega, Nat.pow_add]
    exact Nat.mul_le_mul_right _ l1
  · rw [show T.log2 + 2 + k + 1 = (T.log2 + 1) + (2 + k) by omega, Nat.pow_add 2 (T.log2 + 1)]
    exact Nat.mul_lt_mul_of_pos_right l2 (Nat.two_pow_pos _)

/-- There is room for a whole quotient. -/
theorem quo_room (T k : Nat) (hT : T < 9007199254740992) : 52 ≤ k + (54 + 52 - (4 * T * 2 ^ k).log2) + 2 := by
  by_cases h : T = 0
  · subst h; simp
  · rw [log_four T k (by omega)]
    have hl : T.log2 < 53 := by
      rw [Nat.log2_lt h]
      exact hT
    omega

theorem quo_parts (s : Bool) (T k : Nat) (hT : T < 9007199254740992) :
    ∃ E : Nat, (Datum.number s (4 * T * 2 ^ k) (-(k : Int))).quotient 54 (.number false 4503599627370496 (-50)) = some (.number s (T * 2 ^ E) (-(E : Int))) := by
  have hroom := quo_room T k hT
  have hlog : Nat.log2 4503599627370496 = 52 := by decide +kernel
  simp only [Datum.quotient, hlog]
  rw [if_neg (by decide)]
  generalize hm : 54 + 52 - (4 * T * 2 ^ k).log2 = more at *
  obtain ⟨E, hE⟩ : ∃ E, k + more + 2 = 52 + E := ⟨k + more + 2 - 52, by omega⟩
  have hd : (4 * T * 2 ^ k) <<< more = T * 2 ^ E * 4503599627370496 := by
    rw [Nat.shiftLeft_eq, show (4503599627370496 : Nat) = 2 ^ 52 by decide, Nat.mul_assoc, ← Nat.pow_add, Nat.mul_assoc T, ← Nat.pow_add, show E + 52 = 2 + (k + more) by omega, Nat.pow_add 2 2, Nat.mul_comm 4 T, Nat.mul_assoc]
  refine ⟨E + 1, ?_⟩
  rw [hd, Nat.mul_div_cancel _ (by decide), Nat.mul_mod_left]
  simp only [Option.some.injEq, Datum.number.injEq]
  refine ⟨by simp, ?_, by omega⟩
  simp [Nat.pow_succ]
  rw [← Nat.mul_assoc, Nat.mul_comm 2 T, Nat.mul_assoc, Nat.mul_comm 2, ← Nat.mul_assoc]

theorem rd_quarter {x : Nat} {t : Int} (hx : Rd x (4 * t)) (hn : t.natAbs < 9007199254740992) : ∃ r, floatBits .quo .f64 x 4616189618054758400 = some r ∧ Rd r t := by
  obtain ⟨s, A, k, h1, ha⟩ := hx
  obtain ⟨T, rfl, hT⟩ : ∃ T : Nat, A = 4 * T ∧ t = signed s T 0 := by
    rw [signed_zero] at ha
    refine ⟨t.natAbs, ?_, ?_⟩
    · cases s <;> simp at ha <;> omega
    · rw [signed_zero]
      cases s <;> simp at ha ⊢ <;> omega
  have hTn : T < 9007199254740992 := by rw [hT, signed_abs] at hn; exact hn
  obtain ⟨E, hE⟩ := quo_parts s T k hTn
  refine ⟨double.write (.number s (T * 2 ^ E) (-(E : Int))), ?_, ?_⟩
  · show ((double.read x).quotient (double.fractionBits + 2) (double.read 4616189618054758400)).map double.write = _
    rw [h1, read_four, dbl_frac, hE]
    rfl
  · have := rd_write s T E hTn
    rw [hT]; exact this
end Go.Proofs.Ytkbngbilgebgiaa
