/- Regions and inodes of a sound plan. -/
import Derived.Test.YtielammfimeedaaPKeep
namespace Go.Proofs.Ytielammfimeedaa
open Go.RowKit Go.Shelf
set_option linter.unusedVariables false

/-- The region of the block ahead of number k. -/
def lastR (P : Nat → Int) : Nat → Int
  | 0 => 0
  | k + 1 => reg P (k : Int)

theorem reg_cases (P : Nat → Int) (n : Int) : (n < 1 ∧ reg P n = 0) ∨ (1 ≤ n ∧ n < P 4 ∧ reg P n = 1) ∨ (1 ≤ n ∧ P 4 ≤ n ∧ n < P 5 ∧ reg P n = 2) ∨ (1 ≤ n ∧ P 4 ≤ n ∧ P 5 ≤ n ∧ n < P 7 ∧ reg P n = 3) ∨ (1 ≤ n ∧ P 4 ≤ n ∧ P 5 ≤ n ∧ P 7 ≤ n ∧ n < P 9 ∧ reg P n = 4) ∨ (1 ≤ n ∧ P 4 ≤ n ∧ P 5 ≤ n ∧ P 7 ≤ n ∧ P 9 ≤ n ∧ n < P 11 ∧ reg P n = 5) ∨ (1 ≤ n ∧ P 4 ≤ n ∧ P 5 ≤ n ∧ P 7 ≤ n ∧ P 9 ≤ n ∧ P 11 ≤ n ∧ reg P n = 6) := by
  unfold reg
  by_cases h0 : n < 1
  · rw [if_pos h0]; exact .inl ⟨h0, rfl⟩
  · rw [if_neg h0]
    by_cases h1 : n < P 4
    · rw [if_pos h1]; omega
    · rw [if_neg h1]
      by_cases h2 : n < P 5
      · rw [if_pos h2]; omega
      · rw [if_neg h2]
        by_cases h3 : n < P 7
        · rw [if_pos h3]; omega
        · rw [if_neg h3]
          by_cases h4 : n < P 9
          · rw [if_pos h4]; omega
          · rw [if_neg h4]
            by_cases h5 : n < P 11
            · rw [if_pos h5]; omega
            · rw [if_neg h5]; omega

theorem reg_step {P : Nat → Int} (h : Sound P) (k : Nat) : lastR P k ≤ reg P (k : Int) ∧ reg P (k : Int) ≤ 6 ∧ reg P (k : Int) ≤ lastR P k + 1 ∧ 0 ≤ lastR P k ∧ lastR P k ≤ 6 := by
  have b := h.bd
  have l := h.log
  have h4 := h.p4
  have h5 := h.p5
  have h7 := h.p7
  have h9 := h.p9
  have h11 := h.p11
  cases k with
  | zero =>
    have hr := reg_cases P 0
    have e : lastR P 0 = 0 := rfl
    rw [e]
    simp only [Int.natCast_zero] at *
    omega
  | succ k =>
    have e : lastR P (k + 1) = reg P (k : Int) := rfl
    have e2 : ((k + 1 : Nat) : Int) = (k : Int) + 1 := by omega
    rw [e, e2]
    have hr := reg_cases P (k : Int)
    have hs := reg_cases P ((k : Int) + 1)
    generalize reg P ((k : Int) + 1) = y at *
    generalize reg P (k : Int) = x at *
    have b6 := b.2.1
    have b8 := b.2.2.1
    have b10 := b.2.2.2
    clear b e e2
    rcases hr with hr | hr | hr | hr | hr | hr | hr <;> rcases hs with hs | hs | hs | hs | hs | hs | hs <;> omega

theorem reg_last {P : Nat → Int} (h : Sound P) (k : Nat) (hk : (k : Int) = P 1) : lastR P k = 6 := by
  have b := h.bd
  have l := h.log
  have h4 := h.p4
  have h5 := h.p5
  have h7 := h.p7
  have h9 := h.p9
  have h11 := h.p11
  have hd := h.data
  cases k with
  | zero => omega
  | succ k =>
    have hc : ((k + 1 : Nat) : Int) = (k : Int) + 1 := by omega
    have e : lastR P (k + 1) = reg P (k : Int) := rfl
    rw [e]
    have hr := reg_cases P (k : Int)
    rcases hr with hr | hr | hr | hr | hr | hr | hr <;> omega

theorem reg_table {P : Nat → Int} (h : Sound P) (n : Int) (h1 : P 9 ≤ n) (h2 : n < P 11) : reg P n = 5 := by
  have b := h.bd
  have l := h.log
  have h4 := h.p4
  have h5 := h.p5
  have h7 := h.p7
  have h9 := h.p9
  have hr := reg_cases P n
  rcases hr with hr | hr | hr | hr | hr | hr | hr <;> omega

theorem size32 {b : Int} (h : isSize b) : b = 32 * (b / 32) ∧ 2 ≤ b / 32 ∧ b / 32 ≤ 128 := by unfold isSize at h; omega

/-- An inode stands in the table. -/
theorem inode_block {P : Nat → Int} (h : Sound P) (n : Int) (h0 : 0 ≤ n) (hn : n < P 2) : n / (P 0 / 32) < P 10 := by
  have hd := size32 h.size
  rw [h.p10]
  unfold cd
  have hn2 : n < P 2 := hn
  have : n / (P 0 / 32) + 1 ≤ (P 2 + P 0 / 32 - 1) / (P 0 / 32) := by
    rw [Int.le_ediv_iff_mul_le (by omega), Int.add_mul, Int.one_mul]
    have := Int.ediv_mul_le n (b := P 0 / 32) (by omega)
    omega
  omega

theorem inode_place {P : Nat → Int} (h : Sound P) (n : Int) : (P 9 + n / (P 0 / 32)) * P 0 + n % (P 0 / 32) * 32 = P 9 * P 0 + 32 * n := by
  have hd := (size32 h.size).1
  have he := Int.mul_ediv_add_emod n (P 0 / 32)
  generalize P 0 / 32 = d at *
  have e1 : n / d * P 0 = 32 * (d * (n / d)) := by
    rw [hd, Int.mul_comm (n / d) (32 * d), Int.mul_assoc]
  rw [Int.add_mul, e1]
  omega

end Go.Proofs.Ytielammfimeedaa
