/- Bits of a byte within a part; counts and gaps, byte by byte. Of no function of a program. -/
import Derived.Test.YtdgddlgdmkkejaaGBit
namespace Go.Proofs.Ytdgddlgdmkkejaa
set_option linter.unusedVariables false

/-- A byte whose ones are the places from lo on, ahead of hi. -/
def PM (lo hi : Nat) : Nat := (255 * 2 ^ lo % 256) &&& (255 / 2 ^ (8 - hi))

/-- How many of the eight bits are 1. -/
def pc (x : Nat) : Nat := x % 2 + x / 2 % 2 + x / 4 % 2 + x / 8 % 2 + x / 16 % 2 + x / 32 % 2 + x / 64 % 2 + x / 128 % 2

/-- How many of n bits from lo on are 1, in a byte. -/
def cb (x lo : Nat) : Nat → Nat
  | 0 => 0
  | n + 1 => cb x lo n + if tb x (lo + n) then 1 else 0

theorem pow8 {k : Nat} (hk : k < 8) : (2 : Int) ^ k % 256 = ((2 ^ k : Nat) : Int) := by
  have h : ∀ k : Fin 8, (2 : Int) ^ k.val % 256 = ((2 ^ k.val : Nat) : Int) := by decide +kernel
  exact h ⟨k, hk⟩

theorem tb_test (n k : Nat) : tb n k = n.testBit k := by
  rw [Nat.testBit_eq_decide_div_mod_eq]
  unfold tb
  by_cases h : n / 2 ^ k % 2 = 1 <;> simp [h]

theorem tb_and (m n k : Nat) : tb (m &&& n) k = (tb m k && tb n k) := by
  rw [tb_test, tb_test, tb_test, Nat.testBit_and]

theorem PM_lt (lo hi : Nat) : PM lo hi < 256 := by
  unfold PM
  exact Nat.lt_of_le_of_lt Nat.and_le_left (Nat.mod_lt _ (by omega))

theorem tb_PM_fin : ∀ lo : Fin 8, ∀ hi : Fin 9, ∀ k : Fin 8, tb (PM lo.val hi.val) k.val = decide (lo.val ≤ k.val ∧ k.val < hi.val) := by decide +kernel
theorem tb_PM {lo hi k : Nat} (h1 : lo < 8) (h2 : hi ≤ 8) (hk : k < 8) : tb (PM lo hi) k = decide (lo ≤ k ∧ k < hi) := tb_PM_fin ⟨lo, h1⟩ ⟨hi, by omega⟩ ⟨k, hk⟩

theorem pc_and_fin : ∀ x : Fin 256, x.val ≠ 0 → pc (x.val &&& (x.val - 1)) + 1 = pc x.val ∧ x.val &&& (x.val - 1) < x.val := by decide +kernel
theorem pc_and {x : Nat} (h : x < 256) (h0 : x ≠ 0) : pc (x &&& (x - 1)) + 1 = pc x ∧ x &&& (x - 1) < x := pc_and_fin ⟨x, h⟩ h0

theorem pc_cb_fin : ∀ lo : Fin 8, ∀ hi : Fin 9, lo.val ≤ hi.val → ∀ x : Fin 256, pc (x.val &&& PM lo.val hi.val) = cb x.val lo.val (hi.val - lo.val) := by decide +kernel
theorem pc_cb {x lo hi : Nat} (hx : x < 256) (h1 : lo < 8) (h2 : hi ≤ 8) (h : lo ≤ hi) : pc (x &&& PM lo hi) = cb x lo (hi - lo) := pc_cb_fin ⟨lo, h1⟩ ⟨hi, by omega⟩ h ⟨x, hx⟩

theorem tb_not_fin : ∀ x : Fin 256, ∀ k : Fin 8, tb (255 ^^^ x.val) k.val = !tb x.val k.val := by decide +kernel
theorem not_lt_fin : ∀ x : Fin 256, 255 ^^^ x.val < 256 := by decide +kernel
theorem tb_some_fin : ∀ x : Fin 256, x.val ≠ 0 → ∃ k : Fin 8, tb x.val k.val = true := by decide +kernel
theorem tb_zero (k : Nat) : tb 0 k = false := by simp [tb]

/-- The zeros of a byte, within a part. -/
def zs8 (x lo hi : Nat) : Nat := (255 ^^^ x) &&& PM lo hi

theorem zs8_lt (x lo hi : Nat) : zs8 x lo hi < 256 := Nat.lt_of_le_of_lt Nat.and_le_right (PM_lt lo hi)

theorem tb_zs8 {x lo hi k : Nat} (hx : x < 256) (h1 : lo < 8) (h2 : hi ≤ 8) (hk : k < 8) : tb (zs8 x lo hi) k = (!tb x k && decide (lo ≤ k ∧ k < hi)) := by
  unfold zs8
  rw [tb_and, tb_PM h1 h2 hk]
  have := tb_not_fin ⟨x, hx⟩ ⟨k, hk⟩
  rw [this]

theorem tb_some {x : Nat} (hx : x < 256) (h : x ≠ 0) : ∃ k, k < 8 ∧ tb x k = true := by
  obtain ⟨k, hk⟩ := tb_some_fin ⟨x, hx⟩ h
  exact ⟨k.val, k.isLt, hk⟩

theorem bitAt_byte (zs : List Int) (q k : Nat) (hk : k < 8) : bitAt zs (8 * q + k) = tb (byteN zs q) k := by
  unfold bitAt
  rw [show (8 * q + k) / 8 = q by omega, show (8 * q + k) % 8 = k by omega]

theorem cntB_add (zs : List Int) (f m n : Nat) : cntB zs f (m + n) = cntB zs f m + cntB zs (f + m) n := by
  induction n with
  | zero => rfl
  | succ n ih =>
    rw [← Nat.add_assoc]
    simp only [cntB]
    rw [ih, Nat.add_assoc f m n]
    omega

theorem cntB_byte (zs : List Int) (q lo n : Nat) (h : lo + n ≤ 8) : cntB zs (8 * q + lo) n = cb (byteN zs q) lo n := by
  induction n with
  | zero => rfl
  | succ n ih =>
    simp only [cntB, cb]
    rw [ih (by omega), Nat.add_assoc (8 * q) lo n, bitAt_byte zs q (lo + n) (by omega)]

/-- One byte more. -/
theorem cntB_step (zs : List Int) (hb : ∀ z ∈ zs, 0 ≤ z ∧ z ≤ 255) (f t q : Nat) (h1 : f < 8 * q + 8) (h2 : 8 * q < t) (h3 : f ≤ t) :
    cntB zs f (min (8 * (q + 1)) t - f) = cntB zs f (min (8 * q) t - f) + pc (byteN zs q &&& PM (f - 8 * q) (min (t - 8 * q) 8)) := by
  by_cases hlt : f - 8 * q ≤ min (t - 8 * q) 8
  · rw [pc_cb (byteN_lt hb q) (by omega) (by omega) hlt]
    rw [← cntB_byte zs q (f - 8 * q) _ (by omega)]
    by_cases hc : f ≤ 8 * q
    · rw [show min (8 * (q + 1)) t - f = (min (8 * q) t - f) + (min (t - 8 * q) 8 - (f - 8 * q)) by omega, cntB_add]
      rw [show f + (min (8 * q) t - f) = 8 * q + (f - 8 * q) by omega]
    · rw [show min (8 * q) t - f = 0 by omega, show 8 * q + (f - 8 * q) = f by omega, show min (t - 8 * q) 8 - (f - 8 * q) = min (8 * (q + 1)) t - f by omega]
      simp [cntB]
  · omega

theorem set_byteN {zs : List Int} (h : ∀ z ∈ zs, 0 ≤ z ∧ z ≤ 255) (i : Nat) (on : Bool) (hs : bitAt zs i = on) (hi : i < 8 * zs.length) : setB zs i on = zs := by
  subst hs
  unfold setB bitAt
  rw [sb_self (byteN_lt h _) (Nat.mod_lt i (by omega)), byteN_int h, List.getElem?_eq_getElem (by omega)]
  simp

end Go.Proofs.Ytdgddlgdmkkejaa
