/- Bits of bytes, and of lists of bytes: read, set, counted. Of no function of a program. -/
import Derived.Laws.BitsAllLaws
namespace Go.Proofs.Ytdgddlgdmkkejaa
set_option linter.unusedVariables false

/-- Bit k of n. -/
def tb (n k : Nat) : Bool := n / 2 ^ k % 2 == 1
/-- n, but bit k is as told. -/
def sb (n k : Nat) (on : Bool) : Nat := if on then (if tb n k then n else n + 2 ^ k) else (if tb n k then n - 2 ^ k else n)

theorem bit_and_fin : ∀ n : Fin 256, ∀ k : Fin 8, n.val &&& 2 ^ k.val = if tb n.val k.val then 2 ^ k.val else 0 := by decide +kernel
theorem bit_or_fin : ∀ n : Fin 256, ∀ k : Fin 8, n.val ||| 2 ^ k.val = sb n.val k.val true := by decide +kernel
theorem bit_andNot_fin : ∀ n : Fin 256, ∀ k : Fin 8, n.val &&& (255 - 2 ^ k.val) = sb n.val k.val false := by decide +kernel
theorem bit_xor_fin : ∀ n : Fin 256, ∀ k : Fin 8, n.val ^^^ 2 ^ k.val = sb n.val k.val (!tb n.val k.val) := by decide +kernel
theorem sb_lt_fin : ∀ n : Fin 256, ∀ k : Fin 8, sb n.val k.val true < 256 ∧ sb n.val k.val false < 256 := by decide +kernel
theorem tb_sb_fin : ∀ n : Fin 256, ∀ k : Fin 8, tb (sb n.val k.val true) k.val = true ∧ tb (sb n.val k.val false) k.val = false := by decide +kernel
theorem tb_other_fin : ∀ n : Fin 256, ∀ k : Fin 8, ∀ m : Fin 8, m.val ≠ k.val → tb (sb n.val k.val true) m.val = tb n.val m.val ∧ tb (sb n.val k.val false) m.val = tb n.val m.val := by decide +kernel
theorem sb_back_fin : ∀ n : Fin 256, ∀ k : Fin 8, sb n.val k.val (tb n.val k.val) = n.val ∧ sb (sb n.val k.val true) k.val (tb n.val k.val) = n.val ∧ sb (sb n.val k.val false) k.val (tb n.val k.val) = n.val := by decide +kernel
theorem tb_full_fin : ∀ k : Fin 8, tb 255 k.val = true := by decide +kernel
theorem tb_gap_fin : ∀ n : Fin 256, n.val ≠ 255 → ∃ k : Fin 8, tb n.val k.val = false := by decide +kernel

theorem bit_and {n k : Nat} (hn : n < 256) (hk : k < 8) : n &&& 2 ^ k = if tb n k then 2 ^ k else 0 := bit_and_fin ⟨n, hn⟩ ⟨k, hk⟩
theorem bit_or {n k : Nat} (hn : n < 256) (hk : k < 8) : n ||| 2 ^ k = sb n k true := bit_or_fin ⟨n, hn⟩ ⟨k, hk⟩
theorem bit_andNot {n k : Nat} (hn : n < 256) (hk : k < 8) : n &&& (255 - 2 ^ k) = sb n k false := bit_andNot_fin ⟨n, hn⟩ ⟨k, hk⟩
theorem bit_xor {n k : Nat} (hn : n < 256) (hk : k < 8) : n ^^^ 2 ^ k = sb n k (!tb n k) := bit_xor_fin ⟨n, hn⟩ ⟨k, hk⟩
theorem sb_lt {n k : Nat} (hn : n < 256) (hk : k < 8) (on : Bool) : sb n k on < 256 := by
  have := sb_lt_fin ⟨n, hn⟩ ⟨k, hk⟩
  cases on
  · exact this.2
  · exact this.1
theorem tb_sb {n k : Nat} (hn : n < 256) (hk : k < 8) (on : Bool) : tb (sb n k on) k = on := by
  have := tb_sb_fin ⟨n, hn⟩ ⟨k, hk⟩
  cases on
  · exact this.2
  · exact this.1
theorem tb_other {n k m : Nat} (hn : n < 256) (hk : k < 8) (hm : m < 8) (h : m ≠ k) (on : Bool) : tb (sb n k on) m = tb n m := by
  have := tb_other_fin ⟨n, hn⟩ ⟨k, hk⟩ ⟨m, hm⟩ h
  cases on
  · exact this.2
  · exact this.1
theorem sb_self {n k : Nat} (hn : n < 256) (hk : k < 8) : sb n k (tb n k) = n := (sb_back_fin ⟨n, hn⟩ ⟨k, hk⟩).1
theorem sb_back {n k : Nat} (hn : n < 256) (hk : k < 8) (on : Bool) : sb (sb n k on) k (tb n k) = n := by
  have := (sb_back_fin ⟨n, hn⟩ ⟨k, hk⟩).2
  cases on
  · exact this.2
  · exact this.1
theorem tb_full {k : Nat} (hk : k < 8) : tb 255 k = true := tb_full_fin ⟨k, hk⟩
theorem tb_gap {n : Nat} (hn : n < 256) (h : n ≠ 255) : ∃ k, k < 8 ∧ tb n k = false := by
  obtain ⟨k, hk⟩ := tb_gap_fin ⟨n, hn⟩ h
  exact ⟨k.val, k.isLt, hk⟩

/-- Byte number q of a list, as a natural number. -/
def byteN (zs : List Int) (q : Nat) : Nat := (zs[q]?.getD 0).toNat
/-- Bit number i of a list of bytes. -/
def bitAt (zs : List Int) (i : Nat) : Bool := tb (byteN zs (i / 8)) (i % 8)
/-- The list, but bit i is as told. -/
def setB (zs : List Int) (i : Nat) (on : Bool) : List Int := zs.set (i / 8) ((sb (byteN zs (i / 8)) (i % 8) on : Nat) : Int)

theorem byteN_lt {zs : List Int} (h : ∀ z ∈ zs, 0 ≤ z ∧ z ≤ 255) (q : Nat) : byteN zs q < 256 := by
  unfold byteN
  by_cases hq : q < zs.length
  · rw [List.getElem?_eq_getElem hq]
    have := h _ (List.getElem_mem hq)
    simp only [Option.getD_some]
    omega
  · rw [List.getElem?_eq_none (by omega)]; simp

theorem byteN_int {zs : List Int} (h : ∀ z ∈ zs, 0 ≤ z ∧ z ≤ 255) (q : Nat) : ((byteN zs q : Nat) : Int) = zs[q]?.getD 0 := by
  unfold byteN
  by_cases hq : q < zs.length
  · rw [List.getElem?_eq_getElem hq]
    have := h _ (List.getElem_mem hq)
    simp only [Option.getD_some]
    omega
  · rw [List.getElem?_eq_none (by omega)]; simp

theorem setB_length (zs : List Int) (i : Nat) (on : Bool) : (setB zs i on).length = zs.length := by simp [setB]

theorem setB_byts {zs : List Int} (h : ∀ z ∈ zs, 0 ≤ z ∧ z ≤ 255) (i : Nat) (on : Bool) : ∀ z ∈ setB zs i on, 0 ≤ z ∧ z ≤ 255 := by
  intro z hz
  have hb := sb_lt (byteN_lt h (i / 8)) (Nat.mod_lt i (by omega)) on
  rcases List.mem_or_eq_of_mem_set hz with hz | rfl
  · exact h z hz
  · omega

theorem byteN_setB {zs : List Int} (i : Nat) (hi : i < 8 * zs.length) (on : Bool) (q : Nat) : byteN (setB zs i on) q = if q = i / 8 then sb (byteN zs (i / 8)) (i % 8) on else byteN zs q := by
  unfold setB
  by_cases h : q = i / 8
  · subst h
    simp only [if_true]
    unfold byteN
    rw [List.getElem?_set_self (by omega)]
    simp
  · rw [if_neg h]
    unfold byteN
    rw [List.getElem?_set_ne (by omega)]

theorem bitAt_setB_same {zs : List Int} (h : ∀ z ∈ zs, 0 ≤ z ∧ z ≤ 255) (i : Nat) (hi : i < 8 * zs.length) (on : Bool) : bitAt (setB zs i on) i = on := by
  unfold bitAt
  rw [byteN_setB i hi, if_pos rfl]
  exact tb_sb (byteN_lt h _) (Nat.mod_lt i (by omega)) on

theorem bitAt_setB_other {zs : List Int} (h : ∀ z ∈ zs, 0 ≤ z ∧ z ≤ 255) (i j : Nat) (hi : i < 8 * zs.length) (hne : j ≠ i) (on : Bool) : bitAt (setB zs i on) j = bitAt zs j := by
  unfold bitAt
  rw [byteN_setB i hi]
  by_cases hq : j / 8 = i / 8
  · rw [if_pos hq, hq]
    exact tb_other (byteN_lt h _) (Nat.mod_lt i (by omega)) (Nat.mod_lt j (by omega)) (by omega) on
  · rw [if_neg hq]

theorem setB_back {zs : List Int} (h : ∀ z ∈ zs, 0 ≤ z ∧ z ≤ 255) (i : Nat) (hi : i < 8 * zs.length) (on : Bool) : setB (setB zs i on) i (bitAt zs i) = zs := by
  have hq : i / 8 < zs.length := by omega
  have e : byteN (setB zs i on) (i / 8) = sb (byteN zs (i / 8)) (i % 8) on := by rw [byteN_setB i hi, if_pos rfl]
  have e2 : setB (setB zs i on) i (bitAt zs i) = (setB zs i on).set (i / 8) ((sb (byteN (setB zs i on) (i / 8)) (i % 8) (bitAt zs i) : Nat) : Int) := rfl
  rw [e2, e]
  unfold bitAt
  rw [sb_back (byteN_lt h _) (Nat.mod_lt i (by omega)), byteN_int h]
  unfold setB
  rw [List.set_set, List.getElem?_eq_getElem hq]
  simp

/-- How many of the n bits from f on are 1. -/
def cntB (zs : List Int) (f : Nat) : Nat → Nat
  | 0 => 0
  | n + 1 => cntB zs f n + if bitAt zs (f + n) then 1 else 0

theorem cntB_le (zs : List Int) (f n : Nat) : cntB zs f n ≤ n := by
  induction n with
  | zero => simp [cntB]
  | succ n ih => simp only [cntB]; split <;> omega

theorem cntB_all {zs : List Int} {f n : Nat} (h : cntB zs f n = n) : ∀ k, k < n → bitAt zs (f + k) = true := by
  induction n with
  | zero => intro k hk; omega
  | succ n ih =>
    have hl := cntB_le zs f n
    simp only [cntB] at h
    by_cases hb : bitAt zs (f + n) = true
    · rw [if_pos hb] at h
      intro k hk
      by_cases hk' : k = n
      · subst hk'; exact hb
      · exact ih (by omega) k (by omega)
    · rw [if_neg hb] at h
      omega

theorem cntB_of_all {zs : List Int} {f n : Nat} (h : ∀ k, k < n → bitAt zs (f + k) = true) : cntB zs f n = n := by
  induction n with
  | zero => rfl
  | succ n ih =>
    simp only [cntB]
    rw [ih (fun k hk => h k (by omega)), if_pos (h n (by omega))]

theorem cntB_set {zs : List Int} (h : ∀ z ∈ zs, 0 ≤ z ∧ z ≤ 255) (i : Nat) (hi : i < 8 * zs.length) (hb : bitAt zs i = false) (f n : Nat) : cntB (setB zs i true) f n = cntB zs f n + if f ≤ i ∧ i < f + n then 1 else 0 := by
  induction n with
  | zero =>
    have : ¬ (f ≤ i ∧ i < f + 0) := by omega
    simp only [cntB]
    rw [if_neg this]
  | succ n ih =>
    simp only [cntB, ih]
    by_cases he : f + n = i
    · subst he
      rw [bitAt_setB_same h _ hi, hb]
      have h1 : ¬ (f ≤ f + n ∧ f + n < f + n) := by omega
      have h2 : f ≤ f + n ∧ f + n < f + (n + 1) := by omega
      rw [if_neg h1, if_pos h2]
      simp
    · rw [bitAt_setB_other h i (f + n) hi he]
      by_cases h1 : f ≤ i ∧ i < f + n
      · have h2 : f ≤ i ∧ i < f + (n + 1) := by omega
        rw [if_pos h1, if_pos h2]; omega
      · have h2 : ¬ (f ≤ i ∧ i < f + (n + 1)) := by omega
        rw [if_neg h1, if_neg h2]; omega

/-- The least bit that is 0, of n bits from f on: how far behind f; n: there is none. -/
def gapB (zs : List Int) (f : Nat) : Nat → Nat
  | 0 => 0
  | n + 1 => if bitAt zs f then 1 + gapB zs (f + 1) n else 0

theorem gapB_le (zs : List Int) (f n : Nat) : gapB zs f n ≤ n := by
  induction n generalizing f with
  | zero => simp [gapB]
  | succ n ih => simp only [gapB]; have := ih (f + 1); split <;> omega

theorem gapB_ahead (zs : List Int) (f n k : Nat) (hk : k < gapB zs f n) : bitAt zs (f + k) = true := by
  induction n generalizing f k with
  | zero => simp [gapB] at hk
  | succ n ih =>
    simp only [gapB] at hk
    by_cases hb : bitAt zs f = true
    · rw [if_pos hb] at hk
      by_cases h0 : k = 0
      · subst h0; exact hb
      · have := ih (f + 1) (k - 1) (by omega)
        rw [show f + 1 + (k - 1) = f + k by omega] at this
        exact this
    · rw [if_neg hb] at hk; omega

theorem gapB_at (zs : List Int) (f n : Nat) (h : gapB zs f n < n) : bitAt zs (f + gapB zs f n) = false := by
  induction n generalizing f with
  | zero => omega
  | succ n ih =>
    simp only [gapB] at h ⊢
    by_cases hb : bitAt zs f = true
    · rw [if_pos hb] at h ⊢
      have := ih (f + 1) (by omega)
      rw [show f + (1 + gapB zs (f + 1) n) = f + 1 + gapB zs (f + 1) n by omega]
      exact this
    · rw [if_neg hb]
      simpa using hb

/-- What makes a place the least bit that is 0. -/
theorem gapB_eq (zs : List Int) (f n g : Nat) (hg : g < n) (h1 : ∀ k, k < g → bitAt zs (f + k) = true) (h2 : bitAt zs (f + g) = false) : gapB zs f n = g := by
  have a := gapB_le zs f n
  by_cases hl : gapB zs f n < g
  · have := gapB_at zs f n (by omega)
    rw [h1 _ hl] at this
    cases this
  · by_cases hgt : g < gapB zs f n
    · have := gapB_ahead zs f n g hgt
      rw [h2] at this
      cases this
    · omega

theorem gapB_none (zs : List Int) (f n : Nat) (h : ∀ k, k < n → bitAt zs (f + k) = true) : gapB zs f n = n := by
  by_cases hl : gapB zs f n < n
  · have := gapB_at zs f n hl
    rw [h _ hl] at this
    cases this
  · have := gapB_le zs f n
    omega
end Go.Proofs.Ytdgddlgdmkkejaa
