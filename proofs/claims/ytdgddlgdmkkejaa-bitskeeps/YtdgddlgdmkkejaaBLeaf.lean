/- The contracts of hasBit, hasPart, mask. -/
import Derived.Test.YtdgddlgdmkkejaaGBase
import Derived.Test.YtdgddlgdmkkejaaBMath
import Derived.BigRegion
namespace Go.Proofs.Ytdgddlgdmkkejaa
open Go.RowKit Go.Shelf
set_option linter.unusedVariables false

/-- Is there a bit i in len bytes? -/
def inB (len : Nat) (i : Int) : Bool := decide (0 ≤ i) && decide (i < 8 * (len : Int))

/-- Is it a part of the bits of len bytes? -/
def inP (len : Nat) (f t : Int) : Bool := decide (0 ≤ f) && decide (f ≤ t) && decide (t ≤ 8 * (len : Int))

theorem hasBit_any (a : Option Addr) (len cap : Nat) (i : Int) (w : World) (hl : len ≤ 140737488355328) :
    Calls Try.prog 25 #[.slice a len cap, .int .i64 i] w fun e w' => e = .returned (.bool (inB len i)) ∧ w = w' := by
  by_cases h1 : 0 ≤ i
  · by_cases h2 : i < 8 * (len : Int)
    · have e : inB len i = true := by simp [inB, h1, h2]
      rw [e]
      go_enter Try.func25, Try.ntmps25
      go_wp2
      go_ret
      exact ⟨rfl, rfl⟩
    · have e : inB len i = false := by simp [inB, h2]
      rw [e]
      go_enter Try.func25, Try.ntmps25
      go_wp2
      go_ret
      exact ⟨rfl, rfl⟩
  · have e : inB len i = false := by simp [inB, h1]
    rw [e]
    go_enter Try.func25, Try.ntmps25
    go_wp2
    go_ret
    exact ⟨rfl, rfl⟩

theorem hasPart_any (a : Option Addr) (len cap : Nat) (f t : Int) (w : World) (hl : len ≤ 140737488355328) :
    Calls Try.prog 28 #[.slice a len cap, .int .i64 f, .int .i64 t] w fun e w' => e = .returned (.bool (inP len f t)) ∧ w = w' := by
  by_cases h1 : 0 ≤ f
  · by_cases h2 : f ≤ t
    · by_cases h3 : t ≤ 8 * (len : Int)
      · have e : inP len f t = true := by simp [inP, h1, h2, h3]
        rw [e]
        go_enter Try.func28, Try.ntmps28
        go_wp2
        go_ret
        exact ⟨rfl, rfl⟩
      · have e : inP len f t = false := by simp [inP, h3]
        rw [e]
        go_enter Try.func28, Try.ntmps28
        go_wp2
        go_ret
        exact ⟨rfl, rfl⟩
    · have e : inP len f t = false := by simp [inP, h2]
      rw [e]
      go_enter Try.func28, Try.ntmps28
      go_wp2
      go_ret
      exact ⟨rfl, rfl⟩
  · have e : inP len f t = false := by simp [inP, h1]
    rw [e]
    go_enter Try.func28, Try.ntmps28
    go_wp2
    go_ret
    exact ⟨rfl, rfl⟩

theorem mask_any (i : Nat) (w : World) (hi : i < 9223372036854775808) :
    Calls Try.prog 26 #[.int .i64 (i : Int)] w fun e w' => e = .returned (.int .u8 ((2 ^ (i % 8) : Nat) : Int)) ∧ w = w' := by
  go_enter Try.func26, Try.ntmps26
  go_wp2
  go_ret
  exact ⟨ret_int (pow8 (Nat.mod_lt i (by omega))), rfl⟩

theorem shr_cast (n : Nat) : ((255 / 2 ^ n : Nat) : Int) = 255 / 2 ^ n := by rw [Int.natCast_ediv, Int.natCast_pow]; rfl

theorem shl_cast (n : Nat) : ((255 * 2 ^ n % 256 : Nat) : Int) = 255 * 2 ^ n % 256 := by rw [Int.natCast_emod, Int.natCast_mul, Int.natCast_pow]; rfl

theorem PM_bits (lo hi : Nat) : bits .and .u8 ((255 * 2 ^ lo % 256 : Nat) : Int) ((255 / 2 ^ (8 - hi) : Nat) : Int) = ((PM lo hi : Nat) : Int) := by
  rw [u8_and_nat _ _ (Nat.mod_lt _ (by omega)) (Nat.lt_of_le_of_lt (Nat.div_le_self _ _) (by omega))]
  rfl

theorem partMask_any (q f t : Nat) (w : World) (h1 : f < 8 * q + 8) (h2 : 8 * q < t) (h3 : t < 9223372036854775808) :
    Calls Try.prog 30 #[.int .i64 (q : Int), .int .i64 (f : Int), .int .i64 (t : Int)] w fun e w' => e = .returned (.int .u8 ((PM (f - 8 * q) (min (t - 8 * q) 8) : Nat) : Int)) ∧ ∃ m, w' = w.drewN m := by
  by_cases hf : (f : Int) - 8 * (q : Int) < 0 <;> by_cases ht : (8 : Int) < (t : Int) - 8 * (q : Int)
  all_goals go_enter Try.func30, Try.ntmps30
  all_goals go_wp2
  all_goals go_quiet (fail)
  all_goals go_wp2
  all_goals go_ret
  all_goals refine ⟨ret_int ?_, _, rfl⟩
  · rw [show f - 8 * q = 0 by omega, show min (t - 8 * q) 8 = 8 by omega]
    exact PM_bits 0 8
  · rw [show f - 8 * q = 0 by omega, show min (t - 8 * q) 8 = t - 8 * q by omega, ← PM_bits, shr_cast]
    rfl
  · rw [show min (t - 8 * q) 8 = 8 by omega, ← PM_bits, shl_cast]
    rfl
  · rw [show min (t - 8 * q) 8 = t - 8 * q by omega, ← PM_bits, shl_cast, shr_cast]

theorem pc_le {x : Nat} : pc x ≤ 8 := by unfold pc; omega

theorem ones_any (x : Nat) (w : World) (hx : x < 256) :
    Calls Try.prog 29 #[.int .u8 (x : Int)] w fun e w' => e = .returned (.int .i64 ((pc x : Nat) : Int)) ∧ w' = w := by
  have hp : pc x ≤ 8 := pc_le
  generalize hP : pc x = p at *
  go_enter Try.func29, Try.ntmps29
  go_wp2
  go_loop [0, 3] (fun x n => ∃ y k : Nat, x = .int .u8 (y : Int) ∧ n = .int .i64 (k : Int) ∧ y < 256 ∧ pc y + k = p) (fun x _ => (intOf x).toNat)
  case atStart => exact ⟨x, 0, rfl, rfl, hx, by omega⟩
  case round =>
    obtain ⟨y, k, rfl, rfl, hy, hk⟩ := hrel
    by_cases h0 : y = 0
    · subst h0
      go_wp2
      go_ret
      refine ⟨ret_int ?_, rfl⟩
      have : pc 0 = 0 := by decide
      omega
    · have HP := hide (pc_and hy h0)
      have hA : bits .and .u8 (y : Int) ((y : Int) - 1) = ((y &&& (y - 1) : Nat) : Int) := by
        rw [← u8_and_nat y (y - 1) hy (by omega)]
        congr 1
        omega
      have hlt : y &&& (y - 1) < 256 := Nat.lt_of_le_of_lt Nat.and_le_left hy
      have h0' : ¬ (y : Int) = 0 := by omega
      generalize y &&& (y - 1) = y' at *
      go_wp2
      exact ⟨⟨y', k + 1, rfl, by go_num, hlt, by have := HP.out; omega⟩, by have := HP.out; simp [intOf]; omega⟩

theorem bad_any (a : Option Addr) (len cap : Nat) (f t : Int) (w : World) (hl : len ≤ 140737488355328) :
    Calls Try.prog 31 #[.slice a len cap, .int .i64 f, .int .i64 t] w fun e w' => e = .returned (.bool (!inP len f t)) ∧ w = w' := by
  by_cases h1 : 0 ≤ f
  · by_cases h2 : f ≤ t
    · by_cases h3 : t ≤ 8 * (len : Int)
      · have e : inP len f t = true := by simp [inP, h1, h2, h3]
        rw [e]
        go_enter Try.func31, Try.ntmps31
        go_wp2
        go_ret
        exact ⟨ret_bool (by simp; omega), rfl⟩
      · have e : inP len f t = false := by simp [inP, h3]
        rw [e]
        go_enter Try.func31, Try.ntmps31
        go_wp2
        go_ret
        exact ⟨rfl, rfl⟩
    · have e : inP len f t = false := by simp [inP, h2]
      rw [e]
      go_enter Try.func31, Try.ntmps31
      go_wp2
      go_ret
      exact ⟨rfl, rfl⟩
  · have e : inP len f t = false := by simp [inP, h1]
    rw [e]
    go_enter Try.func31, Try.ntmps31
    go_wp2
    go_ret
    exact ⟨rfl, rfl⟩

theorem half (x k : Nat) : x / 2 ^ k / 2 = x / 2 ^ (k + 1) := by rw [Nat.div_div_eq_div_mul, Nat.pow_succ]

set_option maxHeartbeats 1000000 in
theorem bit_any (a : Option Addr) (len cap : Nat) (zs : List Int) (i : Nat) (w : World) (hh : Has w a len zs) (hby : ∀ z ∈ zs, 0 ≤ z ∧ z ≤ 255) (hl : len ≤ 140737488355328) (hi : i < 8 * len) :
    Calls Try.prog 27 #[.slice a len cap, .int .i64 (i : Int)] w fun e w' => e = .returned (.bool (bitAt zs i)) ∧ w = w' := by
  obtain ⟨b, off, rfl, hc⟩ := hh.2 (by omega)
  have hck := hc (i / 8) (by omega)
  have hlt := byteN_lt hby (i / 8)
  rw [← byteN_int hby] at hck
  obtain ⟨r, hr⟩ : ∃ r, i % 8 = r := ⟨_, rfl⟩
  have hr8 : r < 8 := by omega
  have HB : Hid (bitAt zs i = tb (byteN zs (i / 8)) r) := by unfold bitAt; rw [hr]; rfl
  generalize bitAt zs i = B at *
  generalize byteN zs (i / 8) = x at *
  clear hc hh hby
  have hr' : (i : Int) % 8 = (r : Int) := by omega
  go_enter Try.func27, Try.ntmps27
  go_wp2
  go_loop [5, 6] (fun c j => ∃ k : Nat, k ≤ r ∧ j = .int .i64 (k : Int) ∧ c = .int .i64 ((x / 2 ^ k : Nat) : Int)) (fun _ j => r - (intOf j).toNat)
  case atStart => exact ⟨0, Nat.zero_le _, rfl, by simp⟩
  case round =>
    obtain ⟨k, hk, rfl, rfl⟩ := hrel
    have HS := hide (half x k)
    have hX : x / 2 ^ k ≤ x := Nat.div_le_self _ _
    by_cases hlt : k < r
    · generalize x / 2 ^ k = y at *
      go_wp2
      exact ⟨⟨k + 1, by omega, by go_num, val_int (by rw [← HS.out]; omega)⟩, by simp [intOf]; omega⟩
    · obtain rfl : k = r := by omega
      have HT : Hid (B = (x / 2 ^ k % 2 == 1)) := HB.out
      clear HB
      generalize x / 2 ^ k = y at *
      by_cases h1 : (y : Int) % 2 = 1
      · have hB : Hid (B = true) := by show B = true; rw [HT.out]; simp; omega
        clear HT
        go_wp2
        go_ret
        exact ⟨ret_bool (by rw [hB.out]), rfl⟩
      · have hB : Hid (B = false) := by show B = false; rw [HT.out]; simp; omega
        clear HT
        go_wp2
        go_ret
        exact ⟨ret_bool (by rw [hB.out]; exact decide_eq_false h1), rfl⟩

end Go.Proofs.Ytdgddlgdmkkejaa
