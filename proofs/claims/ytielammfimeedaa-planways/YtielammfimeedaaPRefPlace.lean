/- The contract of the reference's Place. -/
import Derived.Test.YtielammfimeedaaPPlace
namespace Go.Proofs.Ytielammfimeedaa
open Go.RowKit Go.Shelf
set_option linter.unusedVariables false

set_option maxRecDepth 10000 in
set_option maxHeartbeats 1000000 in
theorem refPlace_form (P : Nat → Int) (n : Int) (w : World) (h : checkE P ≠ 0) :
    Calls Try.prog 12 #[Pv P, .int .i64 n] w fun r w' => r = .returned (.tuple #[.int .i64 0, .int .i64 0, .int .i64 4]) ∧ Below w.heap.size w w' := by
  have HC := hide (refCheck_any P)
  have h4 : checkE P = 4 := by have := checkE_two P; omega
  rw [h4] at HC
  clear h h4
  go_enter Try.func12, Try.ntmps12
  go_wp2_with fail
  go_at_call 16
  refine (unhide HC _).mono ?_
  rintro r w1 ⟨rfl, hb⟩
  have HB := hide (((Below.refl w.heap.size w).alloc (Nat.le_refl _) (.cells (Pc P) 24)).trans (hb.mono (by simp)))
  clear hb HC
  go_wp2
  go_ret3
  exact ⟨rfl, unhide HB⟩

set_option maxRecDepth 10000 in
set_option maxHeartbeats 1000000 in
theorem refPlace_low (P : Nat → Int) (n : Int) (w : World) (h : checkE P = 0) (hn : n < 0) :
    Calls Try.prog 12 #[Pv P, .int .i64 n] w fun r w' => r = .returned (.tuple #[.int .i64 0, .int .i64 0, .int .i64 2]) ∧ Below w.heap.size w w' := by
  have HC := hide (refCheck_any P)
  rw [h] at HC
  clear h
  go_enter Try.func12, Try.ntmps12
  go_wp2_with fail
  go_at_call 16
  refine (unhide HC _).mono ?_
  rintro r w1 ⟨rfl, hb⟩
  have HB := hide (((Below.refl w.heap.size w).alloc (Nat.le_refl _) (.cells (Pc P) 24)).trans (hb.mono (by simp)))
  clear hb HC
  go_wp2
  go_ret3
  exact ⟨rfl, unhide HB⟩

set_option maxRecDepth 10000 in
set_option maxHeartbeats 1000000 in
theorem refPlace_high (P : Nat → Int) (n : Int) (w : World) (h : checkE P = 0) (hn : ¬ n < 0) (hn2 : P 2 ≤ n) :
    Calls Try.prog 12 #[Pv P, .int .i64 n] w fun r w' => r = .returned (.tuple #[.int .i64 0, .int .i64 0, .int .i64 2]) ∧ Below w.heap.size w w' := by
  have HC := hide (refCheck_any P)
  rw [h] at HC
  clear h
  go_enter Try.func12, Try.ntmps12
  go_wp2_with fail
  go_at_call 16
  refine (unhide HC _).mono ?_
  rintro r w1 ⟨rfl, hb⟩
  have HB := hide (((Below.refl w.heap.size w).alloc (Nat.le_refl _) (.cells (Pc P) 24)).trans (hb.mono (by simp)))
  have f2 := ((R12.new w P).below hb (R12.new w P).lt).cell 2 (by omega)
  clear hb HC
  go_wp2
  go_ret3
  exact ⟨rfl, unhide HB⟩

set_option maxRecDepth 10000 in
set_option maxHeartbeats 1000000 in
theorem refPlace_ok (P : Nat → Int) (n d : Int) (w : World) (h : checkE P = 0) (hn : ¬ n < 0) (hn2 : ¬ P 2 ≤ n) (hd : P 0 / 32 = d) :
    Calls Try.prog 12 #[Pv P, .int .i64 n] w fun r w' => r = .returned (.tuple #[.int .i64 (P 9 + n / d), .int .i64 (n % d * 32), .int .i64 0]) ∧ Below w.heap.size w w' := by
  have HC := hide (refCheck_any P)
  rw [h] at HC
  have hb := (sound h).bd
  have hi := (sound h).inodes
  have h9 : 0 ≤ P 9 ∧ P 9 ≤ 10000 := by have a := (sound h).p9; have b := (sound h).log; omega
  have hd2 : 2 ≤ d ∧ d ≤ 128 := by omega
  have hp : P 0 = 32 * d := by have a := (sound h).size; unfold isSize at a; omega
  have HP := hide hp
  clear h hb hd hp
  go_enter Try.func12, Try.ntmps12
  go_wp2_with fail
  go_at_call 16
  refine (unhide HC _).mono ?_
  rintro r w1 ⟨rfl, hb⟩
  have HB := hide (((Below.refl w.heap.size w).alloc (Nat.le_refl _) (.cells (Pc P) 24)).trans (hb.mono (by simp)))
  have f2 := ((R12.new w P).below hb (R12.new w P).lt).cell 2 (by omega)
  have f0 := ((R12.new w P).below hb (R12.new w P).lt).cell 0 (by omega)
  have f9 := ((R12.new w P).below hb (R12.new w P).lt).cell 9 (by omega)
  clear hb HC
  rw [unhide HP] at f0
  go_wp2
  go_loop [7, 8] (fun b a => ∃ k m : Int, b = .int .i64 (P 9 + k) ∧ a = .int .i64 (32 * m) ∧ Hid (m + d * k = n ∧ 0 ≤ m ∧ 0 ≤ k ∧ m ≤ n ∧ k ≤ n)) (fun _ a => (intOf a).toNat)
  case atStart => exact ⟨0, n, by go_num, by go_num, by omega, by omega, by omega, by omega, by omega⟩
  case round =>
    obtain ⟨k, m, rfl, rfl, hH⟩ := hrel
    have hm := (unhide hH).2
    by_cases hlt : d ≤ m
    · go_wp2
      refine ⟨⟨k + 1, m - d, by go_num, by go_num, ?_⟩, by simp [intOf]; omega⟩
      have h1 := (unhide hH).1
      have h2 : d * (k + 1) = d * k + d := by rw [Int.mul_add, Int.mul_one]
      have h3 : k ≤ d * k := by
        have := Int.mul_le_mul_of_nonneg_right (show (1 : Int) ≤ d by omega) (show (0 : Int) ≤ k by omega)
        omega
      exact ⟨by omega, by omega, by omega, by omega, by omega⟩
    · have hu := (Int.ediv_emod_unique (a := n) (b := d) (q := k) (r := m) (by omega)).2 ⟨(unhide hH).1, by omega, by omega⟩
      go_wp2
      go_ret3
      exact ⟨ret_three rfl (by omega) rfl, unhide HB⟩

theorem refPlace_any (P : Nat → Int) (n : Int) (w : World) :
    Calls Try.prog 12 #[Pv P, .int .i64 n] w fun r w' => r = .returned (.tuple #[.int .i64 (plcB P n), .int .i64 (plcA P n), .int .i64 (plcE P n)]) ∧ Below w.heap.size w w' := by
  by_cases h : checkE P = 0
  · by_cases h1 : n < 0
    · have e : plcE P n = 2 := by rw [plcE, if_neg (by omega), if_pos (.inl h1)]
      rw [plcB, plcA, e, if_neg (by omega), if_neg (by omega)]
      exact refPlace_low P n w h h1
    · by_cases h2 : P 2 ≤ n
      · have e : plcE P n = 2 := by rw [plcE, if_neg (by omega), if_pos (.inr h2)]
        rw [plcB, plcA, e, if_neg (by omega), if_neg (by omega)]
        exact refPlace_high P n w h h1 h2
      · have e : plcE P n = 0 := by rw [plcE, if_neg (by omega), if_neg (by omega)]
        rw [plcB, plcA, e, if_pos rfl, if_pos rfl]
        exact refPlace_ok P n _ w h h1 h2 rfl
  · have e : plcE P n = 4 := by rw [plcE, if_pos h]
    rw [plcB, plcA, e, if_neg (by omega), if_neg (by omega)]
    exact refPlace_form P n w h

end Go.Proofs.Ytielammfimeedaa
