/- The contract of Region. -/
import Derived.Test.YtielammfimeedaaPPlace
namespace Go.Proofs.Ytielammfimeedaa
open Go.RowKit Go.Shelf
set_option linter.unusedVariables false

/-- The row of blocks that block n stands in. -/
def reg (P : Nat → Int) (n : Int) : Int := if n < 1 then 0 else if n < P 4 then 1 else if n < P 5 then 2 else if n < P 7 then 3 else if n < P 9 then 4 else if n < P 11 then 5 else 6

/-- What Region answers. -/
def regE (P : Nat → Int) (n : Int) : Int := if checkE P ≠ 0 then 4 else if n < 0 ∨ P 1 ≤ n then 2 else 0
def regV (P : Nat → Int) (n : Int) : Int := if regE P n = 0 then reg P n else 0

/-- Where the rows of blocks end. -/
def ends (P : Nat → Int) : Nat → Int
  | 0 => 1 | 1 => P 4 | 2 => P 5 | 3 => P 7 | 4 => P 9 | _ => P 11

theorem reg_at {P : Nat → Int} {n : Int} {k : Nat} (hk : k < 6) (h1 : ∀ j, j < k → ends P j ≤ n) (h2 : n < ends P k) : reg P n = (k : Int) := by
  have a0 : 0 < k → 1 ≤ n := fun h => h1 0 h
  have a1 : 1 < k → P 4 ≤ n := fun h => h1 1 h
  have a2 : 2 < k → P 5 ≤ n := fun h => h1 2 h
  have a3 : 3 < k → P 7 ≤ n := fun h => h1 3 h
  have a4 : 4 < k → P 9 ≤ n := fun h => h1 4 h
  have hc : k = 0 ∨ k = 1 ∨ k = 2 ∨ k = 3 ∨ k = 4 ∨ k = 5 := by omega
  unfold reg
  rcases hc with rfl | rfl | rfl | rfl | rfl | rfl <;> simp only [ends] at h2 <;> (repeat' split) <;> omega

theorem reg_end {P : Nat → Int} {n : Int} (h1 : ∀ j, j < 6 → ends P j ≤ n) : reg P n = 6 := by
  have a0 : 1 ≤ n := h1 0 (by omega)
  have a1 : P 4 ≤ n := h1 1 (by omega)
  have a2 : P 5 ≤ n := h1 2 (by omega)
  have a3 : P 7 ≤ n := h1 3 (by omega)
  have a4 : P 9 ≤ n := h1 4 (by omega)
  have a5 : P 11 ≤ n := h1 5 (by omega)
  unfold reg
  (repeat' split) <;> omega

theorem index_46 (a b c d e f : Int) (w : World) : (Instr.index 46 (.agg #[.int .i64 a, .int .i64 b, .int .i64 c, .int .i64 d, .int .i64 e, .int .i64 f]) (.int .i64 0)).run Try.prog w = .ok (.int .i64 a) w ∧ (Instr.index 46 (.agg #[.int .i64 a, .int .i64 b, .int .i64 c, .int .i64 d, .int .i64 e, .int .i64 f]) (.int .i64 1)).run Try.prog w = .ok (.int .i64 b) w ∧ (Instr.index 46 (.agg #[.int .i64 a, .int .i64 b, .int .i64 c, .int .i64 d, .int .i64 e, .int .i64 f]) (.int .i64 2)).run Try.prog w = .ok (.int .i64 c) w ∧ (Instr.index 46 (.agg #[.int .i64 a, .int .i64 b, .int .i64 c, .int .i64 d, .int .i64 e, .int .i64 f]) (.int .i64 3)).run Try.prog w = .ok (.int .i64 d) w ∧ (Instr.index 46 (.agg #[.int .i64 a, .int .i64 b, .int .i64 c, .int .i64 d, .int .i64 e, .int .i64 f]) (.int .i64 4)).run Try.prog w = .ok (.int .i64 e) w ∧ (Instr.index 46 (.agg #[.int .i64 a, .int .i64 b, .int .i64 c, .int .i64 d, .int .i64 e, .int .i64 f]) (.int .i64 5)).run Try.prog w = .ok (.int .i64 f) w :=
  ⟨by kernel_rfl, by kernel_rfl, by kernel_rfl, by kernel_rfl, by kernel_rfl, by kernel_rfl⟩

theorem index_six (P : Nat → Int) (k : Nat) (hk : k < 6) (w : World) : (Instr.index 46 (.agg #[.int .i64 1, .int .i64 (P 4), .int .i64 (P 5), .int .i64 (P 7), .int .i64 (P 9), .int .i64 (P 11)]) (.int .i64 (k : Int))).run Try.prog w = .ok (.int .i64 (ends P k)) w := by
  have h := index_46 1 (P 4) (P 5) (P 7) (P 9) (P 11) w
  have hc : k = 0 ∨ k = 1 ∨ k = 2 ∨ k = 3 ∨ k = 4 ∨ k = 5 := by omega
  rcases hc with rfl | rfl | rfl | rfl | rfl | rfl
  · exact h.1
  · exact h.2.1
  · exact h.2.2.1
  · exact h.2.2.2.1
  · exact h.2.2.2.2.1
  · exact h.2.2.2.2.2

set_option maxRecDepth 10000 in
set_option maxHeartbeats 1000000 in
theorem region_form (P : Nat → Int) (n : Int) (w : World) (h : checkE P ≠ 0) :
    Calls Try.prog 13 #[Pv P, .int .i64 n] w fun r w' => r = .returned (.tuple #[.int .i64 0, .int .i64 4]) ∧ Below w.heap.size w w' := by
  have HC := hide (check_any P)
  have h4 : checkE P = 4 := by have := checkE_two P; omega
  rw [h4] at HC
  clear h h4
  go_enter Try.func13, Try.ntmps13
  go_wp2_with fail
  go_at_call 15
  refine (unhide HC _).mono ?_
  rintro r w1 ⟨rfl, hb⟩
  have HB := hide (((Below.refl w.heap.size w).alloc (Nat.le_refl _) (.cells (Pc P) 24)).trans (hb.mono (by simp)))
  clear hb HC
  go_wp2
  go_ret2
  exact ⟨rfl, unhide HB⟩

set_option maxRecDepth 10000 in
set_option maxHeartbeats 1000000 in
theorem region_low (P : Nat → Int) (n : Int) (w : World) (h : checkE P = 0) (hn : n < 0) :
    Calls Try.prog 13 #[Pv P, .int .i64 n] w fun r w' => r = .returned (.tuple #[.int .i64 0, .int .i64 2]) ∧ Below w.heap.size w w' := by
  have HC := hide (check_any P)
  rw [h] at HC
  clear h
  go_enter Try.func13, Try.ntmps13
  go_wp2_with fail
  go_at_call 15
  refine (unhide HC _).mono ?_
  rintro r w1 ⟨rfl, hb⟩
  have HB := hide (((Below.refl w.heap.size w).alloc (Nat.le_refl _) (.cells (Pc P) 24)).trans (hb.mono (by simp)))
  clear hb HC
  go_wp2
  go_ret2
  exact ⟨rfl, unhide HB⟩

set_option maxRecDepth 10000 in
set_option maxHeartbeats 1000000 in
theorem region_high (P : Nat → Int) (n : Int) (w : World) (h : checkE P = 0) (hn : ¬ n < 0) (hn2 : P 1 ≤ n) :
    Calls Try.prog 13 #[Pv P, .int .i64 n] w fun r w' => r = .returned (.tuple #[.int .i64 0, .int .i64 2]) ∧ Below w.heap.size w w' := by
  have HC := hide (check_any P)
  rw [h] at HC
  clear h
  go_enter Try.func13, Try.ntmps13
  go_wp2_with fail
  go_at_call 15
  refine (unhide HC _).mono ?_
  rintro r w1 ⟨rfl, hb⟩
  have HB := hide (((Below.refl w.heap.size w).alloc (Nat.le_refl _) (.cells (Pc P) 24)).trans (hb.mono (by simp)))
  have f1 := ((R12.new w P).below hb (R12.new w P).lt).cell 1 (by omega)
  clear hb HC
  go_wp2
  go_ret2
  exact ⟨rfl, unhide HB⟩

set_option maxRecDepth 10000 in
set_option maxHeartbeats 1000000 in
theorem region_ok (P : Nat → Int) (n : Int) (w : World) (h : checkE P = 0) (hn : ¬ n < 0) (hn2 : ¬ P 1 ≤ n) :
    Calls Try.prog 13 #[Pv P, .int .i64 n] w fun r w' => r = .returned (.tuple #[.int .i64 (reg P n), .int .i64 0]) ∧ Below w.heap.size w w' := by
  have HC := hide (check_any P)
  rw [h] at HC
  clear h
  go_enter Try.func13, Try.ntmps13
  go_wp2_with fail
  go_at_call 15
  refine (unhide HC _).mono ?_
  rintro r w1 ⟨rfl, hb⟩
  have HB := hide (((Below.refl w.heap.size w).alloc (Nat.le_refl _) (.cells (Pc P) 24)).trans (hb.mono (by simp)))
  have HR := hide ((R12.new w P).below hb (R12.new w P).lt)
  have f1 := (unhide HR).cell 1 (by omega)
  have f4 := (unhide HR).cell 4 (by omega)
  have f5 := (unhide HR).cell 5 (by omega)
  have f7 := (unhide HR).cell 7 (by omega)
  have f9 := (unhide HR).cell 9 (by omega)
  have f11 := (unhide HR).cell 11 (by omega)
  clear hb HC
  go_wp2
  go_loop [32] (fun i => ∃ k : Nat, k ≤ 6 ∧ i = .int .i64 (k : Int) ∧ Hid (∀ j, j < k → ends P j ≤ n)) (fun i => 6 - (intOf i).toNat)
  case atStart => exact ⟨0, by omega, rfl, fun j hj => by omega⟩
  case round =>
    obtain ⟨k, hk, rfl, hH⟩ := hrel
    by_cases hlt : k < 6
    · have ix := index_six P k hlt
      have i2 : (k : Int) < 6 := by omega
      obtain ⟨s, hs⟩ : ∃ s, ends P k = s := ⟨_, rfl⟩
      rw [hs] at ix
      have HS := hide hs
      clear hs
      by_cases hc : n < s
      · go_wp2
        go_ret2
        exact ⟨ret_two (by rw [reg_at hlt (unhide hH) (by rw [unhide HS]; exact hc)]) rfl, (unhide HB).alloc (unhide HB).size _⟩
      · go_wp2
        refine ⟨⟨k + 1, by omega, by go_num, fun j hj => ?_⟩, by simp [intOf]; omega⟩
        by_cases hjk : j = k
        · rw [hjk, unhide HS]; omega
        · exact unhide hH j (by omega)
    · obtain rfl : k = 6 := by omega
      go_wp2
      go_ret2
      exact ⟨ret_two (reg_end (unhide hH)).symm rfl, (unhide HB).alloc (unhide HB).size _⟩

theorem region_any (P : Nat → Int) (n : Int) (w : World) :
    Calls Try.prog 13 #[Pv P, .int .i64 n] w fun r w' => r = .returned (.tuple #[.int .i64 (regV P n), .int .i64 (regE P n)]) ∧ Below w.heap.size w w' := by
  by_cases h : checkE P = 0
  · by_cases h1 : n < 0
    · have e : regE P n = 2 := by rw [regE, if_neg (by omega), if_pos (.inl h1)]
      rw [regV, e, if_neg (by omega)]
      exact region_low P n w h h1
    · by_cases h2 : P 1 ≤ n
      · have e : regE P n = 2 := by rw [regE, if_neg (by omega), if_pos (.inr h2)]
        rw [regV, e, if_neg (by omega)]
        exact region_high P n w h h1 h2
      · have e : regE P n = 0 := by rw [regE, if_neg (by omega), if_neg (by omega)]
        rw [regV, e, if_pos rfl]
        exact region_ok P n w h h1 h2
  · have e : regE P n = 4 := by rw [regE, if_pos h]
    rw [regV, e, if_neg (by omega)]
    exact region_form P n w h

end Go.Proofs.Ytielammfimeedaa
