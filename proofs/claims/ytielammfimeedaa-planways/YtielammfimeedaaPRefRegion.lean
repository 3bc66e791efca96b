/- The contract of the reference's Region. -/
import Derived.Test.YtielammfimeedaaPRegion
namespace Go.Proofs.Ytielammfimeedaa
open Go.RowKit Go.Shelf
set_option linter.unusedVariables false

/-- Where the rows of blocks begin. -/
def begins (P : Nat → Int) : Nat → Int
  | 0 => 0 | 1 => 1 | 2 => P 4 | 3 => P 5 | 4 => P 7 | 5 => P 9 | _ => P 11

/-- The last of the first k rows that begins at n or ahead of it. -/
def lastOf (P : Nat → Int) (n : Int) : Nat → Int
  | 0 => 0
  | k + 1 => if begins P k ≤ n then (k : Int) else lastOf P n k

theorem lastOf_reg {P : Nat → Int} (h : Sound P) (n : Int) (hn : 0 ≤ n) : lastOf P n 7 = reg P n := by
  have b := h.bd
  have l := h.log
  have h4 := h.p4
  have h5 := h.p5
  have h7 := h.p7
  have h9 := h.p9
  have h11 := h.p11
  simp only [lastOf, begins, reg]
  (repeat' split) <;> omega

abbrev beginCells (P : Nat → Int) : Array Value := #[.int .i64 0, .int .i64 1, .int .i64 (P 4), .int .i64 (P 5), .int .i64 (P 7), .int .i64 (P 9), .int .i64 (P 11)]

theorem begins_cell (P : Nat → Int) (w : World) (k : Nat) (hk : k < 7) : (w.alloc (.cells (beginCells P) 3)).cell? ⟨w.heap.size, k, none⟩ = some (.int .i64 (begins P k)) := by
  have h := heap_alloc_new w (.cells (beginCells P) 3)
  have hc : k = 0 ∨ k = 1 ∨ k = 2 ∨ k = 3 ∨ k = 4 ∨ k = 5 ∨ k = 6 := by omega
  simp only [World.cell?, h]
  rcases hc with rfl | rfl | rfl | rfl | rfl | rfl | rfl <;> rfl

set_option maxRecDepth 10000 in
set_option maxHeartbeats 1000000 in
theorem refRegion_form (P : Nat → Int) (n : Int) (w : World) (h : checkE P ≠ 0) :
    Calls Try.prog 14 #[Pv P, .int .i64 n] w fun r w' => r = .returned (.tuple #[.int .i64 0, .int .i64 4]) ∧ Below w.heap.size w w' := by
  have HC := hide (refCheck_any P)
  have h4 : checkE P = 4 := by have := checkE_two P; omega
  rw [h4] at HC
  clear h h4
  go_enter Try.func14, Try.ntmps14
  go_wp2_with fail
  go_at_call 16
  refine (unhide HC _).mono ?_
  rintro r w1 ⟨rfl, hb⟩
  have HB := hide (((Below.refl w.heap.size w).alloc (Nat.le_refl _) (.cells (Pc P) 24)).trans (hb.mono (by simp)))
  clear hb HC
  go_wp2
  go_ret2
  exact ⟨rfl, unhide HB⟩

set_option maxRecDepth 10000 in
set_option maxHeartbeats 1000000 in
theorem refRegion_low (P : Nat → Int) (n : Int) (w : World) (h : checkE P = 0) (hn : n < 0) :
    Calls Try.prog 14 #[Pv P, .int .i64 n] w fun r w' => r = .returned (.tuple #[.int .i64 0, .int .i64 2]) ∧ Below w.heap.size w w' := by
  have HC := hide (refCheck_any P)
  rw [h] at HC
  clear h
  go_enter Try.func14, Try.ntmps14
  go_wp2_with fail
  go_at_call 16
  refine (unhide HC _).mono ?_
  rintro r w1 ⟨rfl, hb⟩
  have HB := hide (((Below.refl w.heap.size w).alloc (Nat.le_refl _) (.cells (Pc P) 24)).trans (hb.mono (by simp)))
  clear hb HC
  go_wp2
  go_ret2
  exact ⟨rfl, unhide HB⟩

set_option maxRecDepth 10000 in
set_option maxHeartbeats 1000000 in
theorem refRegion_high (P : Nat → Int) (n : Int) (w : World) (h : checkE P = 0) (hn : ¬ n < 0) (hn2 : P 1 ≤ n) :
    Calls Try.prog 14 #[Pv P, .int .i64 n] w fun r w' => r = .returned (.tuple #[.int .i64 0, .int .i64 2]) ∧ Below w.heap.size w w' := by
  have HC := hide (refCheck_any P)
  rw [h] at HC
  clear h
  go_enter Try.func14, Try.ntmps14
  go_wp2_with fail
  go_at_call 16
  refine (unhide HC _).mono ?_
  rintro r w1 ⟨rfl, hb⟩
  have HB := hide (((Below.refl w.heap.size w).alloc (Nat.le_refl _) (.cells (Pc P) 24)).trans (hb.mono (by simp)))
  have f1 := ((R12.new w P).below hb (R12.new w P).lt).cell 1 (by omega)
  clear hb HC
  go_wp2
  go_ret2
  exact ⟨rfl, unhide HB⟩

set_option maxRecDepth 10000 in
set_option maxHeartbeats 1000000 in
theorem refRegion_ok (P : Nat → Int) (n : Int) (w : World) (h : checkE P = 0) (hn : ¬ n < 0) (hn2 : ¬ P 1 ≤ n) :
    Calls Try.prog 14 #[Pv P, .int .i64 n] w fun r w' => r = .returned (.tuple #[.int .i64 (reg P n), .int .i64 0]) ∧ Below w.heap.size w w' := by
  have HC := hide (refCheck_any P)
  rw [h] at HC
  have HS := hide (lastOf_reg (sound h) n (by omega))
  clear h
  go_enter Try.func14, Try.ntmps14
  go_wp2_with fail
  go_at_call 16
  refine (unhide HC _).mono ?_
  rintro r w1 ⟨rfl, hb⟩
  have HB := hide (((Below.refl w.heap.size w).alloc (Nat.le_refl _) (.cells (Pc P) 24)).trans (hb.mono (by simp)))
  have HR := hide ((R12.new w P).below hb (R12.new w P).lt)
  have f1 := (unhide HR).cell 1 (by omega)
  have f4 := (unhide HR).cell 4 (by omega)
  have f5 := (unhide HR).cell 5 (by omega)
  have f7 := (unhide HR).cell 7 (by omega)
  have f9 := (unhide HR).cell 9 (by omega)
  have f11 := (unhide HR).cell 11 (by omega)
  clear hb HC
  go_upto_region 6 with fail
  change Code.wp _ _ _ _ (w1.alloc (.cells (beginCells P) 3))
  have HK := hide (begins_cell P w1)
  replace HB := hide ((unhide HB).alloc (unhide HB).size (.cells (beginCells P) 3))
  generalize w1.alloc (.cells (beginCells P) 3) = wx at *
  clear f1 f4 f5 f7 f9 f11 HR
  go_wp2
  go_loop [7, 8] (fun r i => ∃ k : Nat, k ≤ 7 ∧ i = .int .i64 (k : Int) ∧ r = .int .i64 (lastOf P n k)) (fun _ i => 7 - (intOf i).toNat)
  case atStart => exact ⟨0, by omega, rfl, rfl⟩
  case round =>
    obtain ⟨k, hk, rfl, rfl⟩ := hrel
    by_cases hlt : k < 7
    · have ix := unhide HK k hlt
      have i2 : (k : Int) < 7 := by omega
      obtain ⟨s, hs⟩ : ∃ s, begins P k = s := ⟨_, rfl⟩
      rw [hs] at ix
      have HT := hide hs
      clear hs
      by_cases hc : s ≤ n
      · go_wp2
        refine ⟨⟨k + 1, by omega, by go_num, ?_⟩, by simp [intOf]; omega⟩
        rw [lastOf, unhide HT, if_pos hc]
      · go_wp2
        refine ⟨⟨k + 1, by omega, by go_num, ?_⟩, by simp [intOf]; omega⟩
        rw [lastOf, unhide HT, if_neg (by omega)]
    · obtain rfl : k = 7 := by omega
      rw [unhide HS]
      go_wp2
      go_ret2
      exact ⟨ret_two rfl rfl, unhide HB⟩

theorem refRegion_any (P : Nat → Int) (n : Int) (w : World) :
    Calls Try.prog 14 #[Pv P, .int .i64 n] w fun r w' => r = .returned (.tuple #[.int .i64 (regV P n), .int .i64 (regE P n)]) ∧ Below w.heap.size w w' := by
  by_cases h : checkE P = 0
  · by_cases h1 : n < 0
    · have e : regE P n = 2 := by rw [regE, if_neg (by omega), if_pos (.inl h1)]
      rw [regV, e, if_neg (by omega)]
      exact refRegion_low P n w h h1
    · by_cases h2 : P 1 ≤ n
      · have e : regE P n = 2 := by rw [regE, if_neg (by omega), if_pos (.inr h2)]
        rw [regV, e, if_neg (by omega)]
        exact refRegion_high P n w h h1 h2
      · have e : regE P n = 0 := by rw [regE, if_neg (by omega), if_neg (by omega)]
        rw [regV, e, if_pos rfl]
        exact refRegion_ok P n w h h1 h2
  · have e : regE P n = 4 := by rw [regE, if_pos h]
    rw [regV, e, if_neg (by omega)]
    exact refRegion_form P n w h

end Go.Proofs.Ytielammfimeedaa
