/- The contracts of Steps, the reference's too. -/
import Derived.Test.YtielammfimeedaaPSteps
namespace Go.Proofs.Ytielammfimeedaa
open Go.RowKit Go.Shelf
set_option linter.unusedVariables false

theorem in_size {b m i : Int} (hz : 64 ≤ b ∧ b ≤ 4096) (hn : ¬ i < 0) (h : i < m) : i * b < b * m ∧ i < b * m := by
  have h1 : (i + 1) * b ≤ m * b := Int.mul_le_mul_of_nonneg_right (by omega) (by omega)
  have h2 : i * 1 ≤ i * b := Int.mul_le_mul_of_nonneg_left (by omega) (by omega)
  rw [Int.add_mul] at h1
  rw [Int.mul_comm b m]
  omega

theorem out_size {b m i : Int} (hz : 64 ≤ b ∧ b ≤ 4096) (h : m ≤ i) : b * m ≤ i * b := by
  rw [Int.mul_comm b m]
  exact Int.mul_le_mul_of_nonneg_right h (by omega)

theorem steps_any (P : Nat → Int) (i : Int) (w : World) :
    Calls Try.prog 17 #[Pv P, .int .i64 i] w fun r w' => (∃ a n c, r = .returned (.tuple #[.slice a n c, .int .i64 (stE P i)]) ∧ IHas w' a n (stL P i)) ∧ Below w.heap.size w w' := by
  by_cases h : checkE P = 0
  · by_cases h1 : i < 0
    · have e : stE P i = 2 := by rw [stE, if_neg (by omega), if_pos (.inl h1)]
      rw [stL, e, if_neg (by omega)]
      exact steps_low P i w h h1
    · by_cases h2 : mfb P ≤ i
      · have e : stE P i = 2 := by rw [stE, if_neg (by omega), if_pos (.inr h2)]
        rw [stL, e, if_neg (by omega)]
        exact steps_high P i w h h1 h2
      · have e : stE P i = 0 := by rw [stE, if_neg (by omega), if_neg (by omega)]
        rw [stL, e, if_pos rfl, way]
        by_cases h3 : i < 8
        · rw [if_pos h3]
          exact steps_one P i _ w h h1 h2 rfl h3
        · rw [if_neg h3]
          by_cases h4 : i - 8 < P 0 / 2
          · rw [if_pos h4]
            exact steps_two P i _ w h h1 h2 rfl h3 h4
          · rw [if_neg h4]
            exact steps_three P i _ w h h1 h2 rfl h3 h4
  · have e : stE P i = 4 := by rw [stE, if_pos h]
    rw [stL, e, if_neg (by omega)]
    exact steps_form P i w h

set_option maxRecDepth 10000 in
set_option maxHeartbeats 2000000 in
theorem refSteps_form (P : Nat → Int) (i : Int) (w : World) (h : checkE P ≠ 0) :
    Calls Try.prog 18 #[Pv P, .int .i64 i] w fun r w' => (∃ a n c, r = .returned (.tuple #[.slice a n c, .int .i64 4]) ∧ IHas w' a n []) ∧ Below w.heap.size w w' := by
  have HC := hide (fun u => refMaxSize_form P u h)
  clear h
  have HK := hide (Kp.start w P)
  go_enter Try.func18, Try.ntmps18
  go_wp2_with fail
  go_at_call 20
  refine (unhide HC _).mono ?_
  rintro r w1 ⟨rfl, hb⟩
  replace HK := hide ((unhide HK).call hb)
  clear hb HC
  have f0 := (unhide HK).1.cell 0 (by omega)
  go_wp2
  go_ret2
  exact ⟨⟨_, _, _, rfl, ihas_nil _⟩, (unhide HK).2⟩

set_option maxRecDepth 10000 in
set_option maxHeartbeats 2000000 in
theorem refSteps_range (P : Nat → Int) (i : Int) (w : World) (h : checkE P = 0) (hn : i < 0 ∨ mfb P ≤ i) :
    Calls Try.prog 18 #[Pv P, .int .i64 i] w fun r w' => (∃ a n c, r = .returned (.tuple #[.slice a n c, .int .i64 2]) ∧ IHas w' a n []) ∧ Below w.heap.size w w' := by
  have HC := hide (fun u => refMaxSize_ok P u h)
  have hM := msz_bd (sound h).size
  have hz := (sound h).bd.1
  have HO : Hid (i < 0 ∨ P 0 * mfb P ≤ i * P 0) := hn.elim (fun x => .inl x) (fun x => .inr (out_size hz x))
  generalize P 0 * mfb P = s at *
  clear h hn
  have HK := hide (Kp.start w P)
  go_enter Try.func18, Try.ntmps18
  go_wp2_with fail
  go_at_call 20
  refine (unhide HC _).mono ?_
  rintro r w1 ⟨rfl, hb⟩
  replace HK := hide ((unhide HK).call hb)
  clear hb HC
  have f0 := (unhide HK).1.cell 0 (by omega)
  by_cases h1 : i < 0
  · go_wp2
    go_ret2
    exact ⟨⟨_, _, _, rfl, ihas_nil _⟩, (unhide HK).2⟩
  · by_cases h2 : s ≤ i
    · go_wp2
      go_ret2
      exact ⟨⟨_, _, _, rfl, ihas_nil _⟩, (unhide HK).2⟩
    · obtain ⟨t, ht⟩ : ∃ t, i * P 0 = t := ⟨_, rfl⟩
      have h3 : s ≤ t := by have := unhide HO; omega
      have h4 : t ≤ 524288 * 4096 := by
        have a : i * P 0 ≤ 524288 * P 0 := Int.mul_le_mul_of_nonneg_right (by omega) (by omega)
        omega
      have q1 : IntKind.i64.wrap (i * P 0) = t := by rw [ht, IntKind.wrap_i64]; omega
      clear ht h4 HO
      go_wp2
      go_ret2
      exact ⟨⟨_, _, _, rfl, ihas_nil _⟩, (unhide HK).2⟩

set_option maxRecDepth 10000 in
set_option maxHeartbeats 2000000 in
theorem refSteps_one (P : Nat → Int) (i p : Int) (w : World) (h : checkE P = 0) (hn : ¬ i < 0) (hn2 : ¬ mfb P ≤ i) (hp : P 0 / 2 = p) (h8 : i < 8) :
    Calls Try.prog 18 #[Pv P, .int .i64 i] w fun r w' => (∃ a n c, r = .returned (.tuple #[.slice a n c, .int .i64 0]) ∧ IHas w' a n [i]) ∧ Below w.heap.size w w' := by
  have HC := hide (fun u => refMaxSize_ok P u h)
  have hM := msz_bd (sound h).size
  have hz := (sound h).bd.1
  have hm := mfb_bd (sound h).size
  have hS : i * P 0 < P 0 * mfb P ∧ i < P 0 * mfb P := in_size hz hn (by omega)
  have hI : 0 ≤ i * P 0 := Int.mul_nonneg (by omega) (by omega)
  generalize P 0 * mfb P = s at *
  obtain ⟨t, ht⟩ : ∃ t, i * P 0 = t := ⟨_, rfl⟩
  rw [ht] at hS hI
  have q1 : IntKind.i64.wrap (i * P 0) = t := by rw [ht, IntKind.wrap_i64]; omega
  generalize mfb P = m at *
  have hb2 : 32 ≤ p ∧ p ≤ 2048 := by omega
  clear h ht
  have HK := hide (Kp.start w P)
  go_enter Try.func18, Try.ntmps18
  go_wp2_with fail
  go_at_call 20
  refine (unhide HC _).mono ?_
  rintro r w1 ⟨rfl, hb⟩
  replace HK := hide ((unhide HK).call hb)
  clear hb HC
  have f0 := (unhide HK).1.cell 0 (by omega)
  go_wp2
  go_ret2
  exact ⟨⟨_, _, _, rfl, ihas_new1 _ _⟩, (unhide HK).2.alloc (unhide HK).2.size _⟩

set_option maxRecDepth 10000 in
set_option maxHeartbeats 2000000 in
theorem refSteps_two (P : Nat → Int) (i p : Int) (w : World) (h : checkE P = 0) (hn : ¬ i < 0) (hn2 : ¬ mfb P ≤ i) (hp : P 0 / 2 = p) (h8 : ¬ i < 8) (h9 : i - 8 < p) :
    Calls Try.prog 18 #[Pv P, .int .i64 i] w fun r w' => (∃ a n c, r = .returned (.tuple #[.slice a n c, .int .i64 0]) ∧ IHas w' a n [8, i - 8]) ∧ Below w.heap.size w w' := by
  have HC := hide (fun u => refMaxSize_ok P u h)
  have hM := msz_bd (sound h).size
  have hz := (sound h).bd.1
  have hm := mfb_bd (sound h).size
  have hS : i * P 0 < P 0 * mfb P ∧ i < P 0 * mfb P := in_size hz hn (by omega)
  have hI : 0 ≤ i * P 0 := Int.mul_nonneg (by omega) (by omega)
  generalize P 0 * mfb P = s at *
  obtain ⟨t, ht⟩ : ∃ t, i * P 0 = t := ⟨_, rfl⟩
  rw [ht] at hS hI
  have q1 : IntKind.i64.wrap (i * P 0) = t := by rw [ht, IntKind.wrap_i64]; omega
  generalize mfb P = m at *
  have hb2 : 32 ≤ p ∧ p ≤ 2048 := by omega
  clear h ht
  have HK := hide (Kp.start w P)
  go_enter Try.func18, Try.ntmps18
  go_wp2_with fail
  go_at_call 20
  refine (unhide HC _).mono ?_
  rintro r w1 ⟨rfl, hb⟩
  replace HK := hide ((unhide HK).call hb)
  clear hb HC
  have f0 := (unhide HK).1.cell 0 (by omega)
  go_wp2
  go_ret2
  exact ⟨⟨_, _, _, rfl, ihas_new2 _ _ _⟩, (unhide HK).2.alloc (unhide HK).2.size _⟩

set_option maxRecDepth 10000 in
set_option maxHeartbeats 2000000 in
theorem refSteps_three (P : Nat → Int) (i p : Int) (w : World) (h : checkE P = 0) (hn : ¬ i < 0) (hn2 : ¬ mfb P ≤ i) (hp : P 0 / 2 = p) (h8 : ¬ i < 8) (h9 : ¬ i - 8 < p) :
    Calls Try.prog 18 #[Pv P, .int .i64 i] w fun r w' => (∃ a n c, r = .returned (.tuple #[.slice a n c, .int .i64 0]) ∧ IHas w' a n [9, (i - 8 - p) / p, (i - 8 - p) % p]) ∧ Below w.heap.size w w' := by
  have HC := hide (fun u => refMaxSize_ok P u h)
  have hM := msz_bd (sound h).size
  have hz := (sound h).bd.1
  have hm := mfb_bd (sound h).size
  have hS : i * P 0 < P 0 * mfb P ∧ i < P 0 * mfb P := in_size hz hn (by omega)
  have hI : 0 ≤ i * P 0 := Int.mul_nonneg (by omega) (by omega)
  generalize P 0 * mfb P = s at *
  obtain ⟨t, ht⟩ : ∃ t, i * P 0 = t := ⟨_, rfl⟩
  rw [ht] at hS hI
  have q1 : IntKind.i64.wrap (i * P 0) = t := by rw [ht, IntKind.wrap_i64]; omega
  generalize mfb P = m at *
  have hb2 : 32 ≤ p ∧ p ≤ 2048 := by omega
  clear h ht
  obtain ⟨x, hx⟩ : ∃ x, i - 8 - p = x := ⟨_, rfl⟩
  rw [hx]
  obtain ⟨hquo, hrem⟩ := quo_eq x p (by omega) (by omega)
  generalize x / p = q at *
  generalize x % p = y at *
  have hp0 : p ≠ 0 := by omega
  have HX := hide hx
  clear hx
  have HK := hide (Kp.start w P)
  go_enter Try.func18, Try.ntmps18
  go_wp2_with fail
  go_at_call 20
  refine (unhide HC _).mono ?_
  rintro r w1 ⟨rfl, hb⟩
  replace HK := hide ((unhide HK).call hb)
  clear hb HC
  have f0 := (unhide HK).1.cell 0 (by omega)
  go_wp2
  rw [unhide HX]
  go_region
  all_goals
    go_wp2
    go_ret2
    exact ⟨⟨_, _, _, rfl, ihas_new3 _ _ _ _⟩, (unhide HK).2.drew.alloc (unhide HK).2.size _⟩

theorem refSteps_any (P : Nat → Int) (i : Int) (w : World) :
    Calls Try.prog 18 #[Pv P, .int .i64 i] w fun r w' => (∃ a n c, r = .returned (.tuple #[.slice a n c, .int .i64 (stE P i)]) ∧ IHas w' a n (stL P i)) ∧ Below w.heap.size w w' := by
  by_cases h : checkE P = 0
  · by_cases h1 : i < 0 ∨ mfb P ≤ i
    · have e : stE P i = 2 := by rw [stE, if_neg (by omega), if_pos h1]
      rw [stL, e, if_neg (by omega)]
      exact refSteps_range P i w h h1
    · have h2 : ¬ i < 0 := fun x => h1 (.inl x)
      have h3 : ¬ mfb P ≤ i := fun x => h1 (.inr x)
      have e : stE P i = 0 := by rw [stE, if_neg (by omega), if_neg (by omega)]
      rw [stL, e, if_pos rfl, way]
      by_cases h4 : i < 8
      · rw [if_pos h4]
        exact refSteps_one P i _ w h h2 h3 rfl h4
      · rw [if_neg h4]
        by_cases h5 : i - 8 < P 0 / 2
        · rw [if_pos h5]
          exact refSteps_two P i _ w h h2 h3 rfl h4 h5
        · rw [if_neg h5]
          exact refSteps_three P i _ w h h2 h3 rfl h4 h5
  · have e : stE P i = 4 := by rw [stE, if_pos h]
    rw [stL, e, if_neg (by omega)]
    exact refSteps_form P i w h

end Go.Proofs.Ytielammfimeedaa
