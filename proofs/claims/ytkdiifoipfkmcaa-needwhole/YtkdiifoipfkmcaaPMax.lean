/- The greatest file of a plan. -/
import Derived.Test.YtkdiifoipfkmcaaPKeep
import Derived.Test.YtkdiifoipfkmcaaPSound
namespace Go.Proofs.Ytkdiifoipfkmcaa
open Go.RowKit Go.Shelf
set_option linter.unusedVariables false

theorem per_below (P : Nat → Int) (w : World) (p : Int) (h : 64 ≤ P 0 ∧ P 0 ≤ 4096) (hp : P 0 / 2 = p) :
    Calls Try.prog 38 #[Pv P] w fun e w' => e = .returned (.int .i64 p) ∧ Below w.heap.size w w' := by
  subst hp
  refine (per_any P w h).mono ?_
  rintro e w' ⟨rfl, rfl⟩
  exact ⟨rfl, (Below.refl _ _).alloc (Nat.le_refl _) _⟩

theorem ret_one {a b : Int} (h : a = b) : Ending.returned (.int .i64 a) = .returned (.int .i64 b) := by rw [h]

/-- How many blocks a file has at most. -/
def mfb (P : Nat → Int) : Int := min (524288 / P 0) (8 + P 0 / 2 + P 0 / 2 * (P 0 / 2))

theorem mfb_cases {P : Nat → Int} (h : isSize (P 0)) : (P 0 = 64 ∧ mfb P = 1064) ∨ (P 0 = 128 ∧ mfb P = 4096) ∨ (P 0 = 256 ∧ mfb P = 2048) ∨ (P 0 = 512 ∧ mfb P = 1024) ∨ (P 0 = 1024 ∧ mfb P = 512) ∨ (P 0 = 2048 ∧ mfb P = 256) ∨ (P 0 = 4096 ∧ mfb P = 128) := by
  unfold isSize at h
  unfold mfb
  rcases h with h | h | h | h | h | h | h <;> rw [h] <;> simp <;> decide

set_option maxRecDepth 10000 in
set_option maxHeartbeats 1000000 in
theorem maxFileBlocks_any (P : Nat → Int) (w : World) (h : isSize (P 0)) :
    Calls Try.prog 29 #[Pv P] w fun r w' => r = .returned (.int .i64 (mfb P)) ∧ Below w.heap.size w w' := by
  obtain ⟨p, hp⟩ : ∃ p, P 0 / 2 = p := ⟨_, rfl⟩
  have hb := size_bd h
  have hb2 : 32 ≤ p ∧ p ≤ 2048 := by omega
  have H1 := hide (fun u => per_below P u p hb hp)
  obtain ⟨s, hs⟩ : ∃ s, p * p = s := ⟨_, rfl⟩
  have hs2 : 0 ≤ s ∧ s ≤ 4194304 := by
    have a : p * p ≤ 2048 * p := Int.mul_le_mul_of_nonneg_right (by omega) (by omega)
    have b : 0 ≤ p * p := Int.mul_nonneg (by omega) (by omega)
    omega
  have q1 : IntKind.i64.wrap (p * p) = s := by rw [hs, IntKind.wrap_i64]; omega
  have HM : Hid (mfb P = min (524288 / P 0) (8 + p + s)) := by rw [mfb, hp, hs]; exact hide rfl
  clear hp hs h
  have HK := hide (Kp.start w P)
  go_enter Try.func29, Try.ntmps29
  go_wp2_with fail
  go_at_call 38
  refine (unhide H1 _).mono ?_
  rintro r w1 ⟨rfl, hx⟩
  replace HK := hide ((unhide HK).call hx)
  clear hx H1
  have f0 := (unhide HK).1.cell 0 (by omega)
  go_wp2
  all_goals
    go_ret
    exact ⟨ret_one (by rw [unhide HM]; omega), (unhide HK).2⟩

theorem mfb_bd {P : Nat → Int} (h : isSize (P 0)) : 128 ≤ mfb P ∧ mfb P ≤ 4096 := by
  have := mfb_cases h
  omega

theorem msz_bd {P : Nat → Int} (h : isSize (P 0)) : 0 ≤ P 0 * mfb P ∧ P 0 * mfb P ≤ 524288 := by
  rcases mfb_cases h with ⟨a, b⟩ | ⟨a, b⟩ | ⟨a, b⟩ | ⟨a, b⟩ | ⟨a, b⟩ | ⟨a, b⟩ | ⟨a, b⟩ <;> rw [a, b] <;> omega

/-- What MaxSize answers. -/
def msV (P : Nat → Int) : Int := if checkE P = 0 then P 0 * mfb P else 0

set_option maxRecDepth 10000 in
set_option maxHeartbeats 1000000 in
theorem maxSize_form (P : Nat → Int) (w : World) (h : checkE P ≠ 0) :
    Calls Try.prog 21 #[Pv P] w fun r w' => r = .returned (.tuple #[.int .i64 0, .int .i64 4]) ∧ Below w.heap.size w w' := by
  have HC := hide (check_any P)
  have h4 : checkE P = 4 := by have := checkE_two P; omega
  rw [h4] at HC
  clear h h4
  have HK := hide (Kp.start w P)
  go_enter Try.func21, Try.ntmps21
  go_wp2_with fail
  go_at_call 23
  refine (unhide HC _).mono ?_
  rintro r w1 ⟨rfl, hb⟩
  replace HK := hide ((unhide HK).call hb)
  clear hb HC
  go_wp2
  go_ret2
  exact ⟨rfl, (unhide HK).2⟩

set_option maxRecDepth 10000 in
set_option maxHeartbeats 1000000 in
theorem maxSize_ok (P : Nat → Int) (w : World) (h : checkE P = 0) :
    Calls Try.prog 21 #[Pv P] w fun r w' => r = .returned (.tuple #[.int .i64 (P 0 * mfb P), .int .i64 0]) ∧ Below w.heap.size w w' := by
  have HC := hide (check_any P)
  rw [h] at HC
  have H1 := hide (fun u => maxFileBlocks_any P u (sound h).size)
  have hm := msz_bd (sound h).size
  generalize mfb P = m at *
  obtain ⟨s, hs⟩ : ∃ s, P 0 * m = s := ⟨_, rfl⟩
  rw [hs] at hm
  have q1 : IntKind.i64.wrap (P 0 * m) = s := by rw [hs, IntKind.wrap_i64]; omega
  have HS := hide hs
  rw [hs]
  clear h hs
  have HK := hide (Kp.start w P)
  go_enter Try.func21, Try.ntmps21
  go_wp2_with fail
  go_at_call 23
  refine (unhide HC _).mono ?_
  rintro r w1 ⟨rfl, hb⟩
  replace HK := hide ((unhide HK).call hb)
  clear hb HC
  obtain ⟨f0, f1, f2, f3, f4, f5, f6, f7, f8, f9, f10, f11⟩ := (unhide HK).cells
  go_wp2
  go_region_held3 (fun u => Hid (Kp w P u) ∧ u.cell? ⟨w.heap.size, 0, none⟩ = some (.int .i64 (P 0)) ∧ u.cell? ⟨w.heap.size, 1, none⟩ = some (.int .i64 (P 1)) ∧ u.cell? ⟨w.heap.size, 2, none⟩ = some (.int .i64 (P 2)) ∧ u.cell? ⟨w.heap.size, 3, none⟩ = some (.int .i64 (P 3)) ∧ u.cell? ⟨w.heap.size, 4, none⟩ = some (.int .i64 (P 4)) ∧ u.cell? ⟨w.heap.size, 5, none⟩ = some (.int .i64 (P 5)) ∧ u.cell? ⟨w.heap.size, 6, none⟩ = some (.int .i64 (P 6)) ∧ u.cell? ⟨w.heap.size, 7, none⟩ = some (.int .i64 (P 7)) ∧ u.cell? ⟨w.heap.size, 8, none⟩ = some (.int .i64 (P 8)) ∧ u.cell? ⟨w.heap.size, 9, none⟩ = some (.int .i64 (P 9)) ∧ u.cell? ⟨w.heap.size, 10, none⟩ = some (.int .i64 (P 10)) ∧ u.cell? ⟨w.heap.size, 11, none⟩ = some (.int .i64 (P 11)))
    (with_reducible (first | exact (unhide HK).drew.js | exact (unhide J1).js | exact (unhide HK).js))
    ((go_at_call 29; refine (unhide H1 _).mono ?_; rintro e w6 ⟨rfl, hb⟩; have J1 : Hid (Kp w P w6) := Kp.call (unhide (‹Hid (Kp w P _) ∧ _›).1) hb; clear hb))
  all_goals
    have jj := unhide (‹Hid (Kp w P _) ∧ _›).1
    go_wp2
    go_ret2
    exact ⟨rfl, jj.2⟩

theorem maxSize_any (P : Nat → Int) (w : World) :
    Calls Try.prog 21 #[Pv P] w fun r w' => r = .returned (.tuple #[.int .i64 (msV P), .int .i64 (checkE P)]) ∧ Below w.heap.size w w' := by
  by_cases h : checkE P = 0
  · rw [msV, if_pos h, h]
    exact maxSize_ok P w h
  · have h4 : checkE P = 4 := by have := checkE_two P; omega
    rw [msV, if_neg h, h4]
    exact maxSize_form P w h

set_option maxRecDepth 10000 in
set_option maxHeartbeats 1000000 in
theorem refMaxSize_form (P : Nat → Int) (w : World) (h : checkE P ≠ 0) :
    Calls Try.prog 22 #[Pv P] w fun r w' => r = .returned (.tuple #[.int .i64 0, .int .i64 4]) ∧ Below w.heap.size w w' := by
  have HC := hide (refCheck_any P)
  have h4 : checkE P = 4 := by have := checkE_two P; omega
  rw [h4] at HC
  clear h h4
  have HK := hide (Kp.start w P)
  go_enter Try.func22, Try.ntmps22
  go_wp2_with fail
  go_at_call 24
  refine (unhide HC _).mono ?_
  rintro r w1 ⟨rfl, hb⟩
  replace HK := hide ((unhide HK).call hb)
  clear hb HC
  go_wp2
  go_ret2
  exact ⟨rfl, (unhide HK).2⟩

theorem ref_max {P : Nat → Int} (h : isSize (P 0)) : (0 ≤ P 0 / 2 * (P 0 / 2) ∧ P 0 / 2 * (P 0 / 2) ≤ 4194304) ∧ (0 ≤ P 0 * (8 + P 0 / 2 + P 0 / 2 * (P 0 / 2)) ∧ P 0 * (8 + P 0 / 2 + P 0 / 2 * (P 0 / 2)) ≤ 17188290560) ∧ P 0 * mfb P = min (P 0 * (8 + P 0 / 2 + P 0 / 2 * (P 0 / 2))) 524288 := by
  rcases mfb_cases h with ⟨a, b⟩ | ⟨a, b⟩ | ⟨a, b⟩ | ⟨a, b⟩ | ⟨a, b⟩ | ⟨a, b⟩ | ⟨a, b⟩ <;> rw [a, b] <;> decide

set_option maxRecDepth 10000 in
set_option maxHeartbeats 1000000 in
theorem refMaxSize_ok (P : Nat → Int) (w : World) (h : checkE P = 0) :
    Calls Try.prog 22 #[Pv P] w fun r w' => r = .returned (.tuple #[.int .i64 (P 0 * mfb P), .int .i64 0]) ∧ Below w.heap.size w w' := by
  have HC := hide (refCheck_any P)
  rw [h] at HC
  have hb := size_bd (sound h).size
  obtain ⟨k1, k2, k3⟩ := ref_max (sound h).size
  rw [k3]
  obtain ⟨p, hp⟩ : ∃ p, P 0 / 2 = p := ⟨_, rfl⟩
  rw [hp] at k1 k2
  rw [hp]
  have hb2 : 32 ≤ p ∧ p ≤ 2048 := by omega
  obtain ⟨s, hs⟩ : ∃ s, p * p = s := ⟨_, rfl⟩
  rw [hs] at k1 k2
  rw [hs]
  have q1 : IntKind.i64.wrap (p * p) = s := by rw [hs, IntKind.wrap_i64]; omega
  obtain ⟨t, ht⟩ : ∃ t, P 0 * (8 + p + s) = t := ⟨_, rfl⟩
  rw [ht] at k2
  rw [ht]
  have q2 : IntKind.i64.wrap (P 0 * (8 + p + s)) = t := by rw [ht, IntKind.wrap_i64]; omega
  have HP := hide hp
  clear h k3 hs ht
  have q3 : P 0 / 2 = p := hp
  have HK := hide (Kp.start w P)
  go_enter Try.func22, Try.ntmps22
  go_wp2_with fail
  go_at_call 24
  refine (unhide HC _).mono ?_
  rintro r w1 ⟨rfl, hx⟩
  replace HK := hide ((unhide HK).call hx)
  clear hx HC
  have f0 := (unhide HK).1.cell 0 (by omega)
  by_cases hg : 524288 < t
  · go_wp2
    go_ret2
    exact ⟨ret_two (by omega) rfl, (unhide HK).2⟩
  · go_wp2
    go_ret2
    exact ⟨ret_two (by omega) rfl, (unhide HK).2⟩

theorem refMaxSize_any (P : Nat → Int) (w : World) :
    Calls Try.prog 22 #[Pv P] w fun r w' => r = .returned (.tuple #[.int .i64 (msV P), .int .i64 (checkE P)]) ∧ Below w.heap.size w w' := by
  by_cases h : checkE P = 0
  · rw [msV, if_pos h, h]
    exact refMaxSize_ok P w h
  · have h4 : checkE P = 4 := by have := checkE_two P; omega
    rw [msV, if_neg h, h4]
    exact refMaxSize_form P w h

end Go.Proofs.Ytkdiifoipfkmcaa
