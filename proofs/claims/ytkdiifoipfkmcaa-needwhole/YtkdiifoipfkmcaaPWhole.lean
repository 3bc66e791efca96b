/- The blocks that a file asks for. -/
import Derived.Test.YtkdiifoipfkmcaaPMax
namespace Go.Proofs.Ytkdiifoipfkmcaa
open Go.RowKit Go.Shelf
set_option linter.unusedVariables false

/-- How many blocks with pointers name that many data blocks. -/
def ptr (P : Nat → Int) (data : Int) : Int := if data ≤ 8 then 0 else if data - 8 ≤ P 0 / 2 then 1 else 2 + cd (data - 8 - P 0 / 2) (P 0 / 2)

theorem cd_top (n e : Int) (hn : 0 ≤ n) (he : 1 ≤ e) : 0 ≤ cd n e ∧ cd n e ≤ n + 1 := by
  unfold cd
  refine ⟨Int.ediv_nonneg (by omega) (by omega), ?_⟩
  have : (n + e - 1) / e < n + 2 := by
    rw [Int.ediv_lt_iff_lt_mul (by omega), Int.add_mul]
    have := Int.mul_le_mul_of_nonneg_left he hn
    omega
  omega

set_option maxRecDepth 10000 in
set_option maxHeartbeats 1000000 in
theorem pointerBlocks_any (P : Nat → Int) (data : Int) (w : World) (h : isSize (P 0)) (hd : 0 ≤ data ∧ data ≤ 1048576) :
    Calls Try.prog 31 #[Pv P, .int .i64 data] w fun r w' => r = .returned (.int .i64 (ptr P data)) ∧ Below w.heap.size w w' := by
  obtain ⟨p, hp⟩ : ∃ p, P 0 / 2 = p := ⟨_, rfl⟩
  have hb := size_bd h
  have hb2 : 32 ≤ p ∧ p ≤ 2048 := by omega
  have H1 := hide (fun u => per_below P u p hb hp)
  have HK := hide (Kp.start w P)
  unfold ptr
  rw [hp]
  clear hp h hb
  by_cases h1 : data ≤ 8
  · rw [if_pos h1]
    go_enter Try.func31, Try.ntmps31
    go_wp2
    go_ret
    exact ⟨rfl, (unhide HK).2⟩
  · rw [if_neg h1]
    by_cases h2 : data - 8 ≤ p
    · rw [if_pos h2]
      go_enter Try.func31, Try.ntmps31
      go_wp2_with fail
      go_at_call 38
      refine (unhide H1 _).mono ?_
      rintro r w1 ⟨rfl, hx⟩
      replace HK := hide ((unhide HK).call hx)
      clear hx H1
      go_wp2
      go_ret
      exact ⟨rfl, (unhide HK).2⟩
    · rw [if_neg h2]
      have h3 := cd_top (data - 8 - p) p (by omega) (by omega)
      obtain ⟨c, hc⟩ : ∃ c, cd (data - 8 - p) p = c := ⟨_, rfl⟩
      rw [hc] at h3
      rw [hc]
      have H2 := hide hc
      clear hc
      go_enter Try.func31, Try.ntmps31
      go_wp2_with fail
      go_at_call 38
      refine (unhide H1 _).mono ?_
      rintro r w1 ⟨rfl, hx⟩
      replace HK := hide ((unhide HK).call hx)
      clear hx
      obtain ⟨f0, f1, f2, f3, f4, f5, f6, f7, f8, f9, f10, f11⟩ := (unhide HK).cells
      go_wp2_with fail
      go_at_call 38
      refine (unhide H1 _).mono ?_
      rintro r w2 ⟨rfl, hx⟩
      replace HK := hide ((unhide HK).call hx)
      clear hx f0 f1 f2 f3 f4 f5 f6 f7 f8 f9 f10 f11
      obtain ⟨f0, f1, f2, f3, f4, f5, f6, f7, f8, f9, f10, f11⟩ := (unhide HK).cells
      go_wp2_with fail
      go_at_call 38
      refine (unhide H1 _).mono ?_
      rintro r w3 ⟨rfl, hx⟩
      replace HK := hide ((unhide HK).call hx)
      clear hx f0 f1 f2 f3 f4 f5 f6 f7 f8 f9 f10 f11
      go_wp2_with fail
      go_at_call 30
      refine (fewest_cd _ _ c (unhide H2) _ (by omega) (by omega)).mono ?_
      rintro r w4 ⟨rfl, rfl⟩
      go_wp2
      go_ret
      exact ⟨rfl, (unhide HK).2⟩

/-- What Whole answers. -/
def whE (P : Nat → Int) (n : Int) : Int := if checkE P ≠ 0 then 4 else if n < 0 ∨ P 0 * mfb P < n then 2 else 0
def whD (P : Nat → Int) (n : Int) : Int := if whE P n = 0 then cd n (P 0) else 0
def whP (P : Nat → Int) (n : Int) : Int := if whE P n = 0 then ptr P (cd n (P 0)) else 0

set_option maxRecDepth 10000 in
set_option maxHeartbeats 1000000 in
theorem whole_form (P : Nat → Int) (n : Int) (w : World) (h : checkE P ≠ 0) :
    Calls Try.prog 18 #[Pv P, .int .i64 n] w fun r w' => r = .returned (.tuple #[.int .i64 0, .int .i64 0, .int .i64 4]) ∧ Below w.heap.size w w' := by
  have HC := hide (check_any P)
  have h4 : checkE P = 4 := by have := checkE_two P; omega
  rw [h4] at HC
  clear h h4
  have HK := hide (Kp.start w P)
  go_enter Try.func18, Try.ntmps18
  go_wp2_with fail
  go_at_call 23
  refine (unhide HC _).mono ?_
  rintro r w1 ⟨rfl, hb⟩
  replace HK := hide ((unhide HK).call hb)
  clear hb HC
  go_wp2
  go_ret3
  exact ⟨rfl, (unhide HK).2⟩

set_option maxRecDepth 10000 in
set_option maxHeartbeats 1000000 in
theorem whole_low (P : Nat → Int) (n : Int) (w : World) (h : checkE P = 0) (hn : n < 0) :
    Calls Try.prog 18 #[Pv P, .int .i64 n] w fun r w' => r = .returned (.tuple #[.int .i64 0, .int .i64 0, .int .i64 2]) ∧ Below w.heap.size w w' := by
  have HC := hide (check_any P)
  rw [h] at HC
  clear h
  have hd : decide (n < 0) = true := decide_eq_true hn
  have HK := hide (Kp.start w P)
  go_enter Try.func18, Try.ntmps18
  go_wp2_with fail
  go_at_call 23
  refine (unhide HC _).mono ?_
  rintro r w1 ⟨rfl, hb⟩
  replace HK := hide ((unhide HK).call hb)
  clear hb HC
  go_wp2
  go_quiet (fail)
  go_wp2
  go_ret3
  exact ⟨rfl, below_drewN (unhide HK).2 _⟩

set_option maxRecDepth 10000 in
set_option maxHeartbeats 2000000 in
theorem whole_high (P : Nat → Int) (n : Int) (w : World) (h : checkE P = 0) (hn : ¬ n < 0) (hn2 : P 0 * mfb P < n) :
    Calls Try.prog 18 #[Pv P, .int .i64 n] w fun r w' => r = .returned (.tuple #[.int .i64 0, .int .i64 0, .int .i64 2]) ∧ Below w.heap.size w w' := by
  have HC := hide (check_any P)
  rw [h] at HC
  have H1 := hide (fun u => maxFileBlocks_any P u (sound h).size)
  have hm := msz_bd (sound h).size
  generalize mfb P = m at *
  obtain ⟨s, hs⟩ : ∃ s, P 0 * m = s := ⟨_, rfl⟩
  rw [hs] at hm hn2
  have q1 : IntKind.i64.wrap (P 0 * m) = s := by rw [hs, IntKind.wrap_i64]; omega
  clear h hs
  have hd : decide (n < 0) = false := decide_eq_false hn
  have HK := hide (Kp.start w P)
  go_enter Try.func18, Try.ntmps18
  go_wp2_with fail
  go_at_call 23
  refine (unhide HC _).mono ?_
  rintro r w1 ⟨rfl, hb⟩
  replace HK := hide ((unhide HK).call hb)
  clear hb HC
  obtain ⟨f0, f1, f2, f3, f4, f5, f6, f7, f8, f9, f10, f11⟩ := (unhide HK).cells
  go_wp2
  go_region_held3 (fun u => Hid (Kp w P u) ∧ u.cell? ⟨w.heap.size, 0, none⟩ = some (.int .i64 (P 0)) ∧ u.cell? ⟨w.heap.size, 1, none⟩ = some (.int .i64 (P 1)) ∧ u.cell? ⟨w.heap.size, 2, none⟩ = some (.int .i64 (P 2)) ∧ u.cell? ⟨w.heap.size, 3, none⟩ = some (.int .i64 (P 3)) ∧ u.cell? ⟨w.heap.size, 4, none⟩ = some (.int .i64 (P 4)) ∧ u.cell? ⟨w.heap.size, 5, none⟩ = some (.int .i64 (P 5)) ∧ u.cell? ⟨w.heap.size, 6, none⟩ = some (.int .i64 (P 6)) ∧ u.cell? ⟨w.heap.size, 7, none⟩ = some (.int .i64 (P 7)) ∧ u.cell? ⟨w.heap.size, 8, none⟩ = some (.int .i64 (P 8)) ∧ u.cell? ⟨w.heap.size, 9, none⟩ = some (.int .i64 (P 9)) ∧ u.cell? ⟨w.heap.size, 10, none⟩ = some (.int .i64 (P 10)) ∧ u.cell? ⟨w.heap.size, 11, none⟩ = some (.int .i64 (P 11)))
    (with_reducible (first | exact (unhide HK).drew.js | exact (unhide J1).js | exact (unhide HK).js))
    ((go_at_call 29; refine (unhide H1 _).mono ?_; rintro e w6 ⟨rfl, hb⟩; have J1 : Hid (Kp w P w6) := Kp.call (unhide (‹Hid (Kp w P _) ∧ _›).1) hb; clear hb))
  all_goals
    have jj := unhide (‹Hid (Kp w P _) ∧ _›).1
    go_wp2
    go_ret3
    exact ⟨rfl, jj.2⟩

set_option maxRecDepth 10000 in
set_option maxHeartbeats 4000000 in
theorem whole_ok (P : Nat → Int) (n : Int) (w : World) (h : checkE P = 0) (hn : ¬ n < 0) (hn2 : ¬ P 0 * mfb P < n) :
    Calls Try.prog 18 #[Pv P, .int .i64 n] w fun r w' => r = .returned (.tuple #[.int .i64 (cd n (P 0)), .int .i64 (ptr P (cd n (P 0))), .int .i64 0]) ∧ Below w.heap.size w w' := by
  have HC := hide (check_any P)
  rw [h] at HC
  have H1 := hide (fun u => maxFileBlocks_any P u (sound h).size)
  have hm := msz_bd (sound h).size
  have hz := (sound h).bd.1
  generalize mfb P = m at *
  obtain ⟨s, hs⟩ : ∃ s, P 0 * m = s := ⟨_, rfl⟩
  rw [hs] at hm hn2
  have q1 : IntKind.i64.wrap (P 0 * m) = s := by rw [hs, IntKind.wrap_i64]; omega
  have ht := cd_top n (P 0) (by omega) (by omega)
  obtain ⟨c, hc⟩ : ∃ c, cd n (P 0) = c := ⟨_, rfl⟩
  rw [hc] at ht
  rw [hc]
  have H2 := hide hc
  have H3 := hide (fun u => pointerBlocks_any P c u (sound h).size (by omega))
  generalize ptr P c = y at *
  clear h hs hc
  have hd : decide (n < 0) = false := decide_eq_false hn
  have HK := hide (Kp.start w P)
  go_enter Try.func18, Try.ntmps18
  go_wp2_with fail
  go_at_call 23
  refine (unhide HC _).mono ?_
  rintro r w1 ⟨rfl, hb⟩
  replace HK := hide ((unhide HK).call hb)
  clear hb HC
  obtain ⟨f0, f1, f2, f3, f4, f5, f6, f7, f8, f9, f10, f11⟩ := (unhide HK).cells
  go_wp2
  go_cut [20] (fun c wx => c = .bool false ∧ Hid (Kp w P wx))
  case first =>
    go_region_held3 (fun u => Hid (Kp w P u) ∧ u.cell? ⟨w.heap.size, 0, none⟩ = some (.int .i64 (P 0)) ∧ u.cell? ⟨w.heap.size, 1, none⟩ = some (.int .i64 (P 1)) ∧ u.cell? ⟨w.heap.size, 2, none⟩ = some (.int .i64 (P 2)) ∧ u.cell? ⟨w.heap.size, 3, none⟩ = some (.int .i64 (P 3)) ∧ u.cell? ⟨w.heap.size, 4, none⟩ = some (.int .i64 (P 4)) ∧ u.cell? ⟨w.heap.size, 5, none⟩ = some (.int .i64 (P 5)) ∧ u.cell? ⟨w.heap.size, 6, none⟩ = some (.int .i64 (P 6)) ∧ u.cell? ⟨w.heap.size, 7, none⟩ = some (.int .i64 (P 7)) ∧ u.cell? ⟨w.heap.size, 8, none⟩ = some (.int .i64 (P 8)) ∧ u.cell? ⟨w.heap.size, 9, none⟩ = some (.int .i64 (P 9)) ∧ u.cell? ⟨w.heap.size, 10, none⟩ = some (.int .i64 (P 10)) ∧ u.cell? ⟨w.heap.size, 11, none⟩ = some (.int .i64 (P 11)))
      (with_reducible (first | exact (unhide HK).drew.js | exact (unhide J1).js | exact (unhide HK).js))
      ((go_at_call 29; refine (unhide H1 _).mono ?_; rintro e w6 ⟨rfl, hb⟩; have J1 : Hid (Kp w P w6) := Kp.call (unhide (‹Hid (Kp w P _) ∧ _›).1) hb; clear hb))
    all_goals
      have jj := (‹Hid (Kp w P _) ∧ _›).1
      go_wp2_with fail
      go_meet
      exact ⟨by simp; omega, jj⟩
  case rest =>
    obtain ⟨rfl, hJ⟩ := hcut
    clear HK f0 f1 f2 f3 f4 f5 f6 f7 f8 f9 f10 f11
    obtain ⟨f0, f1, f2, f3, f4, f5, f6, f7, f8, f9, f10, f11⟩ := (unhide hJ).cells
    go_wp2_with fail
    go_at_call 30
    refine (fewest_cd _ _ c (unhide H2) _ (by omega) (by omega)).mono ?_
    rintro r w4 ⟨rfl, rfl⟩
    go_wp2_with fail
    go_at_call 31
    refine (unhide H3 _).mono ?_
    rintro r w5 ⟨rfl, hb⟩
    replace hJ := hide ((unhide hJ).call hb)
    clear hb f0 f1 f2 f3 f4 f5 f6 f7 f8 f9 f10 f11
    go_wp2
    go_ret3
    exact ⟨rfl, (unhide hJ).2⟩

theorem whole_any (P : Nat → Int) (n : Int) (w : World) :
    Calls Try.prog 18 #[Pv P, .int .i64 n] w fun r w' => r = .returned (.tuple #[.int .i64 (whD P n), .int .i64 (whP P n), .int .i64 (whE P n)]) ∧ Below w.heap.size w w' := by
  by_cases h : checkE P = 0
  · by_cases h1 : n < 0
    · have e : whE P n = 2 := by rw [whE, if_neg (by omega), if_pos (.inl h1)]
      rw [whD, whP, e, if_neg (by omega), if_neg (by omega)]
      exact whole_low P n w h h1
    · by_cases h2 : P 0 * mfb P < n
      · have e : whE P n = 2 := by rw [whE, if_neg (by omega), if_pos (.inr h2)]
        rw [whD, whP, e, if_neg (by omega), if_neg (by omega)]
        exact whole_high P n w h h1 h2
      · have e : whE P n = 0 := by rw [whE, if_neg (by omega), if_neg (by omega)]
        rw [whD, whP, e, if_pos rfl, if_pos rfl]
        exact whole_ok P n w h h1 h2
  · have e : whE P n = 4 := by rw [whE, if_pos h]
    rw [whD, whP, e, if_neg (by omega), if_neg (by omega)]
    exact whole_form P n w h

end Go.Proofs.Ytkdiifoipfkmcaa
