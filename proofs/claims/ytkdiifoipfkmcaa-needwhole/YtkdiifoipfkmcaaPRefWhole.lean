/- The contract of the reference's Whole. -/
import Derived.Test.YtkdiifoipfkmcaaPWhole
namespace Go.Proofs.Ytkdiifoipfkmcaa
open Go.RowKit Go.Shelf
set_option linter.unusedVariables false

set_option maxRecDepth 10000 in
set_option maxHeartbeats 2000000 in
theorem refWhole_form (P : Nat → Int) (n : Int) (w : World) (h : checkE P ≠ 0) :
    Calls Try.prog 19 #[Pv P, .int .i64 n] w fun r w' => r = .returned (.tuple #[.int .i64 0, .int .i64 0, .int .i64 4]) ∧ Below w.heap.size w w' := by
  have HC := hide (fun u => refMaxSize_form P u h)
  clear h
  have HK := hide (Kp.start w P)
  go_enter Try.func19, Try.ntmps19
  go_wp2_with fail
  go_at_call 22
  refine (unhide HC _).mono ?_
  rintro r w1 ⟨rfl, hb⟩
  replace HK := hide ((unhide HK).call hb)
  clear hb HC
  go_wp2
  go_ret3
  exact ⟨rfl, (unhide HK).2⟩

set_option maxRecDepth 10000 in
set_option maxHeartbeats 2000000 in
theorem refWhole_range (P : Nat → Int) (n : Int) (w : World) (h : checkE P = 0) (hn : n < 0 ∨ P 0 * mfb P < n) :
    Calls Try.prog 19 #[Pv P, .int .i64 n] w fun r w' => r = .returned (.tuple #[.int .i64 0, .int .i64 0, .int .i64 2]) ∧ Below w.heap.size w w' := by
  have HC := hide (fun u => refMaxSize_ok P u h)
  generalize P 0 * mfb P = s at *
  have HN := hide hn
  clear h hn
  have HK := hide (Kp.start w P)
  go_enter Try.func19, Try.ntmps19
  go_wp2_with fail
  go_at_call 22
  refine (unhide HC _).mono ?_
  rintro r w1 ⟨rfl, hb⟩
  replace HK := hide ((unhide HK).call hb)
  clear hb HC
  by_cases h1 : n < 0
  · go_wp2
    go_ret3
    exact ⟨rfl, (unhide HK).2⟩
  · have h2 : s < n := by have := unhide HN; omega
    go_wp2
    go_ret3
    exact ⟨rfl, (unhide HK).2⟩

set_option maxRecDepth 10000 in
set_option maxHeartbeats 2000000 in
theorem refWhole_ok (P : Nat → Int) (n : Int) (w : World) (h : checkE P = 0) (hn : ¬ n < 0) (hn2 : ¬ P 0 * mfb P < n) :
    Calls Try.prog 19 #[Pv P, .int .i64 n] w fun r w' => r = .returned (.tuple #[.int .i64 (cd n (P 0)), .int .i64 (ptr P (cd n (P 0))), .int .i64 0]) ∧ Below w.heap.size w w' := by
  have HC := hide (fun u => refMaxSize_ok P u h)
  have hm := msz_bd (sound h).size
  have hz := (sound h).bd.1
  generalize P 0 * mfb P = s at *
  have ht := cd_top n (P 0) (by omega) (by omega)
  obtain ⟨c, hc⟩ : ∃ c, cd n (P 0) = c := ⟨_, rfl⟩
  rw [hc] at ht
  rw [hc]
  have H2 := hide hc
  obtain ⟨p, hp⟩ : ∃ p, P 0 / 2 = p := ⟨_, rfl⟩
  have hb2 : 32 ≤ p ∧ p ≤ 2048 := by omega
  unfold ptr
  rw [hp]
  clear h hc
  have HK := hide (Kp.start w P)
  by_cases h1 : c ≤ 8
  · rw [if_pos h1]
    go_enter Try.func19, Try.ntmps19
    go_wp2_with fail
    go_at_call 22
    refine (unhide HC _).mono ?_
    rintro r w1 ⟨rfl, hb⟩
    replace HK := hide ((unhide HK).call hb)
    clear hb HC
    have f0 := (unhide HK).1.cell 0 (by omega)
    go_wp2_with fail
    go_at_call 32
    refine (blocksFor_cd _ _ c (unhide H2) _ (by omega) (by omega)).mono ?_
    rintro r w4 ⟨rfl, rfl⟩
    go_wp2
    go_ret3
    exact ⟨rfl, (unhide HK).2⟩
  · rw [if_neg h1]
    by_cases h2 : c - 8 ≤ p
    · rw [if_pos h2]
      go_enter Try.func19, Try.ntmps19
      go_wp2_with fail
      go_at_call 22
      refine (unhide HC _).mono ?_
      rintro r w1 ⟨rfl, hb⟩
      replace HK := hide ((unhide HK).call hb)
      clear hb HC
      have f0 := (unhide HK).1.cell 0 (by omega)
      go_wp2_with fail
      go_at_call 32
      refine (blocksFor_cd _ _ c (unhide H2) _ (by omega) (by omega)).mono ?_
      rintro r w4 ⟨rfl, rfl⟩
      go_wp2
      go_ret3
      exact ⟨rfl, (unhide HK).2⟩
    · rw [if_neg h2]
      have h3 := cd_top (c - 8 - p) p (by omega) (by omega)
      obtain ⟨x, hx⟩ : ∃ x, cd (c - 8 - p) p = x := ⟨_, rfl⟩
      rw [hx] at h3
      rw [hx]
      have H3 := hide hx
      clear hx
      go_enter Try.func19, Try.ntmps19
      go_wp2_with fail
      go_at_call 22
      refine (unhide HC _).mono ?_
      rintro r w1 ⟨rfl, hb⟩
      replace HK := hide ((unhide HK).call hb)
      clear hb HC
      have f0 := (unhide HK).1.cell 0 (by omega)
      go_wp2_with fail
      go_at_call 32
      refine (blocksFor_cd _ _ c (unhide H2) _ (by omega) (by omega)).mono ?_
      rintro r w4 ⟨rfl, rfl⟩
      go_wp2_with fail
      go_at_call 32
      refine (blocksFor_cd _ _ x (unhide H3) _ (by omega) (by omega)).mono ?_
      rintro r w5 ⟨rfl, rfl⟩
      go_wp2
      go_ret3
      exact ⟨rfl, (unhide HK).2⟩

theorem refWhole_any (P : Nat → Int) (n : Int) (w : World) :
    Calls Try.prog 19 #[Pv P, .int .i64 n] w fun r w' => r = .returned (.tuple #[.int .i64 (whD P n), .int .i64 (whP P n), .int .i64 (whE P n)]) ∧ Below w.heap.size w w' := by
  by_cases h : checkE P = 0
  · by_cases h1 : n < 0 ∨ P 0 * mfb P < n
    · have e : whE P n = 2 := by rw [whE, if_neg (by omega), if_pos h1]
      rw [whD, whP, e, if_neg (by omega), if_neg (by omega)]
      exact refWhole_range P n w h h1
    · have e : whE P n = 0 := by rw [whE, if_neg (by omega), if_neg h1]
      rw [whD, whP, e, if_pos rfl, if_pos rfl]
      exact refWhole_ok P n w h (fun x => h1 (.inl x)) (fun x => h1 (.inr x))
  · have e : whE P n = 4 := by rw [whE, if_pos h]
    rw [whD, whP, e, if_neg (by omega), if_neg (by omega)]
    exact refWhole_form P n w h

end Go.Proofs.Ytkdiifoipfkmcaa
