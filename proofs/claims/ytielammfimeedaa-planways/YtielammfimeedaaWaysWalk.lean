/- The walk of PlanWays. -/
import Derived.Test.YtielammfimeedaaStepsWalk
namespace Go.Proofs.Ytielammfimeedaa
open Go.RowKit Go.Shelf
set_option linter.unusedVariables false

theorem way_inj {p i j : Int} (hp : 1 ≤ p) (hi : 0 ≤ i) (hj : 0 ≤ j) (h : way p i = way p j) : i = j := by
  unfold way at h
  by_cases a : i < 8
  · by_cases b : j < 8
    · rw [if_pos a, if_pos b] at h
      simpa using h
    · by_cases b2 : j - 8 < p
      · rw [if_pos a, if_neg b, if_pos b2] at h
        simp at h
      · rw [if_pos a, if_neg b, if_neg b2] at h
        simp at h
  · by_cases a2 : i - 8 < p
    · by_cases b : j < 8
      · rw [if_neg a, if_pos a2, if_pos b] at h
        simp at h
      · by_cases b2 : j - 8 < p
        · rw [if_neg a, if_pos a2, if_neg b, if_pos b2] at h
          simp at h
          omega
        · rw [if_neg a, if_pos a2, if_neg b, if_neg b2] at h
          simp at h
    · by_cases b : j < 8
      · rw [if_neg a, if_neg a2, if_pos b] at h
        simp at h
      · by_cases b2 : j - 8 < p
        · rw [if_neg a, if_neg a2, if_neg b, if_pos b2] at h
          simp at h
        · rw [if_neg a, if_neg a2, if_neg b, if_neg b2] at h
          simp only [List.cons.injEq, and_true, true_and] at h
          have x := Int.mul_ediv_add_emod (i - 8 - p) p
          have y := Int.mul_ediv_add_emod (j - 8 - p) p
          rw [h.1, h.2] at x
          omega

theorem cd_next (n e : Int) (hn : 0 ≤ n) (he : 1 ≤ e) : cd n e ≤ cd (n + 1) e ∧ cd (n + 1) e ≤ cd n e + 1 := by
  unfold cd
  constructor
  · exact Int.ediv_le_ediv (by omega) (by omega)
  · have : (n + 1 + e - 1) / e ≤ (n + e - 1 + e) / e := Int.ediv_le_ediv (by omega) (by omega)
    rw [Int.add_ediv_of_dvd_right (Int.dvd_refl e), Int.ediv_self (by omega)] at this
    exact this

theorem cd_one (e : Int) (he : 1 ≤ e) : cd 1 e = 1 := cd_unique he (by omega) (by omega)

theorem ptr_next (P : Nat → Int) (i : Int) (hp : 32 ≤ P 0 / 2) (hi : 0 ≤ i) : ptr P i ≤ ptr P (i + 1) ∧ ptr P (i + 1) ≤ ptr P i + 2 ∧ 0 ≤ ptr P i ∧ ptr P i ≤ i + 3 := by
  unfold ptr
  generalize P 0 / 2 = p at *
  by_cases a : i + 1 ≤ 8
  · rw [if_pos a, if_pos (by omega)]; omega
  · rw [if_neg a]
    by_cases b : i ≤ 8
    · rw [if_pos b, if_pos (by omega)]; omega
    · rw [if_neg b]
      by_cases c : i + 1 - 8 ≤ p
      · rw [if_pos c, if_pos (by omega)]; omega
      · rw [if_neg c]
        by_cases d : i - 8 ≤ p
        · rw [if_pos d]
          have e : i + 1 - 8 - p = 1 := by omega
          rw [e, cd_one p (by omega)]
          omega
        · rw [if_neg d]
          have e : i + 1 - 8 - p = (i - 8 - p) + 1 := by omega
          rw [e]
          have h := cd_next (i - 8 - p) p (by omega) (by omega)
          have g := cd_top (i - 8 - p) p (by omega) (by omega)
          omega

theorem cd_mul (i b : Int) (hb : 1 ≤ b) : cd (i * b) b = i := cd_unique hb (by omega) (by omega)
theorem cd_mul1 (i b : Int) (hb : 2 ≤ b) : cd (i * b + 1) b = i + 1 := cd_unique (by omega) (by rw [Int.add_mul]; omega) (by rw [Int.add_mul]; omega)

theorem stE_zero {P : Nat → Int} {i : Int} (h : stE P i = 0) : checkE P = 0 ∧ 0 ≤ i ∧ i < mfb P ∧ stL P i = way (P 0 / 2) i := by
  have h' := h
  unfold stE at h
  split at h
  · omega
  · split at h
    · omega
    · rename_i a b
      exact ⟨by omega, by omega, by omega, by rw [stL, if_pos h']⟩

theorem stL_bad {P : Nat → Int} {i : Int} (h : stE P i ≠ 0) : stL P i = [] := by rw [stL, if_neg h]

set_option maxRecDepth 10000 in
set_option maxHeartbeats 4000000 in
theorem ways_bad (P : Nat → Int) (i j : Int) (w : World) (h : stE P i ≠ 0 ∨ stE P j ≠ 0) :
    Calls Try.prog 7 #[Pv P, .int .i64 i, .int .i64 j] w fun r w' => r = .returned (.bool true) ∧ Below w.heap.size w w' := by
  have H1 := hide (steps_any P i)
  have H2 := hide (steps_any P j)
  have HI : Hid (stE P i ≠ 0 → stL P i = []) := stL_bad
  have HJ : Hid (stE P j ≠ 0 → stL P j = []) := stL_bad
  have HL : Hid (stE P i = 0 → 1 ≤ (stL P i).length) := fun x => by rw [(stE_zero x).2.2.2]; exact (way_len _ _).1
  have HM := hide (stL_len P i)
  generalize stL P i = L at *
  generalize stE P i = e1 at *
  generalize stL P j = M at *
  generalize stE P j = e2 at *
  have HH := hide h
  clear h
  have HK := hide (Kp.start w P)
  go_enter Try.func7, Try.ntmps7
  go_wp2_with fail
  go_at_call 8
  refine (wakes_any _).mono ?_
  rintro r w1 ⟨rfl, hb⟩
  replace HK := hide ((unhide HK).call hb)
  clear hb
  obtain ⟨f0, f1, f2, f3, f4, f5, f6, f7, f8, f9, f10, f11⟩ := (unhide HK).cells
  go_wp2_with fail
  go_at_call 17
  refine (unhide H1 _).mono ?_
  rintro r w2 ⟨⟨a1, n1, c1, rfl, hX⟩, hb⟩
  have HX := hide hX.1
  clear hX
  replace HK := hide ((unhide HK).call hb)
  clear hb f0 f1 f2 f3 f4 f5 f6 f7 f8 f9 f10 f11
  obtain ⟨f0, f1, f2, f3, f4, f5, f6, f7, f8, f9, f10, f11⟩ := (unhide HK).cells
  go_wp2_with fail
  go_at_call 17
  refine (unhide H2 _).mono ?_
  rintro r w3 ⟨⟨a2, n2, c2, rfl, hY⟩, hb⟩
  have HY := hide hY.1
  clear hY
  replace HK := hide ((unhide HK).call hb)
  clear hb f0 f1 f2 f3 f4 f5 f6 f7 f8 f9 f10 f11
  clear H1 H2
  by_cases h1 : e1 = 0
  · have h2 : e2 ≠ 0 := by have := unhide HH; omega
    obtain rfl : n2 = 0 := by rw [← unhide HY, unhide HJ h2]; rfl
    have h3 : n1 ≠ 0 := by have a := unhide HL h1; have b := unhide HX; omega
    have h4 : (n1 : Int) ≠ 0 := by omega
    subst h1
    clear HX HY HL HJ HI HH
    go_wp2
    go_ret
    exact ⟨rfl, (unhide HK).2⟩
  · obtain rfl : n1 = 0 := by rw [← unhide HX, unhide HI h1]; rfl
    clear HX HY HL HJ HI HH
    go_wp2
    go_ret
    exact ⟨rfl, (unhide HK).2⟩

set_option maxRecDepth 10000 in
set_option maxHeartbeats 4000000 in
theorem ways_ok (P : Nat → Int) (i j : Int) (w : World) (h1 : stE P i = 0) (h2 : stE P j = 0) :
    Calls Try.prog 7 #[Pv P, .int .i64 i, .int .i64 j] w fun r w' => r = .returned (.bool true) ∧ Below w.heap.size w w' := by
  obtain ⟨hC, i0, i1, hW1⟩ := stE_zero h1
  obtain ⟨_, j0, j1, hW2⟩ := stE_zero h2
  have H1 := hide (steps_any P i)
  have H2 := hide (steps_any P j)
  rw [h1, hW1] at H1
  rw [h2, hW2] at H2
  have hz := (sound hC).bd.1
  have hm := mfb_bd (sound hC).size
  have hS := msz_bd (sound hC).size
  have hI := in_size (b := P 0) (m := mfb P) (i := i) hz (by omega) i1
  have hI0 : 0 ≤ i * P 0 := Int.mul_nonneg (by omega) (by omega)
  have H3 := hide (fun u => whole_ok P (i * P 0) u hC (by omega) (by omega))
  have H4 := hide (fun u => whole_ok P (i * P 0 + 1) u hC (by omega) (by omega))
  rw [cd_mul i (P 0) (by omega)] at H3
  rw [cd_mul1 i (P 0) (by omega)] at H4
  have hp := ptr_next P i (by omega) i0
  have HD : Hid (decide (i = j) = decide (way (P 0 / 2) i = way (P 0 / 2) j)) := by
    by_cases e : i = j
    · subst e; simp [Hid]
    · exact hide (by rw [decide_eq_false e, decide_eq_false (fun x => e (way_inj (by omega) i0 j0 x))])
  have HL1 := hide (way_len (P 0 / 2) i)
  have HL2 := hide (way_len (P 0 / 2) j)
  obtain ⟨t, ht⟩ : ∃ t, i * P 0 = t := ⟨_, rfl⟩
  rw [ht] at H3 H4 hI hI0
  have q1 : IntKind.i64.wrap (i * P 0) = t := by rw [ht, IntKind.wrap_i64]; omega
  have hT : 0 ≤ t ∧ t ≤ 524288 := by omega
  generalize way (P 0 / 2) i = L at *
  generalize way (P 0 / 2) j = M at *
  generalize ptr P i = b1 at *
  generalize ptr P (i + 1) = b2 at *
  have hi2 : i ≤ 4096 := by omega
  have hb1 : b1 ≤ 8192 := by omega
  have HP := hide hp
  clear h1 h2 hW1 hW2 hC ht hI hI0 hS hm i1 j1 hp
  have HK := hide (Kp.start w P)
  go_enter Try.func7, Try.ntmps7
  go_wp2_with fail
  go_at_call 8
  refine (wakes_any _).mono ?_
  rintro r w1 ⟨rfl, hb⟩
  replace HK := hide ((unhide HK).call hb)
  clear hb
  obtain ⟨f0, f1, f2, f3, f4, f5, f6, f7, f8, f9, f10, f11⟩ := (unhide HK).cells
  go_wp2_with fail
  go_at_call 17
  refine (unhide H1 _).mono ?_
  rintro r w2 ⟨⟨a1, n1, c1, rfl, hX⟩, hb⟩
  have HX := hide hX
  clear hX
  replace HK := hide ((unhide HK).call hb)
  clear hb f0 f1 f2 f3 f4 f5 f6 f7 f8 f9 f10 f11
  obtain ⟨f0, f1, f2, f3, f4, f5, f6, f7, f8, f9, f10, f11⟩ := (unhide HK).cells
  go_wp2_with fail
  go_at_call 17
  refine (unhide H2 _).mono ?_
  rintro r w3 ⟨⟨a2, n2, c2, rfl, hY⟩, hb⟩
  replace HX := hide ((unhide HX).later hb)
  have HY := hide hY
  clear hY
  replace HK := hide ((unhide HK).call hb)
  clear hb f0 f1 f2 f3 f4 f5 f6 f7 f8 f9 f10 f11
  clear H1 H2
  go_wp2_with fail
  go_at_call 23
  refine (sameInts_any _ _ _ _ _ _ L M _ (unhide HX) (unhide HY) (by rw [← (unhide HX).1]; have := unhide HL1; omega) (by rw [← (unhide HY).1]; have := unhide HL2; omega)).mono ?_
  rintro r w4 ⟨rfl, mm, rfl⟩
  rw [← unhide HD]
  have g1 : (1 : Int) ≤ (n1 : Int) ∧ (n1 : Int) ≤ 3 := by have a := unhide HL1; have b := (unhide HX).1; omega
  replace HK := hide ((unhide HK).drewN mm)
  clear HX HY HL1 HL2 HD
  generalize w3.drewN mm = w5 at *
  obtain ⟨f0, f1, f2, f3, f4, f5, f6, f7, f8, f9, f10, f11⟩ := (unhide HK).cells
  go_wp2_with fail
  go_at_call 21
  refine (unhide H3 _).mono ?_
  rintro r w6 ⟨rfl, hb⟩
  replace HK := hide ((unhide HK).call hb)
  clear hb f0 f1 f2 f3 f4 f5 f6 f7 f8 f9 f10 f11
  obtain ⟨f0, f1, f2, f3, f4, f5, f6, f7, f8, f9, f10, f11⟩ := (unhide HK).cells
  go_wp2_with fail
  go_at_call 21
  refine (unhide H4 _).mono ?_
  rintro r w7 ⟨rfl, hb⟩
  replace HK := hide ((unhide HK).call hb)
  clear hb f0 f1 f2 f3 f4 f5 f6 f7 f8 f9 f10 f11
  clear H3 H4
  have k1 : b1 ≤ b2 := (unhide HP).1
  have k2 : b2 ≤ b1 + 2 := (unhide HP).2.1
  have k3 : 0 ≤ b1 := (unhide HP).2.2.1
  go_wp2
  go_ret
  exact ⟨rfl, (unhide HK).2⟩

theorem ways_walk (P : Nat → Int) (i j : Int) (w : World) :
    Calls Try.prog 7 #[Pv P, .int .i64 i, .int .i64 j] w fun r w' => r = .returned (.bool true) ∧ Below w.heap.size w w' := by
  by_cases h : stE P i ≠ 0 ∨ stE P j ≠ 0
  · exact ways_bad P i j w h
  · exact ways_ok P i j w (Classical.byContradiction fun x => h (.inl x)) (Classical.byContradiction fun x => h (.inr x))

end Go.Proofs.Ytielammfimeedaa
