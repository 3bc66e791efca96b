/- The document's Dir. -/
import Derived.Test.YtkdiifoipfkmcaaNFile
namespace Go.Proofs.Ytkdiifoipfkmcaa
open Go.RowKit Go.Shelf Ieee
set_option linter.unusedVariables false

set_option maxRecDepth 10000 in
set_option maxHeartbeats 1000000 in
theorem rdir_form (P : Nat → Int) (k : Int) (w : World) (h : checkE P ≠ 0) :
    Calls Try.prog 10 #[Pv P, .int .i64 k] w fun e w' => AnsA e 4 0 0 ∧ Below w.heap.size w w' := by
  have H1 := hide (fun w => refMaxSize_form P w h)
  have HK := hide (Kp.start w P)
  clear h
  go_enter Try.func10, Try.ntmps10
  go_wp2_with fail
  go_at_call 22
  refine (unhide H1 _).mono ?_
  rintro r w1 ⟨rfl, hx⟩
  replace HK := hide ((unhide HK).call hx)
  clear hx H1
  go_wp2
  go_ret2
  exact ⟨⟨0, 0, rfl, rd_zero, rd_zero⟩, (unhide HK).2⟩

set_option maxRecDepth 10000 in
set_option maxHeartbeats 1000000 in
theorem rdir_range (P : Nat → Int) (k : Int) (w : World) (h : checkE P = 0) (hk : k < 0 ∨ P 0 * mfb P < k) :
    Calls Try.prog 10 #[Pv P, .int .i64 k] w fun e w' => AnsA e 2 0 0 ∧ Below w.heap.size w w' := by
  have H1 := hide (fun w => refMaxSize_ok P w h)
  have hm := msz_bd (sound h).size
  have HK := hide (Kp.start w P)
  generalize P 0 * mfb P = s at *
  have HN := hide hk
  clear h hk
  by_cases h1 : k < 0
  · go_enter Try.func10, Try.ntmps10
    go_wp2_with fail
    go_at_call 22
    refine (unhide H1 _).mono ?_
    rintro r w1 ⟨rfl, hx⟩
    replace HK := hide ((unhide HK).call hx)
    clear hx H1
    go_wp2
    go_ret2
    exact ⟨⟨0, 0, rfl, rd_zero, rd_zero⟩, (unhide HK).2⟩
  · have h2 : s < k := by have := unhide HN; omega
    clear HN
    go_enter Try.func10, Try.ntmps10
    go_wp2_with fail
    go_at_call 22
    refine (unhide H1 _).mono ?_
    rintro r w1 ⟨rfl, hx⟩
    replace HK := hide ((unhide HK).call hx)
    clear hx H1
    go_wp2
    go_ret2
    exact ⟨⟨0, 0, rfl, rd_zero, rd_zero⟩, (unhide HK).2⟩

theorem cd_up {n b : Int} (hb : 0 < b) : n ≤ cd n b * b ∧ cd n b * b < n + b := by
  unfold cd
  have h1 := Int.emod_add_mul_ediv (n + b - 1) b
  have h2 := Int.emod_nonneg (n + b - 1) (by omega : b ≠ 0)
  have h3 := Int.emod_lt_of_pos (n + b - 1) hb
  rw [Int.mul_comm] at h1
  omega

theorem cd_cd {c b : Int} (hb : 0 < b) : cd (c * b) b = c := by
  have h := cd_up (n := c * b) hb
  obtain ⟨d, hd⟩ : ∃ d, cd (c * b) b = d := ⟨_, rfl⟩
  rw [hd] at h ⊢
  have h1 : c ≤ d := Int.le_of_mul_le_mul_right h.1 hb
  have h2 : d < c + 1 := by
    refine Int.lt_of_mul_lt_mul_right (a := b) ?_ (by omega)
    rw [Int.add_mul]
    omega
  omega

/-- The whole blocks of n bytes: n rounded up. -/
theorem up_least {n b c s : Int} (hb : 0 < b) (hc : cd n b = c) (h1 : n ≤ s) (h2 : s ≤ c * b) (h3 : s % b = 0) : s = c * b := by
  have h := cd_up (n := n) hb
  rw [hc] at h
  obtain ⟨m, hm⟩ : ∃ m, s = m * b := ⟨s / b, by have := Int.emod_add_mul_ediv s b; rw [h3, Int.mul_comm] at this; omega⟩
  subst hm
  have h4 : c - 1 < m := by
    refine Int.lt_of_mul_lt_mul_right (a := b) ?_ (by omega)
    rw [Int.sub_mul]
    omega
  have h5 : m ≤ c := Int.le_of_mul_le_mul_right h2 hb
  have : m = c := by omega
  rw [this]

theorem size16 {b : Int} (h : isSize b) : b % 16 = 0 := by unfold isSize at h; omega

theorem mul16 {c b : Int} (h : b % 16 = 0) : (c * b) % 16 = 0 := by
  rw [Int.mul_emod, h]; simp

/-- What the rounded bytes need is what the bytes need. -/
theorem up_same {P : Nat → Int} {k : Int} (h : checkE P = 0) (hk : 0 ≤ k) :
    whE P (cd (k * 16) (P 0) * P 0) = drE P k ∧ flB P (cd (k * 16) (P 0) * P 0) = drB P k ∧ flI P (cd (k * 16) (P 0) * P 0) = drI P k := by
  have hs := (sound h).size
  have hb := size_bd hs
  have hu := cd_up (n := k * 16) (b := P 0) (by omega)
  have hle : cd (k * 16) (P 0) * P 0 ≤ P 0 * mfb P ↔ k * 16 ≤ P 0 * mfb P := by
    constructor
    · intro x; omega
    · intro x
      have h1 : cd (k * 16) (P 0) - 1 < mfb P := by
        refine Int.lt_of_mul_lt_mul_right (a := P 0) ?_ (by omega)
        rw [Int.sub_mul, Int.mul_comm (mfb P)]
        omega
      have h2 : cd (k * 16) (P 0) * P 0 ≤ mfb P * P 0 := Int.mul_le_mul_of_nonneg_right (by omega) (by omega)
      rw [Int.mul_comm (P 0)]
      exact h2
  have e1 : whE P (cd (k * 16) (P 0) * P 0) = drE P k := by
    unfold whE drE
    rw [if_neg (show ¬ checkE P ≠ 0 by omega), if_neg (show ¬ checkE P ≠ 0 by omega)]
    by_cases hm : k * 16 ≤ P 0 * mfb P
    · have := hle.2 hm
      rw [if_neg (by omega), if_neg (by omega)]
    · have h3 : ¬ cd (k * 16) (P 0) * P 0 ≤ P 0 * mfb P := fun x => hm (hle.1 x)
      rw [if_pos (by omega), if_pos (by omega)]
  refine ⟨e1, ?_, ?_⟩
  · by_cases h0 : drE P k = 0
    · have h4 := (drE_ok h0).2.2.2
      unfold drB flB whD whP
      rw [if_pos h0, e1, if_pos h0, if_pos h0, if_pos h4, if_pos h4, cd_cd (by omega)]
    · rw [(drB_bad h0).1, (flB_bad (by rw [e1]; exact h0)).1]
  · unfold flI drI
    rw [e1]

theorem rem_at {j b : Int} (hj : 0 ≤ j) (hb : 0 < b) : j.tmod b = j % b := Int.tmod_eq_emod_of_nonneg hj

set_option maxRecDepth 10000 in
set_option maxHeartbeats 1000000 in
theorem rdir_rest (P : Nat → Int) (k : Int) (w : World) (h : checkE P = 0) (hk : 0 ≤ k) (hk2 : k ≤ P 0 * mfb P) :
    Calls Try.prog 10 #[Pv P, .int .i64 k] w fun e w' => AnsA e (drE P k) (drB P k) (drI P k) ∧ Below w.heap.size w w' := by
  have H1 := hide (fun w => refMaxSize_ok P w h)
  have hs := (sound h).size
  have hb := size_bd hs
  have hm := msz_bd hs
  obtain ⟨e1, e2, e3⟩ := up_same h hk
  have H2 := hide (fun w => rfile_any P (cd (k * 16) (P 0) * P 0) w)
  rw [e1, e2, e3] at H2
  have hu := cd_up (n := k * 16) (b := P 0) (by omega)
  have HL : Hid (∀ s, k * 16 ≤ s → s ≤ cd (k * 16) (P 0) * P 0 → s % P 0 = 0 → s = cd (k * 16) (P 0) * P 0) := fun s a b c => up_least (by omega) rfl a b c
  have HM : Hid ((cd (k * 16) (P 0) * P 0) % 16 = 0) := mul16 (size16 hs)
  have HV : Hid ((cd (k * 16) (P 0) * P 0) % P 0 = 0) := Int.mul_emod_left _ _
  generalize cd (k * 16) (P 0) * P 0 = U at *
  generalize drE P k = E at *
  generalize drB P k = B at *
  generalize drI P k = I at *
  have HK := hide (Kp.start w P)
  generalize P 0 * mfb P = s at *
  have h5 : ¬ s < k := by omega
  have h6 : ¬ k < 0 := by omega
  clear h hs e1 e2 e3
  go_enter Try.func10, Try.ntmps10
  go_wp2_with fail
  go_at_call 22
  refine (unhide H1 _).mono ?_
  rintro r w1 ⟨rfl, hx⟩
  replace HK := hide ((unhide HK).call hx)
  clear hx H1
  obtain ⟨f0, f1, f2, f3, f4, f5, f6, f7, f8, f9, f10, f11⟩ := (unhide HK).cells
  go_wp2
  go_loop [8] (fun i => ∃ j : Int, i = .int .i64 j ∧ k * 16 ≤ j ∧ j ≤ U ∧ j % 16 = 0) (fun i => (U - intOf i).toNat)
  case atStart => exact ⟨k * 16, by go_num, by omega, by omega, by omega⟩
  case round =>
    obtain ⟨j, rfl, j1, j2, j3⟩ := hrel
    have r1 : j.tmod (P 0) = j % P 0 := rem_at (by omega) (by omega)
    have r2 := Int.emod_nonneg j (by omega : P 0 ≠ 0)
    have r3 := Int.emod_lt_of_pos j (by omega : 0 < P 0)
    by_cases hz : j % P 0 = 0
    · obtain rfl := unhide HL j j1 j2 hz
      have HZ := hide hz
      go_wp2_with fail
      go_at_call 8
      refine (unhide H2 _).mono ?_
      rintro r w2 ⟨⟨x, y, rfl, hx, hy⟩, hb⟩
      replace HK := hide ((unhide HK).call hb)
      have HR := hide (And.intro hx hy)
      clear hx hy hb H2 f0 f1 f2 f3 f4 f5 f6 f7 f8 f9 f10 f11
      go_wp2
      go_ret2
      exact ⟨⟨x, y, rfl, (unhide HR).1, (unhide HR).2⟩, (unhide HK).2⟩
    · go_wp2
      have := unhide HM
      have hlt : j ≠ U := fun e => hz (by rw [e]; exact unhide HV)
      exact ⟨⟨j + 16, by go_num, by omega, by omega, by omega⟩, by simp [intOf]; omega⟩

theorem rdir_any (P : Nat → Int) (k : Int) (w : World) :
    Calls Try.prog 10 #[Pv P, .int .i64 k] w fun e w' => AnsA e (drE P k) (drB P k) (drI P k) ∧ Below w.heap.size w w' := by
  by_cases hc : checkE P = 0
  · by_cases hk : k < 0 ∨ P 0 * mfb P < k
    · have hm := msz_bd (sound hc).size
      have h : drE P k = 2 := by rw [drE, if_neg (by omega), if_pos (by omega)]
      rw [(drB_bad (by omega)).1, (drB_bad (by omega)).2, h]
      exact rdir_range P k w hc hk
    · exact rdir_rest P k w hc (by omega) (by omega)
  · have h : drE P k = 4 := by rw [drE, if_pos hc]
    rw [(drB_bad (by omega)).1, (drB_bad (by omega)).2, h]
    exact rdir_form P k w hc

end Go.Proofs.Ytkdiifoipfkmcaa
