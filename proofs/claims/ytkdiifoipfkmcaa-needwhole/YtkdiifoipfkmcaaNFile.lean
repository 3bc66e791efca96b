/- What files, directories and the device have: File, Dir, Have, the program's and the document's. -/
import Derived.Test.YtkdiifoipfkmcaaNLeaf
namespace Go.Proofs.Ytkdiifoipfkmcaa
open Go.RowKit Go.Shelf Ieee
set_option linter.unusedVariables false

theorem ptr_bd {P : Nat → Int} (h : isSize (P 0)) {data : Int} (hd : 0 ≤ data) : 0 ≤ ptr P data ∧ ptr P data ≤ data + 3 := by
  have hb := size_bd h
  unfold ptr
  split
  · omega
  · split
    · omega
    · have := cd_top (data - 8 - P 0 / 2) (P 0 / 2) (by omega) (by omega)
      omega

theorem whE_ok {P : Nat → Int} {n : Int} (h : whE P n = 0) : checkE P = 0 ∧ 0 ≤ n ∧ n ≤ P 0 * mfb P := by
  unfold whE at h
  split at h
  · omega
  · split at h
    · omega
    · omega

/-- What a file of n bytes needs. -/
def flB (P : Nat → Int) (n : Int) : Int := whD P n + whP P n
def flI (P : Nat → Int) (n : Int) : Int := if whE P n = 0 then 1 else 0

theorem flB_bad {P : Nat → Int} {n : Int} (h : whE P n ≠ 0) : flB P n = 0 ∧ flI P n = 0 := by
  unfold flB flI whD whP
  rw [if_neg h, if_neg h, if_neg h]
  exact ⟨rfl, rfl⟩

theorem flB_bd {P : Nat → Int} {n : Int} : 0 ≤ flB P n ∧ flB P n ≤ 1073741 ∧ 0 ≤ flI P n ∧ flI P n ≤ 1 ∧ 0 ≤ whD P n ∧ whD P n ≤ 1073741 ∧ 0 ≤ whP P n ∧ whP P n ≤ 1073741 := by
  by_cases h : whE P n = 0
  · obtain ⟨h1, h2, h3⟩ := whE_ok h
    have hs := (sound h1).size
    have hm := msz_bd hs
    have hc := cd_top n (P 0) h2 (by have := size_bd hs; omega)
    have hp := ptr_bd (data := cd n (P 0)) hs hc.1
    unfold flB flI whD whP
    rw [if_pos h, if_pos h, if_pos h]
    generalize P 0 * mfb P = s at *
    omega
  · have := flB_bad h
    unfold whD whP
    rw [if_neg h, if_neg h]
    omega

set_option maxRecDepth 10000 in
set_option maxHeartbeats 1000000 in
theorem file_any (P : Nat → Int) (n : Int) (w : World) :
    Calls Try.prog 7 #[Pv P, .int .i64 n] w fun e w' => AnsA e (whE P n) (flB P n) (flI P n) ∧ Below w.heap.size w w' := by
  have H1 := hide (whole_any P n)
  have HK := hide (Kp.start w P)
  by_cases h : whE P n = 0
  · have hb := flB_bd (P := P) (n := n)
    have H2 := hide (fun w => amount_ok (flB P n) 1 w ⟨hb.1, by omega⟩ ⟨by omega, by omega⟩)
    rw [h] at H1
    have e1 : flI P n = 1 := by rw [flI, if_pos h]
    rw [h, e1]
    unfold flB at *
    generalize whD P n = d at *
    generalize whP P n = p at *
    obtain ⟨b1, b2, _, _, b3, b4, b5, b6⟩ := hb
    clear h e1
    go_enter Try.func7, Try.ntmps7
    go_wp2_with fail
    go_at_call 18
    refine (unhide H1 _).mono ?_
    rintro r w1 ⟨rfl, hx⟩
    replace HK := hide ((unhide HK).call hx)
    clear hx H1
    go_wp2_with fail
    go_at_call 17
    refine (unhide H2 _).mono ?_
    rintro r w2 ⟨⟨x, y, rfl, hx, hy⟩, rfl⟩
    have HR := hide (And.intro hx hy)
    clear hx hy H2 b1 b2 b3 b4 b5 b6
    go_wp2
    go_ret2
    exact ⟨⟨x, y, rfl, (unhide HR).1, (unhide HR).2⟩, (unhide HK).2⟩
  · obtain ⟨e1, e2⟩ := flB_bad h
    rw [e1, e2]
    clear e1 e2
    generalize whE P n = E at *
    generalize whD P n = d at *
    generalize whP P n = p at *
    go_enter Try.func7, Try.ntmps7
    go_wp2_with fail
    go_at_call 18
    refine (unhide H1 _).mono ?_
    rintro r w1 ⟨rfl, hx⟩
    replace HK := hide ((unhide HK).call hx)
    clear hx H1
    go_wp2
    go_ret2
    exact ⟨⟨0, 0, rfl, rd_zero, rd_zero⟩, (unhide HK).2⟩

set_option maxRecDepth 10000 in
set_option maxHeartbeats 1000000 in
theorem rfile_any (P : Nat → Int) (n : Int) (w : World) :
    Calls Try.prog 8 #[Pv P, .int .i64 n] w fun e w' => AnsA e (whE P n) (flB P n) (flI P n) ∧ Below w.heap.size w w' := by
  have H1 := hide (refWhole_any P n)
  have HK := hide (Kp.start w P)
  by_cases h : whE P n = 0
  · have hb := flB_bd (P := P) (n := n)
    have H2 := hide (fun w => ramount_ok (flB P n) 1 w ⟨hb.1, by omega⟩ ⟨by omega, by omega⟩)
    rw [h] at H1
    have e1 : flI P n = 1 := by rw [flI, if_pos h]
    rw [h, e1]
    unfold flB at *
    generalize whD P n = d at *
    generalize whP P n = p at *
    obtain ⟨b1, b2, _, _, b3, b4, b5, b6⟩ := hb
    clear h e1
    go_enter Try.func8, Try.ntmps8
    go_wp2_with fail
    go_at_call 19
    refine (unhide H1 _).mono ?_
    rintro r w1 ⟨rfl, hx⟩
    replace HK := hide ((unhide HK).call hx)
    clear hx H1
    go_wp2_with fail
    go_at_call 20
    refine (unhide H2 _).mono ?_
    rintro r w2 ⟨⟨x, y, rfl, hx, hy⟩, rfl⟩
    have HR := hide (And.intro hx hy)
    clear hx hy H2 b1 b2 b3 b4 b5 b6
    go_wp2
    go_ret2
    exact ⟨⟨x, y, rfl, (unhide HR).1, (unhide HR).2⟩, (unhide HK).2⟩
  · obtain ⟨e1, e2⟩ := flB_bad h
    rw [e1, e2]
    clear e1 e2
    generalize whE P n = E at *
    generalize whD P n = d at *
    generalize whP P n = p at *
    go_enter Try.func8, Try.ntmps8
    go_wp2_with fail
    go_at_call 19
    refine (unhide H1 _).mono ?_
    rintro r w1 ⟨rfl, hx⟩
    replace HK := hide ((unhide HK).call hx)
    clear hx H1
    go_wp2
    go_ret2
    exact ⟨⟨0, 0, rfl, rd_zero, rd_zero⟩, (unhide HK).2⟩

/-- What the device has. -/
def hvB (P : Nat → Int) : Int := if checkE P = 0 then P 1 - P 11 else 0
def hvI (P : Nat → Int) : Int := if checkE P = 0 then P 2 - 1 else 0

set_option maxRecDepth 10000 in
set_option maxHeartbeats 1000000 in
theorem have_any (P : Nat → Int) (w : World) :
    Calls Try.prog 11 #[Pv P] w fun e w' => AnsA e (checkE P) (hvB P) (hvI P) ∧ Below w.heap.size w w' := by
  have H1 := hide (check_any P)
  have HK := hide (Kp.start w P)
  unfold hvB hvI
  by_cases h : checkE P = 0
  · have hS := sound h
    have hb := hS.bd
    have hd := hS.data
    have h1 := hS.blocks
    have h2 := hS.inodes
    have h3 : 2 ≤ P 11 := by
      have := hS.p11
      have := hS.log
      omega
    have H2 := hide (fun w => amount_ok (P 1 - P 11) (P 2 - 1) w ⟨by omega, by omega⟩ ⟨by omega, by omega⟩)
    rw [h] at H1
    rw [if_pos h, if_pos h, h]
    clear h hS hb
    go_enter Try.func11, Try.ntmps11
    go_wp2_with fail
    go_at_call 23
    refine (unhide H1 _).mono ?_
    rintro r w1 ⟨rfl, hx⟩
    replace HK := hide ((unhide HK).call hx)
    clear hx H1
    have f1 := (unhide HK).1.cell 1 (by omega)
    have f2 := (unhide HK).1.cell 2 (by omega)
    have f11 := (unhide HK).1.cell 11 (by omega)
    go_wp2_with fail
    go_at_call 17
    refine (unhide H2 _).mono ?_
    rintro r w2 ⟨⟨x, y, rfl, hx, hy⟩, rfl⟩
    have HR := hide (And.intro hx hy)
    clear hx hy H2 hd h1 h2 h3
    go_wp2
    go_ret2
    exact ⟨⟨x, y, rfl, (unhide HR).1, (unhide HR).2⟩, (unhide HK).2⟩
  · rw [if_neg h, if_neg h]
    have h4 : checkE P = 4 := by have := checkE_two P; omega
    rw [h4] at H1
    rw [h4]
    clear h h4
    go_enter Try.func11, Try.ntmps11
    go_wp2_with fail
    go_at_call 23
    refine (unhide H1 _).mono ?_
    rintro r w1 ⟨rfl, hx⟩
    replace HK := hide ((unhide HK).call hx)
    clear hx H1
    go_wp2
    go_ret2
    exact ⟨⟨0, 0, rfl, rd_zero, rd_zero⟩, (unhide HK).2⟩

set_option maxRecDepth 10000 in
set_option maxHeartbeats 1000000 in
theorem rhave_any (P : Nat → Int) (w : World) :
    Calls Try.prog 12 #[Pv P] w fun e w' => AnsA e (checkE P) (hvB P) (hvI P) ∧ Below w.heap.size w w' := by
  have H1 := hide (refCheck_any P)
  have HK := hide (Kp.start w P)
  unfold hvB hvI
  by_cases h : checkE P = 0
  · have hS := sound h
    have hb := hS.bd
    have hd := hS.data
    have h1 := hS.blocks
    have h2 := hS.inodes
    have h3 : 2 ≤ P 11 := by
      have := hS.p11
      have := hS.log
      omega
    have H2 := hide (fun w => ramount_ok (P 1 - P 11) (P 2 - 1) w ⟨by omega, by omega⟩ ⟨by omega, by omega⟩)
    rw [h] at H1
    rw [if_pos h, if_pos h, h]
    clear h hS hb
    go_enter Try.func12, Try.ntmps12
    go_wp2_with fail
    go_at_call 24
    refine (unhide H1 _).mono ?_
    rintro r w1 ⟨rfl, hx⟩
    replace HK := hide ((unhide HK).call hx)
    clear hx H1
    have f1 := (unhide HK).1.cell 1 (by omega)
    have f2 := (unhide HK).1.cell 2 (by omega)
    have f11 := (unhide HK).1.cell 11 (by omega)
    go_wp2_with fail
    go_at_call 20
    refine (unhide H2 _).mono ?_
    rintro r w2 ⟨⟨x, y, rfl, hx, hy⟩, rfl⟩
    have HR := hide (And.intro hx hy)
    clear hx hy H2 hd h1 h2 h3
    go_wp2
    go_ret2
    exact ⟨⟨x, y, rfl, (unhide HR).1, (unhide HR).2⟩, (unhide HK).2⟩
  · rw [if_neg h, if_neg h]
    have h4 : checkE P = 4 := by have := checkE_two P; omega
    rw [h4] at H1
    rw [h4]
    clear h h4
    go_enter Try.func12, Try.ntmps12
    go_wp2_with fail
    go_at_call 24
    refine (unhide H1 _).mono ?_
    rintro r w1 ⟨rfl, hx⟩
    replace HK := hide ((unhide HK).call hx)
    clear hx H1
    go_wp2
    go_ret2
    exact ⟨⟨0, 0, rfl, rd_zero, rd_zero⟩, (unhide HK).2⟩

/-- What a directory of k names needs. -/
def drE (P : Nat → Int) (k : Int) : Int := if checkE P ≠ 0 then 4 else if k < 0 ∨ P 0 * mfb P / 16 < k then 2 else 0
def drB (P : Nat → Int) (k : Int) : Int := if drE P k = 0 then flB P (k * 16) else 0
def drI (P : Nat → Int) (k : Int) : Int := if drE P k = 0 then 1 else 0

theorem drE_ok {P : Nat → Int} {k : Int} (h : drE P k = 0) : checkE P = 0 ∧ 0 ≤ k ∧ k * 16 ≤ P 0 * mfb P ∧ whE P (k * 16) = 0 := by
  unfold drE at h
  split at h
  · omega
  · rename_i hc
    split at h
    · omega
    · have h1 : checkE P = 0 := by omega
      have h2 : 0 ≤ k * 16 ∧ k * 16 ≤ P 0 * mfb P := by omega
      refine ⟨h1, by omega, h2.2, ?_⟩
      rw [whE, if_neg hc, if_neg (by omega)]

theorem drB_bad {P : Nat → Int} {k : Int} (h : drE P k ≠ 0) : drB P k = 0 ∧ drI P k = 0 := by
  unfold drB drI
  rw [if_neg h, if_neg h]
  exact ⟨rfl, rfl⟩

theorem drB_bd {P : Nat → Int} {k : Int} : 0 ≤ drB P k ∧ drB P k ≤ 1073741 ∧ 0 ≤ drI P k ∧ drI P k ≤ 1 := by
  have := flB_bd (P := P) (n := k * 16)
  unfold drB drI
  split <;> omega

set_option maxRecDepth 10000 in
set_option maxHeartbeats 1000000 in
theorem dir_form (P : Nat → Int) (k : Int) (w : World) (h : checkE P ≠ 0) :
    Calls Try.prog 9 #[Pv P, .int .i64 k] w fun e w' => AnsA e 4 0 0 ∧ Below w.heap.size w w' := by
  have H1 := hide (fun w => maxSize_form P w h)
  have HK := hide (Kp.start w P)
  clear h
  go_enter Try.func9, Try.ntmps9
  go_wp2_with fail
  go_at_call 21
  refine (unhide H1 _).mono ?_
  rintro r w1 ⟨rfl, hx⟩
  replace HK := hide ((unhide HK).call hx)
  clear hx H1
  go_wp2
  go_ret2
  exact ⟨⟨0, 0, rfl, rd_zero, rd_zero⟩, (unhide HK).2⟩

set_option maxRecDepth 10000 in
set_option maxHeartbeats 1000000 in
theorem dir_range (P : Nat → Int) (k : Int) (w : World) (h : checkE P = 0) (hk : k < 0 ∨ P 0 * mfb P / 16 < k) :
    Calls Try.prog 9 #[Pv P, .int .i64 k] w fun e w' => AnsA e 2 0 0 ∧ Below w.heap.size w w' := by
  have H1 := hide (fun w => maxSize_ok P w h)
  have hm := msz_bd (sound h).size
  have HK := hide (Kp.start w P)
  generalize P 0 * mfb P = s at *
  obtain ⟨q, hq⟩ : ∃ q, s / 16 = q := ⟨_, rfl⟩
  rw [hq] at hk
  have HN := hide hk
  clear h hk
  by_cases h1 : k < 0
  · go_enter Try.func9, Try.ntmps9
    go_wp2_with fail
    go_at_call 21
    refine (unhide H1 _).mono ?_
    rintro r w1 ⟨rfl, hx⟩
    replace HK := hide ((unhide HK).call hx)
    clear hx H1
    go_wp2
    go_ret2
    exact ⟨⟨0, 0, rfl, rd_zero, rd_zero⟩, (unhide HK).2⟩
  · have h2 : q < k := by have := unhide HN; omega
    clear HN
    go_enter Try.func9, Try.ntmps9
    go_wp2_with fail
    go_at_call 21
    refine (unhide H1 _).mono ?_
    rintro r w1 ⟨rfl, hx⟩
    replace HK := hide ((unhide HK).call hx)
    clear hx H1
    go_wp2
    go_ret2
    exact ⟨⟨0, 0, rfl, rd_zero, rd_zero⟩, (unhide HK).2⟩

set_option maxRecDepth 10000 in
set_option maxHeartbeats 1000000 in
theorem dir_ok (P : Nat → Int) (k : Int) (w : World) (h : drE P k = 0) :
    Calls Try.prog 9 #[Pv P, .int .i64 k] w fun e w' => AnsA e 0 (flB P (k * 16)) 1 ∧ Below w.heap.size w w' := by
  obtain ⟨h1, h2, h3, h4⟩ := drE_ok h
  have H1 := hide (fun w => maxSize_ok P w h1)
  have H2 := hide (fun w => file_any P (k * 16) w)
  have hm := msz_bd (sound h1).size
  rw [h4, show flI P (k * 16) = 1 by rw [flI, if_pos h4]] at H2
  generalize flB P (k * 16) = B at *
  have HK := hide (Kp.start w P)
  generalize P 0 * mfb P = s at *
  obtain ⟨q, hq⟩ : ∃ q, s / 16 = q := ⟨_, rfl⟩
  have h5 : ¬ q < k := by omega
  have h6 : ¬ k < 0 := by omega
  clear h h1 h4
  go_enter Try.func9, Try.ntmps9
  go_wp2_with fail
  go_at_call 21
  refine (unhide H1 _).mono ?_
  rintro r w1 ⟨rfl, hx⟩
  replace HK := hide ((unhide HK).call hx)
  clear hx H1
  obtain ⟨f0, f1, f2, f3, f4, f5, f6, f7, f8, f9, f10, f11⟩ := (unhide HK).cells
  go_wp2_with fail
  go_at_call 7
  refine (unhide H2 _).mono ?_
  rintro r w2 ⟨⟨x, y, rfl, hx, hy⟩, hb⟩
  replace HK := hide ((unhide HK).call hb)
  have HR := hide (And.intro hx hy)
  clear hx hy hb H2 f0 f1 f2 f3 f4 f5 f6 f7 f8 f9 f10 f11
  go_wp2
  go_ret2
  exact ⟨⟨x, y, rfl, (unhide HR).1, (unhide HR).2⟩, (unhide HK).2⟩

theorem dir_any (P : Nat → Int) (k : Int) (w : World) :
    Calls Try.prog 9 #[Pv P, .int .i64 k] w fun e w' => AnsA e (drE P k) (drB P k) (drI P k) ∧ Below w.heap.size w w' := by
  by_cases h : drE P k = 0
  · rw [h, show drB P k = flB P (k * 16) by rw [drB, if_pos h], show drI P k = 1 by rw [drI, if_pos h]]
    exact dir_ok P k w h
  · rw [(drB_bad h).1, (drB_bad h).2]
    by_cases hc : checkE P = 0
    · by_cases hk : k < 0 ∨ P 0 * mfb P / 16 < k
      · rw [show drE P k = 2 by rw [drE, if_neg (by omega), if_pos hk]]
        exact dir_range P k w hc hk
      · exact absurd (by rw [drE, if_neg (by omega), if_neg hk]) h
    · rw [show drE P k = 4 by rw [drE, if_pos hc]]
      exact dir_form P k w hc

end Go.Proofs.Ytkdiifoipfkmcaa
