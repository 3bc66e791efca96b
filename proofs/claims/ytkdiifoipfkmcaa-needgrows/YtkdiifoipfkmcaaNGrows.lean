/- The walk of NeedGrows. -/
import Derived.Test.YtkdiifoipfkmcaaNFile
import Derived.Test.YtkdiifoipfkmcaaNWakes
namespace Go.Proofs.Ytkdiifoipfkmcaa
open Go.RowKit Go.Shelf Ieee
set_option linter.unusedVariables false
set_option maxRecDepth 100000

theorem cd_le {n m b : Int} (hb : 0 < b) (h : n ≤ m) : cd n b ≤ cd m b := by
  unfold cd
  exact Int.ediv_le_ediv hb (by omega)

theorem cd_step {n b : Int} (hb : 0 < b) : cd (n + 1) b ≤ cd n b + 1 := by
  unfold cd
  have h1 : (n + 1 + b - 1) / b ≤ (n + b - 1 + b) / b := Int.ediv_le_ediv hb (by omega)
  have h2 : (n + b - 1 + b) / b = (n + b - 1) / b + 1 := Int.add_ediv_of_dvd_right (Int.dvd_refl b) |>.trans (by rw [Int.ediv_self (by omega)])
  omega

theorem ptr_le {P : Nat → Int} (h : isSize (P 0)) {a b : Int} (hab : a ≤ b) : ptr P a ≤ ptr P b := by
  have hb := size_bd h
  have h1 := cd_le (n := a - 8 - P 0 / 2) (m := b - 8 - P 0 / 2) (b := P 0 / 2) (by omega) (by omega)
  have h2 := fun x hx => cd_top (b - 8 - P 0 / 2) (P 0 / 2) x hx
  unfold ptr
  split <;> split <;> (try split) <;> (try split) <;> (try omega)
  all_goals
    have := h2 (by omega) (by omega)
    omega

theorem ptr_step {P : Nat → Int} (h : isSize (P 0)) {a : Int} : ptr P (a + 1) ≤ ptr P a + 2 := by
  have hb := size_bd h
  have h1 := cd_step (n := a - 8 - P 0 / 2) (b := P 0 / 2) (by omega)
  rw [show a - 8 - P 0 / 2 + 1 = a + 1 - 8 - P 0 / 2 by omega] at h1
  have h3 : a - 8 = P 0 / 2 → cd (a - 8 - P 0 / 2) (P 0 / 2) ≤ 0 := by
    intro e
    rw [e, Int.sub_self]
    unfold cd
    have : (0 + P 0 / 2 - 1) / (P 0 / 2) = 0 := Int.ediv_eq_zero_of_lt (by omega) (by omega)
    omega
  unfold ptr
  split <;> split <;> (try split) <;> (try split) <;> (try omega)

theorem flB_le {P : Nat → Int} {n m : Int} (h1 : whE P n = 0) (h2 : whE P m = 0) (h : n ≤ m) : flB P n ≤ flB P m := by
  have hs := (sound (whE_ok h1).1).size
  have hb := size_bd hs
  have h3 := cd_le (n := n) (m := m) (b := P 0) (by omega) h
  have h4 := ptr_le hs h3
  unfold flB whD whP
  rw [if_pos h1, if_pos h1, if_pos h2, if_pos h2]
  omega

theorem flB_step {P : Nat → Int} {n : Int} (h1 : whE P n = 0) (h2 : whE P (n + 1) = 0) : flB P (n + 1) ≤ flB P n + 3 := by
  have hs := (sound (whE_ok h1).1).size
  have hb := size_bd hs
  have h3 := cd_step (n := n) (b := P 0) (by omega)
  have h4 := ptr_le hs h3
  have h5 := ptr_step (P := P) (a := cd n (P 0)) hs
  unfold flB whD whP
  rw [if_pos h1, if_pos h1, if_pos h2, if_pos h2]
  omega

set_option maxHeartbeats 4000000 in
theorem grows_up (P : Nat → Int) (n m : Int) (w : World) (h : n ≤ m) :
    Calls Try.prog 4 #[Pv P, .int .i64 n, .int .i64 m] w fun e w' => e = .returned (.bool true) ∧ Below w.heap.size w w' := by
  have HK := hide (Kp.start w P)
  have H1 := hide (file_any P n)
  have H2 := hide (file_any P m)
  have H3 := hide (dir_any P n)
  have HM := hide (fun h1 h2 => flB_le (P := P) (n := n) (m := m) h1 h2 (by omega))
  have HS := hide (fun (e : m = n + 1) (h1 : whE P n = 0) (h2 : whE P m = 0) => flB_step (P := P) (n := n) h1 (by rw [← e]; exact h2))
  have HB1 := hide (flB_bd (P := P) (n := n))
  have HB2 := hide (flB_bd (P := P) (n := m))
  have HO := hide (fun h => whE_ok (P := P) (n := n) h)
  have HZ := hide (fun h => msz_bd (sound (P := P) h).size)
  have HX1 := hide (fun h => flB_bad (P := P) (n := n) h)
  have HI1 : Hid (whE P n = 0 → flI P n = 1) := fun h => by rw [flI, if_pos h]
  have HI2 : Hid (whE P m = 0 → flI P m = 1) := fun h => by rw [flI, if_pos h]
  have HD1 := hide (fun h => drB_bad (P := P) (k := n) h)
  have HD2 : Hid (drE P n = 0 → drI P n = 1) := fun h => by rw [drI, if_pos h]
  go_enter Try.func4, Try.ntmps4
  go_wp2_with fail
  go_at_call 6
  refine (wakes_any _).mono ?_
  rintro r w0 ⟨rfl, rfl⟩
  obtain ⟨f0, f1, f2, f3, f4, f5, f6, f7, f8, f9, f10, f11⟩ := (unhide HK).cells
  go_wp2_with fail
  go_at_call 7
  refine (unhide H1 _).mono ?_
  rintro r w1 ⟨⟨x, y, rfl, hx, hy⟩, hb⟩
  have R1 := hide (And.intro hx hy)
  replace HK := hide ((unhide HK).call hb)
  clear hx hy hb H1 f0 f1 f2 f3 f4 f5 f6 f7 f8 f9 f10 f11
  obtain ⟨f0, f1, f2, f3, f4, f5, f6, f7, f8, f9, f10, f11⟩ := (unhide HK).cells
  go_wp2_with fail
  go_at_call 7
  refine (unhide H2 _).mono ?_
  rintro r w2 ⟨⟨u, v, rfl, hx, hy⟩, hb⟩
  have R2 := hide (And.intro hx hy)
  replace HK := hide ((unhide HK).call hb)
  clear hx hy hb H2 f0 f1 f2 f3 f4 f5 f6 f7 f8 f9 f10 f11
  by_cases hE1 : whE P n = 0
  · by_cases hE2 : whE P m = 0
    · have hle := unhide HM hE1 hE2
      have i1 := unhide HI1 hE1
      have i2 := unhide HI2 hE2
      have b1 := unhide HB1
      have b2 := unhide HB2
      have st := fun e => unhide HS e hE1 hE2
      obtain ⟨n0, n1, n2⟩ := unhide HO hE1
      have ms := unhide HZ n0
      have nb : 0 ≤ n ∧ n ≤ 524288 := by omega
      obtain ⟨hx, hy⟩ := unhide R1
      obtain ⟨hu, hv⟩ := unhide R2
      rw [i1] at hy
      rw [i2] at hv
      rw [hE1, hE2]
      have HF := hide (fun w => fits_ok x y u v (flB P n) 1 (flB P m) 1 w hx hy hu hv ⟨by omega, by omega⟩ ⟨by omega, by omega⟩ ⟨by omega, by omega⟩ ⟨by omega, by omega⟩ hle (by omega))
      obtain ⟨d, e1, hd⟩ := rd_sub hu hx (by omega)
      have sb := fun w => run_float_arith (P := Try.prog) w .sub 35 .f64 u x d e1
      have o1 : FloatKind.f64.format.order y 4607182418800017408 = some .eq := order_at hy rd_one (cmp_eq _)
      have o2 : FloatKind.f64.format.order v 4607182418800017408 = some .eq := order_at hv rd_one (cmp_eq _)
      have HO3 : Hid (m = n + 1 → FloatKind.f64.format.order d 4613937818241073152 = some .lt ∨ FloatKind.f64.format.order d 4613937818241073152 = some .eq) := by
        intro e
        have := st e
        rw [← e] at this
        by_cases h3 : flB P m - flB P n = 3
        · exact .inr (order_at hd rd_three (by rw [h3]; exact cmp_eq _))
        · exact .inl (order_at hd rd_three (cmp_lt (by omega)))
      clear hle i1 i2 b1 b2 st n0 n1 n2 ms hx hy hu hv hE1 hE2 e1 hd HM HS HB1 HB2 HO HZ HX1 HI1 HI2 R1 R2
      go_wp2_with fail
      go_at_call 15
      refine (unhide HF _).mono ?_
      rintro r w3 ⟨rfl, rfl⟩
      clear HF
      obtain ⟨f0, f1, f2, f3, f4, f5, f6, f7, f8, f9, f10, f11⟩ := (unhide HK).cells
      by_cases hs : m = n + 1
      · rcases unhide HO3 hs with o3 | o3
        all_goals
          have HSS := hide hs
          skip
          go_wp2_with fail
          go_at_call 9
          refine (unhide H3 _).mono ?_
          rintro r w4 ⟨⟨p, q, rfl, hp, hq⟩, hb⟩
          have R3 := hide (And.intro hp hq)
          replace HK := hide ((unhide HK).call hb)
          clear hp hq hb H3 f0 f1 f2 f3 f4 f5 f6 f7 f8 f9 f10 f11 o3
          by_cases hE3 : drE P n = 0
          · have o4 : FloatKind.f64.format.order q 4607182418800017408 = some .eq := order_at (unhide R3).2 rd_one (by rw [unhide HD2 hE3]; exact cmp_eq _)
            rw [hE3]
            clear hE3
            go_wp2
            go_ret
            exact ⟨rfl, (unhide HK).2⟩
          · have o4 : FloatKind.f64.format.order p 0 = some .eq := order_at (unhide R3).1 rd_zero (by rw [(unhide HD1 hE3).1]; exact cmp_eq _)
            have o5 : FloatKind.f64.format.order q 0 = some .eq := order_at (unhide R3).2 rd_zero (by rw [(unhide HD1 hE3).2]; exact cmp_eq _)
            generalize drE P n = E3 at *
            go_wp2
            go_ret
            exact ⟨rfl, (unhide HK).2⟩
      · go_wp2_with fail
        go_at_call 9
        refine (unhide H3 _).mono ?_
        rintro r w4 ⟨⟨p, q, rfl, hp, hq⟩, hb⟩
        have R3 := hide (And.intro hp hq)
        replace HK := hide ((unhide HK).call hb)
        clear hp hq hb H3 f0 f1 f2 f3 f4 f5 f6 f7 f8 f9 f10 f11
        by_cases hE3 : drE P n = 0
        · have o4 : FloatKind.f64.format.order q 4607182418800017408 = some .eq := order_at (unhide R3).2 rd_one (by rw [unhide HD2 hE3]; exact cmp_eq _)
          rw [hE3]
          clear hE3
          go_wp2
          go_ret
          exact ⟨rfl, (unhide HK).2⟩
        · have o4 : FloatKind.f64.format.order p 0 = some .eq := order_at (unhide R3).1 rd_zero (by rw [(unhide HD1 hE3).1]; exact cmp_eq _)
          have o5 : FloatKind.f64.format.order q 0 = some .eq := order_at (unhide R3).2 rd_zero (by rw [(unhide HD1 hE3).2]; exact cmp_eq _)
          generalize drE P n = E3 at *
          go_wp2
          go_ret
          exact ⟨rfl, (unhide HK).2⟩
    · rw [hE1]
      clear hE1 HM HS HB1 HB2 HO HZ HX1 HI1 HI2 HD1 HD2 H3
      generalize whE P m = E2 at *
      go_wp2
      go_ret
      exact ⟨rfl, (unhide HK).2⟩
  · have o4 : FloatKind.f64.format.order x 0 = some .eq := order_at (unhide R1).1 rd_zero (by rw [(unhide HX1 hE1).1]; exact cmp_eq _)
    have o5 : FloatKind.f64.format.order y 0 = some .eq := order_at (unhide R1).2 rd_zero (by rw [(unhide HX1 hE1).2]; exact cmp_eq _)
    clear HM HS HB1 HB2 HO HZ HX1 HI1 HI2 HD1 HD2 H3 R1
    generalize whE P n = E1 at *
    generalize whE P m = E2 at *
    go_wp2
    go_ret
    exact ⟨rfl, (unhide HK).2⟩

set_option maxHeartbeats 4000000 in
theorem grows_down (P : Nat → Int) (n m : Int) (w : World) (h : m < n) :
    Calls Try.prog 4 #[Pv P, .int .i64 n, .int .i64 m] w fun e w' => e = .returned (.bool true) ∧ Below w.heap.size w w' := by
  have HK := hide (Kp.start w P)
  have H1 := hide (file_any P m)
  have H2 := hide (file_any P n)
  have H3 := hide (dir_any P m)
  have HM := hide (fun h1 h2 => flB_le (P := P) (n := m) (m := n) h1 h2 (by omega))
  have HS := hide (fun (e : n = m + 1) (h1 : whE P m = 0) (h2 : whE P n = 0) => flB_step (P := P) (n := m) h1 (by rw [← e]; exact h2))
  have HB1 := hide (flB_bd (P := P) (n := m))
  have HB2 := hide (flB_bd (P := P) (n := n))
  have HO := hide (fun h => whE_ok (P := P) (n := m) h)
  have HZ := hide (fun h => msz_bd (sound (P := P) h).size)
  have HX1 := hide (fun h => flB_bad (P := P) (n := m) h)
  have HI1 : Hid (whE P m = 0 → flI P m = 1) := fun h => by rw [flI, if_pos h]
  have HI2 : Hid (whE P n = 0 → flI P n = 1) := fun h => by rw [flI, if_pos h]
  have HD1 := hide (fun h => drB_bad (P := P) (k := m) h)
  have HD2 : Hid (drE P m = 0 → drI P m = 1) := fun h => by rw [drI, if_pos h]
  go_enter Try.func4, Try.ntmps4
  go_wp2_with fail
  go_at_call 6
  refine (wakes_any _).mono ?_
  rintro r w0 ⟨rfl, rfl⟩
  obtain ⟨f0, f1, f2, f3, f4, f5, f6, f7, f8, f9, f10, f11⟩ := (unhide HK).cells
  go_wp2_with fail
  go_at_call 7
  refine (unhide H1 _).mono ?_
  rintro r w1 ⟨⟨x, y, rfl, hx, hy⟩, hb⟩
  have R1 := hide (And.intro hx hy)
  replace HK := hide ((unhide HK).call hb)
  clear hx hy hb H1 f0 f1 f2 f3 f4 f5 f6 f7 f8 f9 f10 f11
  obtain ⟨f0, f1, f2, f3, f4, f5, f6, f7, f8, f9, f10, f11⟩ := (unhide HK).cells
  go_wp2_with fail
  go_at_call 7
  refine (unhide H2 _).mono ?_
  rintro r w2 ⟨⟨u, v, rfl, hx, hy⟩, hb⟩
  have R2 := hide (And.intro hx hy)
  replace HK := hide ((unhide HK).call hb)
  clear hx hy hb H2 f0 f1 f2 f3 f4 f5 f6 f7 f8 f9 f10 f11
  by_cases hE1 : whE P m = 0
  · by_cases hE2 : whE P n = 0
    · have hle := unhide HM hE1 hE2
      have i1 := unhide HI1 hE1
      have i2 := unhide HI2 hE2
      have b1 := unhide HB1
      have b2 := unhide HB2
      have st := fun e => unhide HS e hE1 hE2
      obtain ⟨n0, n1, n2⟩ := unhide HO hE1
      have ms := unhide HZ n0
      have nb : 0 ≤ m ∧ m ≤ 524288 := by omega
      obtain ⟨hx, hy⟩ := unhide R1
      obtain ⟨hu, hv⟩ := unhide R2
      rw [i1] at hy
      rw [i2] at hv
      rw [hE1, hE2]
      have HF := hide (fun w => fits_ok x y u v (flB P m) 1 (flB P n) 1 w hx hy hu hv ⟨by omega, by omega⟩ ⟨by omega, by omega⟩ ⟨by omega, by omega⟩ ⟨by omega, by omega⟩ hle (by omega))
      obtain ⟨d, e1, hd⟩ := rd_sub hu hx (by omega)
      have sb := fun w => run_float_arith (P := Try.prog) w .sub 35 .f64 u x d e1
      have o1 : FloatKind.f64.format.order y 4607182418800017408 = some .eq := order_at hy rd_one (cmp_eq _)
      have o2 : FloatKind.f64.format.order v 4607182418800017408 = some .eq := order_at hv rd_one (cmp_eq _)
      have HO3 : Hid (n = m + 1 → FloatKind.f64.format.order d 4613937818241073152 = some .lt ∨ FloatKind.f64.format.order d 4613937818241073152 = some .eq) := by
        intro e
        have := st e
        rw [← e] at this
        by_cases h3 : flB P n - flB P m = 3
        · exact .inr (order_at hd rd_three (by rw [h3]; exact cmp_eq _))
        · exact .inl (order_at hd rd_three (cmp_lt (by omega)))
      clear hle i1 i2 b1 b2 st n0 n1 n2 ms hx hy hu hv hE1 hE2 e1 hd HM HS HB1 HB2 HO HZ HX1 HI1 HI2 R1 R2
      go_wp2_with fail
      go_at_call 15
      refine (unhide HF _).mono ?_
      rintro r w3 ⟨rfl, rfl⟩
      clear HF
      obtain ⟨f0, f1, f2, f3, f4, f5, f6, f7, f8, f9, f10, f11⟩ := (unhide HK).cells
      by_cases hs : n = m + 1
      · rcases unhide HO3 hs with o3 | o3
        all_goals
          have HSS := hide hs
          skip
          go_wp2_with fail
          go_at_call 9
          refine (unhide H3 _).mono ?_
          rintro r w4 ⟨⟨p, q, rfl, hp, hq⟩, hb⟩
          have R3 := hide (And.intro hp hq)
          replace HK := hide ((unhide HK).call hb)
          clear hp hq hb H3 f0 f1 f2 f3 f4 f5 f6 f7 f8 f9 f10 f11 o3
          by_cases hE3 : drE P m = 0
          · have o4 : FloatKind.f64.format.order q 4607182418800017408 = some .eq := order_at (unhide R3).2 rd_one (by rw [unhide HD2 hE3]; exact cmp_eq _)
            rw [hE3]
            clear hE3
            go_wp2
            go_ret
            exact ⟨rfl, (unhide HK).2⟩
          · have o4 : FloatKind.f64.format.order p 0 = some .eq := order_at (unhide R3).1 rd_zero (by rw [(unhide HD1 hE3).1]; exact cmp_eq _)
            have o5 : FloatKind.f64.format.order q 0 = some .eq := order_at (unhide R3).2 rd_zero (by rw [(unhide HD1 hE3).2]; exact cmp_eq _)
            generalize drE P m = E3 at *
            go_wp2
            go_ret
            exact ⟨rfl, (unhide HK).2⟩
      · go_wp2_with fail
        go_at_call 9
        refine (unhide H3 _).mono ?_
        rintro r w4 ⟨⟨p, q, rfl, hp, hq⟩, hb⟩
        have R3 := hide (And.intro hp hq)
        replace HK := hide ((unhide HK).call hb)
        clear hp hq hb H3 f0 f1 f2 f3 f4 f5 f6 f7 f8 f9 f10 f11
        by_cases hE3 : drE P m = 0
        · have o4 : FloatKind.f64.format.order q 4607182418800017408 = some .eq := order_at (unhide R3).2 rd_one (by rw [unhide HD2 hE3]; exact cmp_eq _)
          rw [hE3]
          clear hE3
          go_wp2
          go_ret
          exact ⟨rfl, (unhide HK).2⟩
        · have o4 : FloatKind.f64.format.order p 0 = some .eq := order_at (unhide R3).1 rd_zero (by rw [(unhide HD1 hE3).1]; exact cmp_eq _)
          have o5 : FloatKind.f64.format.order q 0 = some .eq := order_at (unhide R3).2 rd_zero (by rw [(unhide HD1 hE3).2]; exact cmp_eq _)
          generalize drE P m = E3 at *
          go_wp2
          go_ret
          exact ⟨rfl, (unhide HK).2⟩
    · rw [hE1]
      clear hE1 HM HS HB1 HB2 HO HZ HX1 HI1 HI2 HD1 HD2 H3
      generalize whE P n = E2 at *
      go_wp2
      go_ret
      exact ⟨rfl, (unhide HK).2⟩
  · have o4 : FloatKind.f64.format.order x 0 = some .eq := order_at (unhide R1).1 rd_zero (by rw [(unhide HX1 hE1).1]; exact cmp_eq _)
    have o5 : FloatKind.f64.format.order y 0 = some .eq := order_at (unhide R1).2 rd_zero (by rw [(unhide HX1 hE1).2]; exact cmp_eq _)
    clear HM HS HB1 HB2 HO HZ HX1 HI1 HI2 HD1 HD2 H3 R1
    generalize whE P m = E1 at *
    generalize whE P n = E2 at *
    go_wp2
    go_ret
    exact ⟨rfl, (unhide HK).2⟩

theorem grows_walk (P : Nat → Int) (n m : Int) (w : World) :
    Calls Try.prog 4 #[Pv P, .int .i64 n, .int .i64 m] w fun e w' => e = .returned (.bool true) ∧ Below w.heap.size w w' := by
  by_cases h : n ≤ m
  · exact grows_up P n m w h
  · exact grows_down P n m w (by omega)

end Go.Proofs.Ytkdiifoipfkmcaa
