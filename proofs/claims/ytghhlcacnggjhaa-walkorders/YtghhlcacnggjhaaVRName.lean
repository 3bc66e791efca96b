/- skerryref06.Name: every text. -/
import Derived.Test.YtghhlcacnggjhaaVName
namespace Go.Proofs.Ytghhlcacnggjhaa
open Go.RowKit Go.Shelf
set_option linter.unusedVariables false
set_option maxRecDepth 100000

set_option maxRecDepth 100000 in
set_option maxHeartbeats 2000000 in
theorem refName_low (s : ByteArray) (w : World) (hm : s.size ≤ 9223372036854775807) (h1 : s.size < 1) :
    Calls Try.prog 22 #[.string s] w fun e w' => e = .returned (.int .i64 16) ∧ w = w' := by
  have d1 : decide ((s.size : Int) < 1) = true := by simp; omega
  generalize hn : s.size = n at *
  go_enter Try.func22, Try.ntmps22
  go_wp2
  go_ret
  exact ⟨rfl, rfl⟩

set_option maxRecDepth 100000 in
set_option maxHeartbeats 2000000 in
theorem refName_high (s : ByteArray) (w : World) (hm : s.size ≤ 9223372036854775807) (h2 : 13 < s.size) :
    Calls Try.prog 22 #[.string s] w fun e w' => e = .returned (.int .i64 16) ∧ w = w' := by
  have d1 : decide ((s.size : Int) < 1) = false := by simp; omega
  have d2 : decide ((s.size : Int) > 13) = true := by simp; omega
  generalize hn : s.size = n at *
  go_enter Try.func22, Try.ntmps22
  go_wp2
  go_ret
  exact ⟨rfl, rfl⟩

set_option maxRecDepth 100000 in
set_option maxHeartbeats 2000000 in
theorem refName_dot (s : ByteArray) (w : World) (hm : s.size ≤ 9223372036854775807) (h1 : 1 ≤ s.size) (h2 : s.size ≤ 13) (h3 : (s.toList == [46]) = true) :
    Calls Try.prog 22 #[.string s] w fun e w' => e = .returned (.int .i64 16) ∧ w = w' := by
  have d1 : decide ((s.size : Int) < 1) = false := by simp; omega
  have d2 : decide ((s.size : Int) > 13) = false := by simp; omega
  generalize hn : s.size = n at *
  go_enter Try.func22, Try.ntmps22
  go_wp2
  go_ret
  exact ⟨rfl, rfl⟩

set_option maxRecDepth 100000 in
set_option maxHeartbeats 2000000 in
theorem refName_dots (s : ByteArray) (w : World) (hm : s.size ≤ 9223372036854775807) (h1 : 1 ≤ s.size) (h2 : s.size ≤ 13) (h3 : (s.toList == [46]) = false) (h4 : (s.toList == [46, 46]) = true) :
    Calls Try.prog 22 #[.string s] w fun e w' => e = .returned (.int .i64 16) ∧ w = w' := by
  have d1 : decide ((s.size : Int) < 1) = false := by simp; omega
  have d2 : decide ((s.size : Int) > 13) = false := by simp; omega
  generalize hn : s.size = n at *
  go_enter Try.func22, Try.ntmps22
  go_wp2
  go_ret
  exact ⟨rfl, rfl⟩

set_option maxRecDepth 100000 in
set_option maxHeartbeats 8000000 in
theorem refName_byte (s : ByteArray) (w : World) (h1 : 1 ≤ s.size) (h2 : s.size ≤ 13) (h3 : (s.toList == [46]) = false) (h4 : (s.toList == [46, 46]) = false) (q : Int) (hq : q = if (byts s).all inName = true then 0 else 16) :
    Calls Try.prog 22 #[.string s] w fun e w' => e = .returned (.int .i64 q) ∧ w = w' := by
  have HG := hide (byts_get s)
  have HL := hide (byts_length s)
  have HQ0 : Hid ((∀ j, j < s.size → inName ((byts s)[j]?.getD 0) = true) → q = 0) := by
    intro h
    rw [hq, if_pos]
    rw [List.all_eq_true]
    intro z hz
    obtain ⟨j, hjl, rfl⟩ := List.getElem_of_mem hz
    have := h j (by rw [byts_length] at hjl; exact hjl)
    rwa [List.getElem?_eq_getElem hjl, Option.getD_some] at this
  have HQ1 : Hid (∀ j, j < s.size → inName ((byts s)[j]?.getD 0) = false → q = 16) := by
    intro j hj h
    rw [hq, if_neg]
    intro ha
    rw [List.all_eq_true] at ha
    have hjl : j < (byts s).length := by rw [byts_length]; exact hj
    rw [List.getElem?_eq_getElem hjl, Option.getD_some] at h
    rw [ha _ (List.getElem_mem hjl)] at h
    cases h
  have d1 : decide ((s.size : Int) < 1) = false := by simp; omega
  have d2 : decide ((s.size : Int) > 13) = false := by simp; omega
  clear hq
  go_enter Try.func22, Try.ntmps22
  go_wp2
  go_loop [3] (fun i => ∃ k : Nat, k ≤ s.size ∧ i = .int .i64 (k : Int) ∧ Hid (∀ j, j < k → inName ((byts s)[j]?.getD 0) = true)) (fun i => s.size - (intOf i).toNat)
  case atStart => exact ⟨0, Nat.zero_le _, rfl, fun j hj => by omega⟩
  case round =>
    obtain ⟨k, hk, rfl, hj⟩ := hrel
    by_cases hlt : k < s.size
    · have HJ : Hid (inName (s[k].toNat : Int) = true → ∀ j, j < k + 1 → inName ((byts s)[j]?.getD 0) = true) := by
        intro h j hjk
        by_cases he : j = k
        · subst he; rw [HG.out j hlt]; exact h
        · exact hj.out j (by omega)
      have HBad : Hid (inName (s[k].toNat : Int) = false → q = 16) := fun h => HQ1.out k hlt (by rw [HG.out k hlt]; exact h)
      have hz0 : (0 : Int) ≤ (s[k].toNat : Int) := by omega
      have hz1 : (s[k].toNat : Int) ≤ 255 := by have := s[k].toNat_lt; omega
      obtain ⟨z, hz⟩ : ∃ z : Int, (s[k].toNat : Int) = z := ⟨_, rfl⟩
      rw [hz] at HJ HBad hz0 hz1
      clear hj HQ0 HQ1 HG HL
      by_cases a1 : 97 ≤ z
      · by_cases a2 : z ≤ 122
        · have d0 : decide (z ≥ 97) = true := by simp; omega
          have d3 : decide (z ≤ 122) = true := by simp; omega
          clear HBad
          have HJ' := hide (HJ.out (by unfold inName; simp; omega))
          clear HJ
          go_wp2
          exact ⟨⟨k + 1, by omega, by go_num, HJ'⟩, by simp [intOf]; omega⟩
        · by_cases b1 : z = 46
          · have d0 : decide (z ≥ 97) = true := by simp; omega
            have d3 : decide (z ≤ 122) = false := by simp; omega
            have d1 : decide (z ≥ 48) = true := by simp; omega
            have d2 : decide (z ≤ 57) = false := by simp; omega
            have d5 : (z == 46) = true := by simp; omega
            clear HBad
            have HJ' := hide (HJ.out (by unfold inName; simp; omega))
            clear HJ
            go_wp2
            exact ⟨⟨k + 1, by omega, by go_num, HJ'⟩, by simp [intOf]; omega⟩
          · by_cases b2 : z = 95
            · have d0 : decide (z ≥ 97) = true := by simp; omega
              have d3 : decide (z ≤ 122) = false := by simp; omega
              have d1 : decide (z ≥ 48) = true := by simp; omega
              have d2 : decide (z ≤ 57) = false := by simp; omega
              have d5 : (z == 46) = false := by simp; omega
              have d6 : (z == 95) = true := by simp; omega
              clear HBad
              have HJ' := hide (HJ.out (by unfold inName; simp; omega))
              clear HJ
              go_wp2
              exact ⟨⟨k + 1, by omega, by go_num, HJ'⟩, by simp [intOf]; omega⟩
            · by_cases b3 : z = 45
              · have d0 : decide (z ≥ 97) = true := by simp; omega
                have d3 : decide (z ≤ 122) = false := by simp; omega
                have d1 : decide (z ≥ 48) = true := by simp; omega
                have d2 : decide (z ≤ 57) = false := by simp; omega
                have d5 : (z == 46) = false := by simp; omega
                have d6 : (z == 95) = false := by simp; omega
                have d7 : (z == 45) = true := by simp; omega
                clear HBad
                have HJ' := hide (HJ.out (by unfold inName; simp; omega))
                clear HJ
                go_wp2
                exact ⟨⟨k + 1, by omega, by go_num, HJ'⟩, by simp [intOf]; omega⟩
              · have d0 : decide (z ≥ 97) = true := by simp; omega
                have d3 : decide (z ≤ 122) = false := by simp; omega
                have d1 : decide (z ≥ 48) = true := by simp; omega
                have d2 : decide (z ≤ 57) = false := by simp; omega
                have d5 : (z == 46) = false := by simp; omega
                have d6 : (z == 95) = false := by simp; omega
                have d7 : (z == 45) = false := by simp; omega
                have HN := hide (HBad.out (by unfold inName; simp; omega))
                clear HJ HBad
                go_wp2
                go_ret
                exact ⟨by rw [HN.out]; rfl, rfl⟩
      · by_cases a2 : 48 ≤ z
        · by_cases a3 : z ≤ 57
          · have d0 : decide (z ≥ 97) = false := by simp; omega
            have d1 : decide (z ≥ 48) = true := by simp; omega
            have d2 : decide (z ≤ 57) = true := by simp; omega
            clear HBad
            have HJ' := hide (HJ.out (by unfold inName; simp; omega))
            clear HJ
            go_wp2
            exact ⟨⟨k + 1, by omega, by go_num, HJ'⟩, by simp [intOf]; omega⟩
          · by_cases b1 : z = 46
            · have d0 : decide (z ≥ 97) = false := by simp; omega
              have d1 : decide (z ≥ 48) = true := by simp; omega
              have d2 : decide (z ≤ 57) = false := by simp; omega
              have d5 : (z == 46) = true := by simp; omega
              clear HBad
              have HJ' := hide (HJ.out (by unfold inName; simp; omega))
              clear HJ
              go_wp2
              exact ⟨⟨k + 1, by omega, by go_num, HJ'⟩, by simp [intOf]; omega⟩
            · by_cases b2 : z = 95
              · have d0 : decide (z ≥ 97) = false := by simp; omega
                have d1 : decide (z ≥ 48) = true := by simp; omega
                have d2 : decide (z ≤ 57) = false := by simp; omega
                have d5 : (z == 46) = false := by simp; omega
                have d6 : (z == 95) = true := by simp; omega
                clear HBad
                have HJ' := hide (HJ.out (by unfold inName; simp; omega))
                clear HJ
                go_wp2
                exact ⟨⟨k + 1, by omega, by go_num, HJ'⟩, by simp [intOf]; omega⟩
              · by_cases b3 : z = 45
                · have d0 : decide (z ≥ 97) = false := by simp; omega
                  have d1 : decide (z ≥ 48) = true := by simp; omega
                  have d2 : decide (z ≤ 57) = false := by simp; omega
                  have d5 : (z == 46) = false := by simp; omega
                  have d6 : (z == 95) = false := by simp; omega
                  have d7 : (z == 45) = true := by simp; omega
                  clear HBad
                  have HJ' := hide (HJ.out (by unfold inName; simp; omega))
                  clear HJ
                  go_wp2
                  exact ⟨⟨k + 1, by omega, by go_num, HJ'⟩, by simp [intOf]; omega⟩
                · have d0 : decide (z ≥ 97) = false := by simp; omega
                  have d1 : decide (z ≥ 48) = true := by simp; omega
                  have d2 : decide (z ≤ 57) = false := by simp; omega
                  have d5 : (z == 46) = false := by simp; omega
                  have d6 : (z == 95) = false := by simp; omega
                  have d7 : (z == 45) = false := by simp; omega
                  have HN := hide (HBad.out (by unfold inName; simp; omega))
                  clear HJ HBad
                  go_wp2
                  go_ret
                  exact ⟨by rw [HN.out]; rfl, rfl⟩
        · by_cases b1 : z = 46
          · have d0 : decide (z ≥ 97) = false := by simp; omega
            have d1 : decide (z ≥ 48) = false := by simp; omega
            have d5 : (z == 46) = true := by simp; omega
            clear HBad
            have HJ' := hide (HJ.out (by unfold inName; simp; omega))
            clear HJ
            go_wp2
            exact ⟨⟨k + 1, by omega, by go_num, HJ'⟩, by simp [intOf]; omega⟩
          · by_cases b2 : z = 95
            · have d0 : decide (z ≥ 97) = false := by simp; omega
              have d1 : decide (z ≥ 48) = false := by simp; omega
              have d5 : (z == 46) = false := by simp; omega
              have d6 : (z == 95) = true := by simp; omega
              clear HBad
              have HJ' := hide (HJ.out (by unfold inName; simp; omega))
              clear HJ
              go_wp2
              exact ⟨⟨k + 1, by omega, by go_num, HJ'⟩, by simp [intOf]; omega⟩
            · by_cases b3 : z = 45
              · have d0 : decide (z ≥ 97) = false := by simp; omega
                have d1 : decide (z ≥ 48) = false := by simp; omega
                have d5 : (z == 46) = false := by simp; omega
                have d6 : (z == 95) = false := by simp; omega
                have d7 : (z == 45) = true := by simp; omega
                clear HBad
                have HJ' := hide (HJ.out (by unfold inName; simp; omega))
                clear HJ
                go_wp2
                exact ⟨⟨k + 1, by omega, by go_num, HJ'⟩, by simp [intOf]; omega⟩
              · have d0 : decide (z ≥ 97) = false := by simp; omega
                have d1 : decide (z ≥ 48) = false := by simp; omega
                have d5 : (z == 46) = false := by simp; omega
                have d6 : (z == 95) = false := by simp; omega
                have d7 : (z == 45) = false := by simp; omega
                have HN := hide (HBad.out (by unfold inName; simp; omega))
                clear HJ HBad
                go_wp2
                go_ret
                exact ⟨by rw [HN.out]; rfl, rfl⟩
    · obtain rfl : k = s.size := by omega
      have HN := hide (HQ0.out hj.out)
      clear hj HQ0 HQ1
      go_wp2
      go_ret
      exact ⟨by rw [HN.out]; rfl, rfl⟩

theorem refName_any (s : ByteArray) (w : World) (hm : s.size ≤ 9223372036854775807) :
    Calls Try.prog 22 #[.string s] w fun e w' => e = .returned (.int .i64 (nameE s)) ∧ w = w' := by
  unfold nameE
  by_cases h1 : 1 ≤ s.size
  · by_cases h2 : s.size ≤ 13
    · by_cases h3 : (s.toList == [46]) = true
      · rw [if_neg (by unfold nameB; rw [h3]; simp)]
        exact refName_dot s w hm h1 h2 h3
      · have h3 : (s.toList == [46]) = false := by simpa using h3
        by_cases h4 : (s.toList == [46, 46]) = true
        · rw [if_neg (by unfold nameB; rw [h4]; simp)]
          exact refName_dots s w hm h1 h2 h3 h4
        · have h4 : (s.toList == [46, 46]) = false := by simpa using h4
          refine refName_byte s w h1 h2 h3 h4 _ ?_
          unfold nameB
          rw [h3, h4]
          simp [h1, h2]
    · rw [if_neg (by unfold nameB; simp [h2])]
      exact refName_high s w hm (by omega)
  · rw [if_neg (by unfold nameB; simp [h1])]
    exact refName_low s w hm (by omega)

end Go.Proofs.Ytghhlcacnggjhaa
