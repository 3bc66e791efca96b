/- The walk of PlanCovers. -/
import Derived.Test.YtielammfimeedaaCoversWalk
namespace Go.Proofs.Ytielammfimeedaa
open Go.RowKit Go.Shelf
set_option linter.unusedVariables false

set_option maxRecDepth 10000 in
set_option maxHeartbeats 4000000 in
theorem covers_ok (P : Nat → Int) (w : World) (h : checkE P = 0) (hx1 : ¬ 400 < P 1) (hx2 : ¬ 200 < P 2) :
    Calls Try.prog 6 #[Pv P] w fun r w' => r = .returned (.bool true) ∧ Below w.heap.size w w' := by
  have H1 := hide (check_any P)
  rw [h] at H1
  have HS := hide (sound h)
  have HC := hide h
  obtain ⟨M, hM⟩ : ∃ M, P 9 * P 0 = M := ⟨_, rfl⟩
  have hM2 : 0 ≤ M ∧ M ≤ 16777216 := by
    have b := (sound h).bd
    have l := (sound h).log
    have h9 := (sound h).p9
    have h11 := (sound h).p11
    have hd := (sound h).data
    have := prod_bd b.1 (bl := P 9) (by omega)
    rw [Int.mul_comm, hM] at this
    exact this
  have q1 : IntKind.i64.wrap (P 9 * P 0) = M := by rw [hM, IntKind.wrap_i64]; omega
  have HM := hide hM
  have b1 := (sound h).blocks
  have b2 := (sound h).inodes
  clear h hM
  have HK := hide (Kp.start w P)
  go_enter Try.func6, Try.ntmps6
  go_wp2_with fail
  go_at_call 8
  refine (wakes_any _).mono ?_
  rintro r w1 ⟨rfl, hb⟩
  replace HK := hide ((unhide HK).call hb)
  clear hb
  obtain ⟨f0, f1, f2, f3, f4, f5, f6, f7, f8, f9, f10, f11⟩ := (unhide HK).cells
  go_wp2_with fail
  go_at_call 15
  refine (unhide H1 _).mono ?_
  rintro r w2 ⟨rfl, hb⟩
  replace HK := hide ((unhide HK).call hb)
  clear hb f0 f1 f2 f3 f4 f5 f6 f7 f8 f9 f10 f11 H1
  obtain ⟨f0, f1, f2, f3, f4, f5, f6, f7, f8, f9, f10, f11⟩ := (unhide HK).cells
  go_wp2
  go_loopw [5, 6] (fun l b wr => ∃ k : Nat, (k : Int) ≤ P 1 ∧ b = .int .i64 (k : Int) ∧ l = .int .i64 (lastR P k) ∧ Hid (Kp w P wr)) (fun _ b _ => (P 1).toNat - (intOf b).toNat)
  case atStart => exact ⟨0, by omega, rfl, rfl, HK⟩
  case round =>
    obtain ⟨k, hk, rfl, rfl, hK⟩ := hrel
    clear f0 f1 f2 f3 f4 f5 f6 f7 f8 f9 f10 f11 HK
    obtain ⟨f0, f1, f2, f3, f4, f5, f6, f7, f8, f9, f10, f11⟩ := (unhide hK).cells
    by_cases hlt : (k : Int) < P 1
    · have hs := reg_step (unhide HS) k
      have H2 := hide (fun u => region_ok P (k : Int) u (unhide HC) (by omega) (by omega))
      have HL : Hid (lastR P (k + 1) = reg P (k : Int)) := hide rfl
      generalize reg P (k : Int) = r at *
      generalize lastR P k = l at *
      go_wp2_with fail
      go_at_call 13
      refine (unhide H2 _).mono ?_
      rintro e w3 ⟨rfl, hb⟩
      replace hK := hide ((unhide hK).call hb)
      clear hb f0 f1 f2 f3 f4 f5 f6 f7 f8 f9 f10 f11 H2
      go_wp2
      refine ⟨⟨k + 1, by omega, by go_num, ?_, hK⟩, by simp [intOf]; omega⟩
      rw [unhide HL]
    · have hkp : (k : Int) = P 1 := by omega
      rw [reg_last (unhide HS) k hkp]
      clear hkp hk
      go_wp2
      go_loopw [9, 10] (fun x i wr => ∃ j : Nat, (j : Int) ≤ P 2 ∧ i = .int .i64 (j : Int) ∧ x = .int .i64 (M + 32 * (j : Int)) ∧ Hid (Kp w P wr)) (fun _ i _ => (P 2).toNat - (intOf i).toNat)
      case atStart => exact ⟨0, by omega, rfl, by go_num, hK⟩
      case round =>
        obtain ⟨j, hj, rfl, rfl, hJ⟩ := hrel
        clear f0 f1 f2 f3 f4 f5 f6 f7 f8 f9 f10 f11 hK
        obtain ⟨f0, f1, f2, f3, f4, f5, f6, f7, f8, f9, f10, f11⟩ := (unhide hJ).cells
        by_cases hlt : (j : Int) < P 2
        · have z := size32 (unhide HS).size
          have a1 := inode_block (unhide HS) (j : Int) (by omega) hlt
          have a2 := inode_place (unhide HS) (j : Int)
          have a3 := div_bd (j : Int) (P 0 / 32) (by omega) (by omega)
          have a4 := (unhide HS).p9
          have a5 := (unhide HS).p11
          have a6 := (unhide HS).bd
          have a7 := (unhide HS).log
          have a8 := (unhide HS).data
          have H2 := hide (fun u => place_ok P (j : Int) (P 0 / 32) u (unhide HC) (by omega) (by omega) rfl)
          have H3 := hide (fun u => region_ok P (P 9 + (j : Int) / (P 0 / 32)) u (unhide HC) (by omega) (by omega))
          rw [reg_table (unhide HS) (P 9 + (j : Int) / (P 0 / 32)) (by omega) (by omega)] at H3
          rw [unhide HM] at a2
          generalize (j : Int) / (P 0 / 32) = q at *
          generalize (j : Int) % (P 0 / 32) = m at *
          have hA : 0 ≤ m * 32 ∧ m * 32 + 32 ≤ P 0 := by omega
          obtain ⟨B, hB⟩ : ∃ B, P 9 + q = B := ⟨_, rfl⟩
          obtain ⟨A, hAe⟩ : ∃ A, m * 32 = A := ⟨_, rfl⟩
          rw [hB, hAe] at H2 a2
          rw [hB] at H3
          rw [hAe] at hA
          obtain ⟨X, hX⟩ : ∃ X, B * P 0 = X := ⟨_, rfl⟩
          have hX2 : X = M + 32 * (j : Int) - A := by omega
          have q2 : IntKind.i64.wrap (B * P 0) = M + 32 * (j : Int) - A := by rw [hX, hX2, IntKind.wrap_i64]; omega
          have hp0 := a6.1
          clear z a1 a2 a3 a4 a5 a6 a7 a8 hB hAe hX hX2
          go_wp2_with fail
          go_at_call 11
          refine (unhide H2 _).mono ?_
          rintro e w3 ⟨rfl, hb⟩
          replace hJ := hide ((unhide hJ).call hb)
          clear hb f0 f1 f2 f3 f4 f5 f6 f7 f8 f9 f10 f11 H2
          obtain ⟨f0, f1, f2, f3, f4, f5, f6, f7, f8, f9, f10, f11⟩ := (unhide hJ).cells
          go_wp2_with fail
          go_at_call 13
          refine (unhide H3 _).mono ?_
          rintro e w4 ⟨rfl, hb⟩
          replace hJ := hide ((unhide hJ).call hb)
          clear hb f0 f1 f2 f3 f4 f5 f6 f7 f8 f9 f10 f11 H3
          obtain ⟨f0, f1, f2, f3, f4, f5, f6, f7, f8, f9, f10, f11⟩ := (unhide hJ).cells
          go_wp2
          exact ⟨⟨j + 1, by omega, by go_num, by go_num, hJ⟩, by simp [intOf]; omega⟩
        · go_wp2
          go_ret
          exact ⟨rfl, (unhide hJ).2⟩

theorem covers_walk (P : Nat → Int) (w : World) :
    Calls Try.prog 6 #[Pv P] w fun r w' => r = .returned (.bool true) ∧ Below w.heap.size w w' := by
  by_cases h : checkE P = 0
  · by_cases hx : 400 < P 1 ∨ 200 < P 2
    · exact covers_big P w h hx
    · exact covers_ok P w h (fun x => hx (.inl x)) (fun x => hx (.inr x))
  · exact covers_form P w h

end Go.Proofs.Ytielammfimeedaa
