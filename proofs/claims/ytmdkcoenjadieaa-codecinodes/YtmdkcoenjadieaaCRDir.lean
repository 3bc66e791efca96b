/- Contracts of skerryref06.Dirent. -/
import Derived.Test.YtmdkcoenjadieaaCRName
import Derived.Deep.RegionHeld3
namespace Go.Proofs.Ytmdkcoenjadieaa
open Go.RowKit Go.Shelf
set_option linter.unusedVariables false
set_option maxRecDepth 100000

set_option maxHeartbeats 4000000 in
theorem refDirent_form (i : Int) (s : ByteArray) (w : World) (hi : i = 0) (hs : (s.toList == []) = false) :
    Calls Try.prog 10 #[Dv i s] w fun e w' => e = .returned (.tuple #[.slice none 0 0, .int .i64 4]) ∧ Below w.heap.size w w' := by
  have HK := hide (Bx.start w (Dc i s) 26)
  have hi1 : (i == 0) = true := by simpa using hi
  clear hi
  go_enter Try.func10, Try.ntmps10
  go_wp2_with fail
  go_ret2
  exact ⟨rfl, HK.out.2.1⟩

set_option maxHeartbeats 4000000 in
theorem refDirent_name (i : Int) (s : ByteArray) (w : World) (hi : i ≠ 0) (hm : s.size ≤ 9223372036854775807) (hn : nameB s = false) :
    Calls Try.prog 10 #[Dv i s] w fun e w' => e = .returned (.tuple #[.slice none 0 0, .int .i64 16]) ∧ Below w.heap.size w w' := by
  have HK := hide (Bx.start w (Dc i s) 26)
  have KN : Hid (∀ u, Calls Try.prog 15 #[.string s] u fun e w' => e = .returned (.int .i64 16) ∧ u = w') := fun u => by have := refName_any s u hm; rwa [show nameE s = 16 by unfold nameE; rw [hn]; rfl] at this
  have hi1 : (i == 0) = false := by simpa using hi
  have hi2 : (i != 0) = true := by simpa using hi
  clear hi hm hn
  go_enter Try.func10, Try.ntmps10
  go_wp2_with fail
  go_at_call 15
  refine (unhide KN _).mono ?_
  rintro e w' ⟨rfl, rfl⟩
  clear KN
  go_wp2_with fail
  go_ret2
  exact ⟨rfl, HK.out.2.1⟩

set_option maxHeartbeats 4000000 in
theorem refDirent_value (i : Int) (s : ByteArray) (w : World) (hi : i ≠ 0) (hm : s.size ≤ 9223372036854775807) (hn : nameB s = true) (hf : fitB 2 [i] = false) :
    Calls Try.prog 10 #[Dv i s] w fun e w' => e = .returned (.tuple #[.slice none 0 0, .int .i64 3]) ∧ Below w.heap.size w w' := by
  have HK := hide (Bx.start w (Dc i s) 26)
  have KN : Hid (∀ u, Calls Try.prog 15 #[.string s] u fun e w' => e = .returned (.int .i64 0) ∧ u = w') := fun u => by have := refName_any s u hm; rwa [show nameE s = 0 by unfold nameE; rw [hn]; rfl] at this
  have FT : Hid (∀ u, Calls Try.prog 20 #[.int .i64 i, .int .i64 2] u fun e w' => e = .returned (.bool false) ∧ u = w') := fun u => by have := fits_any i 2 u (by omega); rwa [hf] at this
  have hi1 : (i == 0) = false := by simpa using hi
  have hi2 : (i != 0) = true := by simpa using hi
  clear hi hm hn hf
  go_enter Try.func10, Try.ntmps10
  go_wp2_with fail
  go_at_call 15
  refine (unhide KN _).mono ?_
  rintro e w' ⟨rfl, rfl⟩
  clear KN
  go_wp2_with fail
  go_at_call 20
  refine (unhide FT _).mono ?_
  rintro e w' ⟨rfl, rfl⟩
  clear FT
  go_wp2_with fail
  go_ret2
  exact ⟨rfl, HK.out.2.1⟩

set_option maxHeartbeats 4000000 in
theorem refDirent_named (i : Int) (s : ByteArray) (w : World) (hi : i ≠ 0) (hs : s.size ≤ 13) (hn : nameB s = true) (hf : fitB 2 [i] = true) :
    Calls Try.prog 10 #[Dv i s] w fun e w' => ∃ a c, e = .returned (.tuple #[.slice a 16 c, .int .i64 0]) ∧ Hid (Has w' a 16 (layB 16 (dirL i s))) ∧ Below w.heap.size w w' := by
  have hm : s.size ≤ 9223372036854775807 := by omega
  obtain ⟨M, hM⟩ : ∃ M, M = 2 + s.size := ⟨_, rfl⟩
  have HK := hide (Bx.start w (Dc i s) 26)
  have KN : Hid (∀ u, Calls Try.prog 15 #[.string s] u fun e w' => e = .returned (.int .i64 0) ∧ u = w') := fun u => by have := refName_any s u hm; rwa [show nameE s = 0 by unfold nameE; rw [hn]; rfl] at this
  have FT : Hid (∀ u, Calls Try.prog 20 #[.int .i64 i, .int .i64 2] u fun e w' => e = .returned (.bool true) ∧ u = w') := fun u => by have := fits_any i 2 u (by omega); rwa [hf] at this
  have hi1 : (i == 0) = false := by simpa using hi
  have hi2 : (i != 0) = true := by simpa using hi
  have KP : Hid (∀ u, Bx w (Dc i s) u → Calls Try.prog 21 #[.slice none 0 0, .int .i64 2, .int .i64 i] u fun e w' => ∃ a1 c1 a2 c2 w2, e = .returned (.slice a1 2 c1) ∧ (∀ ty, (Builtin.append_ #[27, 9] ty #[.slice a1 2 c1, .string s]).run Try.prog w' = .ok (.slice a2 M c2) w2) ∧ w'.cell? ⟨w.heap.size, 0, none⟩ = some (.int .i64 i) ∧ w'.cell? ⟨w.heap.size, 1, none⟩ = some (.string s) ∧ w2.cell? ⟨w.heap.size, 0, none⟩ = some (.int .i64 i) ∧ w2.cell? ⟨w.heap.size, 1, none⟩ = some (.string s) ∧ Hid (Calls Try.prog 25 #[.slice a2 M c2, .int .i64 16] w2 fun e w' => ∃ a' c', e = .returned (.slice a' 16 c') ∧ w'.cell? ⟨w.heap.size, 0, none⟩ = some (.int .i64 i) ∧ w'.cell? ⟨w.heap.size, 1, none⟩ = some (.string s) ∧ Hid (Has w' a' 16 (layB 16 (dirL i s))) ∧ Hid (Below w.heap.size w w'))) := by
    intro u hBu
    refine (refput_m (w.heap.size + 1) _ 0 _ [] 2 i _ 2 rfl (Own.none _ _) hBu.2.2 ⟨by omega, by omega⟩ (fit_bd hf (by omega) _ (by simp)) (by omega)).mono ?_
    rintro e w' ⟨a1, c1, rfl, hO, hb⟩
    have hBw := hBu.low hb
    obtain ⟨a2, c2, w2, hr, hO2, hb2⟩ := append_text hO.out hBw.2.2 s (by omega)
    rw [← hM] at hr hO2
    have hB2 := hBw.low hb2
    refine ⟨a1, c1, a2, c2, w2, rfl, hr, hBw.1 0 _ rfl, hBw.1 1 _ rfl, hB2.1 0 _ rfl, hB2.1 1 _ rfl, ?_⟩
    refine (padded_any (w.heap.size + 1) a2 M c2 16 _ w2 hO2 hB2.2.2 (by omega) (by omega)).mono ?_
    rintro e w3 ⟨a3, c3, rfl, hO3, hb3⟩
    have hB3 := hB2.low hb3
    refine ⟨a3, c3, rfl, hB3.1 0 _ rfl, hB3.1 1 _ rfl, ?_, hB3.2.1⟩
    have := hO3.out.has
    have e1 : [] ++ digits 2 i ++ byts s = dirL i s := by simp [dirL, numsB]
    rwa [e1] at this
  clear hi hm hn hf hs hM
  go_enter Try.func10, Try.ntmps10
  go_wp2_with fail
  go_at_call 15
  refine (unhide KN _).mono ?_
  rintro e w' ⟨rfl, rfl⟩
  clear KN
  go_wp2_with fail
  go_at_call 20
  refine (unhide FT _).mono ?_
  rintro e w' ⟨rfl, rfl⟩
  clear FT
  go_upto_region 7 with fail
  change Code.wp _ _ _ _ (w.alloc (.cells (Dc i s) 26))
  replace KP := hide (unhide KP _ HK.out.drew)
  have f0 : (w.alloc (.cells (Dc i s) 26)).drew.cell? ⟨w.heap.size, 0, none⟩ = some (.int .i64 i) := HK.out.drew.1 0 _ rfl
  have f1 : (w.alloc (.cells (Dc i s) 26)).drew.cell? ⟨w.heap.size, 1, none⟩ = some (.string s) := HK.out.drew.1 1 _ rfl
  generalize w.alloc (.cells (Dc i s) 26) = W at *
  clear HK
  go_cut [2, 3] (fun c q wx => ∃ a0 c0, c = .slice a0 16 c0 ∧ q = .int .i64 0 ∧ Hid (Has wx a0 16 (layB 16 (dirL i s))) ∧ Hid (Below w.heap.size w wx))
  case first =>
    go_region_held3 (fun u => u.cell? ⟨w.heap.size, 0, none⟩ = some (.int .i64 i) ∧ u.cell? ⟨w.heap.size, 1, none⟩ = some (.string s))
      (with_reducible (first | exact ⟨f0, f1⟩ | exact ⟨g0, g1⟩ | exact ⟨k0, k1⟩ | exact ⟨l0, l1⟩))
      (first
        | (go_at_call 21; refine (unhide KP).mono ?_; rintro e w1 ⟨a1, c1, a2, c2, w2, rfl, r, g0, g1, k0, k1, KD⟩; have R := hide r; clear KP r)
        | (refine step_append_text (by rfl) _ _ _ _ (by rfl) _ _ _ (by rfl) (by rfl) (unhide R) ?_; clear R)
        | (go_at_call 25; refine (unhide KD).mono ?_; rintro e w3 ⟨a3, c3, rfl, l0, l1, h3, h4⟩; clear KD))
    all_goals
      go_wp2_with fail
      go_meet
      exact ⟨a3, c3, rfl, rfl, h3, h4⟩
  case rest =>
    obtain ⟨a0, c0, rfl, rfl, hh, hB⟩ := hcut
    clear KP f0 f1
    go_wp2_with fail
    go_ret2
    exact ⟨a0, c0, rfl, hh, hB.out⟩

set_option maxHeartbeats 4000000 in
theorem refDirent_none (i : Int) (s : ByteArray) (w : World) (hi : i = 0) (hs : s.size ≤ 13) (hs0 : (s.toList == []) = true) (hf : fitB 2 [i] = true) :
    Calls Try.prog 10 #[Dv i s] w fun e w' => ∃ a c, e = .returned (.tuple #[.slice a 16 c, .int .i64 0]) ∧ Hid (Has w' a 16 (layB 16 (dirL i s))) ∧ Below w.heap.size w w' := by
  obtain ⟨M, hM⟩ : ∃ M, M = 2 + s.size := ⟨_, rfl⟩
  have HK := hide (Bx.start w (Dc i s) 26)
  have FT : Hid (∀ u, Calls Try.prog 20 #[.int .i64 i, .int .i64 2] u fun e w' => e = .returned (.bool true) ∧ u = w') := fun u => by have := fits_any i 2 u (by omega); rwa [hf] at this
  have hi1 : (i == 0) = true := by simpa using hi
  have hi2 : (i != 0) = false := by simpa using hi
  have KP : Hid (∀ u, Bx w (Dc i s) u → Calls Try.prog 21 #[.slice none 0 0, .int .i64 2, .int .i64 i] u fun e w' => ∃ a1 c1 a2 c2 w2, e = .returned (.slice a1 2 c1) ∧ (∀ ty, (Builtin.append_ #[27, 9] ty #[.slice a1 2 c1, .string s]).run Try.prog w' = .ok (.slice a2 M c2) w2) ∧ w'.cell? ⟨w.heap.size, 0, none⟩ = some (.int .i64 i) ∧ w'.cell? ⟨w.heap.size, 1, none⟩ = some (.string s) ∧ w2.cell? ⟨w.heap.size, 0, none⟩ = some (.int .i64 i) ∧ w2.cell? ⟨w.heap.size, 1, none⟩ = some (.string s) ∧ Hid (Calls Try.prog 25 #[.slice a2 M c2, .int .i64 16] w2 fun e w' => ∃ a' c', e = .returned (.slice a' 16 c') ∧ w'.cell? ⟨w.heap.size, 0, none⟩ = some (.int .i64 i) ∧ w'.cell? ⟨w.heap.size, 1, none⟩ = some (.string s) ∧ Hid (Has w' a' 16 (layB 16 (dirL i s))) ∧ Hid (Below w.heap.size w w'))) := by
    intro u hBu
    refine (refput_m (w.heap.size + 1) _ 0 _ [] 2 i _ 2 rfl (Own.none _ _) hBu.2.2 ⟨by omega, by omega⟩ (fit_bd hf (by omega) _ (by simp)) (by omega)).mono ?_
    rintro e w' ⟨a1, c1, rfl, hO, hb⟩
    have hBw := hBu.low hb
    obtain ⟨a2, c2, w2, hr, hO2, hb2⟩ := append_text hO.out hBw.2.2 s (by omega)
    rw [← hM] at hr hO2
    have hB2 := hBw.low hb2
    refine ⟨a1, c1, a2, c2, w2, rfl, hr, hBw.1 0 _ rfl, hBw.1 1 _ rfl, hB2.1 0 _ rfl, hB2.1 1 _ rfl, ?_⟩
    refine (padded_any (w.heap.size + 1) a2 M c2 16 _ w2 hO2 hB2.2.2 (by omega) (by omega)).mono ?_
    rintro e w3 ⟨a3, c3, rfl, hO3, hb3⟩
    have hB3 := hB2.low hb3
    refine ⟨a3, c3, rfl, hB3.1 0 _ rfl, hB3.1 1 _ rfl, ?_, hB3.2.1⟩
    have := hO3.out.has
    have e1 : [] ++ digits 2 i ++ byts s = dirL i s := by simp [dirL, numsB]
    rwa [e1] at this
  clear hi hf hs hM
  go_enter Try.func10, Try.ntmps10
  go_wp2_with fail
  go_at_call 20
  refine (unhide FT _).mono ?_
  rintro e w' ⟨rfl, rfl⟩
  clear FT
  go_upto_region 7 with fail
  change Code.wp _ _ _ _ (w.alloc (.cells (Dc i s) 26))
  replace KP := hide (unhide KP _ HK.out.drew)
  have f0 : (w.alloc (.cells (Dc i s) 26)).drew.cell? ⟨w.heap.size, 0, none⟩ = some (.int .i64 i) := HK.out.drew.1 0 _ rfl
  have f1 : (w.alloc (.cells (Dc i s) 26)).drew.cell? ⟨w.heap.size, 1, none⟩ = some (.string s) := HK.out.drew.1 1 _ rfl
  generalize w.alloc (.cells (Dc i s) 26) = W at *
  clear HK
  go_cut [2, 3] (fun c q wx => ∃ a0 c0, c = .slice a0 16 c0 ∧ q = .int .i64 0 ∧ Hid (Has wx a0 16 (layB 16 (dirL i s))) ∧ Hid (Below w.heap.size w wx))
  case first =>
    go_region_held3 (fun u => u.cell? ⟨w.heap.size, 0, none⟩ = some (.int .i64 i) ∧ u.cell? ⟨w.heap.size, 1, none⟩ = some (.string s))
      (with_reducible (first | exact ⟨f0, f1⟩ | exact ⟨g0, g1⟩ | exact ⟨k0, k1⟩ | exact ⟨l0, l1⟩))
      (first
        | (go_at_call 21; refine (unhide KP).mono ?_; rintro e w1 ⟨a1, c1, a2, c2, w2, rfl, r, g0, g1, k0, k1, KD⟩; have R := hide r; clear KP r)
        | (refine step_append_text (by rfl) _ _ _ _ (by rfl) _ _ _ (by rfl) (by rfl) (unhide R) ?_; clear R)
        | (go_at_call 25; refine (unhide KD).mono ?_; rintro e w3 ⟨a3, c3, rfl, l0, l1, h3, h4⟩; clear KD))
    all_goals
      go_wp2_with fail
      go_meet
      exact ⟨a3, c3, rfl, rfl, h3, h4⟩
  case rest =>
    obtain ⟨a0, c0, rfl, rfl, hh, hB⟩ := hcut
    clear KP f0 f1
    go_wp2_with fail
    go_ret2
    exact ⟨a0, c0, rfl, hh, hB.out⟩

theorem refDirent_ok (i : Int) (s : ByteArray) (w : World) (h : dirE i s = 0) :
    Calls Try.prog 10 #[Dv i s] w fun e w' => ∃ a c, e = .returned (.tuple #[.slice a 16 c, .int .i64 0]) ∧ Hid (Has w' a 16 (layB 16 (dirL i s))) ∧ Below w.heap.size w w' := by
  unfold dirE at h
  by_cases hi : i = 0
  · rw [if_pos hi] at h
    have hs : s.size = 0 := by
      by_cases hs : s.size = 0
      · exact hs
      · rw [if_neg hs] at h; omega
    exact refDirent_none i s w hi (by omega) (by rw [toList_nil]; exact decide_eq_true hs) (by rw [hi]; decide)
  · rw [if_neg hi] at h
    by_cases hn : nameB s = true
    · rw [if_pos hn] at h
      by_cases hf : fitB 2 [i] = true
      · exact refDirent_named i s w hi (nameB_size hn) hn hf
      · rw [if_neg hf] at h; omega
    · rw [if_neg hn] at h; omega

theorem refDirent_err (i : Int) (s : ByteArray) (w : World) (hm : s.size ≤ 9223372036854775807) (h : dirE i s ≠ 0) :
    Calls Try.prog 10 #[Dv i s] w fun e w' => e = .returned (.tuple #[.slice none 0 0, .int .i64 (dirE i s)]) ∧ Below w.heap.size w w' := by
  unfold dirE at h ⊢
  by_cases hi : i = 0
  · rw [if_pos hi] at h ⊢
    have hs : ¬ s.size = 0 := fun hs => by rw [if_pos hs] at h; exact h rfl
    rw [if_neg hs]
    exact refDirent_form i s w hi (by rw [toList_nil]; exact decide_eq_false hs)
  · rw [if_neg hi] at h ⊢
    by_cases hn : nameB s = true
    · rw [if_pos hn] at h ⊢
      by_cases hf : fitB 2 [i] = true
      · rw [if_pos hf] at h; exact absurd rfl h
      · rw [if_neg hf]
        exact refDirent_value i s w hi hm hn (by simpa using hf)
    · rw [if_neg hn]
      exact refDirent_name i s w hi hm (by simpa using hn)

end Go.Proofs.Ytmdkcoenjadieaa
