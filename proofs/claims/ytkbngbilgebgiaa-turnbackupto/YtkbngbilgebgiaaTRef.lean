/- The document's answers: powers of i, and the spectrum of four sums. -/
import Derived.Test.YtkbngbilgebgiaaTWakes
namespace Go.Proofs.Ytkbngbilgebgiaa
open Go.RowKit Go.Shelf Ieee
set_option linter.unusedVariables false

theorem quarter_any (n : Int) (w : World) : Calls Try.prog 19 #[.int .i64 n] w fun e w' => e = .returned (.int .i64 (n % 4)) ∧ w = w' := by
  have ha := i64_and3 n
  generalize n % 4 = m at *
  go_enter Try.func19, Try.ntmps19
  go_wp2
  go_ret
  exact ⟨rfl, rfl⟩

theorem refPower_any (n : Int) (w : World) : Calls Try.prog 11 #[.int .i64 n] w fun e w' => ∃ x y, e = .returned (.complex .f64 x y) ∧ Rc x y (ire n) (iim n) ∧ w = w' := by
  have h4 : n % 4 = 0 ∨ n % 4 = 1 ∨ n % 4 = 2 ∨ n % 4 = 3 := by omega
  rcases h4 with h | h | h | h
  · have R : Hid (Rc 4607182418800017408 0 (ire n) (iim n)) := by simp only [ire, iim, h]; exact ⟨rd_one, rd_zero⟩
    have hq := quarter_any n
    rw [h] at hq; clear h
    go_enter Try.func11, Try.ntmps11
    go_wp2_with fail
    go_at_call 19
    refine (hq _).mono ?_
    rintro e w' ⟨rfl, rfl⟩
    go_wp2
    go_ret
    exact ⟨_, _, rfl, unhide R, rfl⟩
  · have R : Hid (Rc 0 4607182418800017408 (ire n) (iim n)) := by simp only [ire, iim, h]; exact ⟨rd_zero, rd_one⟩
    have hq := quarter_any n
    rw [h] at hq; clear h
    go_enter Try.func11, Try.ntmps11
    go_wp2_with fail
    go_at_call 19
    refine (hq _).mono ?_
    rintro e w' ⟨rfl, rfl⟩
    go_wp2
    go_ret
    exact ⟨_, _, rfl, unhide R, rfl⟩
  · have R : Hid (Rc 13830554455654793216 0 (ire n) (iim n)) := by simp only [ire, iim, h]; exact ⟨rd_minus, rd_zero⟩
    have hq := quarter_any n
    rw [h] at hq; clear h
    go_enter Try.func11, Try.ntmps11
    go_wp2_with fail
    go_at_call 19
    refine (hq _).mono ?_
    rintro e w' ⟨rfl, rfl⟩
    go_wp2
    go_ret
    exact ⟨_, _, rfl, unhide R, rfl⟩
  · have R : Hid (Rc 0 13830554455654793216 (ire n) (iim n)) := by simp only [ire, iim, h]; exact ⟨rd_zero, rd_minus⟩
    have hq := quarter_any n
    rw [h] at hq; clear h
    go_enter Try.func11, Try.ntmps11
    go_wp2_with fail
    go_at_call 19
    refine (hq _).mono ?_
    rintro e w' ⟨rfl, rfl⟩
    go_wp2
    go_ret
    exact ⟨_, _, rfl, unhide R, rfl⟩

def mk4 (v0 v1 v2 v3 : Value) : Nat → Value := fun j => match j with
  | 0 => v0
  | 1 => v1
  | 2 => v2
  | _ => v3

theorem rd_int' (n : Int) (h : n.natAbs < 9007199254740992) : Rd (floatOfInt .f64 n) n := rd_int n h

theorem made_any (S : Nat → Int) (w : World) (hS : ∀ j, j < 4 → -1125899906842624 ≤ S j ∧ S j ≤ 1125899906842624) :
    Calls Try.prog 18 #[.agg #[ints S 0, ints S 1, ints S 2, ints S 3]] w fun e w' => ∃ V, e = .returned (.agg #[V 0, V 1, V 2, V 3]) ∧ C4 V (sre S) (sim S) ∧ Below w.heap.size w w' := by
  have hs := store_c
  have b0 := hS 0 (by omega)
  have b1 := hS 1 (by omega)
  have b2 := hS 2 (by omega)
  have b3 := hS 3 (by omega)
  have e0 : ints S 0 = .int .i64 (S 0) := rfl
  have e1 : ints S 1 = .int .i64 (S 1) := rfl
  have e2 : ints S 2 = .int .i64 (S 2) := rfl
  have e3 : ints S 3 = .int .i64 (S 3) := rfl
  rw [e0, e1, e2, e3]
  obtain ⟨s0, h0⟩ : ∃ s, S 0 = s := ⟨_, rfl⟩
  obtain ⟨s1, h1⟩ : ∃ s, S 1 = s := ⟨_, rfl⟩
  obtain ⟨s2, h2⟩ : ∃ s, S 2 = s := ⟨_, rfl⟩
  obtain ⟨s3, h3⟩ : ∃ s, S 3 = s := ⟨_, rfl⟩
  rw [h0] at b0 ⊢
  rw [h1] at b1 ⊢
  rw [h2] at b2 ⊢
  rw [h3] at b3 ⊢
  have HS : Hid (S 0 = s0 ∧ S 1 = s1 ∧ S 2 = s2 ∧ S 3 = s3) := ⟨h0, h1, h2, h3⟩
  have HB : Hid ((-1125899906842624 ≤ s0 ∧ s0 ≤ 1125899906842624) ∧ (-1125899906842624 ≤ s1 ∧ s1 ≤ 1125899906842624) ∧ (-1125899906842624 ≤ s2 ∧ s2 ≤ 1125899906842624) ∧ (-1125899906842624 ≤ s3 ∧ s3 ≤ 1125899906842624)) := ⟨b0, b1, b2, b3⟩
  clear h0 h1 h2 h3 b0 b1 b2 b3 e0 e1 e2 e3 hS
  go_enter Try.func18, Try.ntmps18
  go_wp2
  obtain ⟨b0, b1, b2, b3⟩ := unhide HB
  have w1 : wrap64 (wrap64 (wrap64 (s0 + s1) + s2) + s3) = s0 + s1 + s2 + s3 := by simp only [wrap64]; omega
  have w2 : wrap64 (s0 - s2) = s0 - s2 := by simp only [wrap64]; omega
  have w3 : wrap64 (s1 - s3) = s1 - s3 := by simp only [wrap64]; omega
  have w4 : wrap64 (wrap64 (wrap64 (s0 + s2) - s1) - s3) = s0 + s2 - s1 - s3 := by simp only [wrap64]; omega
  have w5 : wrap64 (s3 - s1) = s3 - s1 := by simp only [wrap64]; omega
  refine bodyPost_ret (v := .agg #[.complex .f64 (floatOfInt .f64 (s0 + s1 + s2 + s3)) 0, .complex .f64 (floatOfInt .f64 (s0 - s2)) (floatOfInt .f64 (s1 - s3)), .complex .f64 (floatOfInt .f64 (s0 + s2 - s1 - s3)) 0, .complex .f64 (floatOfInt .f64 (s0 - s2)) (floatOfInt .f64 (s3 - s1))]) ?_ rfl ⟨mk4 _ _ _ _, rfl, ?_, ?_⟩
  · simp only [w1, w2, w3, w4, w5]
    simp [results, Try.results18, go_sem]
  · obtain ⟨h0, h1, h2, h3⟩ := unhide HS
    intro j hj
    have h : j = 0 ∨ j = 1 ∨ j = 2 ∨ j = 3 := by omega
    rcases h with rfl | rfl | rfl | rfl
    · refine ⟨_, _, rfl, ?_, rd_zero⟩
      have : sre S 0 = s0 + s1 + s2 + s3 := by simp [sre, h0, h1, h2, h3]
      rw [this]; exact rd_int' _ (by omega)
    · have e1 : sre S 1 = s0 - s2 := by simp [sre, h0, h2]
      have e2 : sim S 1 = s1 - s3 := by simp [sim, h1, h3]
      rw [e1, e2]
      exact ⟨_, _, rfl, rd_int' _ (by omega), rd_int' _ (by omega)⟩
    · refine ⟨_, _, rfl, ?_, rd_zero⟩
      have : sre S 2 = s0 + s2 - s1 - s3 := by simp [sre, h0, h1, h2, h3]; omega
      rw [this]; exact rd_int' _ (by omega)
    · have e1 : sre S 3 = s0 - s2 := by simp [sre, h0, h2]
      have e2 : sim S 3 = s3 - s1 := by simp [sim, h1, h3]
      rw [e1, e2]
      exact ⟨_, _, rfl, rd_int' _ (by omega), rd_int' _ (by omega)⟩
  · exact ((Below.refl _ _).alloc (Nat.le_refl _) _).alloc (by simp) _
end Go.Proofs.Ytkbngbilgebgiaa
