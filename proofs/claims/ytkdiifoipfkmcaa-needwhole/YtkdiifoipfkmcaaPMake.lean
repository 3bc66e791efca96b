/- The contract of Make. -/
import Derived.Test.YtkdiifoipfkmcaaPSize
namespace Go.Proofs.Ytkdiifoipfkmcaa
open Go.RowKit Go.Shelf
set_option linter.unusedVariables false

def badArg (b bl ino lg : Int) : Prop := ¬ isSize b ∨ (bl < 1 ∨ 4096 < bl) ∨ (ino < 2 ∨ 1024 < ino) ∨ (lg < 4 ∨ 512 < lg)

def badB (b bl ino lg : Int) : Bool := !(b == 64 || b == 128 || b == 256 || b == 512 || b == 1024 || b == 2048 || b == 4096) || decide (bl < 1 ∨ 4096 < bl) || decide (ino < 2 ∨ 1024 < ino) || decide (lg < 4 ∨ 512 < lg)

theorem badB_iff {b bl ino lg : Int} : badB b bl ino lg = true ↔ badArg b bl ino lg := by
  unfold badB badArg isSize
  simp
  omega

/-- What Make answers beside the plan. -/
def makeE (b bl ino lg : Int) : Int := if badB b bl ino lg = true then 1 else if 1048576 < b * bl then 5 else if bl ≤ planOf b bl ino lg 11 then 6 else 0

/-- The plan that Make answers. -/
def makeP (b bl ino lg : Int) : Nat → Int := if makeE b bl ino lg = 0 then planOf b bl ino lg else zeroP

theorem makeE_bad {b bl ino lg : Int} (h : badArg b bl ino lg) : makeE b bl ino lg = 1 := by rw [makeE, if_pos (badB_iff.2 h)]
theorem makeE_large {b bl ino lg : Int} (h : ¬ badArg b bl ino lg) (h1 : 1048576 < b * bl) : makeE b bl ino lg = 5 := by rw [makeE, if_neg (fun x => h (badB_iff.1 x)), if_pos h1]
theorem makeE_small {b bl ino lg : Int} (h : ¬ badArg b bl ino lg) (h1 : ¬ 1048576 < b * bl) (h2 : bl ≤ planOf b bl ino lg 11) : makeE b bl ino lg = 6 := by rw [makeE, if_neg (fun x => h (badB_iff.1 x)), if_neg h1, if_pos h2]
theorem makeE_ok {b bl ino lg : Int} (h : ¬ badArg b bl ino lg) (h1 : ¬ 1048576 < b * bl) (h2 : ¬ bl ≤ planOf b bl ino lg 11) : makeE b bl ino lg = 0 := by rw [makeE, if_neg (fun x => h (badB_iff.1 x)), if_neg h1, if_neg h2]
theorem makeP_zero {b bl ino lg : Int} (h : makeE b bl ino lg ≠ 0) : makeP b bl ino lg = zeroP := if_neg h
theorem makeP_ok {b bl ino lg : Int} (h : makeE b bl ino lg = 0) : makeP b bl ino lg = planOf b bl ino lg := if_pos h

theorem zero_new (w : World) : R12 (w.alloc (.cells (Pc zeroP) 23)) w.heap.size zeroP ∧ Below w.heap.size w (w.alloc (.cells (Pc zeroP) 23)) := ⟨R12.new _ _, (Below.refl _ _).alloc (Nat.le_refl _) _⟩

set_option maxRecDepth 10000 in
set_option maxHeartbeats 2000000 in
theorem make_bad (b bl ino lg : Int) (w : World) (h : badArg b bl ino lg) :
    Calls Try.prog 34 #[.int .i64 b, .int .i64 bl, .int .i64 ino, .int .i64 lg] w fun r w' => r = .returned (.tuple #[Pv zeroP, .int .i64 1]) ∧ Below w.heap.size w w' := by
  have H := hide h
  have HZ := hide (zero_new w)
  clear h
  by_cases hs : isSize b
  · have HS := hide hs
    clear hs
    by_cases h1 : bl < 1 ∨ 4096 < bl
    · have H1 := hide h1
      clear h1
      go_enter Try.func34, Try.ntmps34
      go_wp2_with fail
      go_at_call 39
      refine (isBlockSize_yes b _ (unhide HS)).mono ?_
      rintro e w' ⟨rfl, rfl⟩
      go_wp2_with fail
      go_at_call 40
      refine (outside_yes _ _ _ _ (unhide H1)).mono ?_
      rintro e w' ⟨rfl, rfl⟩
      go_wp2
      change bodyPost _ _ _ _ _ (w.alloc (.cells (Pc zeroP) 23))
      obtain ⟨hA, hW⟩ := unhide HZ
      generalize w.alloc (.cells (Pc zeroP) 23) = wf at *
      refine bodyPost_ret (v := .tuple #[Pv zeroP, .int .i64 1]) ?_ rfl ⟨rfl, hW⟩
      simp [results, Try.results34, go_sem, hA.cell 0 (by omega), hA.cell 1 (by omega), hA.cell 2 (by omega), hA.cell 3 (by omega), hA.cell 4 (by omega), hA.cell 5 (by omega), hA.cell 6 (by omega), hA.cell 7 (by omega), hA.cell 8 (by omega), hA.cell 9 (by omega), hA.cell 10 (by omega), hA.cell 11 (by omega)]
    · have H1 := hide h1
      clear h1
      by_cases h2 : ino < 2 ∨ 1024 < ino
      · have H2 := hide h2
        clear h2
        go_enter Try.func34, Try.ntmps34
        go_wp2_with fail
        go_at_call 39
        refine (isBlockSize_yes b _ (unhide HS)).mono ?_
        rintro e w' ⟨rfl, rfl⟩
        go_wp2_with fail
        go_at_call 40
        refine (outside_no _ _ _ _ (unhide H1)).mono ?_
        rintro e w' ⟨rfl, rfl⟩
        go_wp2_with fail
        go_at_call 40
        refine (outside_yes _ _ _ _ (unhide H2)).mono ?_
        rintro e w' ⟨rfl, rfl⟩
        go_wp2
        change bodyPost _ _ _ _ _ (w.alloc (.cells (Pc zeroP) 23))
        obtain ⟨hA, hW⟩ := unhide HZ
        generalize w.alloc (.cells (Pc zeroP) 23) = wf at *
        refine bodyPost_ret (v := .tuple #[Pv zeroP, .int .i64 1]) ?_ rfl ⟨rfl, hW⟩
        simp [results, Try.results34, go_sem, hA.cell 0 (by omega), hA.cell 1 (by omega), hA.cell 2 (by omega), hA.cell 3 (by omega), hA.cell 4 (by omega), hA.cell 5 (by omega), hA.cell 6 (by omega), hA.cell 7 (by omega), hA.cell 8 (by omega), hA.cell 9 (by omega), hA.cell 10 (by omega), hA.cell 11 (by omega)]
      · have H2 := hide h2
        clear h2
        have H3 : Hid (lg < 4 ∨ 512 < lg) := by
          have a := unhide H
          have b := unhide HS
          have c := unhide H1
          have d := unhide H2
          unfold badArg at a
          rcases a with a | a | a | a
          · exact absurd b a
          · exact absurd a c
          · exact absurd a d
          · exact a
        go_enter Try.func34, Try.ntmps34
        go_wp2_with fail
        go_at_call 39
        refine (isBlockSize_yes b _ (unhide HS)).mono ?_
        rintro e w' ⟨rfl, rfl⟩
        go_wp2_with fail
        go_at_call 40
        refine (outside_no _ _ _ _ (unhide H1)).mono ?_
        rintro e w' ⟨rfl, rfl⟩
        go_wp2_with fail
        go_at_call 40
        refine (outside_no _ _ _ _ (unhide H2)).mono ?_
        rintro e w' ⟨rfl, rfl⟩
        go_wp2_with fail
        go_at_call 40
        refine (outside_yes _ _ _ _ (unhide H3)).mono ?_
        rintro e w' ⟨rfl, rfl⟩
        go_wp2
        change bodyPost _ _ _ _ _ (w.alloc (.cells (Pc zeroP) 23))
        obtain ⟨hA, hW⟩ := unhide HZ
        generalize w.alloc (.cells (Pc zeroP) 23) = wf at *
        refine bodyPost_ret (v := .tuple #[Pv zeroP, .int .i64 1]) ?_ rfl ⟨rfl, hW⟩
        simp [results, Try.results34, go_sem, hA.cell 0 (by omega), hA.cell 1 (by omega), hA.cell 2 (by omega), hA.cell 3 (by omega), hA.cell 4 (by omega), hA.cell 5 (by omega), hA.cell 6 (by omega), hA.cell 7 (by omega), hA.cell 8 (by omega), hA.cell 9 (by omega), hA.cell 10 (by omega), hA.cell 11 (by omega)]
  · have HS := hide hs
    clear hs
    go_enter Try.func34, Try.ntmps34
    go_wp2_with fail
    go_at_call 39
    refine (isBlockSize_no b _ (unhide HS)).mono ?_
    rintro e w' ⟨rfl, rfl⟩
    go_wp2
    change bodyPost _ _ _ _ _ (w.alloc (.cells (Pc zeroP) 23))
    obtain ⟨hA, hW⟩ := unhide HZ
    generalize w.alloc (.cells (Pc zeroP) 23) = wf at *
    refine bodyPost_ret (v := .tuple #[Pv zeroP, .int .i64 1]) ?_ rfl ⟨rfl, hW⟩
    simp [results, Try.results34, go_sem, hA.cell 0 (by omega), hA.cell 1 (by omega), hA.cell 2 (by omega), hA.cell 3 (by omega), hA.cell 4 (by omega), hA.cell 5 (by omega), hA.cell 6 (by omega), hA.cell 7 (by omega), hA.cell 8 (by omega), hA.cell 9 (by omega), hA.cell 10 (by omega), hA.cell 11 (by omega)]

theorem good_arg {b bl ino lg : Int} (h : ¬ badArg b bl ino lg) : isSize b ∧ ¬ (bl < 1 ∨ 4096 < bl) ∧ ¬ (ino < 2 ∨ 1024 < ino) ∧ ¬ (lg < 4 ∨ 512 < lg) := by
  unfold badArg at h
  exact ⟨Classical.byContradiction fun h1 => h (.inl h1), fun h1 => h (.inr (.inl h1)), fun h1 => h (.inr (.inr (.inl h1))), fun h1 => h (.inr (.inr (.inr h1)))⟩

theorem size_bd {b : Int} (h : isSize b) : 64 ≤ b ∧ b ≤ 4096 := by unfold isSize at h; omega

/-- A product of numbers like these wraps nowhere. -/
theorem prod_bd {b bl : Int} (hb : 64 ≤ b ∧ b ≤ 4096) (hl : 1 ≤ bl ∧ bl ≤ 4096) : 0 ≤ b * bl ∧ b * bl ≤ 16777216 := by
  refine ⟨Int.mul_nonneg (by omega) (by omega), ?_⟩
  have h1 : b * bl ≤ 4096 * bl := Int.mul_le_mul_of_nonneg_right hb.2 (by omega)
  omega

set_option maxRecDepth 10000 in
set_option maxHeartbeats 2000000 in
theorem make_large (b bl ino lg : Int) (w : World) (h : ¬ badArg b bl ino lg) (hx : 1048576 < b * bl) :
    Calls Try.prog 34 #[.int .i64 b, .int .i64 bl, .int .i64 ino, .int .i64 lg] w fun r w' => r = .returned (.tuple #[Pv zeroP, .int .i64 5]) ∧ Below w.heap.size w w' := by
  have H := hide (good_arg h)
  have HZ := hide (zero_new w)
  clear h
  obtain ⟨m, hm⟩ : ∃ m, b * bl = m := ⟨_, rfl⟩
  rw [hm] at hx
  have q1 : IntKind.i64.wrap (b * bl) = m := by
    have h1 := size_bd (unhide H).1
    have h2 := (unhide H).2.1
    have h3 := prod_bd h1 (bl := bl) (by omega)
    rw [hm] at *
    rw [IntKind.wrap_i64]; omega
  clear hm
  go_enter Try.func34, Try.ntmps34
  go_wp2_with fail
  go_at_call 39
  refine (isBlockSize_yes b _ (unhide H).1).mono ?_
  rintro e w' ⟨rfl, rfl⟩
  go_wp2_with fail
  go_at_call 40
  refine (outside_no _ _ _ _ (unhide H).2.1).mono ?_
  rintro e w' ⟨rfl, rfl⟩
  go_wp2_with fail
  go_at_call 40
  refine (outside_no _ _ _ _ (unhide H).2.2.1).mono ?_
  rintro e w' ⟨rfl, rfl⟩
  go_wp2_with fail
  go_at_call 40
  refine (outside_no _ _ _ _ (unhide H).2.2.2).mono ?_
  rintro e w' ⟨rfl, rfl⟩
  go_wp2
  change bodyPost _ _ _ _ _ (w.alloc (.cells (Pc zeroP) 23))
  obtain ⟨hA, hW⟩ := unhide HZ
  generalize w.alloc (.cells (Pc zeroP) 23) = wf at *
  refine bodyPost_ret (v := .tuple #[Pv zeroP, .int .i64 5]) ?_ rfl ⟨rfl, hW⟩
  simp [results, Try.results34, go_sem, hA.cell 0 (by omega), hA.cell 1 (by omega), hA.cell 2 (by omega), hA.cell 3 (by omega), hA.cell 4 (by omega), hA.cell 5 (by omega), hA.cell 6 (by omega), hA.cell 7 (by omega), hA.cell 8 (by omega), hA.cell 9 (by omega), hA.cell 10 (by omega), hA.cell 11 (by omega)]

end Go.Proofs.Ytkdiifoipfkmcaa
