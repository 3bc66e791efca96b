/- The contract of Make: where nothing is too great. -/
import Derived.Test.YtkdiifoipfkmcaaPMake
namespace Go.Proofs.Ytkdiifoipfkmcaa
open Go.RowKit Go.Shelf
set_option linter.unusedVariables false

theorem kept_new {w w0 w1 : World} (hz : R12 w0 w.heap.size zeroP) (hb : Below w.heap.size w w0) (h1 : Below w0.heap.size w0 w1) (Q : Nat → Int) :
    R12 (w1.alloc (.cells (Pc Q) 23)) w.heap.size zeroP ∧ R12 (w1.alloc (.cells (Pc Q) 23)) w1.heap.size Q ∧ Below w.heap.size w (w1.alloc (.cells (Pc Q) 23)) ∧ w.heap.size < w1.heap.size := by
  have a := hz.lt
  have b := h1.size
  have c := hb.size
  exact ⟨(hz.below h1 a).alloc _, R12.new _ _, (hb.trans (h1.mono (by omega))).alloc (by omega) _, by omega⟩

set_option maxRecDepth 10000 in
set_option maxHeartbeats 2000000 in
theorem make_small (b bl ino lg : Int) (w : World) (h : ¬ badArg b bl ino lg) (hx : ¬ 1048576 < b * bl) (Q : Nat → Int) (hQ : planOf b bl ino lg = Q) (hc : bl ≤ Q 11) :
    Calls Try.prog 34 #[.int .i64 b, .int .i64 bl, .int .i64 ino, .int .i64 lg] w fun r w' => r = .returned (.tuple #[Pv zeroP, .int .i64 6]) ∧ Below w.heap.size w w' := by
  have H := hide (good_arg h)
  have HZ := hide (zero_new w)
  clear h
  have HL : Hid (∀ wx : World, Calls Try.prog 41 #[.int .i64 b, .int .i64 bl, .int .i64 ino, .int .i64 lg] wx fun r w' => r = .returned (Pv Q) ∧ Below wx.heap.size wx w') := by
    intro wx
    rw [← hQ]
    have h1 := size_bd (unhide H).1
    have h2 := (unhide H).2
    exact lay_any b bl ino lg wx (by omega) (by omega) (by omega) (by omega)
  obtain ⟨m, hm⟩ : ∃ m, b * bl = m := ⟨_, rfl⟩
  rw [hm] at hx
  have q1 : IntKind.i64.wrap (b * bl) = m := by
    have h1 := size_bd (unhide H).1
    have h2 := (unhide H).2.1
    have h3 := prod_bd h1 (bl := bl) (by omega)
    rw [hm] at *
    rw [IntKind.wrap_i64]; omega
  clear hm hQ
  go_enter Try.func34, Try.ntmps34
  go_wp2_with fail
  go_at_call 39
  refine (isBlockSize_yes b _ (unhide H).1).mono ?_
  rintro e w' ⟨rfl, rfl⟩
  go_wp2_with fail
  go_at_call 40
  refine (outside_no _ _ _ _ (unhide H).2.1).mono ?_
  rintro e w' ⟨rfl, rfl⟩
  go_wp2_with fail
  go_at_call 40
  refine (outside_no _ _ _ _ (unhide H).2.2.1).mono ?_
  rintro e w' ⟨rfl, rfl⟩
  go_wp2_with fail
  go_at_call 40
  refine (outside_no _ _ _ _ (unhide H).2.2.2).mono ?_
  rintro e w' ⟨rfl, rfl⟩
  go_wp2_with fail
  go_at_call 41
  refine (unhide HL _).mono ?_
  rintro e w1 ⟨rfl, hb⟩
  have HZ1 := hide (kept_new (unhide HZ).1 (unhide HZ).2 hb Q)
  clear HZ hb HL q1
  go_upto_region 6 with fail
  change Code.wp _ _ _ _ (w1.alloc (.cells (Pc Q) 23))
  obtain ⟨g, hg⟩ : ∃ g, w1.heap.size = g := ⟨_, rfl⟩
  rw [hg] at HZ1
  rw [hg]
  have HG : Hid (w.heap.size ≠ g) := hide (by have := (unhide HZ1).2.2.2; omega)
  have HZ : Hid (R12 (w1.alloc (.cells (Pc Q) 23)) w.heap.size zeroP ∧ Below w.heap.size w (w1.alloc (.cells (Pc Q) 23))) := ⟨(unhide HZ1).1, (unhide HZ1).2.2.1⟩
  have HQ := hide (unhide HZ1).2.1
  clear HZ1 hg
  generalize w1.alloc (.cells (Pc Q) 23) = wx at *
  have d1 : w.heap.size ≠ g := unhide HG
  have f0 := (unhide HQ).cell 0 (by omega)
  have f1 := (unhide HQ).cell 1 (by omega)
  have f2 := (unhide HQ).cell 2 (by omega)
  have f3 := (unhide HQ).cell 3 (by omega)
  have f4 := (unhide HQ).cell 4 (by omega)
  have f5 := (unhide HQ).cell 5 (by omega)
  have f6 := (unhide HQ).cell 6 (by omega)
  have f7 := (unhide HQ).cell 7 (by omega)
  have f8 := (unhide HQ).cell 8 (by omega)
  have f9 := (unhide HQ).cell 9 (by omega)
  have f10 := (unhide HQ).cell 10 (by omega)
  have f11 := (unhide HQ).cell 11 (by omega)
  have z0 := (unhide HZ).1.cell 0 (by omega)
  have z1 := (unhide HZ).1.cell 1 (by omega)
  have z2 := (unhide HZ).1.cell 2 (by omega)
  have z3 := (unhide HZ).1.cell 3 (by omega)
  have z4 := (unhide HZ).1.cell 4 (by omega)
  have z5 := (unhide HZ).1.cell 5 (by omega)
  have z6 := (unhide HZ).1.cell 6 (by omega)
  have z7 := (unhide HZ).1.cell 7 (by omega)
  have z8 := (unhide HZ).1.cell 8 (by omega)
  have z9 := (unhide HZ).1.cell 9 (by omega)
  have z10 := (unhide HZ).1.cell 10 (by omega)
  have z11 := (unhide HZ).1.cell 11 (by omega)
  have u := (unhide HZ).1.free
  go_wp2
  have hW : Below w.heap.size w (all12 wx w.heap.size zeroP) := below_all12 (unhide HZ).2 (Nat.le_refl _) _
  have hA : R12 (all12 wx w.heap.size zeroP) w.heap.size zeroP := (unhide HZ).1.all _
  change bodyPost _ _ _ _ _ (all12 wx w.heap.size zeroP)
  generalize all12 wx w.heap.size zeroP = wf at *
  refine bodyPost_ret (v := .tuple #[Pv zeroP, .int .i64 6]) ?_ rfl ⟨rfl, hW⟩
  simp [results, Try.results34, go_sem, hA.cell 0 (by omega), hA.cell 1 (by omega), hA.cell 2 (by omega), hA.cell 3 (by omega), hA.cell 4 (by omega), hA.cell 5 (by omega), hA.cell 6 (by omega), hA.cell 7 (by omega), hA.cell 8 (by omega), hA.cell 9 (by omega), hA.cell 10 (by omega), hA.cell 11 (by omega)]

set_option maxRecDepth 10000 in
set_option maxHeartbeats 2000000 in
theorem make_ok (b bl ino lg : Int) (w : World) (h : ¬ badArg b bl ino lg) (hx : ¬ 1048576 < b * bl) (Q : Nat → Int) (hQ : planOf b bl ino lg = Q) (hc : ¬ bl ≤ Q 11) :
    Calls Try.prog 34 #[.int .i64 b, .int .i64 bl, .int .i64 ino, .int .i64 lg] w fun r w' => r = .returned (.tuple #[Pv Q, .int .i64 0]) ∧ Below w.heap.size w w' := by
  have H := hide (good_arg h)
  have HZ := hide (zero_new w)
  clear h
  have HL : Hid (∀ wx : World, Calls Try.prog 41 #[.int .i64 b, .int .i64 bl, .int .i64 ino, .int .i64 lg] wx fun r w' => r = .returned (Pv Q) ∧ Below wx.heap.size wx w') := by
    intro wx
    rw [← hQ]
    have h1 := size_bd (unhide H).1
    have h2 := (unhide H).2
    exact lay_any b bl ino lg wx (by omega) (by omega) (by omega) (by omega)
  obtain ⟨m, hm⟩ : ∃ m, b * bl = m := ⟨_, rfl⟩
  rw [hm] at hx
  have q1 : IntKind.i64.wrap (b * bl) = m := by
    have h1 := size_bd (unhide H).1
    have h2 := (unhide H).2.1
    have h3 := prod_bd h1 (bl := bl) (by omega)
    rw [hm] at *
    rw [IntKind.wrap_i64]; omega
  clear hm hQ
  go_enter Try.func34, Try.ntmps34
  go_wp2_with fail
  go_at_call 39
  refine (isBlockSize_yes b _ (unhide H).1).mono ?_
  rintro e w' ⟨rfl, rfl⟩
  go_wp2_with fail
  go_at_call 40
  refine (outside_no _ _ _ _ (unhide H).2.1).mono ?_
  rintro e w' ⟨rfl, rfl⟩
  go_wp2_with fail
  go_at_call 40
  refine (outside_no _ _ _ _ (unhide H).2.2.1).mono ?_
  rintro e w' ⟨rfl, rfl⟩
  go_wp2_with fail
  go_at_call 40
  refine (outside_no _ _ _ _ (unhide H).2.2.2).mono ?_
  rintro e w' ⟨rfl, rfl⟩
  go_wp2_with fail
  go_at_call 41
  refine (unhide HL _).mono ?_
  rintro e w1 ⟨rfl, hb⟩
  have HZ1 := hide (kept_new (unhide HZ).1 (unhide HZ).2 hb Q)
  clear HZ hb HL q1
  go_upto_region 6 with fail
  change Code.wp _ _ _ _ (w1.alloc (.cells (Pc Q) 23))
  obtain ⟨g, hg⟩ : ∃ g, w1.heap.size = g := ⟨_, rfl⟩
  rw [hg] at HZ1
  rw [hg]
  have HG : Hid (w.heap.size ≠ g) := hide (by have := (unhide HZ1).2.2.2; omega)
  have HZ : Hid (R12 (w1.alloc (.cells (Pc Q) 23)) w.heap.size zeroP ∧ Below w.heap.size w (w1.alloc (.cells (Pc Q) 23))) := ⟨(unhide HZ1).1, (unhide HZ1).2.2.1⟩
  have HQ := hide (unhide HZ1).2.1
  clear HZ1 hg
  generalize w1.alloc (.cells (Pc Q) 23) = wx at *
  have d1 : w.heap.size ≠ g := unhide HG
  have f0 := (unhide HQ).cell 0 (by omega)
  have f1 := (unhide HQ).cell 1 (by omega)
  have f2 := (unhide HQ).cell 2 (by omega)
  have f3 := (unhide HQ).cell 3 (by omega)
  have f4 := (unhide HQ).cell 4 (by omega)
  have f5 := (unhide HQ).cell 5 (by omega)
  have f6 := (unhide HQ).cell 6 (by omega)
  have f7 := (unhide HQ).cell 7 (by omega)
  have f8 := (unhide HQ).cell 8 (by omega)
  have f9 := (unhide HQ).cell 9 (by omega)
  have f10 := (unhide HQ).cell 10 (by omega)
  have f11 := (unhide HQ).cell 11 (by omega)
  have z0 := (unhide HZ).1.cell 0 (by omega)
  have z1 := (unhide HZ).1.cell 1 (by omega)
  have z2 := (unhide HZ).1.cell 2 (by omega)
  have z3 := (unhide HZ).1.cell 3 (by omega)
  have z4 := (unhide HZ).1.cell 4 (by omega)
  have z5 := (unhide HZ).1.cell 5 (by omega)
  have z6 := (unhide HZ).1.cell 6 (by omega)
  have z7 := (unhide HZ).1.cell 7 (by omega)
  have z8 := (unhide HZ).1.cell 8 (by omega)
  have z9 := (unhide HZ).1.cell 9 (by omega)
  have z10 := (unhide HZ).1.cell 10 (by omega)
  have z11 := (unhide HZ).1.cell 11 (by omega)
  have u := (unhide HZ).1.free
  go_wp2
  have hW : Below w.heap.size w (all12 wx w.heap.size Q) := below_all12 (unhide HZ).2 (Nat.le_refl _) _
  have hA : R12 (all12 wx w.heap.size Q) w.heap.size Q := (unhide HZ).1.all _
  change bodyPost _ _ _ _ _ (all12 wx w.heap.size Q)
  generalize all12 wx w.heap.size Q = wf at *
  refine bodyPost_ret (v := .tuple #[Pv Q, .int .i64 0]) ?_ rfl ⟨rfl, hW⟩
  simp [results, Try.results34, go_sem, hA.cell 0 (by omega), hA.cell 1 (by omega), hA.cell 2 (by omega), hA.cell 3 (by omega), hA.cell 4 (by omega), hA.cell 5 (by omega), hA.cell 6 (by omega), hA.cell 7 (by omega), hA.cell 8 (by omega), hA.cell 9 (by omega), hA.cell 10 (by omega), hA.cell 11 (by omega)]

/-- The contract of Make. -/
theorem make_any (b bl ino lg : Int) (w : World) :
    Calls Try.prog 34 #[.int .i64 b, .int .i64 bl, .int .i64 ino, .int .i64 lg] w fun r w' => r = .returned (.tuple #[Pv (makeP b bl ino lg), .int .i64 (makeE b bl ino lg)]) ∧ Below w.heap.size w w' := by
  by_cases h : badArg b bl ino lg
  · rw [makeP_zero (by rw [makeE_bad h]; omega), makeE_bad h]
    exact make_bad b bl ino lg w h
  · by_cases h1 : 1048576 < b * bl
    · rw [makeP_zero (by rw [makeE_large h h1]; omega), makeE_large h h1]
      exact make_large b bl ino lg w h h1
    · by_cases h2 : bl ≤ planOf b bl ino lg 11
      · rw [makeP_zero (by rw [makeE_small h h1 h2]; omega), makeE_small h h1 h2]
        exact make_small b bl ino lg w h h1 _ rfl h2
      · rw [makeP_ok (makeE_ok h h1 h2), makeE_ok h h1 h2]
        exact make_ok b bl ino lg w h h1 _ rfl h2

end Go.Proofs.Ytkdiifoipfkmcaa
