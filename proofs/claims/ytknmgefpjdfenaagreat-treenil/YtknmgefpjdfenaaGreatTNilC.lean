/- All calls of a nil tree. -/
import Derived.Test.YtknmgefpjdfenaaGreatTWakes
namespace Go.Proofs.YtknmgefpjdfenaaGreat
open Go.RowKit Go.Shelf Go.Maps
set_option linter.unusedVariables false
set_option maxRecDepth 100000

theorem below_two (w : World) (o o' : Obj) : Below w.heap.size w ((w.alloc o).alloc o') := ((Below.refl _ w).alloc (Nat.le_refl _) _).alloc (by simp) _

theorem below_one (w : World) (o : Obj) : Below w.heap.size w (w.alloc o) := (Below.refl _ w).alloc (Nat.le_refl _) _

set_option maxHeartbeats 1000000 in
theorem link_nil (p q : ByteArray) (w : World) : Calls Tryz.prog 26 #[.pointer none, .string p, .string q] w fun e w' => e = .returned (.int .i64 1) ∧ Below w.heap.size w w' := by
  have K : Hid (∀ ps u, Calls Tryz.prog 52 #[.pointer none, ps] u fun e w' => e = .returned (.int .i64 1) ∧ w' = u) := fun ps u => refuses_nil ps u
  go_enter Tryz.func26, Tryz.ntmps26
  go_wp2_with fail
  refine (unhide K _ _).mono ?_
  rintro e w1 ⟨rfl, rfl⟩
  clear K
  go_wp2_with fail
  go_ret
  exact ⟨rfl, by first | exact below_one _ _ | exact below_two _ _ _⟩

set_option maxHeartbeats 1000000 in
theorem rename_nil (p q : ByteArray) (w : World) : Calls Tryz.prog 16 #[.pointer none, .string p, .string q] w fun e w' => e = .returned (.int .i64 1) ∧ Below w.heap.size w w' := by
  have K : Hid (∀ ps u, Calls Tryz.prog 52 #[.pointer none, ps] u fun e w' => e = .returned (.int .i64 1) ∧ w' = u) := fun ps u => refuses_nil ps u
  go_enter Tryz.func16, Tryz.ntmps16
  go_wp2_with fail
  refine (unhide K _ _).mono ?_
  rintro e w1 ⟨rfl, rfl⟩
  clear K
  go_wp2_with fail
  go_ret
  exact ⟨rfl, by first | exact below_one _ _ | exact below_two _ _ _⟩

set_option maxHeartbeats 1000000 in
theorem unlink_nil (p : ByteArray) (w : World) : Calls Tryz.prog 29 #[.pointer none, .string p] w fun e w' => e = .returned (.int .i64 1) ∧ Below w.heap.size w w' := by
  have K : Hid (∀ ps u, Calls Tryz.prog 52 #[.pointer none, ps] u fun e w' => e = .returned (.int .i64 1) ∧ w' = u) := fun ps u => refuses_nil ps u
  go_enter Tryz.func29, Tryz.ntmps29
  go_wp2_with fail
  refine (unhide K _ _).mono ?_
  rintro e w1 ⟨rfl, rfl⟩
  clear K
  go_wp2_with fail
  go_ret
  exact ⟨rfl, by first | exact below_one _ _ | exact below_two _ _ _⟩

set_option maxHeartbeats 1000000 in
theorem rmdir_nil (p : ByteArray) (w : World) : Calls Tryz.prog 31 #[.pointer none, .string p] w fun e w' => e = .returned (.int .i64 1) ∧ Below w.heap.size w w' := by
  have K : Hid (∀ ps u, Calls Tryz.prog 52 #[.pointer none, ps] u fun e w' => e = .returned (.int .i64 1) ∧ w' = u) := fun ps u => refuses_nil ps u
  go_enter Tryz.func31, Tryz.ntmps31
  go_wp2_with fail
  refine (unhide K _ _).mono ?_
  rintro e w1 ⟨rfl, rfl⟩
  clear K
  go_wp2_with fail
  go_ret
  exact ⟨rfl, by first | exact below_one _ _ | exact below_two _ _ _⟩

set_option maxHeartbeats 1000000 in
theorem list_nil (p : ByteArray) (w : World) : Calls Tryz.prog 17 #[.pointer none, .string p] w fun e w' => e = .returned (.tuple #[.slice none 0 0, .int .i64 1]) ∧ Below w.heap.size w w' := by
  have K : Hid (∀ ps u, Calls Tryz.prog 52 #[.pointer none, ps] u fun e w' => e = .returned (.int .i64 1) ∧ w' = u) := fun ps u => refuses_nil ps u
  go_enter Tryz.func17, Tryz.ntmps17
  go_wp2_with fail
  refine (unhide K _ _).mono ?_
  rintro e w1 ⟨rfl, rfl⟩
  clear K
  go_wp2_with fail
  go_ret2
  exact ⟨rfl, by first | exact below_one _ _ | exact below_two _ _ _⟩

set_option maxHeartbeats 1000000 in
theorem open_nil (p : ByteArray) (w : World) : Calls Tryz.prog 18 #[.pointer none, .string p] w fun e w' => e = .returned (.tuple #[.int .i64 0, .int .i64 1]) ∧ Below w.heap.size w w' := by
  have K : Hid (∀ ps u, Calls Tryz.prog 52 #[.pointer none, ps] u fun e w' => e = .returned (.int .i64 1) ∧ w' = u) := fun ps u => refuses_nil ps u
  go_enter Tryz.func18, Tryz.ntmps18
  go_wp2_with fail
  refine (unhide K _ _).mono ?_
  rintro e w1 ⟨rfl, rfl⟩
  clear K
  go_wp2_with fail
  go_ret2
  exact ⟨rfl, by first | exact below_one _ _ | exact below_two _ _ _⟩

theorem file_nil (f : Int) (w : World) : Calls Tryz.prog 64 #[.pointer none, .int .i64 f] w fun e w' => e = .returned (.tuple #[.pointer none, .int .i64 1]) ∧ w' = w := by
  have K := hide (isnone_nil w)
  go_enter Tryz.func64, Tryz.ntmps64
  go_wp2_with fail
  refine (unhide K).mono ?_
  rintro e w1 ⟨rfl, rfl⟩
  clear K
  go_wp2_with fail
  go_ret2
  exact ⟨rfl, rfl⟩

theorem close_nil (f : Int) (w : World) : Calls Tryz.prog 37 #[.pointer none, .int .i64 f] w fun e w' => e = .returned (.int .i64 1) ∧ w' = w := by
  have K := hide (file_nil f w)
  go_enter Tryz.func37, Tryz.ntmps37
  go_wp2_with fail
  refine (unhide K).mono ?_
  rintro e w1 ⟨rfl, rfl⟩
  clear K
  go_wp2_with fail
  go_ret
  exact ⟨rfl, rfl⟩

theorem truncate_nil (f n : Int) (w : World) : Calls Tryz.prog 43 #[.pointer none, .int .i64 f, .int .i64 n] w fun e w' => e = .returned (.int .i64 1) ∧ w' = w := by
  have K := hide (file_nil f w)
  go_enter Tryz.func43, Tryz.ntmps43
  go_wp2_with fail
  refine (unhide K).mono ?_
  rintro e w1 ⟨rfl, rfl⟩
  clear K
  go_wp2_with fail
  go_ret
  exact ⟨rfl, rfl⟩

theorem write_nil (f n : Int) (v : Value) (w : World) : Calls Tryz.prog 41 #[.pointer none, .int .i64 f, .int .i64 n, v] w fun e w' => e = .returned (.int .i64 1) ∧ w' = w := by
  have K := hide (file_nil f w)
  go_enter Tryz.func41, Tryz.ntmps41
  go_wp2_with fail
  refine (unhide K).mono ?_
  rintro e w1 ⟨rfl, rfl⟩
  clear K
  go_wp2_with fail
  go_ret
  exact ⟨rfl, rfl⟩

theorem read_nil (f n m : Int) (w : World) : Calls Tryz.prog 19 #[.pointer none, .int .i64 f, .int .i64 n, .int .i64 m] w fun e w' => e = .returned (.tuple #[.slice none 0 0, .int .i64 1]) ∧ w' = w := by
  have K := hide (file_nil f w)
  go_enter Tryz.func19, Tryz.ntmps19
  go_wp2_with fail
  refine (unhide K).mono ?_
  rintro e w1 ⟨rfl, rfl⟩
  clear K
  go_wp2_with fail
  go_ret2
  exact ⟨rfl, rfl⟩

theorem dump_nil (w : World) : Calls Tryz.prog 12 #[.pointer none] w fun e w' => e = .returned (.slice none 0 0) ∧ w' = w := by
  have K := hide (isnone_nil w)
  go_enter Tryz.func12, Tryz.ntmps12
  go_wp2_with fail
  refine (unhide K).mono ?_
  rintro e w1 ⟨rfl, rfl⟩
  clear K
  go_wp2_with fail
  go_ret
  exact ⟨rfl, rfl⟩

theorem need_nil (w : World) : Calls Tryz.prog 20 #[.pointer none, .agg #[.int .i64 0, .int .i64 0, .int .i64 0, .int .i64 0, .int .i64 0, .int .i64 0, .int .i64 0, .int .i64 0, .int .i64 0, .int .i64 0, .int .i64 0, .int .i64 0]] w fun e w' => e = .returned (.tuple #[.complex .f64 0 0, .int .i64 1]) ∧ Below w.heap.size w w' := by
  have K : Hid (∀ u, Calls Tryz.prog 46 #[.pointer none] u fun e w' => e = .returned (.bool true) ∧ w' = u) := fun u => isnone_nil u
  go_enter Tryz.func20, Tryz.ntmps20
  go_wp2_with fail
  refine (unhide K _).mono ?_
  rintro e w1 ⟨rfl, rfl⟩
  clear K
  go_wp2_with fail
  go_ret2
  exact ⟨rfl, below_one _ _⟩

set_option maxHeartbeats 1000000 in
theorem stat_nil (p : ByteArray) (w : World) : Calls Tryz.prog 15 #[.pointer none, .string p] w fun e w' => e = .returned (.tuple #[.agg #[.int .i64 0, .int .i64 0, .int .i64 0, .int .i64 0], .int .i64 1]) ∧ Below w.heap.size w w' := by
  have K : Hid (∀ ps u, Calls Tryz.prog 52 #[.pointer none, ps] u fun e w' => e = .returned (.int .i64 1) ∧ w' = u) := fun ps u => refuses_nil ps u
  have hbl := (Bl.new w #[.int .i64 0, .int .i64 0, .int .i64 0, .int .i64 0] 46).alloc (.cells #[.string p] 9)
  have HB := hide (below_two w (.cells #[.int .i64 0, .int .i64 0, .int .i64 0, .int .i64 0] 46) (.cells #[.string p] 9))
  have HL := hide hbl
  clear hbl
  go_enter Tryz.func15, Tryz.ntmps15
  go_wp2_with fail
  generalize (w.alloc (.cells #[.int .i64 0, .int .i64 0, .int .i64 0, .int .i64 0] 46)).alloc (.cells #[.string p] 9) = w0 at *
  generalize hm : w.heap.size = m at *
  refine (unhide K _ _).mono ?_
  rintro e w1 ⟨rfl, rfl⟩
  have l0 := HL.out.cell 0 _ rfl
  have l1 := HL.out.cell 1 _ rfl
  have l2 := HL.out.cell 2 _ rfl
  have l3 := HL.out.cell 3 _ rfl
  have lf := HL.out.free
  have HF : Hid (Bl (setAll w1 m 0 [.int .i64 0, .int .i64 0, .int .i64 0, .int .i64 0]) m #[.int .i64 0, .int .i64 0, .int .i64 0, .int .i64 0] 46 ∧ Below m w (setAll w1 m 0 [.int .i64 0, .int .i64 0, .int .i64 0, .int .i64 0])) :=
    ⟨setAll_whole [.int .i64 0, .int .i64 0, .int .i64 0, .int .i64 0] w1 _ HL.out rfl, below_setAll (Nat.le_refl m) _ _ _ _ HB.out⟩
  clear K HB HL
  go_wp2_with fail
  obtain ⟨hA, hW⟩ := HF.out
  change bodyPost _ _ _ _ _ (setAll w1 m 0 [.int .i64 0, .int .i64 0, .int .i64 0, .int .i64 0])
  generalize setAll w1 m 0 [.int .i64 0, .int .i64 0, .int .i64 0, .int .i64 0] = wf at *
  refine bodyPost_ret (v := .tuple #[.agg #[.int .i64 0, .int .i64 0, .int .i64 0, .int .i64 0], .int .i64 1]) ?_ rfl ⟨rfl, ?_⟩
  · simp [results, Tryz.results15, go_sem, hA.cell 0 _ rfl, hA.cell 1 _ rfl, hA.cell 2 _ rfl, hA.cell 3 _ rfl]
  · rw [hm]; exact hW

end Go.Proofs.YtknmgefpjdfenaaGreat
