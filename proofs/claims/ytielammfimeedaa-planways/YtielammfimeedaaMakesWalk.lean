/- The fixed call, and the walk of PlanMakes. -/
import Derived.Test.YtielammfimeedaaPRefMake
import Derived.Test.YtielammfimeedaaPEq
namespace Go.Proofs.Ytielammfimeedaa
open Go.RowKit Go.Shelf
set_option linter.unusedVariables false

theorem wake_arg : ¬ badArg 64 100 10 8 := by unfold badArg isSize; omega

theorem wake_plan : Pv (makeP 64 100 10 8) = .agg #[.int .i64 64, .int .i64 100, .int .i64 10, .int .i64 8, .int .i64 2, .int .i64 10, .int .i64 1, .int .i64 11, .int .i64 1, .int .i64 12, .int .i64 5, .int .i64 17] ∧ makeE 64 100 10 8 = 0 := by
  have h : makeE 64 100 10 8 = 0 := makeE_ok wake_arg (by decide) (by decide)
  refine ⟨?_, h⟩
  rw [makeP_ok h]
  rfl

theorem wake_make (w : World) : Calls Try.prog 9 #[.int .i64 64, .int .i64 100, .int .i64 10, .int .i64 8] w fun r w' => r = .returned (.tuple #[.agg #[.int .i64 64, .int .i64 100, .int .i64 10, .int .i64 8, .int .i64 2, .int .i64 10, .int .i64 1, .int .i64 11, .int .i64 1, .int .i64 12, .int .i64 5, .int .i64 17], .int .i64 0]) ∧ Below w.heap.size w w' := by
  have := make_any 64 100 10 8 w
  rwa [wake_plan.1, wake_plan.2] at this

def wakeP : Nat → Int
  | 0 => 64 | 1 => 100 | 2 => 10 | 3 => 8 | 4 => 2 | 5 => 10 | 6 => 1 | 7 => 11 | 8 => 1 | 9 => 12 | 10 => 5 | 11 => 17 | _ => 0

set_option maxRecDepth 10000 in
theorem wakes_any (w : World) : Calls Try.prog 8 #[] w fun r w' => r = .returned (.bool true) ∧ Below w.heap.size w w' := by
  have heq : ∀ u : World, (binOp .eql 24 (.agg #[.int .i64 64, .int .i64 100, .int .i64 10, .int .i64 8, .int .i64 2, .int .i64 10, .int .i64 1, .int .i64 11, .int .i64 1, .int .i64 12, .int .i64 5, .int .i64 17]) (.agg #[.int .i64 64, .int .i64 100, .int .i64 10, .int .i64 8, .int .i64 2, .int .i64 10, .int .i64 1, .int .i64 11, .int .i64 1, .int .i64 12, .int .i64 5, .int .i64 17])).run Try.prog u = .ok (.bool true) u := fun u => eql_plan_yes (P := wakeP) (Q := wakeP) (fun _ _ => rfl) u
  go_enter Try.func8, Try.ntmps8
  go_wp2_with fail
  go_at_call 9
  refine (wake_make w).mono ?_
  rintro e w1 ⟨rfl, hb⟩
  have HB := hide hb
  clear hb
  go_wp2
  go_ret
  exact ⟨rfl, (unhide HB).alloc (unhide HB).size _⟩

set_option maxRecDepth 10000 in
set_option maxHeartbeats 1000000 in
theorem makes_walk (b bl ino lg : Int) (w : World) :
    Calls Try.prog 3 #[.int .i64 b, .int .i64 bl, .int .i64 ino, .int .i64 lg] w fun r w' => r = .returned (.bool true) ∧ Below w.heap.size w w' := by
  have H1 := hide (make_any b bl ino lg)
  have H2 := hide (refMake_any b bl ino lg)
  generalize makeP b bl ino lg = P at *
  generalize makeE b bl ino lg = e at *
  have heq : ∀ u : World, (binOp .eql 24 (Pv P) (Pv P)).run Try.prog u = .ok (.bool true) u := eql_plan_yes (fun _ _ => rfl)
  go_enter Try.func3, Try.ntmps3
  go_wp2_with fail
  go_at_call 8
  refine (wakes_any w).mono ?_
  rintro r w1 ⟨rfl, hb⟩
  have HB := hide hb
  clear hb
  go_wp2_with fail
  go_at_call 9
  refine (unhide H1 _).mono ?_
  rintro r w2 ⟨rfl, hb⟩
  replace HB := hide ((unhide HB).trans (hb.mono (unhide HB).size))
  clear hb
  go_wp2_with fail
  go_at_call 10
  refine (unhide H2 _).mono ?_
  rintro r w3 ⟨rfl, hb⟩
  have HR := hide (((R12.new w2 P).below hb (R12.new w2 P).lt))
  have HS : Hid (w.heap.size ≤ w2.heap.size ∧ w2.heap.size < w3.heap.size) := by
    have a := (unhide HB).size
    have b := hb.size
    simp at b
    exact ⟨a, by omega⟩
  replace HB := hide (((unhide HB).alloc (unhide HB).size (.cells (Pc P) 24)).trans (hb.mono (by have := (unhide HB).size; simp; omega)))
  clear hb H1 H2
  go_upto_region 5 with fail
  change Code.wp _ _ _ _ (w3.alloc (.cells (Pc P) 24))
  have HQ := hide (R12.new w3 P)
  replace HR := hide ((unhide HR).alloc (.cells (Pc P) 24))
  replace HB := hide ((unhide HB).alloc (by have := unhide HS; omega) (.cells (Pc P) 24))
  generalize w3.alloc (.cells (Pc P) 24) = wx at *
  have f0 := (unhide HR).cell 0 (by omega)
  have f1 := (unhide HR).cell 1 (by omega)
  have f2 := (unhide HR).cell 2 (by omega)
  have f3 := (unhide HR).cell 3 (by omega)
  have f4 := (unhide HR).cell 4 (by omega)
  have f5 := (unhide HR).cell 5 (by omega)
  have f6 := (unhide HR).cell 6 (by omega)
  have f7 := (unhide HR).cell 7 (by omega)
  have f8 := (unhide HR).cell 8 (by omega)
  have f9 := (unhide HR).cell 9 (by omega)
  have f10 := (unhide HR).cell 10 (by omega)
  have f11 := (unhide HR).cell 11 (by omega)
  have g0 := (unhide HQ).cell 0 (by omega)
  have g1 := (unhide HQ).cell 1 (by omega)
  have g2 := (unhide HQ).cell 2 (by omega)
  have g3 := (unhide HQ).cell 3 (by omega)
  have g4 := (unhide HQ).cell 4 (by omega)
  have g5 := (unhide HQ).cell 5 (by omega)
  have g6 := (unhide HQ).cell 6 (by omega)
  have g7 := (unhide HQ).cell 7 (by omega)
  have g8 := (unhide HQ).cell 8 (by omega)
  have g9 := (unhide HQ).cell 9 (by omega)
  have g10 := (unhide HQ).cell 10 (by omega)
  have g11 := (unhide HQ).cell 11 (by omega)
  go_wp2
  go_ret
  exact ⟨rfl, unhide HB⟩

end Go.Proofs.Ytielammfimeedaa
