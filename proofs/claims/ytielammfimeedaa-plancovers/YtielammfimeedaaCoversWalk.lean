/- The walk of PlanCovers: a plan that is refused, or great. -/
import Derived.Test.YtielammfimeedaaCMath
namespace Go.Proofs.Ytielammfimeedaa
open Go.RowKit Go.Shelf
set_option linter.unusedVariables false

set_option maxRecDepth 10000 in
set_option maxHeartbeats 1000000 in
theorem covers_form (P : Nat → Int) (w : World) (h : checkE P ≠ 0) :
    Calls Try.prog 6 #[Pv P] w fun r w' => r = .returned (.bool true) ∧ Below w.heap.size w w' := by
  have H1 := hide (check_any P)
  have h4 : checkE P = 4 := by have := checkE_two P; omega
  rw [h4] at H1
  have H2 := hide (fun u => region_form P 0 u h)
  clear h h4
  have HK := hide (Kp.start w P)
  go_enter Try.func6, Try.ntmps6
  go_wp2_with fail
  go_at_call 8
  refine (wakes_any _).mono ?_
  rintro r w1 ⟨rfl, hb⟩
  replace HK := hide ((unhide HK).call hb)
  clear hb
  obtain ⟨f0, f1, f2, f3, f4, f5, f6, f7, f8, f9, f10, f11⟩ := (unhide HK).cells
  go_wp2_with fail
  go_at_call 15
  refine (unhide H1 _).mono ?_
  rintro r w2 ⟨rfl, hb⟩
  replace HK := hide ((unhide HK).call hb)
  clear hb f0 f1 f2 f3 f4 f5 f6 f7 f8 f9 f10 f11
  obtain ⟨f0, f1, f2, f3, f4, f5, f6, f7, f8, f9, f10, f11⟩ := (unhide HK).cells
  go_wp2_with fail
  go_at_call 13
  refine (unhide H2 _).mono ?_
  rintro r w3 ⟨rfl, hb⟩
  replace HK := hide ((unhide HK).call hb)
  clear hb f0 f1 f2 f3 f4 f5 f6 f7 f8 f9 f10 f11
  go_wp2
  go_ret
  exact ⟨rfl, (unhide HK).2⟩

set_option maxRecDepth 10000 in
set_option maxHeartbeats 1000000 in
theorem covers_big (P : Nat → Int) (w : World) (h : checkE P = 0) (hx : 400 < P 1 ∨ 200 < P 2) :
    Calls Try.prog 6 #[Pv P] w fun r w' => r = .returned (.bool true) ∧ Below w.heap.size w w' := by
  have H1 := hide (check_any P)
  rw [h] at H1
  have HX := hide hx
  clear h hx
  have HK := hide (Kp.start w P)
  go_enter Try.func6, Try.ntmps6
  go_wp2_with fail
  go_at_call 8
  refine (wakes_any _).mono ?_
  rintro r w1 ⟨rfl, hb⟩
  replace HK := hide ((unhide HK).call hb)
  clear hb
  obtain ⟨f0, f1, f2, f3, f4, f5, f6, f7, f8, f9, f10, f11⟩ := (unhide HK).cells
  go_wp2_with fail
  go_at_call 15
  refine (unhide H1 _).mono ?_
  rintro r w2 ⟨rfl, hb⟩
  replace HK := hide ((unhide HK).call hb)
  clear hb f0 f1 f2 f3 f4 f5 f6 f7 f8 f9 f10 f11
  obtain ⟨f0, f1, f2, f3, f4, f5, f6, f7, f8, f9, f10, f11⟩ := (unhide HK).cells
  by_cases h1 : 400 < P 1
  · go_wp2
    go_ret
    exact ⟨rfl, (unhide HK).2⟩
  · have h2 : 200 < P 2 := by have := unhide HX; omega
    go_wp2
    go_ret
    exact ⟨rfl, (unhide HK).2⟩

end Go.Proofs.Ytielammfimeedaa
