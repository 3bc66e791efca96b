/- The walk of PlanSteps. -/
import Derived.Test.YtielammfimeedaaPRefSteps
import Derived.Test.YtielammfimeedaaPRefWhole
import Derived.Test.YtielammfimeedaaPSame
namespace Go.Proofs.Ytielammfimeedaa
open Go.RowKit Go.Shelf
set_option linter.unusedVariables false

theorem way_len (p i : Int) : 1 ≤ (way p i).length ∧ (way p i).length ≤ 3 := by
  unfold way
  split
  · simp
  · split <;> simp

theorem stL_len (P : Nat → Int) (i : Int) : (stL P i).length ≤ 3 := by
  unfold stL
  split
  · exact (way_len _ _).2
  · simp

theorem sameInts_same (a1 a2 : Option Addr) (n1 n2 c1 c2 : Nat) (ns : List Int) (w : World) (h1 : IHas w a1 n1 ns) (h2 : IHas w a2 n2 ns) (hl : ns.length ≤ 3) :
    Calls Try.prog 23 #[.slice a1 n1 c1, .slice a2 n2 c2] w fun r w' => r = .returned (.bool true) ∧ ∃ m, w' = w.drewN m := by
  have := sameInts_any a1 a2 n1 n2 c1 c2 ns ns w h1 h2 (by rw [← h1.1]; omega) (by rw [← h2.1]; omega)
  rwa [decide_eq_true rfl] at this

set_option maxRecDepth 10000 in
set_option maxHeartbeats 4000000 in
theorem steps_walk (P : Nat → Int) (i size : Int) (w : World) :
    Calls Try.prog 5 #[Pv P, .int .i64 i, .int .i64 size] w fun r w' => r = .returned (.bool true) ∧ Below w.heap.size w w' := by
  have H1 := hide (steps_any P i)
  have H2 := hide (refSteps_any P i)
  have H3 := hide (maxSize_any P)
  have H4 := hide (refMaxSize_any P)
  have H5 := hide (whole_any P size)
  have H6 := hide (refWhole_any P size)
  have HL := hide (stL_len P i)
  generalize stL P i = L at *
  generalize stE P i = e1 at *
  generalize msV P = e2 at *
  generalize checkE P = e3 at *
  generalize whD P size = e4 at *
  generalize whP P size = e5 at *
  generalize whE P size = e6 at *
  have HK := hide (Kp.start w P)
  go_enter Try.func5, Try.ntmps5
  go_wp2_with fail
  go_at_call 8
  refine (wakes_any _).mono ?_
  rintro r w1 ⟨rfl, hb⟩
  replace HK := hide ((unhide HK).call hb)
  clear hb
  obtain ⟨f0, f1, f2, f3, f4, f5, f6, f7, f8, f9, f10, f11⟩ := (unhide HK).cells
  go_wp2_with fail
  go_at_call 17
  refine (unhide H1 _).mono ?_
  rintro r w2 ⟨⟨a1, n1, c1, rfl, hX⟩, hb⟩
  have HX := hide hX
  clear hX
  replace HK := hide ((unhide HK).call hb)
  clear hb f0 f1 f2 f3 f4 f5 f6 f7 f8 f9 f10 f11
  obtain ⟨f0, f1, f2, f3, f4, f5, f6, f7, f8, f9, f10, f11⟩ := (unhide HK).cells
  go_wp2_with fail
  go_at_call 18
  refine (unhide H2 _).mono ?_
  rintro r w3 ⟨⟨a2, n2, c2, rfl, hY⟩, hb⟩
  replace HX := hide ((unhide HX).later hb)
  have HY := hide hY
  clear hY
  replace HK := hide ((unhide HK).call hb)
  clear hb f0 f1 f2 f3 f4 f5 f6 f7 f8 f9 f10 f11
  obtain ⟨f0, f1, f2, f3, f4, f5, f6, f7, f8, f9, f10, f11⟩ := (unhide HK).cells
  go_wp2_with fail
  go_at_call 19
  refine (unhide H3 _).mono ?_
  rintro r w4 ⟨rfl, hb⟩
  replace HX := hide ((unhide HX).later hb)
  replace HY := hide ((unhide HY).later hb)
  replace HK := hide ((unhide HK).call hb)
  clear hb f0 f1 f2 f3 f4 f5 f6 f7 f8 f9 f10 f11
  obtain ⟨f0, f1, f2, f3, f4, f5, f6, f7, f8, f9, f10, f11⟩ := (unhide HK).cells
  go_wp2_with fail
  go_at_call 20
  refine (unhide H4 _).mono ?_
  rintro r w5 ⟨rfl, hb⟩
  replace HX := hide ((unhide HX).later hb)
  replace HY := hide ((unhide HY).later hb)
  replace HK := hide ((unhide HK).call hb)
  clear hb f0 f1 f2 f3 f4 f5 f6 f7 f8 f9 f10 f11
  obtain ⟨f0, f1, f2, f3, f4, f5, f6, f7, f8, f9, f10, f11⟩ := (unhide HK).cells
  go_wp2_with fail
  go_at_call 21
  refine (unhide H5 _).mono ?_
  rintro r w6 ⟨rfl, hb⟩
  replace HX := hide ((unhide HX).later hb)
  replace HY := hide ((unhide HY).later hb)
  replace HK := hide ((unhide HK).call hb)
  clear hb f0 f1 f2 f3 f4 f5 f6 f7 f8 f9 f10 f11
  obtain ⟨f0, f1, f2, f3, f4, f5, f6, f7, f8, f9, f10, f11⟩ := (unhide HK).cells
  go_wp2_with fail
  go_at_call 22
  refine (unhide H6 _).mono ?_
  rintro r w7 ⟨rfl, hb⟩
  replace HX := hide ((unhide HX).later hb)
  replace HY := hide ((unhide HY).later hb)
  replace HK := hide ((unhide HK).call hb)
  clear hb f0 f1 f2 f3 f4 f5 f6 f7 f8 f9 f10 f11
  clear H1 H2 H3 H4 H5 H6
  go_wp2_with fail
  go_at_call 23
  refine (sameInts_same _ _ _ _ _ _ L _ (unhide HX) (unhide HY) (unhide HL)).mono ?_
  rintro r w8 ⟨rfl, m, rfl⟩
  go_wp2
  go_ret
  exact ⟨rfl, below_drewN (unhide HK).2 m⟩

end Go.Proofs.Ytielammfimeedaa
