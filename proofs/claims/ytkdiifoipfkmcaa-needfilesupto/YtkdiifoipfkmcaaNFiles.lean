/- The walk of NeedFiles. -/
import Derived.Test.YtkdiifoipfkmcaaNTree
import Derived.Test.YtkdiifoipfkmcaaNRTree
import Derived.Test.YtkdiifoipfkmcaaNWakes
namespace Go.Proofs.Ytkdiifoipfkmcaa
open Go.RowKit Go.Shelf Ieee
set_option linter.unusedVariables false
set_option maxRecDepth 100000

set_option maxHeartbeats 4000000 in
theorem files_walk (P : Nat → Int) (n : Int) (a1 a2 : Option Addr) (l1 c1 l2 c2 : Nat) (F D : List Int) (w : World) (h1 : IHas w a1 l1 F) (h2 : IHas w a2 l2 D) (hl : l1 + l2 ≤ 1048576) :
    Calls Try.prog 3 #[Pv P, .int .i64 n, .slice a1 l1 c1, .slice a2 l2 c2] w fun e w' => e = .returned (.bool true) ∧ Below w.heap.size w w' := by
  have HK := hide (Kp.start w P)
  have HT := hide (fun w1 hb => tree_any P a1 a2 l1 c1 l2 c2 F D w1 (h1.later hb) (h2.later hb) (by omega) (by omega))
  have HRT := hide (fun w1 hb => rtree_any P a1 a2 l1 c1 l2 c2 F D w1 (h1.later hb) (h2.later hb) hl)
  have H1 := hide (file_any P n)
  have H2 := hide (rfile_any P n)
  have H3 := hide (dir_any P n)
  have H4 := hide (rdir_any P n)
  have H5 := hide (have_any P)
  have H6 := hide (rhave_any P)
  clear h1 h2 hl
  generalize whE P n = E1 at *
  generalize flB P n = B1 at *
  generalize flI P n = I1 at *
  generalize drE P n = E2 at *
  generalize drB P n = B2 at *
  generalize drI P n = I2 at *
  generalize checkE P = E3 at *
  generalize hvB P = B3 at *
  generalize hvI P = I3 at *
  generalize trE P F D = E4 at *
  generalize trB P F D = B4 at *
  generalize trI P F D = I4 at *
  go_enter Try.func3, Try.ntmps3
  go_wp2_with fail
  go_at_call 6
  refine (wakes_any _).mono ?_
  rintro r w0 ⟨rfl, rfl⟩
  obtain ⟨f0, f1, f2, f3, f4, f5, f6, f7, f8, f9, f10, f11⟩ := (unhide HK).cells
  go_wp2_with fail
  go_at_call 7
  refine (unhide H1 _).mono ?_
  rintro r w1 ⟨⟨x0, y0, rfl, hx, hy⟩, hb⟩
  have R0 := hide (And.intro hx hy)
  replace HK := hide ((unhide HK).call hb)
  clear hx hy hb H1 f0 f1 f2 f3 f4 f5 f6 f7 f8 f9 f10 f11
  obtain ⟨f0, f1, f2, f3, f4, f5, f6, f7, f8, f9, f10, f11⟩ := (unhide HK).cells
  go_wp2_with fail
  go_at_call 8
  refine (unhide H2 _).mono ?_
  rintro r w2 ⟨⟨x1, y1, rfl, hx, hy⟩, hb⟩
  have R1 := hide (And.intro hx hy)
  replace HK := hide ((unhide HK).call hb)
  clear hx hy hb H2 f0 f1 f2 f3 f4 f5 f6 f7 f8 f9 f10 f11
  obtain ⟨f0, f1, f2, f3, f4, f5, f6, f7, f8, f9, f10, f11⟩ := (unhide HK).cells
  go_wp2_with fail
  go_at_call 9
  refine (unhide H3 _).mono ?_
  rintro r w3 ⟨⟨x2, y2, rfl, hx, hy⟩, hb⟩
  have R2 := hide (And.intro hx hy)
  replace HK := hide ((unhide HK).call hb)
  clear hx hy hb H3 f0 f1 f2 f3 f4 f5 f6 f7 f8 f9 f10 f11
  obtain ⟨f0, f1, f2, f3, f4, f5, f6, f7, f8, f9, f10, f11⟩ := (unhide HK).cells
  go_wp2_with fail
  go_at_call 10
  refine (unhide H4 _).mono ?_
  rintro r w4 ⟨⟨x3, y3, rfl, hx, hy⟩, hb⟩
  have R3 := hide (And.intro hx hy)
  replace HK := hide ((unhide HK).call hb)
  clear hx hy hb H4 f0 f1 f2 f3 f4 f5 f6 f7 f8 f9 f10 f11
  obtain ⟨f0, f1, f2, f3, f4, f5, f6, f7, f8, f9, f10, f11⟩ := (unhide HK).cells
  go_wp2_with fail
  go_at_call 11
  refine (unhide H5 _).mono ?_
  rintro r w5 ⟨⟨x4, y4, rfl, hx, hy⟩, hb⟩
  have R4 := hide (And.intro hx hy)
  replace HK := hide ((unhide HK).call hb)
  clear hx hy hb H5 f0 f1 f2 f3 f4 f5 f6 f7 f8 f9 f10 f11
  obtain ⟨f0, f1, f2, f3, f4, f5, f6, f7, f8, f9, f10, f11⟩ := (unhide HK).cells
  go_wp2_with fail
  go_at_call 12
  refine (unhide H6 _).mono ?_
  rintro r w6 ⟨⟨x5, y5, rfl, hx, hy⟩, hb⟩
  have R5 := hide (And.intro hx hy)
  replace HK := hide ((unhide HK).call hb)
  clear hx hy hb H6 f0 f1 f2 f3 f4 f5 f6 f7 f8 f9 f10 f11
  obtain ⟨f0, f1, f2, f3, f4, f5, f6, f7, f8, f9, f10, f11⟩ := (unhide HK).cells
  go_wp2_with fail
  go_at_call 13
  refine (unhide HT _ (unhide HK).2).mono ?_
  rintro r w7 ⟨⟨x6, y6, rfl, hx, hy⟩, hb⟩
  have R6 := hide (And.intro hx hy)
  replace HK := hide ((unhide HK).call hb)
  clear hx hy hb HT f0 f1 f2 f3 f4 f5 f6 f7 f8 f9 f10 f11
  obtain ⟨f0, f1, f2, f3, f4, f5, f6, f7, f8, f9, f10, f11⟩ := (unhide HK).cells
  go_wp2_with fail
  go_at_call 14
  refine (unhide HRT _ (unhide HK).2).mono ?_
  rintro r w8 ⟨⟨x7, y7, rfl, hx, hy⟩, hb⟩
  have R7 := hide (And.intro hx hy)
  replace HK := hide ((unhide HK).call hb)
  clear hx hy hb HRT f0 f1 f2 f3 f4 f5 f6 f7 f8 f9 f10 f11
  have o0 := order_at (unhide R0).1 (unhide R1).1 (cmp_eq _)
  have o1 := order_at (unhide R0).2 (unhide R1).2 (cmp_eq _)
  have o2 := order_at (unhide R2).1 (unhide R3).1 (cmp_eq _)
  have o3 := order_at (unhide R2).2 (unhide R3).2 (cmp_eq _)
  have o4 := order_at (unhide R4).1 (unhide R5).1 (cmp_eq _)
  have o5 := order_at (unhide R4).2 (unhide R5).2 (cmp_eq _)
  have o6 := order_at (unhide R6).1 (unhide R7).1 (cmp_eq _)
  have o7 := order_at (unhide R6).2 (unhide R7).2 (cmp_eq _)
  clear R0 R1 R2 R3 R4 R5 R6 R7
  go_wp2
  go_ret
  exact ⟨by simp, (unhide HK).2⟩

end Go.Proofs.Ytkdiifoipfkmcaa
