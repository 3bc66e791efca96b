/- The walk of PlanPlaces. -/
import Derived.Test.YtielammfimeedaaPKeep
namespace Go.Proofs.Ytielammfimeedaa
open Go.RowKit Go.Shelf
set_option linter.unusedVariables false

set_option maxRecDepth 10000 in
set_option maxHeartbeats 4000000 in
theorem places_walk (P : Nat → Int) (n : Int) (w : World) :
    Calls Try.prog 4 #[Pv P, .int .i64 n] w fun r w' => r = .returned (.bool true) ∧ Below w.heap.size w w' := by
  have H1 := hide (place_any P n)
  have H2 := hide (refPlace_any P n)
  have H3 := hide (region_any P n)
  have H4 := hide (refRegion_any P n)
  have H5 := hide (check_any P)
  have H6 := hide (refCheck_any P)
  generalize plcB P n = a1 at *
  generalize plcA P n = a2 at *
  generalize plcE P n = a3 at *
  generalize regV P n = a4 at *
  generalize regE P n = a5 at *
  generalize checkE P = a6 at *
  have HK := hide (Kp.start w P)
  go_enter Try.func4, Try.ntmps4
  go_wp2_with fail
  go_at_call 8
  refine (wakes_any _).mono ?_
  rintro r w1 ⟨rfl, hb⟩
  replace HK := hide ((unhide HK).call hb)
  clear hb
  obtain ⟨f0, f1, f2, f3, f4, f5, f6, f7, f8, f9, f10, f11⟩ := (unhide HK).cells
  go_wp2_with fail
  go_at_call 11
  refine (unhide H1 _).mono ?_
  rintro r w2 ⟨rfl, hb⟩
  replace HK := hide ((unhide HK).call hb)
  clear hb f0 f1 f2 f3 f4 f5 f6 f7 f8 f9 f10 f11
  obtain ⟨f0, f1, f2, f3, f4, f5, f6, f7, f8, f9, f10, f11⟩ := (unhide HK).cells
  go_wp2_with fail
  go_at_call 12
  refine (unhide H2 _).mono ?_
  rintro r w3 ⟨rfl, hb⟩
  replace HK := hide ((unhide HK).call hb)
  clear hb f0 f1 f2 f3 f4 f5 f6 f7 f8 f9 f10 f11
  obtain ⟨f0, f1, f2, f3, f4, f5, f6, f7, f8, f9, f10, f11⟩ := (unhide HK).cells
  go_wp2_with fail
  go_at_call 13
  refine (unhide H3 _).mono ?_
  rintro r w4 ⟨rfl, hb⟩
  replace HK := hide ((unhide HK).call hb)
  clear hb f0 f1 f2 f3 f4 f5 f6 f7 f8 f9 f10 f11
  obtain ⟨f0, f1, f2, f3, f4, f5, f6, f7, f8, f9, f10, f11⟩ := (unhide HK).cells
  go_wp2_with fail
  go_at_call 14
  refine (unhide H4 _).mono ?_
  rintro r w5 ⟨rfl, hb⟩
  replace HK := hide ((unhide HK).call hb)
  clear hb f0 f1 f2 f3 f4 f5 f6 f7 f8 f9 f10 f11
  obtain ⟨f0, f1, f2, f3, f4, f5, f6, f7, f8, f9, f10, f11⟩ := (unhide HK).cells
  clear H1 H2 H3 H4
  go_wp2_with fail
  go_region_held3 (fun u => Hid (Kp w P u) ∧ u.cell? ⟨w.heap.size, 0, none⟩ = some (.int .i64 (P 0)) ∧ u.cell? ⟨w.heap.size, 1, none⟩ = some (.int .i64 (P 1)) ∧ u.cell? ⟨w.heap.size, 2, none⟩ = some (.int .i64 (P 2)) ∧ u.cell? ⟨w.heap.size, 3, none⟩ = some (.int .i64 (P 3)) ∧ u.cell? ⟨w.heap.size, 4, none⟩ = some (.int .i64 (P 4)) ∧ u.cell? ⟨w.heap.size, 5, none⟩ = some (.int .i64 (P 5)) ∧ u.cell? ⟨w.heap.size, 6, none⟩ = some (.int .i64 (P 6)) ∧ u.cell? ⟨w.heap.size, 7, none⟩ = some (.int .i64 (P 7)) ∧ u.cell? ⟨w.heap.size, 8, none⟩ = some (.int .i64 (P 8)) ∧ u.cell? ⟨w.heap.size, 9, none⟩ = some (.int .i64 (P 9)) ∧ u.cell? ⟨w.heap.size, 10, none⟩ = some (.int .i64 (P 10)) ∧ u.cell? ⟨w.heap.size, 11, none⟩ = some (.int .i64 (P 11)))
    (with_reducible (first | exact (unhide HK).drew.js | exact (unhide J2).js | exact (unhide J1).js | exact (unhide HK).js))
    (first
      | (go_at_call 15; refine (unhide H5 _).mono ?_; rintro e w6 ⟨rfl, hb⟩; have J1 : Hid (Kp w P w6) := Kp.call (unhide (‹Hid (Kp w P _) ∧ _›).1) hb; clear hb)
      | (go_at_call 16; refine (unhide H6 _).mono ?_; rintro e w7 ⟨rfl, hb⟩; have J2 : Hid (Kp w P w7) := Kp.call (unhide (‹Hid (Kp w P _) ∧ _›).1) hb; clear hb))
  all_goals
    have jj := unhide (‹Hid (Kp w P _) ∧ _›).1
    go_wp2
    go_ret
    exact ⟨rfl, jj.2⟩

end Go.Proofs.Ytielammfimeedaa
