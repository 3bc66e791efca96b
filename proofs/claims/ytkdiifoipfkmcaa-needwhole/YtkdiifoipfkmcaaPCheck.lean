/- The contracts of Check. -/
import Derived.Test.YtkdiifoipfkmcaaPRefMake
import Derived.Test.YtkdiifoipfkmcaaPEq
namespace Go.Proofs.Ytkdiifoipfkmcaa
open Go.RowKit Go.Shelf
set_option linter.unusedVariables false

/-- Are the first twelve numbers the same? -/
def same12 (P Q : Nat → Int) : Bool := (List.range 12).all (fun k => P k == Q k)

theorem same12_iff {P Q : Nat → Int} : same12 P Q = true ↔ ∀ k, k < 12 → P k = Q k := by simp [same12]

/-- What Check answers. -/
def checkE (P : Nat → Int) : Int := if makeE (P 0) (P 1) (P 2) (P 3) = 0 ∧ same12 (makeP (P 0) (P 1) (P 2) (P 3)) P = true then 0 else 4

theorem checkE_ok {P : Nat → Int} (h1 : makeE (P 0) (P 1) (P 2) (P 3) = 0) (h2 : ∀ k, k < 12 → makeP (P 0) (P 1) (P 2) (P 3) k = P k) : checkE P = 0 := by rw [checkE, if_pos ⟨h1, same12_iff.2 h2⟩]
theorem checkE_other {P : Nat → Int} (h2 : ¬ ∀ k, k < 12 → makeP (P 0) (P 1) (P 2) (P 3) k = P k) : checkE P = 4 := by rw [checkE, if_neg (fun h => h2 (same12_iff.1 h.2))]
theorem checkE_bad {P : Nat → Int} (h1 : makeE (P 0) (P 1) (P 2) (P 3) ≠ 0) : checkE P = 4 := by rw [checkE, if_neg (fun h => h1 h.1)]
theorem checkE_two (P : Nat → Int) : checkE P = 0 ∨ checkE P = 4 := by
  unfold checkE
  split
  · exact .inl rfl
  · exact .inr rfl

set_option maxRecDepth 10000 in
set_option maxHeartbeats 2000000 in
theorem check_err (P Q : Nat → Int) (e : Int) (w : World) (he : e ≠ 0) (H1 : Hid (∀ u : World, Calls Try.prog 34 #[.int .i64 (P 0), .int .i64 (P 1), .int .i64 (P 2), .int .i64 (P 3)] u fun r w' => r = .returned (.tuple #[Pv Q, .int .i64 e]) ∧ Below u.heap.size u w')) :
    Calls Try.prog 23 #[Pv P] w fun r w' => r = .returned (.int .i64 4) ∧ Below w.heap.size w w' := by
  go_enter Try.func23, Try.ntmps23
  go_wp2_with fail
  go_at_call 34
  refine (unhide H1 _).mono ?_
  rintro r w1 ⟨rfl, hb⟩
  have HB := hide (((Below.refl w.heap.size w).alloc (Nat.le_refl _) (.cells (Pc P) 23)).trans (hb.mono (by simp)))
  clear hb H1
  go_wp2
  go_ret
  exact ⟨rfl, (unhide HB).alloc (unhide HB).size _⟩

set_option maxRecDepth 10000 in
set_option maxHeartbeats 2000000 in
theorem check_cmp (P Q : Nat → Int) (b : Bool) (w : World) (H1 : Hid (∀ u : World, Calls Try.prog 34 #[.int .i64 (P 0), .int .i64 (P 1), .int .i64 (P 2), .int .i64 (P 3)] u fun r w' => r = .returned (.tuple #[Pv Q, .int .i64 0]) ∧ Below u.heap.size u w'))
    (hne : ∀ u : World, (binOp .neq 23 (Pv Q) (Pv P)).run Try.prog u = .ok (.bool b) u) :
    Calls Try.prog 23 #[Pv P] w fun r w' => r = .returned (.int .i64 (if b then 4 else 0)) ∧ Below w.heap.size w w' := by
  go_enter Try.func23, Try.ntmps23
  go_wp2_with fail
  go_at_call 34
  refine (unhide H1 _).mono ?_
  rintro r w1 ⟨rfl, hb⟩
  have HR := hide (((R12.new w P).below hb (R12.new w P).lt).alloc (.cells (Pc Q) 23))
  have HB := hide ((((Below.refl w.heap.size w).alloc (Nat.le_refl _) (.cells (Pc P) 23)).trans (hb.mono (by simp))).alloc (by have := hb.size; simp at this; omega) (.cells (Pc Q) 23))
  clear hb H1
  go_upto_region 2 with fail
  change Code.wp _ _ _ _ (w1.alloc (.cells (Pc Q) 23))
  have HQ := hide (R12.new w1 Q)
  generalize w1.alloc (.cells (Pc Q) 23) = wx at *
  have f0 := (unhide HR).cell 0 (by omega)
  have f1 := (unhide HR).cell 1 (by omega)
  have f2 := (unhide HR).cell 2 (by omega)
  have f3 := (unhide HR).cell 3 (by omega)
  have f4 := (unhide HR).cell 4 (by omega)
  have f5 := (unhide HR).cell 5 (by omega)
  have f6 := (unhide HR).cell 6 (by omega)
  have f7 := (unhide HR).cell 7 (by omega)
  have f8 := (unhide HR).cell 8 (by omega)
  have f9 := (unhide HR).cell 9 (by omega)
  have f10 := (unhide HR).cell 10 (by omega)
  have f11 := (unhide HR).cell 11 (by omega)
  have g0 := (unhide HQ).cell 0 (by omega)
  have g1 := (unhide HQ).cell 1 (by omega)
  have g2 := (unhide HQ).cell 2 (by omega)
  have g3 := (unhide HQ).cell 3 (by omega)
  have g4 := (unhide HQ).cell 4 (by omega)
  have g5 := (unhide HQ).cell 5 (by omega)
  have g6 := (unhide HQ).cell 6 (by omega)
  have g7 := (unhide HQ).cell 7 (by omega)
  have g8 := (unhide HQ).cell 8 (by omega)
  have g9 := (unhide HQ).cell 9 (by omega)
  have g10 := (unhide HQ).cell 10 (by omega)
  have g11 := (unhide HQ).cell 11 (by omega)
  cases b
  · go_wp2
    go_ret
    exact ⟨rfl, unhide HB⟩
  · go_wp2
    go_ret
    exact ⟨rfl, unhide HB⟩

theorem check_any (P : Nat → Int) (w : World) : Calls Try.prog 23 #[Pv P] w fun r w' => r = .returned (.int .i64 (checkE P)) ∧ Below w.heap.size w w' := by
  have h1 : ∀ u : World, Calls Try.prog 34 #[.int .i64 (P 0), .int .i64 (P 1), .int .i64 (P 2), .int .i64 (P 3)] u fun r w' => r = .returned (.tuple #[Pv (makeP (P 0) (P 1) (P 2) (P 3)), .int .i64 (makeE (P 0) (P 1) (P 2) (P 3))]) ∧ Below u.heap.size u w' := make_any (P 0) (P 1) (P 2) (P 3)
  by_cases he : makeE (P 0) (P 1) (P 2) (P 3) = 0
  · rw [he] at h1
    by_cases hk : ∀ k, k < 12 → makeP (P 0) (P 1) (P 2) (P 3) k = P k
    · rw [checkE_ok he hk]
      exact check_cmp P _ false w h1 (neq_plan_no hk)
    · rw [checkE_other hk]
      exact check_cmp P _ true w h1 (neq_plan_yes hk)
  · rw [checkE_bad he]
    exact check_err P _ _ w he h1

set_option maxRecDepth 10000 in
set_option maxHeartbeats 2000000 in
theorem refCheck_err (P Q : Nat → Int) (e : Int) (w : World) (he : e ≠ 0) (H1 : Hid (∀ u : World, Calls Try.prog 35 #[.int .i64 (P 0), .int .i64 (P 1), .int .i64 (P 2), .int .i64 (P 3)] u fun r w' => r = .returned (.tuple #[Pv Q, .int .i64 e]) ∧ Below u.heap.size u w')) :
    Calls Try.prog 24 #[Pv P] w fun r w' => r = .returned (.int .i64 4) ∧ Below w.heap.size w w' := by
  go_enter Try.func24, Try.ntmps24
  go_wp2_with fail
  go_at_call 35
  refine (unhide H1 _).mono ?_
  rintro r w1 ⟨rfl, hb⟩
  have HB := hide (((Below.refl w.heap.size w).alloc (Nat.le_refl _) (.cells (Pc P) 23)).trans (hb.mono (by simp)))
  clear hb H1
  go_wp2
  go_ret
  exact ⟨rfl, (unhide HB).alloc (unhide HB).size _⟩

set_option maxRecDepth 10000 in
set_option maxHeartbeats 2000000 in
theorem refCheck_cmp (P Q : Nat → Int) (b : Bool) (w : World) (H1 : Hid (∀ u : World, Calls Try.prog 35 #[.int .i64 (P 0), .int .i64 (P 1), .int .i64 (P 2), .int .i64 (P 3)] u fun r w' => r = .returned (.tuple #[Pv Q, .int .i64 0]) ∧ Below u.heap.size u w'))
    (hne : ∀ u : World, (binOp .neq 23 (Pv P) (Pv Q)).run Try.prog u = .ok (.bool b) u) :
    Calls Try.prog 24 #[Pv P] w fun r w' => r = .returned (.int .i64 (if b then 4 else 0)) ∧ Below w.heap.size w w' := by
  go_enter Try.func24, Try.ntmps24
  go_wp2_with fail
  go_at_call 35
  refine (unhide H1 _).mono ?_
  rintro r w1 ⟨rfl, hb⟩
  have HR := hide (((R12.new w P).below hb (R12.new w P).lt).alloc (.cells (Pc Q) 23))
  have HB := hide ((((Below.refl w.heap.size w).alloc (Nat.le_refl _) (.cells (Pc P) 23)).trans (hb.mono (by simp))).alloc (by have := hb.size; simp at this; omega) (.cells (Pc Q) 23))
  clear hb H1
  go_upto_region 2 with fail
  change Code.wp _ _ _ _ (w1.alloc (.cells (Pc Q) 23))
  have HQ := hide (R12.new w1 Q)
  generalize w1.alloc (.cells (Pc Q) 23) = wx at *
  have f0 := (unhide HR).cell 0 (by omega)
  have f1 := (unhide HR).cell 1 (by omega)
  have f2 := (unhide HR).cell 2 (by omega)
  have f3 := (unhide HR).cell 3 (by omega)
  have f4 := (unhide HR).cell 4 (by omega)
  have f5 := (unhide HR).cell 5 (by omega)
  have f6 := (unhide HR).cell 6 (by omega)
  have f7 := (unhide HR).cell 7 (by omega)
  have f8 := (unhide HR).cell 8 (by omega)
  have f9 := (unhide HR).cell 9 (by omega)
  have f10 := (unhide HR).cell 10 (by omega)
  have f11 := (unhide HR).cell 11 (by omega)
  have g0 := (unhide HQ).cell 0 (by omega)
  have g1 := (unhide HQ).cell 1 (by omega)
  have g2 := (unhide HQ).cell 2 (by omega)
  have g3 := (unhide HQ).cell 3 (by omega)
  have g4 := (unhide HQ).cell 4 (by omega)
  have g5 := (unhide HQ).cell 5 (by omega)
  have g6 := (unhide HQ).cell 6 (by omega)
  have g7 := (unhide HQ).cell 7 (by omega)
  have g8 := (unhide HQ).cell 8 (by omega)
  have g9 := (unhide HQ).cell 9 (by omega)
  have g10 := (unhide HQ).cell 10 (by omega)
  have g11 := (unhide HQ).cell 11 (by omega)
  cases b
  · go_wp2
    go_ret
    exact ⟨rfl, unhide HB⟩
  · go_wp2
    go_ret
    exact ⟨rfl, unhide HB⟩

theorem refCheck_any (P : Nat → Int) (w : World) : Calls Try.prog 24 #[Pv P] w fun r w' => r = .returned (.int .i64 (checkE P)) ∧ Below w.heap.size w w' := by
  have h1 : ∀ u : World, Calls Try.prog 35 #[.int .i64 (P 0), .int .i64 (P 1), .int .i64 (P 2), .int .i64 (P 3)] u fun r w' => r = .returned (.tuple #[Pv (makeP (P 0) (P 1) (P 2) (P 3)), .int .i64 (makeE (P 0) (P 1) (P 2) (P 3))]) ∧ Below u.heap.size u w' := refMake_any (P 0) (P 1) (P 2) (P 3)
  by_cases he : makeE (P 0) (P 1) (P 2) (P 3) = 0
  · rw [he] at h1
    by_cases hk : ∀ k, k < 12 → makeP (P 0) (P 1) (P 2) (P 3) k = P k
    · rw [checkE_ok he hk]
      exact refCheck_cmp P _ false w h1 (neq_plan_no (fun k h => (hk k h).symm))
    · rw [checkE_other hk]
      exact refCheck_cmp P _ true w h1 (neq_plan_yes (fun h => hk (fun k h1 => (h k h1).symm)))
  · rw [checkE_bad he]
    exact refCheck_err P _ _ w he h1

end Go.Proofs.Ytkdiifoipfkmcaa
