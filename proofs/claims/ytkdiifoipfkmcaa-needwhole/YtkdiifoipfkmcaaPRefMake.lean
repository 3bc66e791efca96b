/- The contract of the reference's Make. -/
import Derived.Test.YtkdiifoipfkmcaaPMake2
import Derived.Test.YtkdiifoipfkmcaaPRefLeaf
namespace Go.Proofs.Ytkdiifoipfkmcaa
open Go.RowKit Go.Shelf
set_option linter.unusedVariables false

theorem size_yes (b : Int) (w : World) (h : isSize b) : Calls Try.prog 42 #[.int .i64 b] w fun r w' => r = .returned (.bool true) ∧ w = w' :=
  (size_any b w).mono fun r w' ⟨h1, h2⟩ => ⟨h1.elim (fun x => x.1) (fun x => absurd h x.2), h2⟩

theorem size_no (b : Int) (w : World) (h : ¬ isSize b) : Calls Try.prog 42 #[.int .i64 b] w fun r w' => r = .returned (.bool false) ∧ w = w' :=
  (size_any b w).mono fun r w' ⟨h1, h2⟩ => ⟨h1.elim (fun x => absurd x.2 h) (fun x => x.1), h2⟩

set_option maxRecDepth 10000 in
set_option maxHeartbeats 2000000 in
theorem refMake_no (b bl ino lg : Int) (w : World) (h : ¬ isSize b) :
    Calls Try.prog 35 #[.int .i64 b, .int .i64 bl, .int .i64 ino, .int .i64 lg] w fun r w' => r = .returned (.tuple #[Pv zeroP, .int .i64 1]) ∧ Below w.heap.size w w' := by
  have H := hide h
  have HZ := hide (zero_new w)
  clear h
  go_enter Try.func35, Try.ntmps35
  go_wp2_with fail
  go_at_call 42
  refine (size_no b _ (unhide H)).mono ?_
  rintro e w' ⟨rfl, rfl⟩
  go_wp2
  change bodyPost _ _ _ _ _ (w.alloc (.cells (Pc zeroP) 23))
  obtain ⟨hA, hW⟩ := unhide HZ
  generalize w.alloc (.cells (Pc zeroP) 23) = wf at *
  refine bodyPost_ret (v := .tuple #[Pv zeroP, .int .i64 1]) ?_ rfl ⟨rfl, hW⟩
  simp [results, Try.results35, go_sem, hA.cell 0 (by omega), hA.cell 1 (by omega), hA.cell 2 (by omega), hA.cell 3 (by omega), hA.cell 4 (by omega), hA.cell 5 (by omega), hA.cell 6 (by omega), hA.cell 7 (by omega), hA.cell 8 (by omega), hA.cell 9 (by omega), hA.cell 10 (by omega), hA.cell 11 (by omega)]

set_option maxRecDepth 10000 in
set_option maxHeartbeats 2000000 in
theorem refMake_no0 (b bl ino lg : Int) (w : World) (h : isSize b)  (n0 : bl < 1) :
    Calls Try.prog 35 #[.int .i64 b, .int .i64 bl, .int .i64 ino, .int .i64 lg] w fun r w' => r = .returned (.tuple #[Pv zeroP, .int .i64 1]) ∧ Below w.heap.size w w' := by
  have H := hide h
  have HZ := hide (zero_new w)
  clear h
  go_enter Try.func35, Try.ntmps35
  go_wp2_with fail
  go_at_call 42
  refine (size_yes b _ (unhide H)).mono ?_
  rintro e w' ⟨rfl, rfl⟩
  go_wp2
  change bodyPost _ _ _ _ _ (w.alloc (.cells (Pc zeroP) 23))
  obtain ⟨hA, hW⟩ := unhide HZ
  generalize w.alloc (.cells (Pc zeroP) 23) = wf at *
  refine bodyPost_ret (v := .tuple #[Pv zeroP, .int .i64 1]) ?_ rfl ⟨rfl, hW⟩
  simp [results, Try.results35, go_sem, hA.cell 0 (by omega), hA.cell 1 (by omega), hA.cell 2 (by omega), hA.cell 3 (by omega), hA.cell 4 (by omega), hA.cell 5 (by omega), hA.cell 6 (by omega), hA.cell 7 (by omega), hA.cell 8 (by omega), hA.cell 9 (by omega), hA.cell 10 (by omega), hA.cell 11 (by omega)]

set_option maxRecDepth 10000 in
set_option maxHeartbeats 2000000 in
theorem refMake_no1 (b bl ino lg : Int) (w : World) (h : isSize b) (n0 : ¬ bl < 1) (n1 : 4096 < bl) :
    Calls Try.prog 35 #[.int .i64 b, .int .i64 bl, .int .i64 ino, .int .i64 lg] w fun r w' => r = .returned (.tuple #[Pv zeroP, .int .i64 1]) ∧ Below w.heap.size w w' := by
  have H := hide h
  have HZ := hide (zero_new w)
  clear h
  go_enter Try.func35, Try.ntmps35
  go_wp2_with fail
  go_at_call 42
  refine (size_yes b _ (unhide H)).mono ?_
  rintro e w' ⟨rfl, rfl⟩
  go_wp2
  change bodyPost _ _ _ _ _ (w.alloc (.cells (Pc zeroP) 23))
  obtain ⟨hA, hW⟩ := unhide HZ
  generalize w.alloc (.cells (Pc zeroP) 23) = wf at *
  refine bodyPost_ret (v := .tuple #[Pv zeroP, .int .i64 1]) ?_ rfl ⟨rfl, hW⟩
  simp [results, Try.results35, go_sem, hA.cell 0 (by omega), hA.cell 1 (by omega), hA.cell 2 (by omega), hA.cell 3 (by omega), hA.cell 4 (by omega), hA.cell 5 (by omega), hA.cell 6 (by omega), hA.cell 7 (by omega), hA.cell 8 (by omega), hA.cell 9 (by omega), hA.cell 10 (by omega), hA.cell 11 (by omega)]

set_option maxRecDepth 10000 in
set_option maxHeartbeats 2000000 in
theorem refMake_no2 (b bl ino lg : Int) (w : World) (h : isSize b) (n0 : ¬ bl < 1) (n1 : ¬ 4096 < bl) (n2 : ino < 2) :
    Calls Try.prog 35 #[.int .i64 b, .int .i64 bl, .int .i64 ino, .int .i64 lg] w fun r w' => r = .returned (.tuple #[Pv zeroP, .int .i64 1]) ∧ Below w.heap.size w w' := by
  have H := hide h
  have HZ := hide (zero_new w)
  clear h
  go_enter Try.func35, Try.ntmps35
  go_wp2_with fail
  go_at_call 42
  refine (size_yes b _ (unhide H)).mono ?_
  rintro e w' ⟨rfl, rfl⟩
  go_wp2
  change bodyPost _ _ _ _ _ (w.alloc (.cells (Pc zeroP) 23))
  obtain ⟨hA, hW⟩ := unhide HZ
  generalize w.alloc (.cells (Pc zeroP) 23) = wf at *
  refine bodyPost_ret (v := .tuple #[Pv zeroP, .int .i64 1]) ?_ rfl ⟨rfl, hW⟩
  simp [results, Try.results35, go_sem, hA.cell 0 (by omega), hA.cell 1 (by omega), hA.cell 2 (by omega), hA.cell 3 (by omega), hA.cell 4 (by omega), hA.cell 5 (by omega), hA.cell 6 (by omega), hA.cell 7 (by omega), hA.cell 8 (by omega), hA.cell 9 (by omega), hA.cell 10 (by omega), hA.cell 11 (by omega)]

set_option maxRecDepth 10000 in
set_option maxHeartbeats 2000000 in
theorem refMake_no3 (b bl ino lg : Int) (w : World) (h : isSize b) (n0 : ¬ bl < 1) (n1 : ¬ 4096 < bl) (n2 : ¬ ino < 2) (n3 : 1024 < ino) :
    Calls Try.prog 35 #[.int .i64 b, .int .i64 bl, .int .i64 ino, .int .i64 lg] w fun r w' => r = .returned (.tuple #[Pv zeroP, .int .i64 1]) ∧ Below w.heap.size w w' := by
  have H := hide h
  have HZ := hide (zero_new w)
  clear h
  go_enter Try.func35, Try.ntmps35
  go_wp2_with fail
  go_at_call 42
  refine (size_yes b _ (unhide H)).mono ?_
  rintro e w' ⟨rfl, rfl⟩
  go_wp2
  change bodyPost _ _ _ _ _ (w.alloc (.cells (Pc zeroP) 23))
  obtain ⟨hA, hW⟩ := unhide HZ
  generalize w.alloc (.cells (Pc zeroP) 23) = wf at *
  refine bodyPost_ret (v := .tuple #[Pv zeroP, .int .i64 1]) ?_ rfl ⟨rfl, hW⟩
  simp [results, Try.results35, go_sem, hA.cell 0 (by omega), hA.cell 1 (by omega), hA.cell 2 (by omega), hA.cell 3 (by omega), hA.cell 4 (by omega), hA.cell 5 (by omega), hA.cell 6 (by omega), hA.cell 7 (by omega), hA.cell 8 (by omega), hA.cell 9 (by omega), hA.cell 10 (by omega), hA.cell 11 (by omega)]

set_option maxRecDepth 10000 in
set_option maxHeartbeats 2000000 in
theorem refMake_no4 (b bl ino lg : Int) (w : World) (h : isSize b) (n0 : ¬ bl < 1) (n1 : ¬ 4096 < bl) (n2 : ¬ ino < 2) (n3 : ¬ 1024 < ino) (n4 : lg < 4) :
    Calls Try.prog 35 #[.int .i64 b, .int .i64 bl, .int .i64 ino, .int .i64 lg] w fun r w' => r = .returned (.tuple #[Pv zeroP, .int .i64 1]) ∧ Below w.heap.size w w' := by
  have H := hide h
  have HZ := hide (zero_new w)
  clear h
  go_enter Try.func35, Try.ntmps35
  go_wp2_with fail
  go_at_call 42
  refine (size_yes b _ (unhide H)).mono ?_
  rintro e w' ⟨rfl, rfl⟩
  go_wp2
  change bodyPost _ _ _ _ _ (w.alloc (.cells (Pc zeroP) 23))
  obtain ⟨hA, hW⟩ := unhide HZ
  generalize w.alloc (.cells (Pc zeroP) 23) = wf at *
  refine bodyPost_ret (v := .tuple #[Pv zeroP, .int .i64 1]) ?_ rfl ⟨rfl, hW⟩
  simp [results, Try.results35, go_sem, hA.cell 0 (by omega), hA.cell 1 (by omega), hA.cell 2 (by omega), hA.cell 3 (by omega), hA.cell 4 (by omega), hA.cell 5 (by omega), hA.cell 6 (by omega), hA.cell 7 (by omega), hA.cell 8 (by omega), hA.cell 9 (by omega), hA.cell 10 (by omega), hA.cell 11 (by omega)]

set_option maxRecDepth 10000 in
set_option maxHeartbeats 2000000 in
theorem refMake_no5 (b bl ino lg : Int) (w : World) (h : isSize b) (n0 : ¬ bl < 1) (n1 : ¬ 4096 < bl) (n2 : ¬ ino < 2) (n3 : ¬ 1024 < ino) (n4 : ¬ lg < 4) (n5 : 512 < lg) :
    Calls Try.prog 35 #[.int .i64 b, .int .i64 bl, .int .i64 ino, .int .i64 lg] w fun r w' => r = .returned (.tuple #[Pv zeroP, .int .i64 1]) ∧ Below w.heap.size w w' := by
  have H := hide h
  have HZ := hide (zero_new w)
  clear h
  go_enter Try.func35, Try.ntmps35
  go_wp2_with fail
  go_at_call 42
  refine (size_yes b _ (unhide H)).mono ?_
  rintro e w' ⟨rfl, rfl⟩
  go_wp2
  change bodyPost _ _ _ _ _ (w.alloc (.cells (Pc zeroP) 23))
  obtain ⟨hA, hW⟩ := unhide HZ
  generalize w.alloc (.cells (Pc zeroP) 23) = wf at *
  refine bodyPost_ret (v := .tuple #[Pv zeroP, .int .i64 1]) ?_ rfl ⟨rfl, hW⟩
  simp [results, Try.results35, go_sem, hA.cell 0 (by omega), hA.cell 1 (by omega), hA.cell 2 (by omega), hA.cell 3 (by omega), hA.cell 4 (by omega), hA.cell 5 (by omega), hA.cell 6 (by omega), hA.cell 7 (by omega), hA.cell 8 (by omega), hA.cell 9 (by omega), hA.cell 10 (by omega), hA.cell 11 (by omega)]

theorem refMake_bad (b bl ino lg : Int) (w : World) (h : badArg b bl ino lg) :
    Calls Try.prog 35 #[.int .i64 b, .int .i64 bl, .int .i64 ino, .int .i64 lg] w fun r w' => r = .returned (.tuple #[Pv zeroP, .int .i64 1]) ∧ Below w.heap.size w w' := by
  by_cases hs : isSize b
  · by_cases n0 : bl < 1
    · exact refMake_no0 b bl ino lg w hs n0
    · by_cases n1 : 4096 < bl
      · exact refMake_no1 b bl ino lg w hs n0 n1
      · by_cases n2 : ino < 2
        · exact refMake_no2 b bl ino lg w hs n0 n1 n2
        · by_cases n3 : 1024 < ino
          · exact refMake_no3 b bl ino lg w hs n0 n1 n2 n3
          · by_cases n4 : lg < 4
            · exact refMake_no4 b bl ino lg w hs n0 n1 n2 n3 n4
            · by_cases n5 : 512 < lg
              · exact refMake_no5 b bl ino lg w hs n0 n1 n2 n3 n4 n5
              · exfalso
                unfold badArg at h
                rcases h with h | h | h | h
                · exact h hs
                · omega
                · omega
                · omega
  · exact refMake_no b bl ino lg w hs

set_option maxRecDepth 10000 in
set_option maxHeartbeats 2000000 in
theorem refMake_large (b bl ino lg : Int) (w : World) (h : ¬ badArg b bl ino lg) (hx : 1048576 < b * bl) :
    Calls Try.prog 35 #[.int .i64 b, .int .i64 bl, .int .i64 ino, .int .i64 lg] w fun r w' => r = .returned (.tuple #[Pv zeroP, .int .i64 5]) ∧ Below w.heap.size w w' := by
  have H := hide (good_arg h)
  have HZ := hide (zero_new w)
  clear h
  obtain ⟨m, hm⟩ : ∃ m, b * bl = m := ⟨_, rfl⟩
  rw [hm] at hx
  have q1 : IntKind.i64.wrap (b * bl) = m := by
    have h1 := size_bd (unhide H).1
    have h2 := (unhide H).2.1
    have h3 := prod_bd h1 (bl := bl) (by omega)
    rw [hm] at *
    rw [IntKind.wrap_i64]; omega
  clear hm
  have n0 : ¬ bl < 1 := by have := (unhide H).2.1; omega
  have n1 : ¬ 4096 < bl := by have := (unhide H).2.1; omega
  have n2 : ¬ ino < 2 := by have := (unhide H).2.2.1; omega
  have n3 : ¬ 1024 < ino := by have := (unhide H).2.2.1; omega
  have n4 : ¬ lg < 4 := by have := (unhide H).2.2.2; omega
  have n5 : ¬ 512 < lg := by have := (unhide H).2.2.2; omega
  go_enter Try.func35, Try.ntmps35
  go_wp2_with fail
  go_at_call 42
  refine (size_yes b _ (unhide H).1).mono ?_
  rintro e w' ⟨rfl, rfl⟩
  go_wp2
  change bodyPost _ _ _ _ _ (w.alloc (.cells (Pc zeroP) 23))
  obtain ⟨hA, hW⟩ := unhide HZ
  generalize w.alloc (.cells (Pc zeroP) 23) = wf at *
  refine bodyPost_ret (v := .tuple #[Pv zeroP, .int .i64 5]) ?_ rfl ⟨rfl, hW⟩
  simp [results, Try.results35, go_sem, hA.cell 0 (by omega), hA.cell 1 (by omega), hA.cell 2 (by omega), hA.cell 3 (by omega), hA.cell 4 (by omega), hA.cell 5 (by omega), hA.cell 6 (by omega), hA.cell 7 (by omega), hA.cell 8 (by omega), hA.cell 9 (by omega), hA.cell 10 (by omega), hA.cell 11 (by omega)]

theorem blocksFor_cd (n e c : Int) (h : cd n e = c) (w : World) (hn : 0 ≤ n ∧ n ≤ 1099511627776) (he : 1 ≤ e ∧ e ≤ 1099511627776) :
    Calls Try.prog 32 #[.int .i64 n, .int .i64 e] w fun r w' => r = .returned (.int .i64 c) ∧ w = w' := by
  subst h
  exact blocksFor_any n e w hn he

/-- The plan, the three lengths being known. -/
def planC (b bl ino lg c1 c2 c3 : Int) : Nat → Int
  | 0 => b | 1 => bl | 2 => ino | 3 => lg | 4 => 2 | 5 => 2 + lg | 6 => c1 | 7 => 2 + lg + c1 | 8 => c2 | 9 => 2 + lg + c1 + c2
  | 10 => c3 | 11 => 2 + lg + c1 + c2 + c3 | _ => 0

theorem planC_eq (b bl ino lg : Int) : planOf b bl ino lg = planC b bl ino lg (cd ino (8 * b)) (cd bl (8 * b)) (cd ino (b / 32)) := rfl

set_option maxRecDepth 10000 in
set_option maxHeartbeats 4000000 in
theorem refMake_small (b bl ino lg q c1 c2 c3 : Int) (w : World) (h : ¬ badArg b bl ino lg) (hx : ¬ 1048576 < b * bl) (hq : b / 32 = q) (h1 : cd ino (8 * b) = c1) (h2 : cd bl (8 * b) = c2) (h3 : cd ino q = c3) (hc : bl ≤ 2 + lg + c1 + c2 + c3) :
    Calls Try.prog 35 #[.int .i64 b, .int .i64 bl, .int .i64 ino, .int .i64 lg] w fun r w' => r = .returned (.tuple #[Pv zeroP, .int .i64 6]) ∧ Below w.heap.size w w' := by
  have H := hide (good_arg h)
  have HZ := hide (zero_new w)
  clear h
  have hb := size_bd (unhide H).1
  obtain ⟨m, hm⟩ : ∃ m, b * bl = m := ⟨_, rfl⟩
  rw [hm] at hx
  have q1 : IntKind.i64.wrap (b * bl) = m := by
    have h2 := (unhide H).2.1
    have h3 := prod_bd hb (bl := bl) (by omega)
    rw [hm] at *
    rw [IntKind.wrap_i64]; omega
  clear hm
  have n0 : ¬ bl < 1 := by have := (unhide H).2.1; omega
  have n1 : ¬ 4096 < bl := by have := (unhide H).2.1; omega
  have n2 : ¬ ino < 2 := by have := (unhide H).2.2.1; omega
  have n3 : ¬ 1024 < ino := by have := (unhide H).2.2.1; omega
  have n4 : ¬ lg < 4 := by have := (unhide H).2.2.2; omega
  have n5 : ¬ 512 < lg := by have := (unhide H).2.2.2; omega
  have k1 : 0 ≤ c1 ∧ c1 ≤ 4096 := by rw [← h1]; exact cd_bd _ _ (by omega) (by omega)
  have k2 : 0 ≤ c2 ∧ c2 ≤ 4096 := by rw [← h2]; exact cd_bd _ _ (by omega) (by omega)
  have k3 : 0 ≤ c3 ∧ c3 ≤ 4096 := by rw [← h3]; exact cd_bd _ _ (by omega) (by omega)
  have HX : Hid (2 ≤ q ∧ q ≤ 128) := hide (by omega)
  have H1 := hide h1
  have H2 := hide h2
  have H3 := hide h3
  have HQ := hide hq
  clear h1 h2 h3 hq
  go_enter Try.func35, Try.ntmps35
  go_wp2_with fail
  go_at_call 42
  refine (size_yes b _ (unhide H).1).mono ?_
  rintro e w' ⟨rfl, rfl⟩
  go_wp2_with fail
  go_at_call 32
  refine (blocksFor_cd _ _ c1 (unhide H1) _ (by omega) (by omega)).mono ?_
  rintro e w' ⟨rfl, rfl⟩
  go_wp2_with fail
  go_at_call 32
  refine (blocksFor_cd _ _ c2 (unhide H2) _ (by omega) (by omega)).mono ?_
  rintro e w' ⟨rfl, rfl⟩
  go_wp2_with fail
  go_at_call 32
  rw [unhide HQ]
  refine (blocksFor_cd _ _ c3 (unhide H3) _ (by omega) (by have := unhide HX; omega)).mono ?_
  rintro e w' ⟨rfl, rfl⟩
  go_wp2
  change bodyPost _ _ _ _ _ ((w.alloc (.cells (Pc zeroP) 23)).alloc (.cells (Pc (planC b bl ino lg c1 c2 c3)) 23))
  have hA : R12 ((w.alloc (.cells (Pc zeroP) 23)).alloc (.cells (Pc (planC b bl ino lg c1 c2 c3)) 23)) w.heap.size zeroP := (R12.new w _).alloc _
  have hW : Below w.heap.size w ((w.alloc (.cells (Pc zeroP) 23)).alloc (.cells (Pc (planC b bl ino lg c1 c2 c3)) 23)) := ((Below.refl _ _).alloc (Nat.le_refl _) _).alloc (by simp) _
  generalize (w.alloc (.cells (Pc zeroP) 23)).alloc (.cells (Pc (planC b bl ino lg c1 c2 c3)) 23) = wf at *
  refine bodyPost_ret (v := .tuple #[Pv zeroP, .int .i64 6]) ?_ rfl ⟨rfl, hW⟩
  simp [results, Try.results35, go_sem, hA.cell 0 (by omega), hA.cell 1 (by omega), hA.cell 2 (by omega), hA.cell 3 (by omega), hA.cell 4 (by omega), hA.cell 5 (by omega), hA.cell 6 (by omega), hA.cell 7 (by omega), hA.cell 8 (by omega), hA.cell 9 (by omega), hA.cell 10 (by omega), hA.cell 11 (by omega)]

set_option maxRecDepth 10000 in
set_option maxHeartbeats 4000000 in
theorem refMake_ok (b bl ino lg q c1 c2 c3 : Int) (w : World) (h : ¬ badArg b bl ino lg) (hx : ¬ 1048576 < b * bl) (hq : b / 32 = q) (h1 : cd ino (8 * b) = c1) (h2 : cd bl (8 * b) = c2) (h3 : cd ino q = c3) (hc : ¬ bl ≤ 2 + lg + c1 + c2 + c3) :
    Calls Try.prog 35 #[.int .i64 b, .int .i64 bl, .int .i64 ino, .int .i64 lg] w fun r w' => r = .returned (.tuple #[Pv (planC b bl ino lg c1 c2 c3), .int .i64 0]) ∧ Below w.heap.size w w' := by
  have H := hide (good_arg h)
  have HZ := hide (zero_new w)
  clear h
  have hb := size_bd (unhide H).1
  obtain ⟨m, hm⟩ : ∃ m, b * bl = m := ⟨_, rfl⟩
  rw [hm] at hx
  have q1 : IntKind.i64.wrap (b * bl) = m := by
    have h2 := (unhide H).2.1
    have h3 := prod_bd hb (bl := bl) (by omega)
    rw [hm] at *
    rw [IntKind.wrap_i64]; omega
  clear hm
  have n0 : ¬ bl < 1 := by have := (unhide H).2.1; omega
  have n1 : ¬ 4096 < bl := by have := (unhide H).2.1; omega
  have n2 : ¬ ino < 2 := by have := (unhide H).2.2.1; omega
  have n3 : ¬ 1024 < ino := by have := (unhide H).2.2.1; omega
  have n4 : ¬ lg < 4 := by have := (unhide H).2.2.2; omega
  have n5 : ¬ 512 < lg := by have := (unhide H).2.2.2; omega
  have k1 : 0 ≤ c1 ∧ c1 ≤ 4096 := by rw [← h1]; exact cd_bd _ _ (by omega) (by omega)
  have k2 : 0 ≤ c2 ∧ c2 ≤ 4096 := by rw [← h2]; exact cd_bd _ _ (by omega) (by omega)
  have k3 : 0 ≤ c3 ∧ c3 ≤ 4096 := by rw [← h3]; exact cd_bd _ _ (by omega) (by omega)
  have HX : Hid (2 ≤ q ∧ q ≤ 128) := hide (by omega)
  have H1 := hide h1
  have H2 := hide h2
  have H3 := hide h3
  have HQ := hide hq
  clear h1 h2 h3 hq
  go_enter Try.func35, Try.ntmps35
  go_wp2_with fail
  go_at_call 42
  refine (size_yes b _ (unhide H).1).mono ?_
  rintro e w' ⟨rfl, rfl⟩
  go_wp2_with fail
  go_at_call 32
  refine (blocksFor_cd _ _ c1 (unhide H1) _ (by omega) (by omega)).mono ?_
  rintro e w' ⟨rfl, rfl⟩
  go_wp2_with fail
  go_at_call 32
  refine (blocksFor_cd _ _ c2 (unhide H2) _ (by omega) (by omega)).mono ?_
  rintro e w' ⟨rfl, rfl⟩
  go_wp2_with fail
  go_at_call 32
  rw [unhide HQ]
  refine (blocksFor_cd _ _ c3 (unhide H3) _ (by omega) (by have := unhide HX; omega)).mono ?_
  rintro e w' ⟨rfl, rfl⟩
  go_wp2
  change bodyPost _ _ _ _ _ ((w.alloc (.cells (Pc (planC b bl ino lg c1 c2 c3)) 23)).alloc (.cells (Pc (planC b bl ino lg c1 c2 c3)) 23))
  have hA : R12 ((w.alloc (.cells (Pc (planC b bl ino lg c1 c2 c3)) 23)).alloc (.cells (Pc (planC b bl ino lg c1 c2 c3)) 23)) w.heap.size (planC b bl ino lg c1 c2 c3) := (R12.new w _).alloc _
  have hW : Below w.heap.size w ((w.alloc (.cells (Pc (planC b bl ino lg c1 c2 c3)) 23)).alloc (.cells (Pc (planC b bl ino lg c1 c2 c3)) 23)) := ((Below.refl _ _).alloc (Nat.le_refl _) _).alloc (by simp) _
  generalize (w.alloc (.cells (Pc (planC b bl ino lg c1 c2 c3)) 23)).alloc (.cells (Pc (planC b bl ino lg c1 c2 c3)) 23) = wf at *
  refine bodyPost_ret (v := .tuple #[Pv (planC b bl ino lg c1 c2 c3), .int .i64 0]) ?_ rfl ⟨rfl, hW⟩
  simp [results, Try.results35, go_sem, hA.cell 0 (by omega), hA.cell 1 (by omega), hA.cell 2 (by omega), hA.cell 3 (by omega), hA.cell 4 (by omega), hA.cell 5 (by omega), hA.cell 6 (by omega), hA.cell 7 (by omega), hA.cell 8 (by omega), hA.cell 9 (by omega), hA.cell 10 (by omega), hA.cell 11 (by omega)]

/-- The contract of the reference's Make. -/
theorem refMake_any (b bl ino lg : Int) (w : World) :
    Calls Try.prog 35 #[.int .i64 b, .int .i64 bl, .int .i64 ino, .int .i64 lg] w fun r w' => r = .returned (.tuple #[Pv (makeP b bl ino lg), .int .i64 (makeE b bl ino lg)]) ∧ Below w.heap.size w w' := by
  by_cases h : badArg b bl ino lg
  · rw [makeP_zero (by rw [makeE_bad h]; omega), makeE_bad h]
    exact refMake_bad b bl ino lg w h
  · by_cases h1 : 1048576 < b * bl
    · rw [makeP_zero (by rw [makeE_large h h1]; omega), makeE_large h h1]
      exact refMake_large b bl ino lg w h h1
    · by_cases h2 : bl ≤ planOf b bl ino lg 11
      · rw [makeP_zero (by rw [makeE_small h h1 h2]; omega), makeE_small h h1 h2]
        exact refMake_small b bl ino lg _ _ _ _ w h h1 rfl rfl rfl rfl h2
      · rw [makeP_ok (makeE_ok h h1 h2), makeE_ok h h1 h2, planC_eq]
        exact refMake_ok b bl ino lg _ _ _ _ w h h1 rfl rfl rfl rfl h2

end Go.Proofs.Ytkdiifoipfkmcaa
