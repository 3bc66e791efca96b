/- walk.Parent, walk.Above, and the fixed call of the laws. -/
import Derived.Test.YtknmgefpjdfenaaGreatTrVSplit
import Derived.Test.YtknmgefpjdfenaaGreatTrVSame
namespace Go.Proofs.YtknmgefpjdfenaaGreat
open Go.RowKit Go.Shelf
set_option linter.unusedVariables false
set_option maxRecDepth 100000

/-- What Above answers of two paths. -/
def abo (xs ys : List (List UInt8)) : Bool := decide (xs.length ≤ ys.length) && decide (xs = ys.take xs.length)

theorem splE_none {p : List UInt8} (h : spl p = none) : splE p = 16 := by unfold splE; rw [h]; rfl

theorem splE_some {p : List UInt8} {ns : List (List UInt8)} (h : spl p = some ns) : splE p = 0 := by unfold splE; rw [h]; rfl

theorem split_no {p : List UInt8} (w : World) (hp : p.length ≤ 9223372036854775807) (h : spl p = none) :
    Calls Tryz.prog 93 #[.string (St p)] w fun e w' => (∃ a c, e = .returned (.tuple #[.slice a 0 c, .int .i64 16])) ∧ Below w.heap.size w w' := by
  refine (split_any p w hp).mono ?_
  rintro e w' ⟨a, c, rfl, ho, hb⟩
  rw [splE_none h, h]
  exact ⟨⟨a, c, rfl⟩, hb⟩

theorem split_yes {p : List UInt8} {ns : List (List UInt8)} (w : World) (h : spl p = some ns) :
    Calls Tryz.prog 93 #[.string (St p)] w fun e w' => ∃ a c, e = .returned (.tuple #[.slice a ns.length c, .int .i64 0]) ∧ OwnS w.heap.size w' a ns.length c ns ∧ Below w.heap.size w w' := by
  refine (split_any p w (by have := spl_len h; omega)).mono ?_
  rintro e w' ⟨a, c, rfl, ho, hb⟩
  rw [splE_some h, h]
  rw [h] at ho
  exact ⟨a, c, rfl, ho, hb⟩

set_option maxHeartbeats 1000000 in
theorem above_no1 {a b : List UInt8} (w : World) (ha : a.length ≤ 9223372036854775807) (h : spl a = none) :
    Calls Tryz.prog 55 #[.string (St a), .string (St b)] w fun e w' => e = .returned (.tuple #[.bool false, .int .i64 16]) ∧ Below w.heap.size w w' := by
  have K := hide (split_no w ha h)
  clear h
  generalize St a = sa at *
  generalize St b = sb at *
  go_enter Tryz.func55, Tryz.ntmps55
  go_wp2_with fail
  refine (unhide K).mono ?_
  rintro e w1 ⟨⟨x, c, rfl⟩, hb⟩
  have HB := hide hb
  clear K hb
  go_wp2_with fail
  go_ret2
  exact ⟨rfl, HB.out⟩

set_option maxHeartbeats 1000000 in
theorem above_no2 {a b : List UInt8} {xs : List (List UInt8)} (w : World) (hl : b.length ≤ 9223372036854775807) (ha : spl a = some xs) (h : spl b = none) :
    Calls Tryz.prog 55 #[.string (St a), .string (St b)] w fun e w' => e = .returned (.tuple #[.bool false, .int .i64 16]) ∧ Below w.heap.size w w' := by
  have K := hide (split_yes w ha)
  have K2 : Hid (∀ u, Calls Tryz.prog 93 #[.string (St b)] u fun e w' => (∃ a c, e = .returned (.tuple #[.slice a 0 c, .int .i64 16])) ∧ Below u.heap.size u w') := fun u => split_no u hl h
  clear h ha
  generalize St a = sa at *
  generalize St b = sb at *
  generalize xs.length = n at *
  go_enter Tryz.func55, Tryz.ntmps55
  go_wp2_with fail
  refine (unhide K).mono ?_
  rintro e w1 ⟨x, c, rfl, ho, hb⟩
  have HB := hide hb
  clear K hb ho
  go_wp2_with fail
  refine (unhide K2 _).mono ?_
  rintro e w2 ⟨⟨y, c2, rfl⟩, hb⟩
  have HB := hide (HB.out.trans (hb.mono HB.out.size))
  clear K2 hb
  go_wp2_with fail
  go_ret2
  exact ⟨rfl, HB.out⟩

set_option maxHeartbeats 2000000 in
theorem above_yes {a b : List UInt8} {xs ys : List (List UInt8)} (w : World) (ha : spl a = some xs) (hb : spl b = some ys) :
    Calls Tryz.prog 55 #[.string (St a), .string (St b)] w fun e w' => e = .returned (.tuple #[.bool (abo xs ys), .int .i64 0]) ∧ Below w.heap.size w w' := by
  have h16 := ((okN_iff ys).1 (spl_some hb).1).1
  have h16' := ((okN_iff xs).1 (spl_some ha).1).1
  have K := hide (split_yes w ha)
  have K2 : Hid (∀ u, Calls Tryz.prog 93 #[.string (St b)] u fun e w' => ∃ a c, e = .returned (.tuple #[.slice a ys.length c, .int .i64 0]) ∧ OwnS u.heap.size w' a ys.length c ys ∧ Below u.heap.size u w') := fun u => split_yes u hb
  have hn := hide (Eq.refl xs.length)
  have hm := hide (Eq.refl ys.length)
  unfold abo
  clear ha hb
  generalize St a = sa at *
  generalize St b = sb at *
  by_cases hle : xs.length ≤ ys.length
  · have KE : Hid (∀ x y c1 c2 u, HasS u x xs.length xs → HasS u y ys.length ys → Calls Tryz.prog 94 #[.slice x xs.length c1, .slice y xs.length c2] u fun e w' => e = .returned (.bool (decide (xs.length ≤ ys.length) && decide (xs = ys.take xs.length))) ∧ ∃ m, w' = u.drewN m) := by
      intro x y c1 c2 u h1 h2
      have e : (decide (xs.length ≤ ys.length) && decide (xs = ys.take xs.length)) = decide (xs = ys.take xs.length) := by simp [hle]
      rw [e]
      exact equal_any x y xs.length c1 c2 xs (ys.take xs.length) u h1 (h2.take hle) (by omega)
    generalize (decide (xs.length ≤ ys.length) && decide (xs = ys.take xs.length)) = q at *
    generalize hN : xs.length = n at *
    generalize hM : ys.length = m at *
    have d1 : decide ((n : Int) ≤ (m : Int)) = true := by simp; omega
    go_enter Tryz.func55, Tryz.ntmps55
    go_wp2_with fail
    refine (unhide K).mono ?_
    rintro e w1 ⟨x, c, rfl, ho, hb⟩
    have HB := hide hb
    have HO := hide ho
    clear K hb ho
    go_wp2_with fail
    refine (unhide K2 _).mono ?_
    rintro e w2 ⟨y, c2, rfl, ho, hb⟩
    have hcut : (Instr.slice 103 (.slice y m c2) none (some (.int .i64 (n : Int))) none).run Tryz.prog w2 = .ok (.slice y n c2) w2 := by
      have := run_cutS_h y m c2 n (by have := ho.2.1; omega) w2
      rwa [cutAt_zero] at this
    have KE := hide (KE.out x y c c2 w2 ((HO.out.below hb (Nat.le_refl _)).has) ho.has)
    have HB := hide (HB.out.trans (hb.mono HB.out.size))
    clear K2 hb ho HO
    go_wp2_with fail
    refine (unhide KE).mono ?_
    rintro e w3 ⟨rfl, k, rfl⟩
    clear KE
    go_wp2_with fail
    go_ret2
    exact ⟨rfl, HB.out.os, HB.out.tape, HB.out.output, HB.out.size, HB.out.block⟩
  · have e : (decide (xs.length ≤ ys.length) && decide (xs = ys.take xs.length)) = false := by simp [hle]
    rw [e]
    clear e
    generalize hN : xs.length = n at *
    generalize hM : ys.length = m at *
    have d1 : decide ((n : Int) ≤ (m : Int)) = false := by simp; omega
    go_enter Tryz.func55, Tryz.ntmps55
    go_wp2_with fail
    refine (unhide K).mono ?_
    rintro e w1 ⟨x, c, rfl, ho, hb⟩
    have HB := hide hb
    clear K hb ho
    go_wp2_with fail
    refine (unhide K2 _).mono ?_
    rintro e w2 ⟨y, c2, rfl, ho, hb⟩
    have HB := hide (HB.out.trans (hb.mono HB.out.size))
    clear K2 hb ho
    go_wp2_with fail
    go_ret2
    exact ⟨rfl, HB.out⟩

set_option maxHeartbeats 1000000 in
theorem parent_no {p : List UInt8} (w : World) (hp : p.length ≤ 9223372036854775807) (h : spl p = none) :
    Calls Tryz.prog 95 #[.string (St p)] w fun e w' => e = .returned (.tuple #[.string ⟨#[]⟩, .string ⟨#[]⟩, .int .i64 16]) ∧ Below w.heap.size w w' := by
  have K := hide (split_no w hp h)
  clear h
  generalize St p = sp at *
  go_enter Tryz.func95, Tryz.ntmps95
  go_wp2_with fail
  refine (unhide K).mono ?_
  rintro e w1 ⟨⟨x, c, rfl⟩, hb⟩
  have HB := hide hb
  clear K hb
  go_wp2_with fail
  go_ret3
  exact ⟨rfl, HB.out⟩

set_option maxHeartbeats 1000000 in
theorem parent_root {p : List UInt8} (w : World) (h : spl p = some []) :
    Calls Tryz.prog 95 #[.string (St p)] w fun e w' => e = .returned (.tuple #[.string ⟨#[]⟩, .string ⟨#[]⟩, .int .i64 1]) ∧ Below w.heap.size w w' := by
  have K : Hid (Calls Tryz.prog 93 #[.string (St p)] w fun e w' => ∃ a c, e = .returned (.tuple #[.slice a 0 c, .int .i64 0]) ∧ OwnS w.heap.size w' a 0 c [] ∧ Below w.heap.size w w') := split_yes w h
  clear h
  generalize St p = sp at *
  go_enter Tryz.func95, Tryz.ntmps95
  go_wp2_with fail
  refine (unhide K).mono ?_
  rintro e w1 ⟨x, c, rfl, ho, hb⟩
  have HB := hide hb
  clear K hb ho
  go_wp2_with fail
  go_ret3
  exact ⟨rfl, HB.out⟩

set_option maxHeartbeats 2000000 in
theorem parent_yes {p z : List UInt8} {ms : List (List UInt8)} (w : World) (h : spl p = some (ms ++ [z])) :
    Calls Tryz.prog 95 #[.string (St p)] w fun e w' => e = .returned (.tuple #[.string (St (jn ms)), .string (St z), .int .i64 0]) ∧ Below w.heap.size w w' := by
  have ok := (spl_some h).1
  have h16 := ((okN_iff _).1 ok).1
  have hmem := ((okN_iff _).1 ok).2.1
  have okm : okN ms = true := by
    have := okN_take ok ms.length
    rwa [List.take_left] at this
  have K := hide (split_yes w h)
  have hl : (ms ++ [z]).length = ms.length + 1 := by simp
  have KJ : Hid (∀ a c u, OwnS w.heap.size u a (ms ++ [z]).length c (ms ++ [z]) → Calls Tryz.prog 114 #[.slice a ms.length c] u fun e w' => e = .returned (.tuple #[.string (St (jn ms)), .int .i64 0]) ∧ Below u.heap.size u w') := by
    intro a c u ho
    have hh := ho.has.take (k := ms.length) (by omega)
    rw [List.take_left] at hh
    have := join_any a ms.length c ms u hh (by have := ho.2.1; omega) (by omega) (fun j => by
      cases hj : ms[j]? with
      | none => simp
      | some y => have := (nmB_len (hmem y (by simp [List.mem_of_getElem? hj]))).2; simp; omega)
    unfold jnV jnE at this
    rwa [if_pos okm, if_pos okm] at this
  have HZ : Hid (∀ a c u, OwnS w.heap.size u a (ms ++ [z]).length c (ms ++ [z]) → ∃ g, a = some ⟨g, 0, none⟩ ∧ u.cell? ⟨g, ms.length, none⟩ = some (.string (St z))) := by
    intro a c u ho
    obtain ⟨g, e, _, _, hc, _⟩ := ho.cell (j := ms.length) (by omega)
    refine ⟨g, e, ?_⟩
    rw [hc]
    simp [sv]
  clear h ok hmem okm
  rw [hl] at K KJ HZ h16
  generalize St p = sp at *
  generalize St (jn ms) = sj at *
  generalize St z = sz at *
  generalize hM : ms.length = m at *
  have e1 : ((m + 1 : Nat) : Int) - 1 = (m : Int) := by omega
  have d0 : (((m + 1 : Nat) : Int) == 0) = false := by simp; omega
  generalize hN : m + 1 = n at *
  go_enter Tryz.func95, Tryz.ntmps95
  go_wp2_with fail
  refine (unhide K).mono ?_
  rintro e w1 ⟨x, c, rfl, ho, hb⟩
  have HB := hide hb
  obtain ⟨g, rfl, hc⟩ := HZ.out x c w1 ho
  have hcut : (Instr.slice 103 (.slice (some ⟨g, 0, none⟩) n c) none (some (.int .i64 (m : Int))) none).run Tryz.prog w1 = .ok (.slice (some ⟨g, 0, none⟩) m c) w1 := by
    have := run_cutS_h (some ⟨g, 0, none⟩) n c m (by have := ho.2.1; omega) w1
    rwa [cutAt_zero] at this
  have KJ := hide (KJ.out _ c w1 ho)
  have hg : g < w1.heap.size := (ho.lt rfl).1
  clear K hb ho HZ
  go_wp2_with fail
  refine (unhide KJ).mono ?_
  rintro e w2 ⟨rfl, hb⟩
  have HB := hide (HB.out.trans (hb.mono HB.out.size))
  have hc2 : w2.cell? ⟨g, m, none⟩ = some (.string sz) := (hb.cell (p := ⟨g, m, none⟩) hg).trans hc
  have c1 : (0 : Int) ≤ (m : Int) := by omega
  have c2 : (m : Int) < (n : Int) := by omega
  clear KJ hb hc hcut
  go_wp2_with fail
  go_quiet (fail)
  go_wp2_with fail
  go_ret3
  exact ⟨rfl, HB.out.os, HB.out.tape, HB.out.output, HB.out.size, HB.out.block⟩

end Go.Proofs.YtknmgefpjdfenaaGreat
