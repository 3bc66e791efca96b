/- Contracts of codec.read, of inodes and of names in directories. -/
import Derived.Test.YtmdkcoenjadieaaDoorWCEq
import Derived.Test.YtmdkcoenjadieaaDoorWJ26
namespace Go.Proofs.YtmdkcoenjadieaaDoor
open Go.RowKit Go.Shelf
set_option linter.unusedVariables false
set_option maxRecDepth 100000

set_option maxHeartbeats 8000000 in
theorem readI_err (X : Nat → Int) (a : Option Addr) (len cap : Nat) (q : Int) (w : World) (hq : (q != 0) = true) (HT : Hid (∀ u, Below w.heap.size w u → Calls Tryd.prog 65 #[.slice a len cap] u fun e w' => e = .returned (Iv X) ∧ Below u.heap.size u w')) (HW : Hid (∀ u, Below w.heap.size w u → Calls Tryd.prog 27 #[Iv X] u fun e w' => e = .returned (.tuple #[.slice none 0 0, .int .i64 q]) ∧ Below u.heap.size u w')) :
    Calls Tryd.prog 64 #[.slice a len cap, .func (.func 65) #[] #[], .func (.func 27) #[] #[]] w fun e w' => e = .returned (.tuple #[.agg Iz, .int .i64 4]) ∧ Below w.heap.size w w' := by
  have hb0 : Below w.heap.size w (w.alloc (.cells (Iz) 55)) := (Below.refl _ w).alloc (Nat.le_refl _) _
  have HZ := hide (Bl.new w (Iz) 55)
  have HB := hide hb0
  clear hb0
  go_enter Tryd.func64, Tryd.ntmps64
  go_wp2_with fail
  go_at_call 65
  refine (unhide HT _ HB.out).mono ?_
  rintro e w1 ⟨rfl, hb⟩
  replace HZ := hide ((HZ.out.call hb).alloc (.cells (Ic X) 55))
  replace HB := hide ((bchain HB.out hb (Nat.le_refl _)).alloc (bchain HB.out hb (Nat.le_refl _)).size (.cells (Ic X) 55))
  have HV := hide (Bl.new w1 (Ic X) 55)
  clear hb HT
  go_wp2_with fail
  go_at_call 27
  refine (unhide HW _ HB.out).mono ?_
  rintro e w2 ⟨rfl, hb⟩
  replace HZ := hide ((HZ.out.call hb).alloc (.cells (Iz) 55))
  replace HB := hide ((bchain HB.out hb (Nat.le_refl _)).alloc (bchain HB.out hb (Nat.le_refl _)).size (.cells (Iz) 55))
  clear hb HW HV
  have z0 := HZ.out.cell 0 _ rfl
  have z1 := HZ.out.cell 1 _ rfl
  have z2 := HZ.out.cell 2 _ rfl
  have z3 := HZ.out.cell 3 _ rfl
  have z4 := HZ.out.cell 4 _ rfl
  have z5 := HZ.out.cell 5 _ rfl
  have z6 := HZ.out.cell 6 _ rfl
  have z7 := HZ.out.cell 7 _ rfl
  have z8 := HZ.out.cell 8 _ rfl
  have z9 := HZ.out.cell 9 _ rfl
  have z10 := HZ.out.cell 10 _ rfl
  have z11 := HZ.out.cell 11 _ rfl
  have z12 := HZ.out.cell 12 _ rfl
  have hz := HZ.out.free
  go_wp2_with fail
  have hW : Below w.heap.size w (setAll (w2.alloc (.cells (Iz) 55)) w.heap.size 0 [.int .i64 0, .int .i64 0, .int .i64 0, .int .i64 0, .int .i64 0, .int .i64 0, .int .i64 0, .int .i64 0, .int .i64 0, .int .i64 0, .int .i64 0, .int .i64 0, .int .i64 0]) := below_setAll (Nat.le_refl _) _ _ _ _ HB.out
  have hA : Bl (setAll (w2.alloc (.cells (Iz) 55)) w.heap.size 0 [.int .i64 0, .int .i64 0, .int .i64 0, .int .i64 0, .int .i64 0, .int .i64 0, .int .i64 0, .int .i64 0, .int .i64 0, .int .i64 0, .int .i64 0, .int .i64 0, .int .i64 0]) w.heap.size (Iz) 55 := setAll_whole [.int .i64 0, .int .i64 0, .int .i64 0, .int .i64 0, .int .i64 0, .int .i64 0, .int .i64 0, .int .i64 0, .int .i64 0, .int .i64 0, .int .i64 0, .int .i64 0, .int .i64 0] _ _ HZ.out rfl
  change bodyPost _ _ _ _ _ (setAll (w2.alloc (.cells (Iz) 55)) w.heap.size 0 [.int .i64 0, .int .i64 0, .int .i64 0, .int .i64 0, .int .i64 0, .int .i64 0, .int .i64 0, .int .i64 0, .int .i64 0, .int .i64 0, .int .i64 0, .int .i64 0, .int .i64 0])
  generalize setAll (w2.alloc (.cells (Iz) 55)) w.heap.size 0 [.int .i64 0, .int .i64 0, .int .i64 0, .int .i64 0, .int .i64 0, .int .i64 0, .int .i64 0, .int .i64 0, .int .i64 0, .int .i64 0, .int .i64 0, .int .i64 0, .int .i64 0] = wf at *
  refine bodyPost_ret (v := .tuple #[.agg Iz, .int .i64 4]) ?_ rfl ⟨rfl, hW⟩
  simp [results, Tryd.results64, go_sem, hA.cell 0 _ rfl, hA.cell 1 _ rfl, hA.cell 2 _ rfl, hA.cell 3 _ rfl, hA.cell 4 _ rfl, hA.cell 5 _ rfl, hA.cell 6 _ rfl, hA.cell 7 _ rfl, hA.cell 8 _ rfl, hA.cell 9 _ rfl, hA.cell 10 _ rfl, hA.cell 11 _ rfl, hA.cell 12 _ rfl]

set_option maxHeartbeats 8000000 in
theorem readI_other (X : Nat → Int) (a : Option Addr) (len cap : Nat) (w : World) (xs zs : List Int) (hh : Has w a len zs) (hz0 : ∀ z ∈ zs, 0 ≤ z ∧ z ≤ 255) (hx : ∀ z ∈ xs, 0 ≤ z ∧ z ≤ 255) (he : decide (xs = zs) = false) (HT : Hid (∀ u, Below w.heap.size w u → Calls Tryd.prog 65 #[.slice a len cap] u fun e w' => e = .returned (Iv X) ∧ Below u.heap.size u w')) (HW : Hid (∀ u, Below w.heap.size w u → Calls Tryd.prog 27 #[Iv X] u fun e w' => ∃ a' n' c', e = .returned (.tuple #[.slice a' n' c', .int .i64 0]) ∧ Hid (Has w' a' n' xs) ∧ Below u.heap.size u w')) :
    Calls Tryd.prog 64 #[.slice a len cap, .func (.func 65) #[] #[], .func (.func 27) #[] #[]] w fun e w' => e = .returned (.tuple #[.agg Iz, .int .i64 4]) ∧ Below w.heap.size w w' := by
  have HH := hide hh
  clear hh
  have hb0 : Below w.heap.size w (w.alloc (.cells (Iz) 55)) := (Below.refl _ w).alloc (Nat.le_refl _) _
  have HZ := hide (Bl.new w (Iz) 55)
  have HB := hide hb0
  clear hb0
  go_enter Tryd.func64, Tryd.ntmps64
  go_wp2_with fail
  go_at_call 65
  refine (unhide HT _ HB.out).mono ?_
  rintro e w1 ⟨rfl, hb⟩
  replace HZ := hide ((HZ.out.call hb).alloc (.cells (Ic X) 55))
  replace HB := hide ((bchain HB.out hb (Nat.le_refl _)).alloc (bchain HB.out hb (Nat.le_refl _)).size (.cells (Ic X) 55))
  have HV := hide (Bl.new w1 (Ic X) 55)
  clear hb HT
  go_wp2_with fail
  go_at_call 27
  refine (unhide HW _ HB.out).mono ?_
  rintro e w2 ⟨a', n', c', rfl, hx', hb⟩
  replace HZ := hide (HZ.out.call hb)
  replace HB := hide (bchain HB.out hb (Nat.le_refl _))
  replace HV := hide (HV.out.call hb)
  have KE : Hid (Calls Tryd.prog 73 #[.slice a' n' c', .slice a len cap] w2 fun e w' => e = .returned (.bool false) ∧ w2 = w') := by
    have := equal_any a' a n' c' len cap xs zs w2 hx'.out ((HH.out).later HB.out) hx hz0
    rwa [he] at this
  clear hb HW hx'
  go_wp2_with fail
  go_at_call 73
  refine (unhide KE).mono ?_
  rintro e w' ⟨rfl, rfl⟩
  clear KE
  replace HZ := hide (HZ.out.alloc (.cells (Iz) 55))
  replace HB := hide (HB.out.alloc HB.out.size (.cells (Iz) 55))
  clear HV HH hz0 hx he
  have z0 := HZ.out.cell 0 _ rfl
  have z1 := HZ.out.cell 1 _ rfl
  have z2 := HZ.out.cell 2 _ rfl
  have z3 := HZ.out.cell 3 _ rfl
  have z4 := HZ.out.cell 4 _ rfl
  have z5 := HZ.out.cell 5 _ rfl
  have z6 := HZ.out.cell 6 _ rfl
  have z7 := HZ.out.cell 7 _ rfl
  have z8 := HZ.out.cell 8 _ rfl
  have z9 := HZ.out.cell 9 _ rfl
  have z10 := HZ.out.cell 10 _ rfl
  have z11 := HZ.out.cell 11 _ rfl
  have z12 := HZ.out.cell 12 _ rfl
  have hz := HZ.out.free
  go_wp2_with fail
  have hW : Below w.heap.size w (setAll (w2.alloc (.cells (Iz) 55)) w.heap.size 0 [.int .i64 0, .int .i64 0, .int .i64 0, .int .i64 0, .int .i64 0, .int .i64 0, .int .i64 0, .int .i64 0, .int .i64 0, .int .i64 0, .int .i64 0, .int .i64 0, .int .i64 0]) := below_setAll (Nat.le_refl _) _ _ _ _ HB.out
  have hA : Bl (setAll (w2.alloc (.cells (Iz) 55)) w.heap.size 0 [.int .i64 0, .int .i64 0, .int .i64 0, .int .i64 0, .int .i64 0, .int .i64 0, .int .i64 0, .int .i64 0, .int .i64 0, .int .i64 0, .int .i64 0, .int .i64 0, .int .i64 0]) w.heap.size (Iz) 55 := setAll_whole [.int .i64 0, .int .i64 0, .int .i64 0, .int .i64 0, .int .i64 0, .int .i64 0, .int .i64 0, .int .i64 0, .int .i64 0, .int .i64 0, .int .i64 0, .int .i64 0, .int .i64 0] _ _ HZ.out rfl
  change bodyPost _ _ _ _ _ (setAll (w2.alloc (.cells (Iz) 55)) w.heap.size 0 [.int .i64 0, .int .i64 0, .int .i64 0, .int .i64 0, .int .i64 0, .int .i64 0, .int .i64 0, .int .i64 0, .int .i64 0, .int .i64 0, .int .i64 0, .int .i64 0, .int .i64 0])
  generalize setAll (w2.alloc (.cells (Iz) 55)) w.heap.size 0 [.int .i64 0, .int .i64 0, .int .i64 0, .int .i64 0, .int .i64 0, .int .i64 0, .int .i64 0, .int .i64 0, .int .i64 0, .int .i64 0, .int .i64 0, .int .i64 0, .int .i64 0] = wf at *
  refine bodyPost_ret (v := .tuple #[.agg Iz, .int .i64 4]) ?_ rfl ⟨rfl, hW⟩
  simp [results, Tryd.results64, go_sem, hA.cell 0 _ rfl, hA.cell 1 _ rfl, hA.cell 2 _ rfl, hA.cell 3 _ rfl, hA.cell 4 _ rfl, hA.cell 5 _ rfl, hA.cell 6 _ rfl, hA.cell 7 _ rfl, hA.cell 8 _ rfl, hA.cell 9 _ rfl, hA.cell 10 _ rfl, hA.cell 11 _ rfl, hA.cell 12 _ rfl]

set_option maxHeartbeats 8000000 in
theorem readI_same (X : Nat → Int) (a : Option Addr) (len cap : Nat) (w : World) (xs zs : List Int) (hh : Has w a len zs) (hz0 : ∀ z ∈ zs, 0 ≤ z ∧ z ≤ 255) (hx : ∀ z ∈ xs, 0 ≤ z ∧ z ≤ 255) (he : decide (xs = zs) = true) (HT : Hid (∀ u, Below w.heap.size w u → Calls Tryd.prog 65 #[.slice a len cap] u fun e w' => e = .returned (Iv X) ∧ Below u.heap.size u w')) (HW : Hid (∀ u, Below w.heap.size w u → Calls Tryd.prog 27 #[Iv X] u fun e w' => ∃ a' n' c', e = .returned (.tuple #[.slice a' n' c', .int .i64 0]) ∧ Hid (Has w' a' n' xs) ∧ Below u.heap.size u w')) :
    Calls Tryd.prog 64 #[.slice a len cap, .func (.func 65) #[] #[], .func (.func 27) #[] #[]] w fun e w' => e = .returned (.tuple #[Iv X, .int .i64 0]) ∧ Below w.heap.size w w' := by
  have HH := hide hh
  clear hh
  have hb0 : Below w.heap.size w (w.alloc (.cells (Iz) 55)) := (Below.refl _ w).alloc (Nat.le_refl _) _
  have HZ := hide (Bl.new w (Iz) 55)
  have HB := hide hb0
  clear hb0
  go_enter Tryd.func64, Tryd.ntmps64
  go_wp2_with fail
  go_at_call 65
  refine (unhide HT _ HB.out).mono ?_
  rintro e w1 ⟨rfl, hb⟩
  replace HZ := hide ((HZ.out.call hb).alloc (.cells (Ic X) 55))
  replace HB := hide ((bchain HB.out hb (Nat.le_refl _)).alloc (bchain HB.out hb (Nat.le_refl _)).size (.cells (Ic X) 55))
  have HV := hide (Bl.new w1 (Ic X) 55)
  clear hb HT
  go_wp2_with fail
  go_at_call 27
  refine (unhide HW _ HB.out).mono ?_
  rintro e w2 ⟨a', n', c', rfl, hx', hb⟩
  replace HZ := hide (HZ.out.call hb)
  replace HB := hide (bchain HB.out hb (Nat.le_refl _))
  replace HV := hide (HV.out.call hb)
  have KE : Hid (Calls Tryd.prog 73 #[.slice a' n' c', .slice a len cap] w2 fun e w' => e = .returned (.bool true) ∧ w2 = w') := by
    have := equal_any a' a n' c' len cap xs zs w2 hx'.out ((HH.out).later HB.out) hx hz0
    rwa [he] at this
  clear hb HW hx'
  go_wp2_with fail
  go_at_call 73
  refine (unhide KE).mono ?_
  rintro e w' ⟨rfl, rfl⟩
  clear KE
  clear HH hz0 hx he
  have z0 := HZ.out.cell 0 _ rfl
  have z1 := HZ.out.cell 1 _ rfl
  have z2 := HZ.out.cell 2 _ rfl
  have z3 := HZ.out.cell 3 _ rfl
  have z4 := HZ.out.cell 4 _ rfl
  have z5 := HZ.out.cell 5 _ rfl
  have z6 := HZ.out.cell 6 _ rfl
  have z7 := HZ.out.cell 7 _ rfl
  have z8 := HZ.out.cell 8 _ rfl
  have z9 := HZ.out.cell 9 _ rfl
  have z10 := HZ.out.cell 10 _ rfl
  have z11 := HZ.out.cell 11 _ rfl
  have z12 := HZ.out.cell 12 _ rfl
  have v0 := HV.out.cell 0 _ rfl
  have v1 := HV.out.cell 1 _ rfl
  have v2 := HV.out.cell 2 _ rfl
  have v3 := HV.out.cell 3 _ rfl
  have v4 := HV.out.cell 4 _ rfl
  have v5 := HV.out.cell 5 _ rfl
  have v6 := HV.out.cell 6 _ rfl
  have v7 := HV.out.cell 7 _ rfl
  have v8 := HV.out.cell 8 _ rfl
  have v9 := HV.out.cell 9 _ rfl
  have v10 := HV.out.cell 10 _ rfl
  have v11 := HV.out.cell 11 _ rfl
  have v12 := HV.out.cell 12 _ rfl
  have hz := HZ.out.free
  go_wp2_with fail
  have hW : Below w.heap.size w (setAll w2 w.heap.size 0 [.int .i64 (X 0), .int .i64 (X 1), .int .i64 (X 2), .int .i64 (X 3), .int .i64 (X 4), .int .i64 (X 5), .int .i64 (X 6), .int .i64 (X 7), .int .i64 (X 8), .int .i64 (X 9), .int .i64 (X 10), .int .i64 (X 11), .int .i64 (X 12)]) := below_setAll (Nat.le_refl _) _ _ _ _ HB.out
  have hA : Bl (setAll w2 w.heap.size 0 [.int .i64 (X 0), .int .i64 (X 1), .int .i64 (X 2), .int .i64 (X 3), .int .i64 (X 4), .int .i64 (X 5), .int .i64 (X 6), .int .i64 (X 7), .int .i64 (X 8), .int .i64 (X 9), .int .i64 (X 10), .int .i64 (X 11), .int .i64 (X 12)]) w.heap.size (Ic X) 55 := setAll_whole [.int .i64 (X 0), .int .i64 (X 1), .int .i64 (X 2), .int .i64 (X 3), .int .i64 (X 4), .int .i64 (X 5), .int .i64 (X 6), .int .i64 (X 7), .int .i64 (X 8), .int .i64 (X 9), .int .i64 (X 10), .int .i64 (X 11), .int .i64 (X 12)] _ _ HZ.out rfl
  change bodyPost _ _ _ _ _ (setAll w2 w.heap.size 0 [.int .i64 (X 0), .int .i64 (X 1), .int .i64 (X 2), .int .i64 (X 3), .int .i64 (X 4), .int .i64 (X 5), .int .i64 (X 6), .int .i64 (X 7), .int .i64 (X 8), .int .i64 (X 9), .int .i64 (X 10), .int .i64 (X 11), .int .i64 (X 12)])
  generalize setAll w2 w.heap.size 0 [.int .i64 (X 0), .int .i64 (X 1), .int .i64 (X 2), .int .i64 (X 3), .int .i64 (X 4), .int .i64 (X 5), .int .i64 (X 6), .int .i64 (X 7), .int .i64 (X 8), .int .i64 (X 9), .int .i64 (X 10), .int .i64 (X 11), .int .i64 (X 12)] = wf at *
  refine bodyPost_ret (v := .tuple #[Iv X, .int .i64 0]) ?_ rfl ⟨rfl, hW⟩
  simp [results, Tryd.results64, go_sem, hA.cell 0 _ rfl, hA.cell 1 _ rfl, hA.cell 2 _ rfl, hA.cell 3 _ rfl, hA.cell 4 _ rfl, hA.cell 5 _ rfl, hA.cell 6 _ rfl, hA.cell 7 _ rfl, hA.cell 8 _ rfl, hA.cell 9 _ rfl, hA.cell 10 _ rfl, hA.cell 11 _ rfl, hA.cell 12 _ rfl]

set_option maxHeartbeats 8000000 in
theorem readD_err (i : Int) (s : ByteArray) (a : Option Addr) (len cap : Nat) (q : Int) (w : World) (hq : (q != 0) = true) (HT : Hid (∀ u, Below w.heap.size w u → Calls Tryd.prog 67 #[.slice a len cap] u fun e w' => e = .returned (Dv i s) ∧ Below u.heap.size u w')) (HW : Hid (∀ u, Below w.heap.size w u → Calls Tryd.prog 30 #[Dv i s] u fun e w' => e = .returned (.tuple #[.slice none 0 0, .int .i64 q]) ∧ Below u.heap.size u w')) :
    Calls Tryd.prog 66 #[.slice a len cap, .func (.func 67) #[] #[], .func (.func 30) #[] #[]] w fun e w' => e = .returned (.tuple #[.agg #[.int .i64 0, .string ⟨#[]⟩], .int .i64 4]) ∧ Below w.heap.size w w' := by
  have hb0 : Below w.heap.size w (w.alloc (.cells (#[.int .i64 0, .string ⟨#[]⟩]) 60)) := (Below.refl _ w).alloc (Nat.le_refl _) _
  have HZ := hide (Bl.new w (#[.int .i64 0, .string ⟨#[]⟩]) 60)
  have HB := hide hb0
  clear hb0
  go_enter Tryd.func66, Tryd.ntmps66
  go_wp2_with fail
  go_at_call 67
  refine (unhide HT _ HB.out).mono ?_
  rintro e w1 ⟨rfl, hb⟩
  replace HZ := hide ((HZ.out.call hb).alloc (.cells (Dc i s) 60))
  replace HB := hide ((bchain HB.out hb (Nat.le_refl _)).alloc (bchain HB.out hb (Nat.le_refl _)).size (.cells (Dc i s) 60))
  have HV := hide (Bl.new w1 (Dc i s) 60)
  clear hb HT
  go_wp2_with fail
  go_at_call 30
  refine (unhide HW _ HB.out).mono ?_
  rintro e w2 ⟨rfl, hb⟩
  replace HZ := hide ((HZ.out.call hb).alloc (.cells (#[.int .i64 0, .string ⟨#[]⟩]) 60))
  replace HB := hide ((bchain HB.out hb (Nat.le_refl _)).alloc (bchain HB.out hb (Nat.le_refl _)).size (.cells (#[.int .i64 0, .string ⟨#[]⟩]) 60))
  clear hb HW HV
  have z0 := HZ.out.cell 0 _ rfl
  have z1 := HZ.out.cell 1 _ rfl
  have hz := HZ.out.free
  go_wp2_with fail
  have hW : Below w.heap.size w (setAll (w2.alloc (.cells (#[.int .i64 0, .string ⟨#[]⟩]) 60)) w.heap.size 0 [.int .i64 0, .string ⟨#[]⟩]) := below_setAll (Nat.le_refl _) _ _ _ _ HB.out
  have hA : Bl (setAll (w2.alloc (.cells (#[.int .i64 0, .string ⟨#[]⟩]) 60)) w.heap.size 0 [.int .i64 0, .string ⟨#[]⟩]) w.heap.size (#[.int .i64 0, .string ⟨#[]⟩]) 60 := setAll_whole [.int .i64 0, .string ⟨#[]⟩] _ _ HZ.out rfl
  change bodyPost _ _ _ _ _ (setAll (w2.alloc (.cells (#[.int .i64 0, .string ⟨#[]⟩]) 60)) w.heap.size 0 [.int .i64 0, .string ⟨#[]⟩])
  generalize setAll (w2.alloc (.cells (#[.int .i64 0, .string ⟨#[]⟩]) 60)) w.heap.size 0 [.int .i64 0, .string ⟨#[]⟩] = wf at *
  refine bodyPost_ret (v := .tuple #[.agg #[.int .i64 0, .string ⟨#[]⟩], .int .i64 4]) ?_ rfl ⟨rfl, hW⟩
  simp [results, Tryd.results66, go_sem, hA.cell 0 _ rfl, hA.cell 1 _ rfl]

set_option maxHeartbeats 8000000 in
theorem readD_other (i : Int) (s : ByteArray) (a : Option Addr) (len cap : Nat) (w : World) (xs zs : List Int) (hh : Has w a len zs) (hz0 : ∀ z ∈ zs, 0 ≤ z ∧ z ≤ 255) (hx : ∀ z ∈ xs, 0 ≤ z ∧ z ≤ 255) (he : decide (xs = zs) = false) (HT : Hid (∀ u, Below w.heap.size w u → Calls Tryd.prog 67 #[.slice a len cap] u fun e w' => e = .returned (Dv i s) ∧ Below u.heap.size u w')) (HW : Hid (∀ u, Below w.heap.size w u → Calls Tryd.prog 30 #[Dv i s] u fun e w' => ∃ a' n' c', e = .returned (.tuple #[.slice a' n' c', .int .i64 0]) ∧ Hid (Has w' a' n' xs) ∧ Below u.heap.size u w')) :
    Calls Tryd.prog 66 #[.slice a len cap, .func (.func 67) #[] #[], .func (.func 30) #[] #[]] w fun e w' => e = .returned (.tuple #[.agg #[.int .i64 0, .string ⟨#[]⟩], .int .i64 4]) ∧ Below w.heap.size w w' := by
  have HH := hide hh
  clear hh
  have hb0 : Below w.heap.size w (w.alloc (.cells (#[.int .i64 0, .string ⟨#[]⟩]) 60)) := (Below.refl _ w).alloc (Nat.le_refl _) _
  have HZ := hide (Bl.new w (#[.int .i64 0, .string ⟨#[]⟩]) 60)
  have HB := hide hb0
  clear hb0
  go_enter Tryd.func66, Tryd.ntmps66
  go_wp2_with fail
  go_at_call 67
  refine (unhide HT _ HB.out).mono ?_
  rintro e w1 ⟨rfl, hb⟩
  replace HZ := hide ((HZ.out.call hb).alloc (.cells (Dc i s) 60))
  replace HB := hide ((bchain HB.out hb (Nat.le_refl _)).alloc (bchain HB.out hb (Nat.le_refl _)).size (.cells (Dc i s) 60))
  have HV := hide (Bl.new w1 (Dc i s) 60)
  clear hb HT
  go_wp2_with fail
  go_at_call 30
  refine (unhide HW _ HB.out).mono ?_
  rintro e w2 ⟨a', n', c', rfl, hx', hb⟩
  replace HZ := hide (HZ.out.call hb)
  replace HB := hide (bchain HB.out hb (Nat.le_refl _))
  replace HV := hide (HV.out.call hb)
  have KE : Hid (Calls Tryd.prog 73 #[.slice a' n' c', .slice a len cap] w2 fun e w' => e = .returned (.bool false) ∧ w2 = w') := by
    have := equal_any a' a n' c' len cap xs zs w2 hx'.out ((HH.out).later HB.out) hx hz0
    rwa [he] at this
  clear hb HW hx'
  go_wp2_with fail
  go_at_call 73
  refine (unhide KE).mono ?_
  rintro e w' ⟨rfl, rfl⟩
  clear KE
  replace HZ := hide (HZ.out.alloc (.cells (#[.int .i64 0, .string ⟨#[]⟩]) 60))
  replace HB := hide (HB.out.alloc HB.out.size (.cells (#[.int .i64 0, .string ⟨#[]⟩]) 60))
  clear HV HH hz0 hx he
  have z0 := HZ.out.cell 0 _ rfl
  have z1 := HZ.out.cell 1 _ rfl
  have hz := HZ.out.free
  go_wp2_with fail
  have hW : Below w.heap.size w (setAll (w2.alloc (.cells (#[.int .i64 0, .string ⟨#[]⟩]) 60)) w.heap.size 0 [.int .i64 0, .string ⟨#[]⟩]) := below_setAll (Nat.le_refl _) _ _ _ _ HB.out
  have hA : Bl (setAll (w2.alloc (.cells (#[.int .i64 0, .string ⟨#[]⟩]) 60)) w.heap.size 0 [.int .i64 0, .string ⟨#[]⟩]) w.heap.size (#[.int .i64 0, .string ⟨#[]⟩]) 60 := setAll_whole [.int .i64 0, .string ⟨#[]⟩] _ _ HZ.out rfl
  change bodyPost _ _ _ _ _ (setAll (w2.alloc (.cells (#[.int .i64 0, .string ⟨#[]⟩]) 60)) w.heap.size 0 [.int .i64 0, .string ⟨#[]⟩])
  generalize setAll (w2.alloc (.cells (#[.int .i64 0, .string ⟨#[]⟩]) 60)) w.heap.size 0 [.int .i64 0, .string ⟨#[]⟩] = wf at *
  refine bodyPost_ret (v := .tuple #[.agg #[.int .i64 0, .string ⟨#[]⟩], .int .i64 4]) ?_ rfl ⟨rfl, hW⟩
  simp [results, Tryd.results66, go_sem, hA.cell 0 _ rfl, hA.cell 1 _ rfl]

set_option maxHeartbeats 8000000 in
theorem readD_same (i : Int) (s : ByteArray) (a : Option Addr) (len cap : Nat) (w : World) (xs zs : List Int) (hh : Has w a len zs) (hz0 : ∀ z ∈ zs, 0 ≤ z ∧ z ≤ 255) (hx : ∀ z ∈ xs, 0 ≤ z ∧ z ≤ 255) (he : decide (xs = zs) = true) (HT : Hid (∀ u, Below w.heap.size w u → Calls Tryd.prog 67 #[.slice a len cap] u fun e w' => e = .returned (Dv i s) ∧ Below u.heap.size u w')) (HW : Hid (∀ u, Below w.heap.size w u → Calls Tryd.prog 30 #[Dv i s] u fun e w' => ∃ a' n' c', e = .returned (.tuple #[.slice a' n' c', .int .i64 0]) ∧ Hid (Has w' a' n' xs) ∧ Below u.heap.size u w')) :
    Calls Tryd.prog 66 #[.slice a len cap, .func (.func 67) #[] #[], .func (.func 30) #[] #[]] w fun e w' => e = .returned (.tuple #[Dv i s, .int .i64 0]) ∧ Below w.heap.size w w' := by
  have HH := hide hh
  clear hh
  have hb0 : Below w.heap.size w (w.alloc (.cells (#[.int .i64 0, .string ⟨#[]⟩]) 60)) := (Below.refl _ w).alloc (Nat.le_refl _) _
  have HZ := hide (Bl.new w (#[.int .i64 0, .string ⟨#[]⟩]) 60)
  have HB := hide hb0
  clear hb0
  go_enter Tryd.func66, Tryd.ntmps66
  go_wp2_with fail
  go_at_call 67
  refine (unhide HT _ HB.out).mono ?_
  rintro e w1 ⟨rfl, hb⟩
  replace HZ := hide ((HZ.out.call hb).alloc (.cells (Dc i s) 60))
  replace HB := hide ((bchain HB.out hb (Nat.le_refl _)).alloc (bchain HB.out hb (Nat.le_refl _)).size (.cells (Dc i s) 60))
  have HV := hide (Bl.new w1 (Dc i s) 60)
  clear hb HT
  go_wp2_with fail
  go_at_call 30
  refine (unhide HW _ HB.out).mono ?_
  rintro e w2 ⟨a', n', c', rfl, hx', hb⟩
  replace HZ := hide (HZ.out.call hb)
  replace HB := hide (bchain HB.out hb (Nat.le_refl _))
  replace HV := hide (HV.out.call hb)
  have KE : Hid (Calls Tryd.prog 73 #[.slice a' n' c', .slice a len cap] w2 fun e w' => e = .returned (.bool true) ∧ w2 = w') := by
    have := equal_any a' a n' c' len cap xs zs w2 hx'.out ((HH.out).later HB.out) hx hz0
    rwa [he] at this
  clear hb HW hx'
  go_wp2_with fail
  go_at_call 73
  refine (unhide KE).mono ?_
  rintro e w' ⟨rfl, rfl⟩
  clear KE
  clear HH hz0 hx he
  have z0 := HZ.out.cell 0 _ rfl
  have z1 := HZ.out.cell 1 _ rfl
  have v0 := HV.out.cell 0 _ rfl
  have v1 := HV.out.cell 1 _ rfl
  have hz := HZ.out.free
  go_wp2_with fail
  have hW : Below w.heap.size w (setAll w2 w.heap.size 0 [.int .i64 i, .string s]) := below_setAll (Nat.le_refl _) _ _ _ _ HB.out
  have hA : Bl (setAll w2 w.heap.size 0 [.int .i64 i, .string s]) w.heap.size (Dc i s) 60 := setAll_whole [.int .i64 i, .string s] _ _ HZ.out rfl
  change bodyPost _ _ _ _ _ (setAll w2 w.heap.size 0 [.int .i64 i, .string s])
  generalize setAll w2 w.heap.size 0 [.int .i64 i, .string s] = wf at *
  refine bodyPost_ret (v := .tuple #[Dv i s, .int .i64 0]) ?_ rfl ⟨rfl, hW⟩
  simp [results, Tryd.results66, go_sem, hA.cell 0 _ rfl, hA.cell 1 _ rfl]

end Go.Proofs.YtmdkcoenjadieaaDoor
