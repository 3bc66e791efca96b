/- Joined: CReadP, CSupB, CRSup. -/
import Derived.Test.YtmdkcoenjadieaaDoorQJ23
import Derived.Test.YtmdkcoenjadieaaDoorQJ20
import Derived.Test.YtmdkcoenjadieaaDoorQJ26
import Derived.Test.YtmdkcoenjadieaaDoorQJ13
import Derived.Test.YtmdkcoenjadieaaDoorQJ8
/- Contract of codec.read, of plans. -/
namespace Go.Proofs.YtmdkcoenjadieaaDoor
open Go.RowKit Go.Shelf
set_option linter.unusedVariables false
set_option maxRecDepth 100000

def zeroH : Nat → Int := fun _ => 0

set_option maxHeartbeats 8000000 in
theorem readH_err (H : Nat → Int) (g1 : Nat) (a : Option Addr) (len cap : Nat) (q : Int) (w : World) (hq : (q != 0) = true) (HT : Hid (∀ u, Below w.heap.size w u → Calls Tryd.prog 52 #[.slice a len cap] u fun e w' => e = .returned (Hv H) ∧ Below u.heap.size u w')) (HW : Hid (∀ u, Below w.heap.size w u → Calls Tryd.prog 53 #[Hv H, .pointer (some ⟨g1, 0, none⟩)] u fun e w' => e = .returned (.tuple #[.slice none 0 0, .int .i64 q]) ∧ Below u.heap.size u w')) :
    Calls Tryd.prog 51 #[.slice a len cap, .func (.func 52) #[] #[], .func (.func 53) #[] #[.pointer (some ⟨g1, 0, none⟩)]] w fun e w' => e = .returned (.tuple #[.agg #[.int .i64 0, .int .i64 0, .int .i64 0], .int .i64 4]) ∧ Below w.heap.size w w' := by
  have hb0 : Below w.heap.size w (w.alloc (.cells (#[.int .i64 0, .int .i64 0, .int .i64 0]) 25)) := (Below.refl _ w).alloc (Nat.le_refl _) _
  have HZ := hide (Bl.new w (#[.int .i64 0, .int .i64 0, .int .i64 0]) 25)
  have HB := hide hb0
  clear hb0
  go_enter Tryd.func51, Tryd.ntmps51
  go_wp2_with fail
  go_at_call 52
  refine (unhide HT _ HB.out).mono ?_
  rintro e w1 ⟨rfl, hb⟩
  replace HZ := hide ((HZ.out.call hb).alloc (.cells (Hc H) 25))
  replace HB := hide ((bchain HB.out hb (Nat.le_refl _)).alloc (bchain HB.out hb (Nat.le_refl _)).size (.cells (Hc H) 25))
  have HV := hide (Bl.new w1 (Hc H) 25)
  clear hb HT
  go_wp2_with fail
  go_at_call 53
  refine (unhide HW _ HB.out).mono ?_
  rintro e w2 ⟨rfl, hb⟩
  replace HZ := hide ((HZ.out.call hb).alloc (.cells (#[.int .i64 0, .int .i64 0, .int .i64 0]) 25))
  replace HB := hide ((bchain HB.out hb (Nat.le_refl _)).alloc (bchain HB.out hb (Nat.le_refl _)).size (.cells (#[.int .i64 0, .int .i64 0, .int .i64 0]) 25))
  clear hb HW HV
  have z0 := HZ.out.cell 0 _ rfl
  have z1 := HZ.out.cell 1 _ rfl
  have z2 := HZ.out.cell 2 _ rfl
  have hz := HZ.out.free
  go_wp2_with fail
  have hW : Below w.heap.size w (setAll (w2.alloc (.cells (#[.int .i64 0, .int .i64 0, .int .i64 0]) 25)) w.heap.size 0 [.int .i64 0, .int .i64 0, .int .i64 0]) := below_setAll (Nat.le_refl _) _ _ _ _ HB.out
  have hA : Bl (setAll (w2.alloc (.cells (#[.int .i64 0, .int .i64 0, .int .i64 0]) 25)) w.heap.size 0 [.int .i64 0, .int .i64 0, .int .i64 0]) w.heap.size (#[.int .i64 0, .int .i64 0, .int .i64 0]) 25 := setAll_whole [.int .i64 0, .int .i64 0, .int .i64 0] _ _ HZ.out rfl
  change bodyPost _ _ _ _ _ (setAll (w2.alloc (.cells (#[.int .i64 0, .int .i64 0, .int .i64 0]) 25)) w.heap.size 0 [.int .i64 0, .int .i64 0, .int .i64 0])
  generalize setAll (w2.alloc (.cells (#[.int .i64 0, .int .i64 0, .int .i64 0]) 25)) w.heap.size 0 [.int .i64 0, .int .i64 0, .int .i64 0] = wf at *
  refine bodyPost_ret (v := .tuple #[.agg #[.int .i64 0, .int .i64 0, .int .i64 0], .int .i64 4]) ?_ rfl ⟨rfl, hW⟩
  simp [results, Tryd.results51, go_sem, hA.cell 0 _ rfl, hA.cell 1 _ rfl, hA.cell 2 _ rfl]

set_option maxHeartbeats 8000000 in
theorem readH_other (H : Nat → Int) (g1 : Nat) (a : Option Addr) (len cap : Nat) (w : World) (xs zs : List Int) (hh : Has w a len zs) (hz0 : ∀ z ∈ zs, 0 ≤ z ∧ z ≤ 255) (hx : ∀ z ∈ xs, 0 ≤ z ∧ z ≤ 255) (he : decide (xs = zs) = false) (HT : Hid (∀ u, Below w.heap.size w u → Calls Tryd.prog 52 #[.slice a len cap] u fun e w' => e = .returned (Hv H) ∧ Below u.heap.size u w')) (HW : Hid (∀ u, Below w.heap.size w u → Calls Tryd.prog 53 #[Hv H, .pointer (some ⟨g1, 0, none⟩)] u fun e w' => ∃ a' n' c', e = .returned (.tuple #[.slice a' n' c', .int .i64 0]) ∧ Hid (Has w' a' n' xs) ∧ Below u.heap.size u w')) :
    Calls Tryd.prog 51 #[.slice a len cap, .func (.func 52) #[] #[], .func (.func 53) #[] #[.pointer (some ⟨g1, 0, none⟩)]] w fun e w' => e = .returned (.tuple #[.agg #[.int .i64 0, .int .i64 0, .int .i64 0], .int .i64 4]) ∧ Below w.heap.size w w' := by
  have HH := hide hh
  clear hh
  have hb0 : Below w.heap.size w (w.alloc (.cells (#[.int .i64 0, .int .i64 0, .int .i64 0]) 25)) := (Below.refl _ w).alloc (Nat.le_refl _) _
  have HZ := hide (Bl.new w (#[.int .i64 0, .int .i64 0, .int .i64 0]) 25)
  have HB := hide hb0
  clear hb0
  go_enter Tryd.func51, Tryd.ntmps51
  go_wp2_with fail
  go_at_call 52
  refine (unhide HT _ HB.out).mono ?_
  rintro e w1 ⟨rfl, hb⟩
  replace HZ := hide ((HZ.out.call hb).alloc (.cells (Hc H) 25))
  replace HB := hide ((bchain HB.out hb (Nat.le_refl _)).alloc (bchain HB.out hb (Nat.le_refl _)).size (.cells (Hc H) 25))
  have HV := hide (Bl.new w1 (Hc H) 25)
  clear hb HT
  go_wp2_with fail
  go_at_call 53
  refine (unhide HW _ HB.out).mono ?_
  rintro e w2 ⟨a', n', c', rfl, hx', hb⟩
  replace HZ := hide (HZ.out.call hb)
  replace HB := hide (bchain HB.out hb (Nat.le_refl _))
  replace HV := hide (HV.out.call hb)
  have KE : Hid (Calls Tryd.prog 73 #[.slice a' n' c', .slice a len cap] w2 fun e w' => e = .returned (.bool false) ∧ w2 = w') := by
    have := equal_any a' a n' c' len cap xs zs w2 hx'.out ((HH.out).later HB.out) hx hz0
    rwa [he] at this
  clear hb HW hx'
  go_wp2_with fail
  go_at_call 73
  refine (unhide KE).mono ?_
  rintro e w' ⟨rfl, rfl⟩
  clear KE
  replace HZ := hide (HZ.out.alloc (.cells (#[.int .i64 0, .int .i64 0, .int .i64 0]) 25))
  replace HB := hide (HB.out.alloc HB.out.size (.cells (#[.int .i64 0, .int .i64 0, .int .i64 0]) 25))
  clear HV HH hz0 hx he
  have z0 := HZ.out.cell 0 _ rfl
  have z1 := HZ.out.cell 1 _ rfl
  have z2 := HZ.out.cell 2 _ rfl
  have hz := HZ.out.free
  go_wp2_with fail
  have hW : Below w.heap.size w (setAll (w2.alloc (.cells (#[.int .i64 0, .int .i64 0, .int .i64 0]) 25)) w.heap.size 0 [.int .i64 0, .int .i64 0, .int .i64 0]) := below_setAll (Nat.le_refl _) _ _ _ _ HB.out
  have hA : Bl (setAll (w2.alloc (.cells (#[.int .i64 0, .int .i64 0, .int .i64 0]) 25)) w.heap.size 0 [.int .i64 0, .int .i64 0, .int .i64 0]) w.heap.size (#[.int .i64 0, .int .i64 0, .int .i64 0]) 25 := setAll_whole [.int .i64 0, .int .i64 0, .int .i64 0] _ _ HZ.out rfl
  change bodyPost _ _ _ _ _ (setAll (w2.alloc (.cells (#[.int .i64 0, .int .i64 0, .int .i64 0]) 25)) w.heap.size 0 [.int .i64 0, .int .i64 0, .int .i64 0])
  generalize setAll (w2.alloc (.cells (#[.int .i64 0, .int .i64 0, .int .i64 0]) 25)) w.heap.size 0 [.int .i64 0, .int .i64 0, .int .i64 0] = wf at *
  refine bodyPost_ret (v := .tuple #[.agg #[.int .i64 0, .int .i64 0, .int .i64 0], .int .i64 4]) ?_ rfl ⟨rfl, hW⟩
  simp [results, Tryd.results51, go_sem, hA.cell 0 _ rfl, hA.cell 1 _ rfl, hA.cell 2 _ rfl]

set_option maxHeartbeats 8000000 in
theorem readH_same (H : Nat → Int) (g1 : Nat) (a : Option Addr) (len cap : Nat) (w : World) (xs zs : List Int) (hh : Has w a len zs) (hz0 : ∀ z ∈ zs, 0 ≤ z ∧ z ≤ 255) (hx : ∀ z ∈ xs, 0 ≤ z ∧ z ≤ 255) (he : decide (xs = zs) = true) (HT : Hid (∀ u, Below w.heap.size w u → Calls Tryd.prog 52 #[.slice a len cap] u fun e w' => e = .returned (Hv H) ∧ Below u.heap.size u w')) (HW : Hid (∀ u, Below w.heap.size w u → Calls Tryd.prog 53 #[Hv H, .pointer (some ⟨g1, 0, none⟩)] u fun e w' => ∃ a' n' c', e = .returned (.tuple #[.slice a' n' c', .int .i64 0]) ∧ Hid (Has w' a' n' xs) ∧ Below u.heap.size u w')) :
    Calls Tryd.prog 51 #[.slice a len cap, .func (.func 52) #[] #[], .func (.func 53) #[] #[.pointer (some ⟨g1, 0, none⟩)]] w fun e w' => e = .returned (.tuple #[Hv H, .int .i64 0]) ∧ Below w.heap.size w w' := by
  have HH := hide hh
  clear hh
  have hb0 : Below w.heap.size w (w.alloc (.cells (#[.int .i64 0, .int .i64 0, .int .i64 0]) 25)) := (Below.refl _ w).alloc (Nat.le_refl _) _
  have HZ := hide (Bl.new w (#[.int .i64 0, .int .i64 0, .int .i64 0]) 25)
  have HB := hide hb0
  clear hb0
  go_enter Tryd.func51, Tryd.ntmps51
  go_wp2_with fail
  go_at_call 52
  refine (unhide HT _ HB.out).mono ?_
  rintro e w1 ⟨rfl, hb⟩
  replace HZ := hide ((HZ.out.call hb).alloc (.cells (Hc H) 25))
  replace HB := hide ((bchain HB.out hb (Nat.le_refl _)).alloc (bchain HB.out hb (Nat.le_refl _)).size (.cells (Hc H) 25))
  have HV := hide (Bl.new w1 (Hc H) 25)
  clear hb HT
  go_wp2_with fail
  go_at_call 53
  refine (unhide HW _ HB.out).mono ?_
  rintro e w2 ⟨a', n', c', rfl, hx', hb⟩
  replace HZ := hide (HZ.out.call hb)
  replace HB := hide (bchain HB.out hb (Nat.le_refl _))
  replace HV := hide (HV.out.call hb)
  have KE : Hid (Calls Tryd.prog 73 #[.slice a' n' c', .slice a len cap] w2 fun e w' => e = .returned (.bool true) ∧ w2 = w') := by
    have := equal_any a' a n' c' len cap xs zs w2 hx'.out ((HH.out).later HB.out) hx hz0
    rwa [he] at this
  clear hb HW hx'
  go_wp2_with fail
  go_at_call 73
  refine (unhide KE).mono ?_
  rintro e w' ⟨rfl, rfl⟩
  clear KE
  clear HH hz0 hx he
  have z0 := HZ.out.cell 0 _ rfl
  have z1 := HZ.out.cell 1 _ rfl
  have z2 := HZ.out.cell 2 _ rfl
  have v0 := HV.out.cell 0 _ rfl
  have v1 := HV.out.cell 1 _ rfl
  have v2 := HV.out.cell 2 _ rfl
  have hz := HZ.out.free
  go_wp2_with fail
  have hW : Below w.heap.size w (setAll w2 w.heap.size 0 [.int .i64 (H 0), .int .i64 (H 1), .int .i64 (H 2)]) := below_setAll (Nat.le_refl _) _ _ _ _ HB.out
  have hA : Bl (setAll w2 w.heap.size 0 [.int .i64 (H 0), .int .i64 (H 1), .int .i64 (H 2)]) w.heap.size (Hc H) 25 := setAll_whole [.int .i64 (H 0), .int .i64 (H 1), .int .i64 (H 2)] _ _ HZ.out rfl
  change bodyPost _ _ _ _ _ (setAll w2 w.heap.size 0 [.int .i64 (H 0), .int .i64 (H 1), .int .i64 (H 2)])
  generalize setAll w2 w.heap.size 0 [.int .i64 (H 0), .int .i64 (H 1), .int .i64 (H 2)] = wf at *
  refine bodyPost_ret (v := .tuple #[Hv H, .int .i64 0]) ?_ rfl ⟨rfl, hW⟩
  simp [results, Tryd.results51, go_sem, hA.cell 0 _ rfl, hA.cell 1 _ rfl, hA.cell 2 _ rfl]

set_option maxHeartbeats 8000000 in
theorem readP_err (P : Nat → Int) (a : Option Addr) (len cap : Nat) (q : Int) (w : World) (hq : (q != 0) = true) (HT : Hid (∀ u, Below w.heap.size w u → Calls Tryd.prog 48 #[.slice a len cap] u fun e w' => e = .returned (Pv P) ∧ Below u.heap.size u w')) (HW : Hid (∀ u, Below w.heap.size w u → Calls Tryd.prog 9 #[Pv P] u fun e w' => e = .returned (.tuple #[.slice none 0 0, .int .i64 q]) ∧ Below u.heap.size u w')) :
    Calls Tryd.prog 47 #[.slice a len cap, .func (.func 48) #[] #[], .func (.func 9) #[] #[]] w fun e w' => e = .returned (.tuple #[.agg #[.int .i64 0, .int .i64 0, .int .i64 0, .int .i64 0, .int .i64 0, .int .i64 0, .int .i64 0, .int .i64 0, .int .i64 0, .int .i64 0, .int .i64 0, .int .i64 0], .int .i64 4]) ∧ Below w.heap.size w w' := by
  have hb0 : Below w.heap.size w (w.alloc (.cells (#[.int .i64 0, .int .i64 0, .int .i64 0, .int .i64 0, .int .i64 0, .int .i64 0, .int .i64 0, .int .i64 0, .int .i64 0, .int .i64 0, .int .i64 0, .int .i64 0]) 23)) := (Below.refl _ w).alloc (Nat.le_refl _) _
  have HZ := hide (Bl.new w (#[.int .i64 0, .int .i64 0, .int .i64 0, .int .i64 0, .int .i64 0, .int .i64 0, .int .i64 0, .int .i64 0, .int .i64 0, .int .i64 0, .int .i64 0, .int .i64 0]) 23)
  have HB := hide hb0
  clear hb0
  go_enter Tryd.func47, Tryd.ntmps47
  go_wp2_with fail
  go_at_call 48
  refine (unhide HT _ HB.out).mono ?_
  rintro e w1 ⟨rfl, hb⟩
  replace HZ := hide ((HZ.out.call hb).alloc (.cells (Pc P) 23))
  replace HB := hide ((bchain HB.out hb (Nat.le_refl _)).alloc (bchain HB.out hb (Nat.le_refl _)).size (.cells (Pc P) 23))
  have HV := hide (Bl.new w1 (Pc P) 23)
  clear hb HT
  go_wp2_with fail
  go_at_call 9
  refine (unhide HW _ HB.out).mono ?_
  rintro e w2 ⟨rfl, hb⟩
  replace HZ := hide ((HZ.out.call hb).alloc (.cells (#[.int .i64 0, .int .i64 0, .int .i64 0, .int .i64 0, .int .i64 0, .int .i64 0, .int .i64 0, .int .i64 0, .int .i64 0, .int .i64 0, .int .i64 0, .int .i64 0]) 23))
  replace HB := hide ((bchain HB.out hb (Nat.le_refl _)).alloc (bchain HB.out hb (Nat.le_refl _)).size (.cells (#[.int .i64 0, .int .i64 0, .int .i64 0, .int .i64 0, .int .i64 0, .int .i64 0, .int .i64 0, .int .i64 0, .int .i64 0, .int .i64 0, .int .i64 0, .int .i64 0]) 23))
  clear hb HW HV
  have z0 := HZ.out.cell 0 _ rfl
  have z1 := HZ.out.cell 1 _ rfl
  have z2 := HZ.out.cell 2 _ rfl
  have z3 := HZ.out.cell 3 _ rfl
  have z4 := HZ.out.cell 4 _ rfl
  have z5 := HZ.out.cell 5 _ rfl
  have z6 := HZ.out.cell 6 _ rfl
  have z7 := HZ.out.cell 7 _ rfl
  have z8 := HZ.out.cell 8 _ rfl
  have z9 := HZ.out.cell 9 _ rfl
  have z10 := HZ.out.cell 10 _ rfl
  have z11 := HZ.out.cell 11 _ rfl
  have hz := HZ.out.free
  go_wp2_with fail
  have hW : Below w.heap.size w (setAll (w2.alloc (.cells (#[.int .i64 0, .int .i64 0, .int .i64 0, .int .i64 0, .int .i64 0, .int .i64 0, .int .i64 0, .int .i64 0, .int .i64 0, .int .i64 0, .int .i64 0, .int .i64 0]) 23)) w.heap.size 0 [.int .i64 0, .int .i64 0, .int .i64 0, .int .i64 0, .int .i64 0, .int .i64 0, .int .i64 0, .int .i64 0, .int .i64 0, .int .i64 0, .int .i64 0, .int .i64 0]) := below_setAll (Nat.le_refl _) _ _ _ _ HB.out
  have hA : Bl (setAll (w2.alloc (.cells (#[.int .i64 0, .int .i64 0, .int .i64 0, .int .i64 0, .int .i64 0, .int .i64 0, .int .i64 0, .int .i64 0, .int .i64 0, .int .i64 0, .int .i64 0, .int .i64 0]) 23)) w.heap.size 0 [.int .i64 0, .int .i64 0, .int .i64 0, .int .i64 0, .int .i64 0, .int .i64 0, .int .i64 0, .int .i64 0, .int .i64 0, .int .i64 0, .int .i64 0, .int .i64 0]) w.heap.size (#[.int .i64 0, .int .i64 0, .int .i64 0, .int .i64 0, .int .i64 0, .int .i64 0, .int .i64 0, .int .i64 0, .int .i64 0, .int .i64 0, .int .i64 0, .int .i64 0]) 23 := setAll_whole [.int .i64 0, .int .i64 0, .int .i64 0, .int .i64 0, .int .i64 0, .int .i64 0, .int .i64 0, .int .i64 0, .int .i64 0, .int .i64 0, .int .i64 0, .int .i64 0] _ _ HZ.out rfl
  change bodyPost _ _ _ _ _ (setAll (w2.alloc (.cells (#[.int .i64 0, .int .i64 0, .int .i64 0, .int .i64 0, .int .i64 0, .int .i64 0, .int .i64 0, .int .i64 0, .int .i64 0, .int .i64 0, .int .i64 0, .int .i64 0]) 23)) w.heap.size 0 [.int .i64 0, .int .i64 0, .int .i64 0, .int .i64 0, .int .i64 0, .int .i64 0, .int .i64 0, .int .i64 0, .int .i64 0, .int .i64 0, .int .i64 0, .int .i64 0])
  generalize setAll (w2.alloc (.cells (#[.int .i64 0, .int .i64 0, .int .i64 0, .int .i64 0, .int .i64 0, .int .i64 0, .int .i64 0, .int .i64 0, .int .i64 0, .int .i64 0, .int .i64 0, .int .i64 0]) 23)) w.heap.size 0 [.int .i64 0, .int .i64 0, .int .i64 0, .int .i64 0, .int .i64 0, .int .i64 0, .int .i64 0, .int .i64 0, .int .i64 0, .int .i64 0, .int .i64 0, .int .i64 0] = wf at *
  refine bodyPost_ret (v := .tuple #[.agg #[.int .i64 0, .int .i64 0, .int .i64 0, .int .i64 0, .int .i64 0, .int .i64 0, .int .i64 0, .int .i64 0, .int .i64 0, .int .i64 0, .int .i64 0, .int .i64 0], .int .i64 4]) ?_ rfl ⟨rfl, hW⟩
  simp [results, Tryd.results47, go_sem, hA.cell 0 _ rfl, hA.cell 1 _ rfl, hA.cell 2 _ rfl, hA.cell 3 _ rfl, hA.cell 4 _ rfl, hA.cell 5 _ rfl, hA.cell 6 _ rfl, hA.cell 7 _ rfl, hA.cell 8 _ rfl, hA.cell 9 _ rfl, hA.cell 10 _ rfl, hA.cell 11 _ rfl]

set_option maxHeartbeats 8000000 in
theorem readP_other (P : Nat → Int) (a : Option Addr) (len cap : Nat) (w : World) (xs zs : List Int) (hh : Has w a len zs) (hz0 : ∀ z ∈ zs, 0 ≤ z ∧ z ≤ 255) (hx : ∀ z ∈ xs, 0 ≤ z ∧ z ≤ 255) (he : decide (xs = zs) = false) (HT : Hid (∀ u, Below w.heap.size w u → Calls Tryd.prog 48 #[.slice a len cap] u fun e w' => e = .returned (Pv P) ∧ Below u.heap.size u w')) (HW : Hid (∀ u, Below w.heap.size w u → Calls Tryd.prog 9 #[Pv P] u fun e w' => ∃ a' n' c', e = .returned (.tuple #[.slice a' n' c', .int .i64 0]) ∧ Hid (Has w' a' n' xs) ∧ Below u.heap.size u w')) :
    Calls Tryd.prog 47 #[.slice a len cap, .func (.func 48) #[] #[], .func (.func 9) #[] #[]] w fun e w' => e = .returned (.tuple #[.agg #[.int .i64 0, .int .i64 0, .int .i64 0, .int .i64 0, .int .i64 0, .int .i64 0, .int .i64 0, .int .i64 0, .int .i64 0, .int .i64 0, .int .i64 0, .int .i64 0], .int .i64 4]) ∧ Below w.heap.size w w' := by
  have HH := hide hh
  clear hh
  have hb0 : Below w.heap.size w (w.alloc (.cells (#[.int .i64 0, .int .i64 0, .int .i64 0, .int .i64 0, .int .i64 0, .int .i64 0, .int .i64 0, .int .i64 0, .int .i64 0, .int .i64 0, .int .i64 0, .int .i64 0]) 23)) := (Below.refl _ w).alloc (Nat.le_refl _) _
  have HZ := hide (Bl.new w (#[.int .i64 0, .int .i64 0, .int .i64 0, .int .i64 0, .int .i64 0, .int .i64 0, .int .i64 0, .int .i64 0, .int .i64 0, .int .i64 0, .int .i64 0, .int .i64 0]) 23)
  have HB := hide hb0
  clear hb0
  go_enter Tryd.func47, Tryd.ntmps47
  go_wp2_with fail
  go_at_call 48
  refine (unhide HT _ HB.out).mono ?_
  rintro e w1 ⟨rfl, hb⟩
  replace HZ := hide ((HZ.out.call hb).alloc (.cells (Pc P) 23))
  replace HB := hide ((bchain HB.out hb (Nat.le_refl _)).alloc (bchain HB.out hb (Nat.le_refl _)).size (.cells (Pc P) 23))
  have HV := hide (Bl.new w1 (Pc P) 23)
  clear hb HT
  go_wp2_with fail
  go_at_call 9
  refine (unhide HW _ HB.out).mono ?_
  rintro e w2 ⟨a', n', c', rfl, hx', hb⟩
  replace HZ := hide (HZ.out.call hb)
  replace HB := hide (bchain HB.out hb (Nat.le_refl _))
  replace HV := hide (HV.out.call hb)
  have KE : Hid (Calls Tryd.prog 73 #[.slice a' n' c', .slice a len cap] w2 fun e w' => e = .returned (.bool false) ∧ w2 = w') := by
    have := equal_any a' a n' c' len cap xs zs w2 hx'.out ((HH.out).later HB.out) hx hz0
    rwa [he] at this
  clear hb HW hx'
  go_wp2_with fail
  go_at_call 73
  refine (unhide KE).mono ?_
  rintro e w' ⟨rfl, rfl⟩
  clear KE
  replace HZ := hide (HZ.out.alloc (.cells (#[.int .i64 0, .int .i64 0, .int .i64 0, .int .i64 0, .int .i64 0, .int .i64 0, .int .i64 0, .int .i64 0, .int .i64 0, .int .i64 0, .int .i64 0, .int .i64 0]) 23))
  replace HB := hide (HB.out.alloc HB.out.size (.cells (#[.int .i64 0, .int .i64 0, .int .i64 0, .int .i64 0, .int .i64 0, .int .i64 0, .int .i64 0, .int .i64 0, .int .i64 0, .int .i64 0, .int .i64 0, .int .i64 0]) 23))
  clear HV HH hz0 hx he
  have z0 := HZ.out.cell 0 _ rfl
  have z1 := HZ.out.cell 1 _ rfl
  have z2 := HZ.out.cell 2 _ rfl
  have z3 := HZ.out.cell 3 _ rfl
  have z4 := HZ.out.cell 4 _ rfl
  have z5 := HZ.out.cell 5 _ rfl
  have z6 := HZ.out.cell 6 _ rfl
  have z7 := HZ.out.cell 7 _ rfl
  have z8 := HZ.out.cell 8 _ rfl
  have z9 := HZ.out.cell 9 _ rfl
  have z10 := HZ.out.cell 10 _ rfl
  have z11 := HZ.out.cell 11 _ rfl
  have hz := HZ.out.free
  go_wp2_with fail
  have hW : Below w.heap.size w (setAll (w2.alloc (.cells (#[.int .i64 0, .int .i64 0, .int .i64 0, .int .i64 0, .int .i64 0, .int .i64 0, .int .i64 0, .int .i64 0, .int .i64 0, .int .i64 0, .int .i64 0, .int .i64 0]) 23)) w.heap.size 0 [.int .i64 0, .int .i64 0, .int .i64 0, .int .i64 0, .int .i64 0, .int .i64 0, .int .i64 0, .int .i64 0, .int .i64 0, .int .i64 0, .int .i64 0, .int .i64 0]) := below_setAll (Nat.le_refl _) _ _ _ _ HB.out
  have hA : Bl (setAll (w2.alloc (.cells (#[.int .i64 0, .int .i64 0, .int .i64 0, .int .i64 0, .int .i64 0, .int .i64 0, .int .i64 0, .int .i64 0, .int .i64 0, .int .i64 0, .int .i64 0, .int .i64 0]) 23)) w.heap.size 0 [.int .i64 0, .int .i64 0, .int .i64 0, .int .i64 0, .int .i64 0, .int .i64 0, .int .i64 0, .int .i64 0, .int .i64 0, .int .i64 0, .int .i64 0, .int .i64 0]) w.heap.size (#[.int .i64 0, .int .i64 0, .int .i64 0, .int .i64 0, .int .i64 0, .int .i64 0, .int .i64 0, .int .i64 0, .int .i64 0, .int .i64 0, .int .i64 0, .int .i64 0]) 23 := setAll_whole [.int .i64 0, .int .i64 0, .int .i64 0, .int .i64 0, .int .i64 0, .int .i64 0, .int .i64 0, .int .i64 0, .int .i64 0, .int .i64 0, .int .i64 0, .int .i64 0] _ _ HZ.out rfl
  change bodyPost _ _ _ _ _ (setAll (w2.alloc (.cells (#[.int .i64 0, .int .i64 0, .int .i64 0, .int .i64 0, .int .i64 0, .int .i64 0, .int .i64 0, .int .i64 0, .int .i64 0, .int .i64 0, .int .i64 0, .int .i64 0]) 23)) w.heap.size 0 [.int .i64 0, .int .i64 0, .int .i64 0, .int .i64 0, .int .i64 0, .int .i64 0, .int .i64 0, .int .i64 0, .int .i64 0, .int .i64 0, .int .i64 0, .int .i64 0])
  generalize setAll (w2.alloc (.cells (#[.int .i64 0, .int .i64 0, .int .i64 0, .int .i64 0, .int .i64 0, .int .i64 0, .int .i64 0, .int .i64 0, .int .i64 0, .int .i64 0, .int .i64 0, .int .i64 0]) 23)) w.heap.size 0 [.int .i64 0, .int .i64 0, .int .i64 0, .int .i64 0, .int .i64 0, .int .i64 0, .int .i64 0, .int .i64 0, .int .i64 0, .int .i64 0, .int .i64 0, .int .i64 0] = wf at *
  refine bodyPost_ret (v := .tuple #[.agg #[.int .i64 0, .int .i64 0, .int .i64 0, .int .i64 0, .int .i64 0, .int .i64 0, .int .i64 0, .int .i64 0, .int .i64 0, .int .i64 0, .int .i64 0, .int .i64 0], .int .i64 4]) ?_ rfl ⟨rfl, hW⟩
  simp [results, Tryd.results47, go_sem, hA.cell 0 _ rfl, hA.cell 1 _ rfl, hA.cell 2 _ rfl, hA.cell 3 _ rfl, hA.cell 4 _ rfl, hA.cell 5 _ rfl, hA.cell 6 _ rfl, hA.cell 7 _ rfl, hA.cell 8 _ rfl, hA.cell 9 _ rfl, hA.cell 10 _ rfl, hA.cell 11 _ rfl]

set_option maxHeartbeats 8000000 in
theorem readP_same (P : Nat → Int) (a : Option Addr) (len cap : Nat) (w : World) (xs zs : List Int) (hh : Has w a len zs) (hz0 : ∀ z ∈ zs, 0 ≤ z ∧ z ≤ 255) (hx : ∀ z ∈ xs, 0 ≤ z ∧ z ≤ 255) (he : decide (xs = zs) = true) (HT : Hid (∀ u, Below w.heap.size w u → Calls Tryd.prog 48 #[.slice a len cap] u fun e w' => e = .returned (Pv P) ∧ Below u.heap.size u w')) (HW : Hid (∀ u, Below w.heap.size w u → Calls Tryd.prog 9 #[Pv P] u fun e w' => ∃ a' n' c', e = .returned (.tuple #[.slice a' n' c', .int .i64 0]) ∧ Hid (Has w' a' n' xs) ∧ Below u.heap.size u w')) :
    Calls Tryd.prog 47 #[.slice a len cap, .func (.func 48) #[] #[], .func (.func 9) #[] #[]] w fun e w' => e = .returned (.tuple #[Pv P, .int .i64 0]) ∧ Below w.heap.size w w' := by
  have HH := hide hh
  clear hh
  have hb0 : Below w.heap.size w (w.alloc (.cells (#[.int .i64 0, .int .i64 0, .int .i64 0, .int .i64 0, .int .i64 0, .int .i64 0, .int .i64 0, .int .i64 0, .int .i64 0, .int .i64 0, .int .i64 0, .int .i64 0]) 23)) := (Below.refl _ w).alloc (Nat.le_refl _) _
  have HZ := hide (Bl.new w (#[.int .i64 0, .int .i64 0, .int .i64 0, .int .i64 0, .int .i64 0, .int .i64 0, .int .i64 0, .int .i64 0, .int .i64 0, .int .i64 0, .int .i64 0, .int .i64 0]) 23)
  have HB := hide hb0
  clear hb0
  go_enter Tryd.func47, Tryd.ntmps47
  go_wp2_with fail
  go_at_call 48
  refine (unhide HT _ HB.out).mono ?_
  rintro e w1 ⟨rfl, hb⟩
  replace HZ := hide ((HZ.out.call hb).alloc (.cells (Pc P) 23))
  replace HB := hide ((bchain HB.out hb (Nat.le_refl _)).alloc (bchain HB.out hb (Nat.le_refl _)).size (.cells (Pc P) 23))
  have HV := hide (Bl.new w1 (Pc P) 23)
  clear hb HT
  go_wp2_with fail
  go_at_call 9
  refine (unhide HW _ HB.out).mono ?_
  rintro e w2 ⟨a', n', c', rfl, hx', hb⟩
  replace HZ := hide (HZ.out.call hb)
  replace HB := hide (bchain HB.out hb (Nat.le_refl _))
  replace HV := hide (HV.out.call hb)
  have KE : Hid (Calls Tryd.prog 73 #[.slice a' n' c', .slice a len cap] w2 fun e w' => e = .returned (.bool true) ∧ w2 = w') := by
    have := equal_any a' a n' c' len cap xs zs w2 hx'.out ((HH.out).later HB.out) hx hz0
    rwa [he] at this
  clear hb HW hx'
  go_wp2_with fail
  go_at_call 73
  refine (unhide KE).mono ?_
  rintro e w' ⟨rfl, rfl⟩
  clear KE
  clear HH hz0 hx he
  have z0 := HZ.out.cell 0 _ rfl
  have z1 := HZ.out.cell 1 _ rfl
  have z2 := HZ.out.cell 2 _ rfl
  have z3 := HZ.out.cell 3 _ rfl
  have z4 := HZ.out.cell 4 _ rfl
  have z5 := HZ.out.cell 5 _ rfl
  have z6 := HZ.out.cell 6 _ rfl
  have z7 := HZ.out.cell 7 _ rfl
  have z8 := HZ.out.cell 8 _ rfl
  have z9 := HZ.out.cell 9 _ rfl
  have z10 := HZ.out.cell 10 _ rfl
  have z11 := HZ.out.cell 11 _ rfl
  have v0 := HV.out.cell 0 _ rfl
  have v1 := HV.out.cell 1 _ rfl
  have v2 := HV.out.cell 2 _ rfl
  have v3 := HV.out.cell 3 _ rfl
  have v4 := HV.out.cell 4 _ rfl
  have v5 := HV.out.cell 5 _ rfl
  have v6 := HV.out.cell 6 _ rfl
  have v7 := HV.out.cell 7 _ rfl
  have v8 := HV.out.cell 8 _ rfl
  have v9 := HV.out.cell 9 _ rfl
  have v10 := HV.out.cell 10 _ rfl
  have v11 := HV.out.cell 11 _ rfl
  have hz := HZ.out.free
  go_wp2_with fail
  have hW : Below w.heap.size w (setAll w2 w.heap.size 0 [.int .i64 (P 0), .int .i64 (P 1), .int .i64 (P 2), .int .i64 (P 3), .int .i64 (P 4), .int .i64 (P 5), .int .i64 (P 6), .int .i64 (P 7), .int .i64 (P 8), .int .i64 (P 9), .int .i64 (P 10), .int .i64 (P 11)]) := below_setAll (Nat.le_refl _) _ _ _ _ HB.out
  have hA : Bl (setAll w2 w.heap.size 0 [.int .i64 (P 0), .int .i64 (P 1), .int .i64 (P 2), .int .i64 (P 3), .int .i64 (P 4), .int .i64 (P 5), .int .i64 (P 6), .int .i64 (P 7), .int .i64 (P 8), .int .i64 (P 9), .int .i64 (P 10), .int .i64 (P 11)]) w.heap.size (Pc P) 23 := setAll_whole [.int .i64 (P 0), .int .i64 (P 1), .int .i64 (P 2), .int .i64 (P 3), .int .i64 (P 4), .int .i64 (P 5), .int .i64 (P 6), .int .i64 (P 7), .int .i64 (P 8), .int .i64 (P 9), .int .i64 (P 10), .int .i64 (P 11)] _ _ HZ.out rfl
  change bodyPost _ _ _ _ _ (setAll w2 w.heap.size 0 [.int .i64 (P 0), .int .i64 (P 1), .int .i64 (P 2), .int .i64 (P 3), .int .i64 (P 4), .int .i64 (P 5), .int .i64 (P 6), .int .i64 (P 7), .int .i64 (P 8), .int .i64 (P 9), .int .i64 (P 10), .int .i64 (P 11)])
  generalize setAll w2 w.heap.size 0 [.int .i64 (P 0), .int .i64 (P 1), .int .i64 (P 2), .int .i64 (P 3), .int .i64 (P 4), .int .i64 (P 5), .int .i64 (P 6), .int .i64 (P 7), .int .i64 (P 8), .int .i64 (P 9), .int .i64 (P 10), .int .i64 (P 11)] = wf at *
  refine bodyPost_ret (v := .tuple #[Pv P, .int .i64 0]) ?_ rfl ⟨rfl, hW⟩
  simp [results, Tryd.results47, go_sem, hA.cell 0 _ rfl, hA.cell 1 _ rfl, hA.cell 2 _ rfl, hA.cell 3 _ rfl, hA.cell 4 _ rfl, hA.cell 5 _ rfl, hA.cell 6 _ rfl, hA.cell 7 _ rfl, hA.cell 8 _ rfl, hA.cell 9 _ rfl, hA.cell 10 _ rfl, hA.cell 11 _ rfl]

end Go.Proofs.YtmdkcoenjadieaaDoor

/- Contracts of codec.Super and skerryref06.Super. -/
namespace Go.Proofs.YtmdkcoenjadieaaDoor
open Go.RowKit Go.Shelf
set_option linter.unusedVariables false
set_option maxRecDepth 100000

/-- S K R Y. -/
def skry : List Int := [83, 75, 82, 89]

/-- The twelve bytes ahead of a superblock's sum. -/
def supH (P : Nat → Int) : List Int := skry ++ numsB 2 [P 0, P 1, P 2, P 3]

theorem supH_length (P : Nat → Int) : (supH P).length = 12 := by simp [supH, skry, length_numsB]

theorem skry_byts : Byts skry := by intro z hz; simp [skry] at hz; omega

theorem supH_byts (P : Nat → Int) : Byts (supH P) := by
  intro z hz
  simp only [supH, List.mem_append] at hz
  rcases hz with hz | hz
  · exact skry_byts z hz
  · exact numsB_byte _ _ z hz

/-- What a sound plan's first numbers are. -/
theorem check_bounds {P : Nat → Int} (h : checkE P = 0) : isSize (P 0) ∧ 1 ≤ P 1 ∧ P 1 ≤ 4096 ∧ 2 ≤ P 2 ∧ P 2 ≤ 1024 ∧ 4 ≤ P 3 ∧ P 3 ≤ 512 := by
  have he : makeE (P 0) (P 1) (P 2) (P 3) = 0 := by
    by_cases h0 : makeE (P 0) (P 1) (P 2) (P 3) = 0
    · exact h0
    · rw [checkE_bad h0] at h; omega
  by_cases hb : badArg (P 0) (P 1) (P 2) (P 3)
  · rw [makeE_bad hb] at he; omega
  · obtain ⟨h1, h2, h3, h4⟩ := good_arg hb
    exact ⟨h1, by omega, by omega, by omega, by omega, by omega, by omega⟩

theorem check_fit {P : Nat → Int} (h : checkE P = 0) : fitB 2 [P 0, P 1, P 2, P 3] = true := by
  obtain ⟨h0, h1⟩ := check_bounds h
  have := size_bd h0
  rw [fitB_iff]
  intro v hv
  simp only [List.mem_cons, List.not_mem_nil, or_false] at hv
  rcases hv with rfl | rfl | rfl | rfl <;> omega

set_option maxHeartbeats 4000000 in
theorem super_bad (P : Nat → Int) (w : World) (h : checkE P ≠ 0) :
    Calls Tryd.prog 9 #[Pv P] w fun e w' => e = .returned (.tuple #[.slice none 0 0, .int .i64 4]) ∧ Below w.heap.size w w' := by
  have K : Hid (∀ u, Calls Tryd.prog 35 #[Pv P] u fun r w' => r = .returned (.int .i64 4) ∧ Below u.heap.size u w') := fun u => by
    have := check_any P u
    rcases checkE_two P with h0 | h0
    · exact absurd h0 h
    · rwa [h0] at this
  have HK := hide (Bx.start w (Pc P) 23)

  clear h
  go_enter Tryd.func9, Tryd.ntmps9
  go_wp2_with fail
  go_at_call 35
  refine (unhide K _).mono ?_
  rintro e w1 ⟨rfl, hb⟩
  replace HK := hide ((unhide HK).call hb)
  skip
  clear K hb
  go_wp2_with fail
  go_ret2
  exact ⟨rfl, HK.out.2.1⟩

set_option maxHeartbeats 4000000 in
theorem refSuper_bad (P : Nat → Int) (w : World) (h : checkE P ≠ 0) :
    Calls Tryd.prog 10 #[Pv P] w fun e w' => e = .returned (.tuple #[.slice none 0 0, .int .i64 4]) ∧ Below w.heap.size w w' := by
  have K : Hid (∀ u, Calls Tryd.prog 39 #[Pv P] u fun r w' => r = .returned (.int .i64 4) ∧ Below u.heap.size u w') := fun u => by
    have := refCheck_any P u
    rcases checkE_two P with h0 | h0
    · exact absurd h0 h
    · rwa [h0] at this
  have HK := hide (Bx.start w (Pc P) 23)

  clear h
  go_enter Tryd.func10, Tryd.ntmps10
  go_wp2_with fail
  go_at_call 39
  refine (unhide K _).mono ?_
  rintro e w1 ⟨rfl, hb⟩
  replace HK := hide ((unhide HK).call hb)
  skip
  clear K hb
  go_wp2_with fail
  go_ret2
  exact ⟨rfl, HK.out.2.1⟩

/-- []byte("SKRY"): the row and its mark. -/
theorem conv_skry (u : World) : (convert 26 26 (.slice (some ⟨u.heap.size, 0, none⟩) 4 4)).run Tryd.prog (u.alloc (.cells #[.int .u8 83, .int .u8 75, .int .u8 82, .int .u8 89] 5)) = .ok (.slice (some ⟨u.heap.size, 0, none⟩) 4 4) (u.alloc (.cells #[.int .u8 83, .int .u8 75, .int .u8 82, .int .u8 89] 5 (4, 5))) :=
  Lib.run_convert_bytes_const (P := Tryd.prog) u 26 5 #[.int .u8 83, .int .u8 75, .int .u8 82, .int .u8 89] 4 4 Tryd.underlying26 Tryd.underlying5

set_option maxHeartbeats 8000000 in
theorem super_good (P : Nat → Int) (b : Nat) (w : World) (h : checkE P = 0) (hb0 : P 0 = (b : Int)) (hT : Tab w) :
    Calls Tryd.prog 9 #[Pv P] w fun e w' => ∃ g, e = .returned (.tuple #[.slice (some ⟨g, 0, none⟩) b b, .int .i64 0]) ∧ w.heap.size ≤ g ∧ Hid (Block w' g (sumB b (supH P))) ∧ Below w.heap.size w w' := by
  have hbd := size_bd (check_bounds h).1
  have K : Hid (∀ u, Calls Tryd.prog 35 #[Pv P] u fun r w' => r = .returned (.int .i64 0) ∧ Below u.heap.size u w') := fun u => by
    have := check_any P u
    rwa [h] at this
  have HK := hide (Bx.start w (Pc P) 23)
  have KN : Hid (∀ (u : World) (n : Nat), u.heap.size = n → Calls Tryd.prog 37 #[.int .i64 2, .slice (some ⟨n, 0, none⟩) 4 4] (u.alloc (.cells #[.int .i64 (P 0), .int .i64 (P 1), .int .i64 (P 2), .int .i64 (P 3)] 3)) fun e w' => ∃ a4 c4, e = .returned (.slice a4 8 c4) ∧ Hid (Has w' a4 8 (numsB 2 [P 0, P 1, P 2, P 3])) ∧ Below u.heap.size u w') := by
    rintro u n rfl
    refine (numbers_any 2 (.inr (.inl rfl)) _ 4 4 [P 0, P 1, P 2, P 3] _ (ihas_list u [P 0, P 1, P 2, P 3]) (by omega) (check_fit h) 8 rfl).mono ?_
    rintro e w' ⟨a', c', rfl, hO, hb⟩
    exact ⟨a', c', rfl, hO.out.has, bchain ((Below.refl _ u).alloc (Nat.le_refl _) _) hb (Nat.le_refl _)⟩
  have KL : Hid (∀ (u u2 : World) a4 c4, Hid (Has u2 a4 8 (numsB 2 [P 0, P 1, P 2, P 3])) → Below (u.alloc (.cells #[.int .u8 83, .int .u8 75, .int .u8 82, .int .u8 89] 5 (4, 5))).heap.size (u.alloc (.cells #[.int .u8 83, .int .u8 75, .int .u8 82, .int .u8 89] 5 (4, 5))) u2 → Calls Tryd.prog 36 #[.int .i64 12, .slice (some ⟨u2.heap.size, 0, none⟩) 2 2] (u2.alloc (.cells #[.slice (some ⟨u.heap.size, 0, none⟩) 4 4, .slice a4 8 c4] 26)) fun e w' => ∃ g, e = .returned (.slice (some ⟨g, 0, none⟩) 12 12) ∧ Hid (Has w' (some ⟨g, 0, none⟩) 12 (supH P)) ∧ Below u2.heap.size u2 w') := by
    intro u u2 a4 c4 h4 hb
    have hp := phas_list u2 [(some ⟨u.heap.size, 0, none⟩, 4, 4, skry), (a4, 8, c4, numsB 2 [P 0, P 1, P 2, P 3])] (by
      intro p hp
      simp only [List.mem_cons, List.not_mem_nil, or_false] at hp
      rcases hp with rfl | rfl
      · exact (has_list u skry (4, 5)).later hb
      · exact h4.out)
    have hall : allP [(some ⟨u.heap.size, 0, none⟩, 4, 4, skry), (a4, 8, c4, numsB 2 [P 0, P 1, P 2, P 3])] = supH P := by simp [allP, supH]
    refine (clay_any 12 _ 2 2 _ _ hp (by omega) (by rw [hall, supH_length]; omega) (by omega)).mono ?_
    rintro e w' ⟨rfl, hB, hb2⟩
    rw [hall, layB_full (supH_length P)] at hB
    exact ⟨_, rfl, hB.out.has (supH_length P), bchain ((Below.refl _ u2).alloc (Nat.le_refl _) _) hb2 (Nat.le_refl _)⟩
  have KS : Hid (∀ g u, Below w.heap.size w u → Hid (Has u (some ⟨g, 0, none⟩) 12 (supH P)) → Calls Tryd.prog 38 #[.slice (some ⟨g, 0, none⟩) 12 12, .int .i64 (P 0)] u fun e w' => ∃ g, e = .returned (.slice (some ⟨g, 0, none⟩) b b) ∧ u.heap.size ≤ g ∧ Hid (Block w' g (sumB b (supH P))) ∧ Below u.heap.size u w') := by
    intro g u hb hh
    rw [hb0]
    exact summed_any _ 12 12 (supH P) b u hh.out (supH_byts P) (hT.below hb (tab_size hT)) (by omega) (by omega)

  clear h hb0 hT hbd
  go_enter Tryd.func9, Tryd.ntmps9
  go_wp2_with fail
  go_at_call 35
  refine (unhide K _).mono ?_
  rintro e w1 ⟨rfl, hb⟩
  replace HK := hide ((unhide HK).call hb)
  skip
  clear K hb
  have hcv := conv_skry w1
  replace HK := hide ((unhide HK).alloc (.cells #[.int .u8 83, .int .u8 75, .int .u8 82, .int .u8 89] 5 (4, 5)))
  have f0 := HK.out.1 0 _ rfl
  have f1 := HK.out.1 1 _ rfl
  have f2 := HK.out.1 2 _ rfl
  have f3 := HK.out.1 3 _ rfl
  go_wp2_with fail
  go_at_call 37
  refine (unhide KN _ _ (by simp)).mono ?_
  rintro e w2 ⟨a4, c4, rfl, hh4, hb⟩
  replace HK := hide ((unhide HK).call hb)
  have KL' := hide (KL.out w1 w2 a4 c4 hh4 hb)
  clear f0 f1 f2 f3 KN KL hb hh4 hcv
  go_wp2_with fail
  go_at_call 36
  refine (unhide KL').mono ?_
  rintro e w3 ⟨g3, rfl, hh3, hb⟩
  replace HK := hide ((unhide HK).call hb)
  have f0 := HK.out.1 0 _ rfl
  clear KL' hb
  go_wp2_with fail
  go_at_call 38
  refine (unhide KS g3 w3 HK.out.2.1 hh3).mono ?_
  rintro e w4 ⟨g4, rfl, hg4, hB4, hb⟩
  have hg' : w.heap.size ≤ g4 := Nat.le_trans HK.out.2.1.size hg4
  replace HK := hide ((unhide HK).call hb)
  clear f0 KS hh3 hb hg4
  go_wp2_with fail
  go_ret2
  exact ⟨g4, rfl, hg', hB4, HK.out.2.1⟩

end Go.Proofs.YtmdkcoenjadieaaDoor

/- Contracts of skerryref06.Super and skerryref06.Header: the blocks. -/
namespace Go.Proofs.YtmdkcoenjadieaaDoor
open Go.RowKit Go.Shelf
set_option linter.unusedVariables false
set_option maxRecDepth 100000

theorem refput_n (B : Nat) (a : Option Addr) (n c : Nat) (xs : List Int) (wd : Nat) (v : Int) (w : World) (m : Nat) (hm : m = n + wd) (h : Src B w a n c xs) (hB : B ≤ w.heap.size) (hw : 1 ≤ wd ∧ wd ≤ 4) (h0 : 0 ≤ v) (h1 : v ≤ 4294967296) (hn : n ≤ 140737488351232) :
    Calls Tryd.prog 40 #[.slice a n c, .int .i64 (wd : Int), .int .i64 v] w fun e w' => ∃ a' c', e = .returned (.slice a' m c') ∧ Hid (Own B w' a' m c' (xs ++ digits wd v)) ∧ Below B w w' := by
  subst hm
  exact refput_any B a n c xs wd v w h hB hw h0 h1 hn

theorem fit1 {wd : Nat} {v : Int} (h : fitB wd [v] = true) : 0 ≤ v ∧ v < 256 ^ wd := fitB_iff.1 h v (by simp)

theorem src_lit (u : World) (xs : List Int) (fr : Nat × Nat) (B : Nat) (n : Nat) (hn : xs.length = n) (hp : 0 < n) : Src B (u.alloc (.cells (xs.map (Value.int .u8)).toArray 5 fr)) (some ⟨u.heap.size, 0, none⟩) n n xs := by
  subst hn
  exact .inr ⟨has_list u xs fr, rfl, hp⟩

theorem conv_slog (u : World) : (convert 26 26 (.slice (some ⟨u.heap.size, 0, none⟩) 4 4)).run Tryd.prog (u.alloc (.cells #[.int .u8 83, .int .u8 76, .int .u8 79, .int .u8 71] 5)) = .ok (.slice (some ⟨u.heap.size, 0, none⟩) 4 4) (u.alloc (.cells #[.int .u8 83, .int .u8 76, .int .u8 79, .int .u8 71] 5 (4, 5))) :=
  Lib.run_convert_bytes_const (P := Tryd.prog) u 26 5 #[.int .u8 83, .int .u8 76, .int .u8 79, .int .u8 71] 4 4 Tryd.underlying26 Tryd.underlying5

theorem conv_skry' (u : World) : (convert 26 26 (.slice (some ⟨u.heap.size, 0, none⟩) 4 4)).run Tryd.prog (u.alloc (.cells #[.int .u8 83, .int .u8 75, .int .u8 82, .int .u8 89] 5)) = .ok (.slice (some ⟨u.heap.size, 0, none⟩) 4 4) (u.alloc (.cells #[.int .u8 83, .int .u8 75, .int .u8 82, .int .u8 89] 5 (4, 5))) :=
  Lib.run_convert_bytes_const (P := Tryd.prog) u 26 5 #[.int .u8 83, .int .u8 75, .int .u8 82, .int .u8 89] 4 4 Tryd.underlying26 Tryd.underlying5

set_option maxHeartbeats 8000000 in
theorem refSuper_good (P : Nat → Int) (b : Nat) (w : World) (h : checkE P = 0) (hb0 : P 0 = (b : Int)) :
    Calls Tryd.prog 10 #[Pv P] w fun e w' => ∃ a c, e = .returned (.tuple #[.slice a b c, .int .i64 0]) ∧ Hid (Own w.heap.size w' a b c (sumB b (supH P))) ∧ Below w.heap.size w w' := by
  have hbs := check_bounds h
  have hbd := size_bd hbs.1
  have K : Hid (∀ u, Calls Tryd.prog 39 #[Pv P] u fun r w' => r = .returned (.int .i64 0) ∧ Below u.heap.size u w') := fun u => by
    have := refCheck_any P u
    rwa [h] at this
  have HK := hide (Bx.start w (Pc P) 23)
  have hv0 : 0 ≤ P 0 ∧ P 0 ≤ 4294967296 := by omega
  have hv1 : 0 ≤ P 1 ∧ P 1 ≤ 4294967296 := by omega
  have hv2 : 0 ≤ P 2 ∧ P 2 ≤ 4294967296 := by omega
  have hv3 : 0 ≤ P 3 ∧ P 3 ≤ 4294967296 := by omega
  have hb64 : 64 ≤ b ∧ b ≤ 4096 := by omega
  have HP0 := hide hb0
  clear h hbd hbs hb0
  go_enter Tryd.func10, Tryd.ntmps10
  go_wp2_with fail
  go_at_call 39
  refine (unhide K _).mono ?_
  rintro e w1 ⟨rfl, hb⟩
  replace HK := hide ((unhide HK).call hb)
  clear K hb
  have hcv := conv_skry' w1
  have HS := hide (src_lit w1 skry (4, 5) (w1.alloc (.cells (skry.map (Value.int .u8)).toArray 5 (4, 5))).heap.size 4 rfl (by omega))
  replace HK := hide ((unhide HK).alloc (.cells (skry.map (Value.int .u8)).toArray 5 (4, 5)))
  go_upto_region 4 with fail
  change Code.wp _ _ _ _ (w1.alloc (.cells (skry.map (Value.int .u8)).toArray 5 (4, 5)))
  clear hcv
  generalize w1.alloc (.cells (skry.map (Value.int .u8)).toArray 5 (4, 5)) = W at *
  generalize w1.heap.size = g0 at *
  have HW := HK
  have HB := hide (Below.refl W.heap.size W)
  have f0 := HK.out.1 0 _ rfl
  go_wp2_with fail
  go_at_call 40
  refine (refput_n W.heap.size _ 4 _ _ 2 (P 0) _ 6 rfl (HS.out) HB.out.size ⟨by omega, by omega⟩ hv0.1 hv0.2 (by omega)).mono ?_
  rintro e w2 ⟨a1, c1, rfl, hO1, hb⟩
  replace HB := hide (HB.out.trans hb)
  replace HK := hide (Bx.call HW.out HB.out)
  clear f0 hb HS
  have f1 := HK.out.1 1 _ rfl
  go_wp2_with fail
  go_at_call 40
  refine (refput_n W.heap.size _ 6 _ _ 2 (P 1) _ 8 rfl (.inl hO1.out) HB.out.size ⟨by omega, by omega⟩ hv1.1 hv1.2 (by omega)).mono ?_
  rintro e w3 ⟨a2, c2, rfl, hO2, hb⟩
  replace HB := hide (HB.out.trans hb)
  replace HK := hide (Bx.call HW.out HB.out)
  clear f1 hb hO1
  have f2 := HK.out.1 2 _ rfl
  go_wp2_with fail
  go_at_call 40
  refine (refput_n W.heap.size _ 8 _ _ 2 (P 2) _ 10 rfl (.inl hO2.out) HB.out.size ⟨by omega, by omega⟩ hv2.1 hv2.2 (by omega)).mono ?_
  rintro e w4 ⟨a3, c3, rfl, hO3, hb⟩
  replace HB := hide (HB.out.trans hb)
  replace HK := hide (Bx.call HW.out HB.out)
  clear f2 hb hO2
  have f3 := HK.out.1 3 _ rfl
  go_wp2_with fail
  go_at_call 40
  refine (refput_n W.heap.size _ 10 _ _ 2 (P 3) _ 12 rfl (.inl hO3.out) HB.out.size ⟨by omega, by omega⟩ hv3.1 hv3.2 (by omega)).mono ?_
  rintro e w5 ⟨a4, c4, rfl, hO4, hb⟩
  replace HB := hide (HB.out.trans hb)
  replace HK := hide (Bx.call HW.out HB.out)
  clear f3 hb hO3
  have hl : skry ++ digits 2 (P 0) ++ digits 2 (P 1) ++ digits 2 (P 2) ++ digits 2 (P 3) = supH P := by simp [supH, numsB]
  have KS : Hid (Calls Tryd.prog 41 #[.slice a4 12 c4] w5 fun e w' => e = .returned (.int .i64 ((sumS (supH P) : Nat) : Int)) ∧ w5 = w') := by
    have hh := hO4.out.has
    rw [hl] at hh
    exact refSum_any _ 12 _ _ _ hh (by omega) (supH_byts P)
  have hS := sumS_lt (supH_byts P)
  have HE : Hid (Own W.heap.size w5 a4 12 c4 (supH P)) := by
    have := hO4.out
    rwa [hl] at this
  have HQ : Hid (sumB b (supH P) = layB b (supH P ++ digits 4 ((sumS (supH P) : Nat) : Int))) := rfl
  generalize sumS (supH P) = S at *
  clear hO4
  go_wp2_with fail
  go_at_call 41
  refine (unhide KS).mono ?_
  rintro e w' ⟨rfl, rfl⟩
  clear KS
  go_wp2_with fail
  go_at_call 40
  refine (refput_n W.heap.size _ 12 _ _ 4 (S : Int) _ 16 rfl (.inl HE.out) HB.out.size ⟨by omega, by omega⟩ (by omega) (by omega) (by omega)).mono ?_
  rintro e wy ⟨ay, cy, rfl, hOy, hb⟩
  replace HB := hide (HB.out.trans hb)
  replace HK := hide (Bx.call HW.out HB.out)
  clear hb HE hS
  have f0 := HK.out.1 0 _ rfl
  have KPd : Hid (Calls Tryd.prog 42 #[.slice ay 16 cy, .int .i64 (P 0)] wy fun e w' => ∃ a' c', e = .returned (.slice a' b c') ∧ Hid (Own W.heap.size w' a' b c' (layB b (supH P ++ digits 4 (S : Int)))) ∧ Below W.heap.size wy w') := by
    rw [HP0.out]
    exact padded_any W.heap.size ay 16 cy b _ wy hOy.out HB.out.size (by omega) (by omega)
  go_wp2_with fail
  go_at_call 42
  refine (unhide KPd).mono ?_
  rintro e wz ⟨az, cz, rfl, hOz, hb⟩
  replace HB := hide (HB.out.trans hb)
  have HF : Hid (Own w.heap.size wz az b cz (sumB b (supH P)) ∧ Below w.heap.size w wz) := by
    rw [HQ.out]
    exact ⟨hOz.out.base HW.out.2.1.size, HW.out.2.1.trans (HB.out.mono HW.out.2.1.size)⟩
  clear f0 KPd hb hOz HK HW HB HQ
  go_wp2_with fail
  go_ret2
  exact ⟨az, cz, rfl, HF.out.1, HF.out.2⟩

end Go.Proofs.YtmdkcoenjadieaaDoor

