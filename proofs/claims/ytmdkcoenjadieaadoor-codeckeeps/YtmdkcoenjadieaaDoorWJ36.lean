/- Joined: CReadP, CSupB. -/
import Derived.Test.YtmdkcoenjadieaaDoorWJ29
import Derived.Test.YtmdkcoenjadieaaDoorWJ26
import Derived.Test.YtmdkcoenjadieaaDoorWJ34
import Derived.Test.YtmdkcoenjadieaaDoorWJ18
import Derived.Test.YtmdkcoenjadieaaDoorWJ12
/- Contract of codec.read, of plans. -/
namespace Go.Proofs.YtmdkcoenjadieaaDoor
open Go.RowKit Go.Shelf
set_option linter.unusedVariables false
set_option maxRecDepth 100000

def zeroH : Nat → Int := fun _ => 0

set_option maxHeartbeats 8000000 in
theorem readH_err (H : Nat → Int) (g1 : Nat) (a : Option Addr) (len cap : Nat) (q : Int) (w : World) (hq : (q != 0) = true) (HT : Hid (∀ u, Below w.heap.size w u → Calls Tryd.prog 52 #[.slice a len cap] u fun e w' => e = .returned (Hv H) ∧ Below u.heap.size u w')) (HW : Hid (∀ u, Below w.heap.size w u → Calls Tryd.prog 53 #[Hv H, .pointer (some ⟨g1, 0, none⟩)] u fun e w' => e = .returned (.tuple #[.slice none 0 0, .int .i64 q]) ∧ Below u.heap.size u w')) :
    Calls Tryd.prog 51 #[.slice a len cap, .func (.func 52) #[] #[], .func (.func 53) #[] #[.pointer (some ⟨g1, 0, none⟩)]] w fun e w' => e = .returned (.tuple #[.agg #[.int .i64 0, .int .i64 0, .int .i64 0], .int .i64 4]) ∧ Below w.heap.size w w' := by
  have hb0 : Below w.heap.size w (w.alloc (.cells (#[.int .i64 0, .int .i64 0, .int .i64 0]) 25)) := (Below.refl _ w).alloc (Nat.le_refl _) _
  have HZ := hide (Bl.new w (#[.int .i64 0, .int .i64 0, .int .i64 0]) 25)
  have HB := hide hb0
  clear hb0
  go_enter Tryd.func51, Tryd.ntmps51
  go_wp2_with fail
  go_at_call 52
  refine (unhide HT _ HB.out).mono ?_
  rintro e w1 ⟨rfl, hb⟩
  replace HZ := hide ((HZ.out.call hb).alloc (.cells (Hc H) 25))
  replace HB := hide ((bchain HB.out hb (Nat.le_refl _)).alloc (bchain HB.out hb (Nat.le_refl _)).size (.cells (Hc H) 25))
  have HV := hide (Bl.new w1 (Hc H) 25)
  clear hb HT
  go_wp2_with fail
  go_at_call 53
  refine (unhide HW _ HB.out).mono ?_
  rintro e w2 ⟨rfl, hb⟩
  replace HZ := hide ((HZ.out.call hb).alloc (.cells (#[.int .i64 0, .int .i64 0, .int .i64 0]) 25))
  replace HB := hide ((bchain HB.out hb (Nat.le_refl _)).alloc (bchain HB.out hb (Nat.le_refl _)).size (.cells (#[.int .i64 0, .int .i64 0, .int .i64 0]) 25))
  clear hb HW HV
  have z0 := HZ.out.cell 0 _ rfl
  have z1 := HZ.out.cell 1 _ rfl
  have z2 := HZ.out.cell 2 _ rfl
  have hz := HZ.out.free
  go_wp2_with fail
  have hW : Below w.heap.size w (setAll (w2.alloc (.cells (#[.int .i64 0, .int .i64 0, .int .i64 0]) 25)) w.heap.size 0 [.int .i64 0, .int .i64 0, .int .i64 0]) := below_setAll (Nat.le_refl _) _ _ _ _ HB.out
  have hA : Bl (setAll (w2.alloc (.cells (#[.int .i64 0, .int .i64 0, .int .i64 0]) 25)) w.heap.size 0 [.int .i64 0, .int .i64 0, .int .i64 0]) w.heap.size (#[.int .i64 0, .int .i64 0, .int .i64 0]) 25 := setAll_whole [.int .i64 0, .int .i64 0, .int .i64 0] _ _ HZ.out rfl
  change bodyPost _ _ _ _ _ (setAll (w2.alloc (.cells (#[.int .i64 0, .int .i64 0, .int .i64 0]) 25)) w.heap.size 0 [.int .i64 0, .int .i64 0, .int .i64 0])
  generalize setAll (w2.alloc (.cells (#[.int .i64 0, .int .i64 0, .int .i64 0]) 25)) w.heap.size 0 [.int .i64 0, .int .i64 0, .int .i64 0] = wf at *
  refine bodyPost_ret (v := .tuple #[.agg #[.int .i64 0, .int .i64 0, .int .i64 0], .int .i64 4]) ?_ rfl ⟨rfl, hW⟩
  simp [results, Tryd.results51, go_sem, hA.cell 0 _ rfl, hA.cell 1 _ rfl, hA.cell 2 _ rfl]

set_option maxHeartbeats 8000000 in
theorem readH_other (H : Nat → Int) (g1 : Nat) (a : Option Addr) (len cap : Nat) (w : World) (xs zs : List Int) (hh : Has w a len zs) (hz0 : ∀ z ∈ zs, 0 ≤ z ∧ z ≤ 255) (hx : ∀ z ∈ xs, 0 ≤ z ∧ z ≤ 255) (he : decide (xs = zs) = false) (HT : Hid (∀ u, Below w.heap.size w u → Calls Tryd.prog 52 #[.slice a len cap] u fun e w' => e = .returned (Hv H) ∧ Below u.heap.size u w')) (HW : Hid (∀ u, Below w.heap.size w u → Calls Tryd.prog 53 #[Hv H, .pointer (some ⟨g1, 0, none⟩)] u fun e w' => ∃ a' n' c', e = .returned (.tuple #[.slice a' n' c', .int .i64 0]) ∧ Hid (Has w' a' n' xs) ∧ Below u.heap.size u w')) :
    Calls Tryd.prog 51 #[.slice a len cap, .func (.func 52) #[] #[], .func (.func 53) #[] #[.pointer (some ⟨g1, 0, none⟩)]] w fun e w' => e = .returned (.tuple #[.agg #[.int .i64 0, .int .i64 0, .int .i64 0], .int .i64 4]) ∧ Below w.heap.size w w' := by
  have HH := hide hh
  clear hh
  have hb0 : Below w.heap.size w (w.alloc (.cells (#[.int .i64 0, .int .i64 0, .int .i64 0]) 25)) := (Below.refl _ w).alloc (Nat.le_refl _) _
  have HZ := hide (Bl.new w (#[.int .i64 0, .int .i64 0, .int .i64 0]) 25)
  have HB := hide hb0
  clear hb0
  go_enter Tryd.func51, Tryd.ntmps51
  go_wp2_with fail
  go_at_call 52
  refine (unhide HT _ HB.out).mono ?_
  rintro e w1 ⟨rfl, hb⟩
  replace HZ := hide ((HZ.out.call hb).alloc (.cells (Hc H) 25))
  replace HB := hide ((bchain HB.out hb (Nat.le_refl _)).alloc (bchain HB.out hb (Nat.le_refl _)).size (.cells (Hc H) 25))
  have HV := hide (Bl.new w1 (Hc H) 25)
  clear hb HT
  go_wp2_with fail
  go_at_call 53
  refine (unhide HW _ HB.out).mono ?_
  rintro e w2 ⟨a', n', c', rfl, hx', hb⟩
  replace HZ := hide (HZ.out.call hb)
  replace HB := hide (bchain HB.out hb (Nat.le_refl _))
  replace HV := hide (HV.out.call hb)
  have KE : Hid (Calls Tryd.prog 73 #[.slice a' n' c', .slice a len cap] w2 fun e w' => e = .returned (.bool false) ∧ w2 = w') := by
    have := equal_any a' a n' c' len cap xs zs w2 hx'.out ((HH.out).later HB.out) hx hz0
    rwa [he] at this
  clear hb HW hx'
  go_wp2_with fail
  go_at_call 73
  refine (unhide KE).mono ?_
  rintro e w' ⟨rfl, rfl⟩
  clear KE
  replace HZ := hide (HZ.out.alloc (.cells (#[.int .i64 0, .int .i64 0, .int .i64 0]) 25))
  replace HB := hide (HB.out.alloc HB.out.size (.cells (#[.int .i64 0, .int .i64 0, .int .i64 0]) 25))
  clear HV HH hz0 hx he
  have z0 := HZ.out.cell 0 _ rfl
  have z1 := HZ.out.cell 1 _ rfl
  have z2 := HZ.out.cell 2 _ rfl
  have hz := HZ.out.free
  go_wp2_with fail
  have hW : Below w.heap.size w (setAll (w2.alloc (.cells (#[.int .i64 0, .int .i64 0, .int .i64 0]) 25)) w.heap.size 0 [.int .i64 0, .int .i64 0, .int .i64 0]) := below_setAll (Nat.le_refl _) _ _ _ _ HB.out
  have hA : Bl (setAll (w2.alloc (.cells (#[.int .i64 0, .int .i64 0, .int .i64 0]) 25)) w.heap.size 0 [.int .i64 0, .int .i64 0, .int .i64 0]) w.heap.size (#[.int .i64 0, .int .i64 0, .int .i64 0]) 25 := setAll_whole [.int .i64 0, .int .i64 0, .int .i64 0] _ _ HZ.out rfl
  change bodyPost _ _ _ _ _ (setAll (w2.alloc (.cells (#[.int .i64 0, .int .i64 0, .int .i64 0]) 25)) w.heap.size 0 [.int .i64 0, .int .i64 0, .int .i64 0])
  generalize setAll (w2.alloc (.cells (#[.int .i64 0, .int .i64 0, .int .i64 0]) 25)) w.heap.size 0 [.int .i64 0, .int .i64 0, .int .i64 0] = wf at *
  refine bodyPost_ret (v := .tuple #[.agg #[.int .i64 0, .int .i64 0, .int .i64 0], .int .i64 4]) ?_ rfl ⟨rfl, hW⟩
  simp [results, Tryd.results51, go_sem, hA.cell 0 _ rfl, hA.cell 1 _ rfl, hA.cell 2 _ rfl]

set_option maxHeartbeats 8000000 in
theorem readH_same (H : Nat → Int) (g1 : Nat) (a : Option Addr) (len cap : Nat) (w : World) (xs zs : List Int) (hh : Has w a len zs) (hz0 : ∀ z ∈ zs, 0 ≤ z ∧ z ≤ 255) (hx : ∀ z ∈ xs, 0 ≤ z ∧ z ≤ 255) (he : decide (xs = zs) = true) (HT : Hid (∀ u, Below w.heap.size w u → Calls Tryd.prog 52 #[.slice a len cap] u fun e w' => e = .returned (Hv H) ∧ Below u.heap.size u w')) (HW : Hid (∀ u, Below w.heap.size w u → Calls Tryd.prog 53 #[Hv H, .pointer (some ⟨g1, 0, none⟩)] u fun e w' => ∃ a' n' c', e = .returned (.tuple #[.slice a' n' c', .int .i64 0]) ∧ Hid (Has w' a' n' xs) ∧ Below u.heap.size u w')) :
    Calls Tryd.prog 51 #[.slice a len cap, .func (.func 52) #[] #[], .func (.func 53) #[] #[.pointer (some ⟨g1, 0, none⟩)]] w fun e w' => e = .returned (.tuple #[Hv H, .int .i64 0]) ∧ Below w.heap.size w w' := by
  have HH := hide hh
  clear hh
  have hb0 : Below w.heap.size w (w.alloc (.cells (#[.int .i64 0, .int .i64 0, .int .i64 0]) 25)) := (Below.refl _ w).alloc (Nat.le_refl _) _
  have HZ := hide (Bl.new w (#[.int .i64 0, .int .i64 0, .int .i64 0]) 25)
  have HB := hide hb0
  clear hb0
  go_enter Tryd.func51, Tryd.ntmps51
  go_wp2_with fail
  go_at_call 52
  refine (unhide HT _ HB.out).mono ?_
  rintro e w1 ⟨rfl, hb⟩
  replace HZ := hide ((HZ.out.call hb).alloc (.cells (Hc H) 25))
  replace HB := hide ((bchain HB.out hb (Nat.le_refl _)).alloc (bchain HB.out hb (Nat.le_refl _)).size (.cells (Hc H) 25))
  have HV := hide (Bl.new w1 (Hc H) 25)
  clear hb HT
  go_wp2_with fail
  go_at_call 53
  refine (unhide HW _ HB.out).mono ?_
  rintro e w2 ⟨a', n', c', rfl, hx', hb⟩
  replace HZ := hide (HZ.out.call hb)
  replace HB := hide (bchain HB.out hb (Nat.le_refl _))
  replace HV := hide (HV.out.call hb)
  have KE : Hid (Calls Tryd.prog 73 #[.slice a' n' c', .slice a len cap] w2 fun e w' => e = .returned (.bool true) ∧ w2 = w') := by
    have := equal_any a' a n' c' len cap xs zs w2 hx'.out ((HH.out).later HB.out) hx hz0
    rwa [he] at this
  clear hb HW hx'
  go_wp2_with fail
  go_at_call 73
  refine (unhide KE).mono ?_
  rintro e w' ⟨rfl, rfl⟩
  clear KE
  clear HH hz0 hx he
  have z0 := HZ.out.cell 0 _ rfl
  have z1 := HZ.out.cell 1 _ rfl
  have z2 := HZ.out.cell 2 _ rfl
  have v0 := HV.out.cell 0 _ rfl
  have v1 := HV.out.cell 1 _ rfl
  have v2 := HV.out.cell 2 _ rfl
  have hz := HZ.out.free
  go_wp2_with fail
  have hW : Below w.heap.size w (setAll w2 w.heap.size 0 [.int .i64 (H 0), .int .i64 (H 1), .int .i64 (H 2)]) := below_setAll (Nat.le_refl _) _ _ _ _ HB.out
  have hA : Bl (setAll w2 w.heap.size 0 [.int .i64 (H 0), .int .i64 (H 1), .int .i64 (H 2)]) w.heap.size (Hc H) 25 := setAll_whole [.int .i64 (H 0), .int .i64 (H 1), .int .i64 (H 2)] _ _ HZ.out rfl
  change bodyPost _ _ _ _ _ (setAll w2 w.heap.size 0 [.int .i64 (H 0), .int .i64 (H 1), .int .i64 (H 2)])
  generalize setAll w2 w.heap.size 0 [.int .i64 (H 0), .int .i64 (H 1), .int .i64 (H 2)] = wf at *
  refine bodyPost_ret (v := .tuple #[Hv H, .int .i64 0]) ?_ rfl ⟨rfl, hW⟩
  simp [results, Tryd.results51, go_sem, hA.cell 0 _ rfl, hA.cell 1 _ rfl, hA.cell 2 _ rfl]

set_option maxHeartbeats 8000000 in
theorem readP_err (P : Nat → Int) (a : Option Addr) (len cap : Nat) (q : Int) (w : World) (hq : (q != 0) = true) (HT : Hid (∀ u, Below w.heap.size w u → Calls Tryd.prog 48 #[.slice a len cap] u fun e w' => e = .returned (Pv P) ∧ Below u.heap.size u w')) (HW : Hid (∀ u, Below w.heap.size w u → Calls Tryd.prog 9 #[Pv P] u fun e w' => e = .returned (.tuple #[.slice none 0 0, .int .i64 q]) ∧ Below u.heap.size u w')) :
    Calls Tryd.prog 47 #[.slice a len cap, .func (.func 48) #[] #[], .func (.func 9) #[] #[]] w fun e w' => e = .returned (.tuple #[.agg #[.int .i64 0, .int .i64 0, .int .i64 0, .int .i64 0, .int .i64 0, .int .i64 0, .int .i64 0, .int .i64 0, .int .i64 0, .int .i64 0, .int .i64 0, .int .i64 0], .int .i64 4]) ∧ Below w.heap.size w w' := by
  have hb0 : Below w.heap.size w (w.alloc (.cells (#[.int .i64 0, .int .i64 0, .int .i64 0, .int .i64 0, .int .i64 0, .int .i64 0, .int .i64 0, .int .i64 0, .int .i64 0, .int .i64 0, .int .i64 0, .int .i64 0]) 23)) := (Below.refl _ w).alloc (Nat.le_refl _) _
  have HZ := hide (Bl.new w (#[.int .i64 0, .int .i64 0, .int .i64 0, .int .i64 0, .int .i64 0, .int .i64 0, .int .i64 0, .int .i64 0, .int .i64 0, .int .i64 0, .int .i64 0, .int .i64 0]) 23)
  have HB := hide hb0
  clear hb0
  go_enter Tryd.func47, Tryd.ntmps47
  go_wp2_with fail
  go_at_call 48
  refine (unhide HT _ HB.out).mono ?_
  rintro e w1 ⟨rfl, hb⟩
  replace HZ := hide ((HZ.out.call hb).alloc (.cells (Pc P) 23))
  replace HB := hide ((bchain HB.out hb (Nat.le_refl _)).alloc (bchain HB.out hb (Nat.le_refl _)).size (.cells (Pc P) 23))
  have HV := hide (Bl.new w1 (Pc P) 23)
  clear hb HT
  go_wp2_with fail
  go_at_call 9
  refine (unhide HW _ HB.out).mono ?_
  rintro e w2 ⟨rfl, hb⟩
  replace HZ := hide ((HZ.out.call hb).alloc (.cells (#[.int .i64 0, .int .i64 0, .int .i64 0, .int .i64 0, .int .i64 0, .int .i64 0, .int .i64 0, .int .i64 0, .int .i64 0, .int .i64 0, .int .i64 0, .int .i64 0]) 23))
  replace HB := hide ((bchain HB.out hb (Nat.le_refl _)).alloc (bchain HB.out hb (Nat.le_refl _)).size (.cells (#[.int .i64 0, .int .i64 0, .int .i64 0, .int .i64 0, .int .i64 0, .int .i64 0, .int .i64 0, .int .i64 0, .int .i64 0, .int .i64 0, .int .i64 0, .int .i64 0]) 23))
  clear hb HW HV
  have z0 := HZ.out.cell 0 _ rfl
  have z1 := HZ.out.cell 1 _ rfl
  have z2 := HZ.out.cell 2 _ rfl
  have z3 := HZ.out.cell 3 _ rfl
  have z4 := HZ.out.cell 4 _ rfl
  have z5 := HZ.out.cell 5 _ rfl
  have z6 := HZ.out.cell 6 _ rfl
  have z7 := HZ.out.cell 7 _ rfl
  have z8 := HZ.out.cell 8 _ rfl
  have z9 := HZ.out.cell 9 _ rfl
  have z10 := HZ.out.cell 10 _ rfl
  have z11 := HZ.out.cell 11 _ rfl
  have hz := HZ.out.free
  go_wp2_with fail
  have hW : Below w.heap.size w (setAll (w2.alloc (.cells (#[.int .i64 0, .int .i64 0, .int .i64 0, .int .i64 0, .int .i64 0, .int .i64 0, .int .i64 0, .int .i64 0, .int .i64 0, .int .i64 0, .int .i64 0, .int .i64 0]) 23)) w.heap.size 0 [.int .i64 0, .int .i64 0, .int .i64 0, .int .i64 0, .int .i64 0, .int .i64 0, .int .i64 0, .int .i64 0, .int .i64 0, .int .i64 0, .int .i64 0, .int .i64 0]) := below_setAll (Nat.le_refl _) _ _ _ _ HB.out
  have hA : Bl (setAll (w2.alloc (.cells (#[.int .i64 0, .int .i64 0, .int .i64 0, .int .i64 0, .int .i64 0, .int .i64 0, .int .i64 0, .int .i64 0, .int .i64 0, .int .i64 0, .int .i64 0, .int .i64 0]) 23)) w.heap.size 0 [.int .i64 0, .int .i64 0, .int .i64 0, .int .i64 0, .int .i64 0, .int .i64 0, .int .i64 0, .int .i64 0, .int .i64 0, .int .i64 0, .int .i64 0, .int .i64 0]) w.heap.size (#[.int .i64 0, .int .i64 0, .int .i64 0, .int .i64 0, .int .i64 0, .int .i64 0, .int .i64 0, .int .i64 0, .int .i64 0, .int .i64 0, .int .i64 0, .int .i64 0]) 23 := setAll_whole [.int .i64 0, .int .i64 0, .int .i64 0, .int .i64 0, .int .i64 0, .int .i64 0, .int .i64 0, .int .i64 0, .int .i64 0, .int .i64 0, .int .i64 0, .int .i64 0] _ _ HZ.out rfl
  change bodyPost _ _ _ _ _ (setAll (w2.alloc (.cells (#[.int .i64 0, .int .i64 0, .int .i64 0, .int .i64 0, .int .i64 0, .int .i64 0, .int .i64 0, .int .i64 0, .int .i64 0, .int .i64 0, .int .i64 0, .int .i64 0]) 23)) w.heap.size 0 [.int .i64 0, .int .i64 0, .int .i64 0, .int .i64 0, .int .i64 0, .int .i64 0, .int .i64 0, .int .i64 0, .int .i64 0, .int .i64 0, .int .i64 0, .int .i64 0])
  generalize setAll (w2.alloc (.cells (#[.int .i64 0, .int .i64 0, .int .i64 0, .int .i64 0, .int .i64 0, .int .i64 0, .int .i64 0, .int .i64 0, .int .i64 0, .int .i64 0, .int .i64 0, .int .i64 0]) 23)) w.heap.size 0 [.int .i64 0, .int .i64 0, .int .i64 0, .int .i64 0, .int .i64 0, .int .i64 0, .int .i64 0, .int .i64 0, .int .i64 0, .int .i64 0, .int .i64 0, .int .i64 0] = wf at *
  refine bodyPost_ret (v := .tuple #[.agg #[.int .i64 0, .int .i64 0, .int .i64 0, .int .i64 0, .int .i64 0, .int .i64 0, .int .i64 0, .int .i64 0, .int .i64 0, .int .i64 0, .int .i64 0, .int .i64 0], .int .i64 4]) ?_ rfl ⟨rfl, hW⟩
  simp [results, Tryd.results47, go_sem, hA.cell 0 _ rfl, hA.cell 1 _ rfl, hA.cell 2 _ rfl, hA.cell 3 _ rfl, hA.cell 4 _ rfl, hA.cell 5 _ rfl, hA.cell 6 _ rfl, hA.cell 7 _ rfl, hA.cell 8 _ rfl, hA.cell 9 _ rfl, hA.cell 10 _ rfl, hA.cell 11 _ rfl]

set_option maxHeartbeats 8000000 in
theorem readP_other (P : Nat → Int) (a : Option Addr) (len cap : Nat) (w : World) (xs zs : List Int) (hh : Has w a len zs) (hz0 : ∀ z ∈ zs, 0 ≤ z ∧ z ≤ 255) (hx : ∀ z ∈ xs, 0 ≤ z ∧ z ≤ 255) (he : decide (xs = zs) = false) (HT : Hid (∀ u, Below w.heap.size w u → Calls Tryd.prog 48 #[.slice a len cap] u fun e w' => e = .returned (Pv P) ∧ Below u.heap.size u w')) (HW : Hid (∀ u, Below w.heap.size w u → Calls Tryd.prog 9 #[Pv P] u fun e w' => ∃ a' n' c', e = .returned (.tuple #[.slice a' n' c', .int .i64 0]) ∧ Hid (Has w' a' n' xs) ∧ Below u.heap.size u w')) :
    Calls Tryd.prog 47 #[.slice a len cap, .func (.func 48) #[] #[], .func (.func 9) #[] #[]] w fun e w' => e = .returned (.tuple #[.agg #[.int .i64 0, .int .i64 0, .int .i64 0, .int .i64 0, .int .i64 0, .int .i64 0, .int .i64 0, .int .i64 0, .int .i64 0, .int .i64 0, .int .i64 0, .int .i64 0], .int .i64 4]) ∧ Below w.heap.size w w' := by
  have HH := hide hh
  clear hh
  have hb0 : Below w.heap.size w (w.alloc (.cells (#[.int .i64 0, .int .i64 0, .int .i64 0, .int .i64 0, .int .i64 0, .int .i64 0, .int .i64 0, .int .i64 0, .int .i64 0, .int .i64 0, .int .i64 0, .int .i64 0]) 23)) := (Below.refl _ w).alloc (Nat.le_refl _) _
  have HZ := hide (Bl.new w (#[.int .i64 0, .int .i64 0, .int .i64 0, .int .i64 0, .int .i64 0, .int .i64 0, .int .i64 0, .int .i64 0, .int .i64 0, .int .i64 0, .int .i64 0, .int .i64 0]) 23)
  have HB := hide hb0
  clear hb0
  go_enter Tryd.func47, Tryd.ntmps47
  go_wp2_with fail
  go_at_call 48
  refine (unhide HT _ HB.out).mono ?_
  rintro e w1 ⟨rfl, hb⟩
  replace HZ := hide ((HZ.out.call hb).alloc (.cells (Pc P) 23))
  replace HB := hide ((bchain HB.out hb (Nat.le_refl _)).alloc (bchain HB.out hb (Nat.le_refl _)).size (.cells (Pc P) 23))
  have HV := hide (Bl.new w1 (Pc P) 23)
  clear hb HT
  go_wp2_with fail
  go_at_call 9
  refine (unhide HW _ HB.out).mono ?_
  rintro e w2 ⟨a', n', c', rfl, hx', hb⟩
  replace HZ := hide (HZ.out.call hb)
  replace HB := hide (bchain HB.out hb (Nat.le_refl _))
  replace HV := hide (HV.out.call hb)
  have KE : Hid (Calls Tryd.prog 73 #[.slice a' n' c', .slice a len cap] w2 fun e w' => e = .returned (.bool false) ∧ w2 = w') := by
    have := equal_any a' a n' c' len cap xs zs w2 hx'.out ((HH.out).later HB.out) hx hz0
    rwa [he] at this
  clear hb HW hx'
  go_wp2_with fail
  go_at_call 73
  refine (unhide KE).mono ?_
  rintro e w' ⟨rfl, rfl⟩
  clear KE
  replace HZ := hide (HZ.out.alloc (.cells (#[.int .i64 0, .int .i64 0, .int .i64 0, .int .i64 0, .int .i64 0, .int .i64 0, .int .i64 0, .int .i64 0, .int .i64 0, .int .i64 0, .int .i64 0, .int .i64 0]) 23))
  replace HB := hide (HB.out.alloc HB.out.size (.cells (#[.int .i64 0, .int .i64 0, .int .i64 0, .int .i64 0, .int .i64 0, .int .i64 0, .int .i64 0, .int .i64 0, .int .i64 0, .int .i64 0, .int .i64 0, .int .i64 0]) 23))
  clear HV HH hz0 hx he
  have z0 := HZ.out.cell 0 _ rfl
  have z1 := HZ.out.cell 1 _ rfl
  have z2 := HZ.out.cell 2 _ rfl
  have z3 := HZ.out.cell 3 _ rfl
  have z4 := HZ.out.cell 4 _ rfl
  have z5 := HZ.out.cell 5 _ rfl
  have z6 := HZ.out.cell 6 _ rfl
  have z7 := HZ.out.cell 7 _ rfl
  have z8 := HZ.out.cell 8 _ rfl
  have z9 := HZ.out.cell 9 _ rfl
  have z10 := HZ.out.cell 10 _ rfl
  have z11 := HZ.out.cell 11 _ rfl
  have hz := HZ.out.free
  go_wp2_with fail
  have hW : Below w.heap.size w (setAll (w2.alloc (.cells (#[.int .i64 0, .int .i64 0, .int .i64 0, .int .i64 0, .int .i64 0, .int .i64 0, .int .i64 0, .int .i64 0, .int .i64 0, .int .i64 0, .int .i64 0, .int .i64 0]) 23)) w.heap.size 0 [.int .i64 0, .int .i64 0, .int .i64 0, .int .i64 0, .int .i64 0, .int .i64 0, .int .i64 0, .int .i64 0, .int .i64 0, .int .i64 0, .int .i64 0, .int .i64 0]) := below_setAll (Nat.le_refl _) _ _ _ _ HB.out
  have hA : Bl (setAll (w2.alloc (.cells (#[.int .i64 0, .int .i64 0, .int .i64 0, .int .i64 0, .int .i64 0, .int .i64 0, .int .i64 0, .int .i64 0, .int .i64 0, .int .i64 0, .int .i64 0, .int .i64 0]) 23)) w.heap.size 0 [.int .i64 0, .int .i64 0, .int .i64 0, .int .i64 0, .int .i64 0, .int .i64 0, .int .i64 0, .int .i64 0, .int .i64 0, .int .i64 0, .int .i64 0, .int .i64 0]) w.heap.size (#[.int .i64 0, .int .i64 0, .int .i64 0, .int .i64 0, .int .i64 0, .int .i64 0, .int .i64 0, .int .i64 0, .int .i64 0, .int .i64 0, .int .i64 0, .int .i64 0]) 23 := setAll_whole [.int .i64 0, .int .i64 0, .int .i64 0, .int .i64 0, .int .i64 0, .int .i64 0, .int .i64 0, .int .i64 0, .int .i64 0, .int .i64 0, .int .i64 0, .int .i64 0] _ _ HZ.out rfl
  change bodyPost _ _ _ _ _ (setAll (w2.alloc (.cells (#[.int .i64 0, .int .i64 0, .int .i64 0, .int .i64 0, .int .i64 0, .int .i64 0, .int .i64 0, .int .i64 0, .int .i64 0, .int .i64 0, .int .i64 0, .int .i64 0]) 23)) w.heap.size 0 [.int .i64 0, .int .i64 0, .int .i64 0, .int .i64 0, .int .i64 0, .int .i64 0, .int .i64 0, .int .i64 0, .int .i64 0, .int .i64 0, .int .i64 0, .int .i64 0])
  generalize setAll (w2.alloc (.cells (#[.int .i64 0, .int .i64 0, .int .i64 0, .int .i64 0, .int .i64 0, .int .i64 0, .int .i64 0, .int .i64 0, .int .i64 0, .int .i64 0, .int .i64 0, .int .i64 0]) 23)) w.heap.size 0 [.int .i64 0, .int .i64 0, .int .i64 0, .int .i64 0, .int .i64 0, .int .i64 0, .int .i64 0, .int .i64 0, .int .i64 0, .int .i64 0, .int .i64 0, .int .i64 0] = wf at *
  refine bodyPost_ret (v := .tuple #[.agg #[.int .i64 0, .int .i64 0, .int .i64 0, .int .i64 0, .int .i64 0, .int .i64 0, .int .i64 0, .int .i64 0, .int .i64 0, .int .i64 0, .int .i64 0, .int .i64 0], .int .i64 4]) ?_ rfl ⟨rfl, hW⟩
  simp [results, Tryd.results47, go_sem, hA.cell 0 _ rfl, hA.cell 1 _ rfl, hA.cell 2 _ rfl, hA.cell 3 _ rfl, hA.cell 4 _ rfl, hA.cell 5 _ rfl, hA.cell 6 _ rfl, hA.cell 7 _ rfl, hA.cell 8 _ rfl, hA.cell 9 _ rfl, hA.cell 10 _ rfl, hA.cell 11 _ rfl]

set_option maxHeartbeats 8000000 in
theorem readP_same (P : Nat → Int) (a : Option Addr) (len cap : Nat) (w : World) (xs zs : List Int) (hh : Has w a len zs) (hz0 : ∀ z ∈ zs, 0 ≤ z ∧ z ≤ 255) (hx : ∀ z ∈ xs, 0 ≤ z ∧ z ≤ 255) (he : decide (xs = zs) = true) (HT : Hid (∀ u, Below w.heap.size w u → Calls Tryd.prog 48 #[.slice a len cap] u fun e w' => e = .returned (Pv P) ∧ Below u.heap.size u w')) (HW : Hid (∀ u, Below w.heap.size w u → Calls Tryd.prog 9 #[Pv P] u fun e w' => ∃ a' n' c', e = .returned (.tuple #[.slice a' n' c', .int .i64 0]) ∧ Hid (Has w' a' n' xs) ∧ Below u.heap.size u w')) :
    Calls Tryd.prog 47 #[.slice a len cap, .func (.func 48) #[] #[], .func (.func 9) #[] #[]] w fun e w' => e = .returned (.tuple #[Pv P, .int .i64 0]) ∧ Below w.heap.size w w' := by
  have HH := hide hh
  clear hh
  have hb0 : Below w.heap.size w (w.alloc (.cells (#[.int .i64 0, .int .i64 0, .int .i64 0, .int .i64 0, .int .i64 0, .int .i64 0, .int .i64 0, .int .i64 0, .int .i64 0, .int .i64 0, .int .i64 0, .int .i64 0]) 23)) := (Below.refl _ w).alloc (Nat.le_refl _) _
  have HZ := hide (Bl.new w (#[.int .i64 0, .int .i64 0, .int .i64 0, .int .i64 0, .int .i64 0, .int .i64 0, .int .i64 0, .int .i64 0, .int .i64 0, .int .i64 0, .int .i64 0, .int .i64 0]) 23)
  have HB := hide hb0
  clear hb0
  go_enter Tryd.func47, Tryd.ntmps47
  go_wp2_with fail
  go_at_call 48
  refine (unhide HT _ HB.out).mono ?_
  rintro e w1 ⟨rfl, hb⟩
  replace HZ := hide ((HZ.out.call hb).alloc (.cells (Pc P) 23))
  replace HB := hide ((bchain HB.out hb (Nat.le_refl _)).alloc (bchain HB.out hb (Nat.le_refl _)).size (.cells (Pc P) 23))
  have HV := hide (Bl.new w1 (Pc P) 23)
  clear hb HT
  go_wp2_with fail
  go_at_call 9
  refine (unhide HW _ HB.out).mono ?_
  rintro e w2 ⟨a', n', c', rfl, hx', hb⟩
  replace HZ := hide (HZ.out.call hb)
  replace HB := hide (bchain HB.out hb (Nat.le_refl _))
  replace HV := hide (HV.out.call hb)
  have KE : Hid (Calls Tryd.prog 73 #[.slice a' n' c', .slice a len cap] w2 fun e w' => e = .returned (.bool true) ∧ w2 = w') := by
    have := equal_any a' a n' c' len cap xs zs w2 hx'.out ((HH.out).later HB.out) hx hz0
    rwa [he] at this
  clear hb HW hx'
  go_wp2_with fail
  go_at_call 73
  refine (unhide KE).mono ?_
  rintro e w' ⟨rfl, rfl⟩
  clear KE
  clear HH hz0 hx he
  have z0 := HZ.out.cell 0 _ rfl
  have z1 := HZ.out.cell 1 _ rfl
  have z2 := HZ.out.cell 2 _ rfl
  have z3 := HZ.out.cell 3 _ rfl
  have z4 := HZ.out.cell 4 _ rfl
  have z5 := HZ.out.cell 5 _ rfl
  have z6 := HZ.out.cell 6 _ rfl
  have z7 := HZ.out.cell 7 _ rfl
  have z8 := HZ.out.cell 8 _ rfl
  have z9 := HZ.out.cell 9 _ rfl
  have z10 := HZ.out.cell 10 _ rfl
  have z11 := HZ.out.cell 11 _ rfl
  have v0 := HV.out.cell 0 _ rfl
  have v1 := HV.out.cell 1 _ rfl
  have v2 := HV.out.cell 2 _ rfl
  have v3 := HV.out.cell 3 _ rfl
  have v4 := HV.out.cell 4 _ rfl
  have v5 := HV.out.cell 5 _ rfl
  have v6 := HV.out.cell 6 _ rfl
  have v7 := HV.out.cell 7 _ rfl
  have v8 := HV.out.cell 8 _ rfl
  have v9 := HV.out.cell 9 _ rfl
  have v10 := HV.out.cell 10 _ rfl
  have v11 := HV.out.cell 11 _ rfl
  have hz := HZ.out.free
  go_wp2_with fail
  have hW : Below w.heap.size w (setAll w2 w.heap.size 0 [.int .i64 (P 0), .int .i64 (P 1), .int .i64 (P 2), .int .i64 (P 3), .int .i64 (P 4), .int .i64 (P 5), .int .i64 (P 6), .int .i64 (P 7), .int .i64 (P 8), .int .i64 (P 9), .int .i64 (P 10), .int .i64 (P 11)]) := below_setAll (Nat.le_refl _) _ _ _ _ HB.out
  have hA : Bl (setAll w2 w.heap.size 0 [.int .i64 (P 0), .int .i64 (P 1), .int .i64 (P 2), .int .i64 (P 3), .int .i64 (P 4), .int .i64 (P 5), .int .i64 (P 6), .int .i64 (P 7), .int .i64 (P 8), .int .i64 (P 9), .int .i64 (P 10), .int .i64 (P 11)]) w.heap.size (Pc P) 23 := setAll_whole [.int .i64 (P 0), .int .i64 (P 1), .int .i64 (P 2), .int .i64 (P 3), .int .i64 (P 4), .int .i64 (P 5), .int .i64 (P 6), .int .i64 (P 7), .int .i64 (P 8), .int .i64 (P 9), .int .i64 (P 10), .int .i64 (P 11)] _ _ HZ.out rfl
  change bodyPost _ _ _ _ _ (setAll w2 w.heap.size 0 [.int .i64 (P 0), .int .i64 (P 1), .int .i64 (P 2), .int .i64 (P 3), .int .i64 (P 4), .int .i64 (P 5), .int .i64 (P 6), .int .i64 (P 7), .int .i64 (P 8), .int .i64 (P 9), .int .i64 (P 10), .int .i64 (P 11)])
  generalize setAll w2 w.heap.size 0 [.int .i64 (P 0), .int .i64 (P 1), .int .i64 (P 2), .int .i64 (P 3), .int .i64 (P 4), .int .i64 (P 5), .int .i64 (P 6), .int .i64 (P 7), .int .i64 (P 8), .int .i64 (P 9), .int .i64 (P 10), .int .i64 (P 11)] = wf at *
  refine bodyPost_ret (v := .tuple #[Pv P, .int .i64 0]) ?_ rfl ⟨rfl, hW⟩
  simp [results, Tryd.results47, go_sem, hA.cell 0 _ rfl, hA.cell 1 _ rfl, hA.cell 2 _ rfl, hA.cell 3 _ rfl, hA.cell 4 _ rfl, hA.cell 5 _ rfl, hA.cell 6 _ rfl, hA.cell 7 _ rfl, hA.cell 8 _ rfl, hA.cell 9 _ rfl, hA.cell 10 _ rfl, hA.cell 11 _ rfl]

end Go.Proofs.YtmdkcoenjadieaaDoor

/- Contracts of codec.Super and skerryref06.Super. -/
namespace Go.Proofs.YtmdkcoenjadieaaDoor
open Go.RowKit Go.Shelf
set_option linter.unusedVariables false
set_option maxRecDepth 100000

/-- S K R Y. -/
def skry : List Int := [83, 75, 82, 89]

/-- The twelve bytes ahead of a superblock's sum. -/
def supH (P : Nat → Int) : List Int := skry ++ numsB 2 [P 0, P 1, P 2, P 3]

theorem supH_length (P : Nat → Int) : (supH P).length = 12 := by simp [supH, skry, length_numsB]

theorem skry_byts : Byts skry := by intro z hz; simp [skry] at hz; omega

theorem supH_byts (P : Nat → Int) : Byts (supH P) := by
  intro z hz
  simp only [supH, List.mem_append] at hz
  rcases hz with hz | hz
  · exact skry_byts z hz
  · exact numsB_byte _ _ z hz

/-- What a sound plan's first numbers are. -/
theorem check_bounds {P : Nat → Int} (h : checkE P = 0) : isSize (P 0) ∧ 1 ≤ P 1 ∧ P 1 ≤ 4096 ∧ 2 ≤ P 2 ∧ P 2 ≤ 1024 ∧ 4 ≤ P 3 ∧ P 3 ≤ 512 := by
  have he : makeE (P 0) (P 1) (P 2) (P 3) = 0 := by
    by_cases h0 : makeE (P 0) (P 1) (P 2) (P 3) = 0
    · exact h0
    · rw [checkE_bad h0] at h; omega
  by_cases hb : badArg (P 0) (P 1) (P 2) (P 3)
  · rw [makeE_bad hb] at he; omega
  · obtain ⟨h1, h2, h3, h4⟩ := good_arg hb
    exact ⟨h1, by omega, by omega, by omega, by omega, by omega, by omega⟩

theorem check_fit {P : Nat → Int} (h : checkE P = 0) : fitB 2 [P 0, P 1, P 2, P 3] = true := by
  obtain ⟨h0, h1⟩ := check_bounds h
  have := size_bd h0
  rw [fitB_iff]
  intro v hv
  simp only [List.mem_cons, List.not_mem_nil, or_false] at hv
  rcases hv with rfl | rfl | rfl | rfl <;> omega

set_option maxHeartbeats 4000000 in
theorem super_bad (P : Nat → Int) (w : World) (h : checkE P ≠ 0) :
    Calls Tryd.prog 9 #[Pv P] w fun e w' => e = .returned (.tuple #[.slice none 0 0, .int .i64 4]) ∧ Below w.heap.size w w' := by
  have K : Hid (∀ u, Calls Tryd.prog 35 #[Pv P] u fun r w' => r = .returned (.int .i64 4) ∧ Below u.heap.size u w') := fun u => by
    have := check_any P u
    rcases checkE_two P with h0 | h0
    · exact absurd h0 h
    · rwa [h0] at this
  have HK := hide (Bx.start w (Pc P) 23)

  clear h
  go_enter Tryd.func9, Tryd.ntmps9
  go_wp2_with fail
  go_at_call 35
  refine (unhide K _).mono ?_
  rintro e w1 ⟨rfl, hb⟩
  replace HK := hide ((unhide HK).call hb)
  skip
  clear K hb
  go_wp2_with fail
  go_ret2
  exact ⟨rfl, HK.out.2.1⟩

set_option maxHeartbeats 4000000 in
theorem refSuper_bad (P : Nat → Int) (w : World) (h : checkE P ≠ 0) :
    Calls Tryd.prog 10 #[Pv P] w fun e w' => e = .returned (.tuple #[.slice none 0 0, .int .i64 4]) ∧ Below w.heap.size w w' := by
  have K : Hid (∀ u, Calls Tryd.prog 39 #[Pv P] u fun r w' => r = .returned (.int .i64 4) ∧ Below u.heap.size u w') := fun u => by
    have := refCheck_any P u
    rcases checkE_two P with h0 | h0
    · exact absurd h0 h
    · rwa [h0] at this
  have HK := hide (Bx.start w (Pc P) 23)

  clear h
  go_enter Tryd.func10, Tryd.ntmps10
  go_wp2_with fail
  go_at_call 39
  refine (unhide K _).mono ?_
  rintro e w1 ⟨rfl, hb⟩
  replace HK := hide ((unhide HK).call hb)
  skip
  clear K hb
  go_wp2_with fail
  go_ret2
  exact ⟨rfl, HK.out.2.1⟩

/-- []byte("SKRY"): the row and its mark. -/
theorem conv_skry (u : World) : (convert 26 26 (.slice (some ⟨u.heap.size, 0, none⟩) 4 4)).run Tryd.prog (u.alloc (.cells #[.int .u8 83, .int .u8 75, .int .u8 82, .int .u8 89] 5)) = .ok (.slice (some ⟨u.heap.size, 0, none⟩) 4 4) (u.alloc (.cells #[.int .u8 83, .int .u8 75, .int .u8 82, .int .u8 89] 5 (4, 5))) :=
  Lib.run_convert_bytes_const (P := Tryd.prog) u 26 5 #[.int .u8 83, .int .u8 75, .int .u8 82, .int .u8 89] 4 4 Tryd.underlying26 Tryd.underlying5

set_option maxHeartbeats 8000000 in
theorem super_good (P : Nat → Int) (b : Nat) (w : World) (h : checkE P = 0) (hb0 : P 0 = (b : Int)) (hT : Tab w) :
    Calls Tryd.prog 9 #[Pv P] w fun e w' => ∃ g, e = .returned (.tuple #[.slice (some ⟨g, 0, none⟩) b b, .int .i64 0]) ∧ w.heap.size ≤ g ∧ Hid (Block w' g (sumB b (supH P))) ∧ Below w.heap.size w w' := by
  have hbd := size_bd (check_bounds h).1
  have K : Hid (∀ u, Calls Tryd.prog 35 #[Pv P] u fun r w' => r = .returned (.int .i64 0) ∧ Below u.heap.size u w') := fun u => by
    have := check_any P u
    rwa [h] at this
  have HK := hide (Bx.start w (Pc P) 23)
  have KN : Hid (∀ (u : World) (n : Nat), u.heap.size = n → Calls Tryd.prog 37 #[.int .i64 2, .slice (some ⟨n, 0, none⟩) 4 4] (u.alloc (.cells #[.int .i64 (P 0), .int .i64 (P 1), .int .i64 (P 2), .int .i64 (P 3)] 3)) fun e w' => ∃ a4 c4, e = .returned (.slice a4 8 c4) ∧ Hid (Has w' a4 8 (numsB 2 [P 0, P 1, P 2, P 3])) ∧ Below u.heap.size u w') := by
    rintro u n rfl
    refine (numbers_any 2 (.inr (.inl rfl)) _ 4 4 [P 0, P 1, P 2, P 3] _ (ihas_list u [P 0, P 1, P 2, P 3]) (by omega) (check_fit h) 8 rfl).mono ?_
    rintro e w' ⟨a', c', rfl, hO, hb⟩
    exact ⟨a', c', rfl, hO.out.has, bchain ((Below.refl _ u).alloc (Nat.le_refl _) _) hb (Nat.le_refl _)⟩
  have KL : Hid (∀ (u u2 : World) a4 c4, Hid (Has u2 a4 8 (numsB 2 [P 0, P 1, P 2, P 3])) → Below (u.alloc (.cells #[.int .u8 83, .int .u8 75, .int .u8 82, .int .u8 89] 5 (4, 5))).heap.size (u.alloc (.cells #[.int .u8 83, .int .u8 75, .int .u8 82, .int .u8 89] 5 (4, 5))) u2 → Calls Tryd.prog 36 #[.int .i64 12, .slice (some ⟨u2.heap.size, 0, none⟩) 2 2] (u2.alloc (.cells #[.slice (some ⟨u.heap.size, 0, none⟩) 4 4, .slice a4 8 c4] 26)) fun e w' => ∃ g, e = .returned (.slice (some ⟨g, 0, none⟩) 12 12) ∧ Hid (Has w' (some ⟨g, 0, none⟩) 12 (supH P)) ∧ Below u2.heap.size u2 w') := by
    intro u u2 a4 c4 h4 hb
    have hp := phas_list u2 [(some ⟨u.heap.size, 0, none⟩, 4, 4, skry), (a4, 8, c4, numsB 2 [P 0, P 1, P 2, P 3])] (by
      intro p hp
      simp only [List.mem_cons, List.not_mem_nil, or_false] at hp
      rcases hp with rfl | rfl
      · exact (has_list u skry (4, 5)).later hb
      · exact h4.out)
    have hall : allP [(some ⟨u.heap.size, 0, none⟩, 4, 4, skry), (a4, 8, c4, numsB 2 [P 0, P 1, P 2, P 3])] = supH P := by simp [allP, supH]
    refine (clay_any 12 _ 2 2 _ _ hp (by omega) (by rw [hall, supH_length]; omega) (by omega)).mono ?_
    rintro e w' ⟨rfl, hB, hb2⟩
    rw [hall, layB_full (supH_length P)] at hB
    exact ⟨_, rfl, hB.out.has (supH_length P), bchain ((Below.refl _ u2).alloc (Nat.le_refl _) _) hb2 (Nat.le_refl _)⟩
  have KS : Hid (∀ g u, Below w.heap.size w u → Hid (Has u (some ⟨g, 0, none⟩) 12 (supH P)) → Calls Tryd.prog 38 #[.slice (some ⟨g, 0, none⟩) 12 12, .int .i64 (P 0)] u fun e w' => ∃ g, e = .returned (.slice (some ⟨g, 0, none⟩) b b) ∧ u.heap.size ≤ g ∧ Hid (Block w' g (sumB b (supH P))) ∧ Below u.heap.size u w') := by
    intro g u hb hh
    rw [hb0]
    exact summed_any _ 12 12 (supH P) b u hh.out (supH_byts P) (hT.below hb (tab_size hT)) (by omega) (by omega)

  clear h hb0 hT hbd
  go_enter Tryd.func9, Tryd.ntmps9
  go_wp2_with fail
  go_at_call 35
  refine (unhide K _).mono ?_
  rintro e w1 ⟨rfl, hb⟩
  replace HK := hide ((unhide HK).call hb)
  skip
  clear K hb
  have hcv := conv_skry w1
  replace HK := hide ((unhide HK).alloc (.cells #[.int .u8 83, .int .u8 75, .int .u8 82, .int .u8 89] 5 (4, 5)))
  have f0 := HK.out.1 0 _ rfl
  have f1 := HK.out.1 1 _ rfl
  have f2 := HK.out.1 2 _ rfl
  have f3 := HK.out.1 3 _ rfl
  go_wp2_with fail
  go_at_call 37
  refine (unhide KN _ _ (by simp)).mono ?_
  rintro e w2 ⟨a4, c4, rfl, hh4, hb⟩
  replace HK := hide ((unhide HK).call hb)
  have KL' := hide (KL.out w1 w2 a4 c4 hh4 hb)
  clear f0 f1 f2 f3 KN KL hb hh4 hcv
  go_wp2_with fail
  go_at_call 36
  refine (unhide KL').mono ?_
  rintro e w3 ⟨g3, rfl, hh3, hb⟩
  replace HK := hide ((unhide HK).call hb)
  have f0 := HK.out.1 0 _ rfl
  clear KL' hb
  go_wp2_with fail
  go_at_call 38
  refine (unhide KS g3 w3 HK.out.2.1 hh3).mono ?_
  rintro e w4 ⟨g4, rfl, hg4, hB4, hb⟩
  have hg' : w.heap.size ≤ g4 := Nat.le_trans HK.out.2.1.size hg4
  replace HK := hide ((unhide HK).call hb)
  clear f0 KS hh3 hb hg4
  go_wp2_with fail
  go_ret2
  exact ⟨g4, rfl, hg', hB4, HK.out.2.1⟩

end Go.Proofs.YtmdkcoenjadieaaDoor

