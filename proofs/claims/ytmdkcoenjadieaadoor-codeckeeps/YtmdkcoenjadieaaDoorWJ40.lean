/- Joined: CRUnQ, CAns. -/
import Derived.Test.YtmdkcoenjadieaaDoorWCUn
import Derived.Test.YtmdkcoenjadieaaDoorWJ38
import Derived.Test.YtmdkcoenjadieaaDoorWJ36
import Derived.Test.YtmdkcoenjadieaaDoorWJ34
/- Contract of skerryref06.Unsuper. -/
namespace Go.Proofs.YtmdkcoenjadieaaDoor
open Go.RowKit Go.Shelf
set_option linter.unusedVariables false
set_option maxRecDepth 100000

theorem str_neq {xs ys : List Int} (hx : ∀ z ∈ xs, 0 ≤ z ∧ z ≤ 255) (hy : ∀ z ∈ ys, 0 ≤ z ∧ z ≤ 255) (r : Bool) (h : decide (xs = ys) = !r) : (!((strOfNums xs).toList == (strOfNums ys).toList)) = r := by
  rw [str_eq_decide hx hy, h, Bool.not_not]

set_option maxHeartbeats 4000000 in
theorem refUnheader_size (a : Option Addr) (len cap : Nat) (w : World) (hl : len ≤ 140737488351232) (h : ¬ isSize (len : Int)) :
    Calls Tryd.prog 16 #[.slice a len cap] w fun e w' => e = .returned (.tuple #[.agg #[.int .i64 0, .int .i64 0, .int .i64 0], .int .i64 4]) ∧ Below w.heap.size w w' := by
  have K : Hid (∀ u, Calls Tryd.prog 45 #[.int .i64 (len : Int)] u fun e w' => e = .returned (.bool false) ∧ u = w') := fun u => size_no _ u h
  have HZ := hide (Bl.new w #[.int .i64 0, .int .i64 0, .int .i64 0] 25)
  have HB := hide ((Below.refl _ w).alloc (Nat.le_refl _) (.cells #[.int .i64 0, .int .i64 0, .int .i64 0] 25))
  clear h
  go_enter Tryd.func16, Tryd.ntmps16
  go_wp2_with fail
  go_at_call 45
  refine (unhide K _).mono ?_
  rintro e w' ⟨rfl, rfl⟩
  clear K
  have hA := HZ.out
  go_wp2_with fail
  change bodyPost _ _ _ _ _ (w.alloc (.cells #[.int .i64 0, .int .i64 0, .int .i64 0] 25))
  have hW := HB.out
  generalize w.alloc (.cells #[.int .i64 0, .int .i64 0, .int .i64 0] 25) = wf at *
  refine bodyPost_ret (v := .tuple #[.agg #[.int .i64 0, .int .i64 0, .int .i64 0], .int .i64 4]) ?_ rfl ⟨rfl, hW⟩
  simp [results, Tryd.results16, go_sem, hA.cell 0 _ rfl, hA.cell 1 _ rfl, hA.cell 2 _ rfl]

set_option maxHeartbeats 8000000 in
theorem refUnheader_cmp (a : Option Addr) (len cap : Nat) (zs : List Int) (w : World) (hr : Row w.heap.size w a len cap zs) (h : isSize (len : Int)) (r : Bool) (hd : decide (sumB len (hdrH (hdrOf zs)) = zs) = !r) :
    Calls Tryd.prog 16 #[.slice a len cap] w fun e w' => e = .returned (.tuple #[if r then .agg #[.int .i64 0, .int .i64 0, .int .i64 0] else Hv (hdrOf zs), .int .i64 (if r then 4 else 0)]) ∧ Below w.heap.size w w' := by
  have hl := hr.2.2.1.1
  have K : Hid (∀ u, Calls Tryd.prog 45 #[.int .i64 (len : Int)] u fun e w' => e = .returned (.bool true) ∧ u = w') := fun u => size_yes _ u h
  have KG : Hid (∀ (at' n : Int) (u : World), at' ≤ 1000 → Below w.heap.size w u → Calls Tryd.prog 50 #[.slice a len cap, .int .i64 at', .int .i64 n] u fun e w' => e = .returned (.int .i64 (getVal zs at' n)) ∧ u = w') :=
    fun at' n u h1 hb => num_drop0 a len cap zs at' n u (hr.below hb hb.size) (by omega)
  have KH : Hid (∀ u, Below w.heap.size w u → Calls Tryd.prog 12 #[Hv (hdrOf zs), .int .i64 (len : Int)] u fun e w' => ∃ a' c', e = .returned (.tuple #[.slice a' len c', .int .i64 0]) ∧ (∀ n, (convert 26 9 (.slice a' len c')).run Tryd.prog (w'.drewN n) = .ok (.string (strOfNums (sumB len (hdrH (hdrOf zs))))) (w'.drewN n)) ∧ (convert 26 9 (.slice a' len c')).run Tryd.prog w' = .ok (.string (strOfNums (sumB len (hdrH (hdrOf zs))))) w' ∧ (convert 26 9 (.slice a len cap)).run Tryd.prog w' = .ok (.string (strOfNums zs)) w' ∧ Below u.heap.size u w') := by
    intro u hb
    refine (refHeader_good (hdrOf zs) len u h (hdrF_of hr.byts)).mono ?_
    rintro e w' ⟨a', c', rfl, hO, hb'⟩
    have hru := (hr.below hb hb.size).below hb' hb'.size
    exact ⟨a', c', rfl, fun n => (hO.out.has.drewN n).conv c', hO.out.has.conv c', hru.has.conv cap, hb'⟩
  have hne := str_neq (sumB_byts (b := len) (hdrH_byts (hdrOf zs))) hr.byts r hd
  have HZ := hide (Bl.new w #[.int .i64 0, .int .i64 0, .int .i64 0] 25)
  have HB := hide ((Below.refl _ w).alloc (Nat.le_refl _) (.cells #[.int .i64 0, .int .i64 0, .int .i64 0] 25))
  clear h hr hd
  generalize strOfNums (sumB len (hdrH (hdrOf zs))) = S1 at *
  generalize strOfNums zs = S2 at *
  go_enter Tryd.func16, Tryd.ntmps16
  go_wp2_with fail
  go_at_call 45
  refine (unhide K _).mono ?_
  rintro e w' ⟨rfl, rfl⟩
  clear K
  go_wp2_with fail
  go_at_call 50
  refine (unhide KG _ _ _ (by omega) HB.out).mono ?_
  rintro e w' ⟨rfl, rfl⟩
  go_wp2_with fail
  go_at_call 50
  refine (unhide KG _ _ _ (by omega) HB.out).mono ?_
  rintro e w' ⟨rfl, rfl⟩
  go_wp2_with fail
  go_at_call 50
  refine (unhide KG _ _ _ (by omega) HB.out).mono ?_
  rintro e w' ⟨rfl, rfl⟩
  clear KG
  replace HZ := hide (HZ.out.alloc (.cells (Hc (hdrOf zs)) 25))
  replace HB := hide (HB.out.alloc HB.out.size (.cells (Hc (hdrOf zs)) 25))
  have HV := hide (Bl.new (w.alloc (.cells #[.int .i64 0, .int .i64 0, .int .i64 0] 25)) (Hc (hdrOf zs)) 25)
  go_upto_region 4 with fail
  change Code.wp _ _ _ _ ((w.alloc (.cells #[.int .i64 0, .int .i64 0, .int .i64 0] 25)).alloc (.cells (Hc (hdrOf zs)) 25))
  have e1 : (w.alloc (.cells #[.int .i64 0, .int .i64 0, .int .i64 0] 25)).heap.size = w.heap.size + 1 := by simp
  rw [e1] at HV
  generalize (w.alloc (.cells #[.int .i64 0, .int .i64 0, .int .i64 0] 25)).alloc (.cells (Hc (hdrOf zs)) 25) = W at *
  clear e1
  generalize hH : hdrOf zs = H at *
  have HH := hide hH
  clear hH
  have v0 := HV.out.cell 0 _ rfl
  have v1 := HV.out.cell 1 _ rfl
  have v2 := HV.out.cell 2 _ rfl
  go_wp2_with fail
  go_at_call 12
  refine (unhide KH _ HB.out).mono ?_
  rintro e w2 ⟨a', c', rfl, cvn, cv1, cv2, hb⟩
  replace HB := hide (bchain HB.out hb (Nat.le_refl _))
  replace HZ := hide (HZ.out.call hb)
  replace HV := hide (HV.out.call hb)
  clear hb KH cvn v0 v1 v2
  have hz := HZ.out.free
  have v0 := HV.out.cell 0 _ rfl
  have v1 := HV.out.cell 1 _ rfl
  have v2 := HV.out.cell 2 _ rfl
  have z0 := HZ.out.cell 0 _ rfl
  have z1 := HZ.out.cell 1 _ rfl
  have z2 := HZ.out.cell 2 _ rfl
  cases r
  · go_wp2_with fail
    have hW : Below w.heap.size w (setAll w2 (w.heap.size) 0 [.int .i64 (H 0), .int .i64 (H 1), .int .i64 (H 2)]) := below_setAll (by omega) _ _ _ _ HB.out
    have hA : Bl (setAll w2 (w.heap.size) 0 [.int .i64 (H 0), .int .i64 (H 1), .int .i64 (H 2)]) (w.heap.size) #[.int .i64 (H 0), .int .i64 (H 1), .int .i64 (H 2)] 25 := setAll_whole [.int .i64 (H 0), .int .i64 (H 1), .int .i64 (H 2)] _ _ HZ.out rfl
    change bodyPost _ _ _ _ _ (setAll w2 (w.heap.size) 0 [.int .i64 (H 0), .int .i64 (H 1), .int .i64 (H 2)])
    generalize setAll w2 (w.heap.size) 0 [.int .i64 (H 0), .int .i64 (H 1), .int .i64 (H 2)] = wf at *
    refine bodyPost_ret (v := .tuple #[Hv H, .int .i64 0]) ?_ rfl ⟨by first | rfl | simp only [HH.out], hW⟩
    simp [results, Tryd.results16, go_sem, hA.cell 0 _ rfl, hA.cell 1 _ rfl, hA.cell 2 _ rfl]

  · go_wp2_with fail
    have hW : Below w.heap.size w (setAll w2 (w.heap.size) 0 [.int .i64 0, .int .i64 0, .int .i64 0]) := below_setAll (by omega) _ _ _ _ HB.out
    have hA : Bl (setAll w2 (w.heap.size) 0 [.int .i64 0, .int .i64 0, .int .i64 0]) (w.heap.size) #[.int .i64 0, .int .i64 0, .int .i64 0] 25 := setAll_whole [.int .i64 0, .int .i64 0, .int .i64 0] _ _ HZ.out rfl
    change bodyPost _ _ _ _ _ (setAll w2 (w.heap.size) 0 [.int .i64 0, .int .i64 0, .int .i64 0])
    generalize setAll w2 (w.heap.size) 0 [.int .i64 0, .int .i64 0, .int .i64 0] = wf at *
    refine bodyPost_ret (v := .tuple #[.agg #[.int .i64 0, .int .i64 0, .int .i64 0], .int .i64 4]) ?_ rfl ⟨by first | rfl | simp only [HH.out], hW⟩
    simp [results, Tryd.results16, go_sem, hA.cell 0 _ rfl, hA.cell 1 _ rfl, hA.cell 2 _ rfl]

theorem check_made {b bl ino lg : Int} (h : makeE b bl ino lg = 0) : checkE (makeP b bl ino lg) = 0 := by
  rw [makeP_ok h]
  have e : makeP (planOf b bl ino lg 0) (planOf b bl ino lg 1) (planOf b bl ino lg 2) (planOf b bl ino lg 3) = planOf b bl ino lg := makeP_ok h
  exact checkE_ok h (fun k _ => by rw [e])

theorem check_zeroP : checkE zeroP = 4 := checkE_bad (by rw [makeE_bad (.inl (by unfold isSize zeroP; omega))]; omega)

set_option maxHeartbeats 4000000 in
theorem refUnsuper_size (a : Option Addr) (len cap : Nat) (w : World) (hl : len ≤ 140737488351232) (h : ¬ isSize (len : Int)) :
    Calls Tryd.prog 14 #[.slice a len cap] w fun e w' => e = .returned (.tuple #[.agg #[.int .i64 0, .int .i64 0, .int .i64 0, .int .i64 0, .int .i64 0, .int .i64 0, .int .i64 0, .int .i64 0, .int .i64 0, .int .i64 0, .int .i64 0, .int .i64 0], .int .i64 4]) ∧ Below w.heap.size w w' := by
  have K : Hid (∀ u, Calls Tryd.prog 45 #[.int .i64 (len : Int)] u fun e w' => e = .returned (.bool false) ∧ u = w') := fun u => size_no _ u h
  have HZ := hide (Bl.new w #[.int .i64 0, .int .i64 0, .int .i64 0, .int .i64 0, .int .i64 0, .int .i64 0, .int .i64 0, .int .i64 0, .int .i64 0, .int .i64 0, .int .i64 0, .int .i64 0] 23)
  have HB := hide ((Below.refl _ w).alloc (Nat.le_refl _) (.cells #[.int .i64 0, .int .i64 0, .int .i64 0, .int .i64 0, .int .i64 0, .int .i64 0, .int .i64 0, .int .i64 0, .int .i64 0, .int .i64 0, .int .i64 0, .int .i64 0] 23))
  clear h
  go_enter Tryd.func14, Tryd.ntmps14
  go_wp2_with fail
  go_at_call 45
  refine (unhide K _).mono ?_
  rintro e w' ⟨rfl, rfl⟩
  clear K
  have hA := HZ.out
  go_wp2_with fail
  change bodyPost _ _ _ _ _ (w.alloc (.cells #[.int .i64 0, .int .i64 0, .int .i64 0, .int .i64 0, .int .i64 0, .int .i64 0, .int .i64 0, .int .i64 0, .int .i64 0, .int .i64 0, .int .i64 0, .int .i64 0] 23))
  have hW := HB.out
  generalize w.alloc (.cells #[.int .i64 0, .int .i64 0, .int .i64 0, .int .i64 0, .int .i64 0, .int .i64 0, .int .i64 0, .int .i64 0, .int .i64 0, .int .i64 0, .int .i64 0, .int .i64 0] 23) = wf at *
  refine bodyPost_ret (v := .tuple #[.agg #[.int .i64 0, .int .i64 0, .int .i64 0, .int .i64 0, .int .i64 0, .int .i64 0, .int .i64 0, .int .i64 0, .int .i64 0, .int .i64 0, .int .i64 0, .int .i64 0], .int .i64 4]) ?_ rfl ⟨rfl, hW⟩
  simp [results, Tryd.results14, go_sem, hA.cell 0 _ rfl, hA.cell 1 _ rfl, hA.cell 2 _ rfl, hA.cell 3 _ rfl, hA.cell 4 _ rfl, hA.cell 5 _ rfl, hA.cell 6 _ rfl, hA.cell 7 _ rfl, hA.cell 8 _ rfl, hA.cell 9 _ rfl, hA.cell 10 _ rfl, hA.cell 11 _ rfl]

set_option maxHeartbeats 8000000 in
theorem refUnsuper_make (a : Option Addr) (len cap : Nat) (zs : List Int) (w : World) (hr : Row w.heap.size w a len cap zs) (h : isSize (len : Int)) (q : Int) (hm : makeE (getVal zs 4 2) (getVal zs 6 2) (getVal zs 8 2) (getVal zs 10 2) = q) (hq : (q != 0) = true) :
    Calls Tryd.prog 14 #[.slice a len cap] w fun e w' => e = .returned (.tuple #[.agg #[.int .i64 0, .int .i64 0, .int .i64 0, .int .i64 0, .int .i64 0, .int .i64 0, .int .i64 0, .int .i64 0, .int .i64 0, .int .i64 0, .int .i64 0, .int .i64 0], .int .i64 4]) ∧ Below w.heap.size w w' := by
  have hl := hr.2.2.1.1
  have K : Hid (∀ u, Calls Tryd.prog 45 #[.int .i64 (len : Int)] u fun e w' => e = .returned (.bool true) ∧ u = w') := fun u => size_yes _ u h
  have KG : Hid (∀ (at' n : Int) (u : World), at' ≤ 1000 → Below w.heap.size w u → Calls Tryd.prog 50 #[.slice a len cap, .int .i64 at', .int .i64 n] u fun e w' => e = .returned (.int .i64 (getVal zs at' n)) ∧ u = w') :=
    fun at' n u h1 hb => num_drop0 a len cap zs at' n u (hr.below hb hb.size) (by omega)
  have KM : Hid (∀ u, Calls Tryd.prog 49 #[.int .i64 (getVal zs 4 2), .int .i64 (getVal zs 6 2), .int .i64 (getVal zs 8 2), .int .i64 (getVal zs 10 2)] u fun r w' => r = .returned (.tuple #[Pv (supOf zs), .int .i64 q]) ∧ Below u.heap.size u w') := fun u => by
    have := refMake_any (getVal zs 4 2) (getVal zs 6 2) (getVal zs 8 2) (getVal zs 10 2) u
    rwa [hm] at this
  have HZ := hide (Bl.new w #[.int .i64 0, .int .i64 0, .int .i64 0, .int .i64 0, .int .i64 0, .int .i64 0, .int .i64 0, .int .i64 0, .int .i64 0, .int .i64 0, .int .i64 0, .int .i64 0] 23)
  have HB := hide ((Below.refl _ w).alloc (Nat.le_refl _) (.cells #[.int .i64 0, .int .i64 0, .int .i64 0, .int .i64 0, .int .i64 0, .int .i64 0, .int .i64 0, .int .i64 0, .int .i64 0, .int .i64 0, .int .i64 0, .int .i64 0] 23))
  clear h hr hm
  generalize supOf zs = P at *
  go_enter Tryd.func14, Tryd.ntmps14
  go_wp2_with fail
  go_at_call 45
  refine (unhide K _).mono ?_
  rintro e w' ⟨rfl, rfl⟩
  clear K
  go_wp2_with fail
  go_at_call 50
  refine (unhide KG _ _ _ (by omega) HB.out).mono ?_
  rintro e w' ⟨rfl, rfl⟩
  go_wp2_with fail
  go_at_call 50
  refine (unhide KG _ _ _ (by omega) HB.out).mono ?_
  rintro e w' ⟨rfl, rfl⟩
  go_wp2_with fail
  go_at_call 50
  refine (unhide KG _ _ _ (by omega) HB.out).mono ?_
  rintro e w' ⟨rfl, rfl⟩
  go_wp2_with fail
  go_at_call 50
  refine (unhide KG _ _ _ (by omega) HB.out).mono ?_
  rintro e w' ⟨rfl, rfl⟩
  clear KG
  go_wp2_with fail
  go_at_call 49
  refine (unhide KM _).mono ?_
  rintro e w1 ⟨rfl, hb⟩
  replace HB := hide ((bchain HB.out hb (Nat.le_refl _)).alloc (bchain HB.out hb (Nat.le_refl _)).size (.cells (Pc P) 23))
  replace HZ := hide ((HZ.out.call hb).alloc (.cells (Pc P) 23))
  have HV := hide (Bl.new w1 (Pc P) 23)
  clear hb KM
  go_upto_region 4 with fail
  change Code.wp _ _ _ _ (w1.alloc (.cells (Pc P) 23))
  generalize w1.alloc (.cells (Pc P) 23) = W at *
  generalize w1.heap.size = g1 at *
  have hz := HZ.out.free
  have z0 := HZ.out.cell 0 _ rfl
  have z1 := HZ.out.cell 1 _ rfl
  have z2 := HZ.out.cell 2 _ rfl
  have z3 := HZ.out.cell 3 _ rfl
  have z4 := HZ.out.cell 4 _ rfl
  have z5 := HZ.out.cell 5 _ rfl
  have z6 := HZ.out.cell 6 _ rfl
  have z7 := HZ.out.cell 7 _ rfl
  have z8 := HZ.out.cell 8 _ rfl
  have z9 := HZ.out.cell 9 _ rfl
  have z10 := HZ.out.cell 10 _ rfl
  have z11 := HZ.out.cell 11 _ rfl
  go_wp2_with fail
  have hW : Below w.heap.size w (setAll W (w.heap.size) 0 [.int .i64 0, .int .i64 0, .int .i64 0, .int .i64 0, .int .i64 0, .int .i64 0, .int .i64 0, .int .i64 0, .int .i64 0, .int .i64 0, .int .i64 0, .int .i64 0]) := below_setAll (by omega) _ _ _ _ HB.out
  have hA : Bl (setAll W (w.heap.size) 0 [.int .i64 0, .int .i64 0, .int .i64 0, .int .i64 0, .int .i64 0, .int .i64 0, .int .i64 0, .int .i64 0, .int .i64 0, .int .i64 0, .int .i64 0, .int .i64 0]) (w.heap.size) #[.int .i64 0, .int .i64 0, .int .i64 0, .int .i64 0, .int .i64 0, .int .i64 0, .int .i64 0, .int .i64 0, .int .i64 0, .int .i64 0, .int .i64 0, .int .i64 0] 23 := setAll_whole [.int .i64 0, .int .i64 0, .int .i64 0, .int .i64 0, .int .i64 0, .int .i64 0, .int .i64 0, .int .i64 0, .int .i64 0, .int .i64 0, .int .i64 0, .int .i64 0] _ _ HZ.out rfl
  change bodyPost _ _ _ _ _ (setAll W (w.heap.size) 0 [.int .i64 0, .int .i64 0, .int .i64 0, .int .i64 0, .int .i64 0, .int .i64 0, .int .i64 0, .int .i64 0, .int .i64 0, .int .i64 0, .int .i64 0, .int .i64 0])
  generalize setAll W (w.heap.size) 0 [.int .i64 0, .int .i64 0, .int .i64 0, .int .i64 0, .int .i64 0, .int .i64 0, .int .i64 0, .int .i64 0, .int .i64 0, .int .i64 0, .int .i64 0, .int .i64 0] = wf at *
  refine bodyPost_ret (v := .tuple #[.agg #[.int .i64 0, .int .i64 0, .int .i64 0, .int .i64 0, .int .i64 0, .int .i64 0, .int .i64 0, .int .i64 0, .int .i64 0, .int .i64 0, .int .i64 0, .int .i64 0], .int .i64 4]) ?_ rfl ⟨by first | rfl | simp only [HH.out], hW⟩
  simp [results, Tryd.results14, go_sem, hA.cell 0 _ rfl, hA.cell 1 _ rfl, hA.cell 2 _ rfl, hA.cell 3 _ rfl, hA.cell 4 _ rfl, hA.cell 5 _ rfl, hA.cell 6 _ rfl, hA.cell 7 _ rfl, hA.cell 8 _ rfl, hA.cell 9 _ rfl, hA.cell 10 _ rfl, hA.cell 11 _ rfl]

set_option maxHeartbeats 8000000 in
theorem refUnsuper_cmp (a : Option Addr) (len cap : Nat) (zs : List Int) (w : World) (hr : Row w.heap.size w a len cap zs) (h : isSize (len : Int)) (hm : makeE (getVal zs 4 2) (getVal zs 6 2) (getVal zs 8 2) (getVal zs 10 2) = 0) (r : Bool) (hd : decide (sumB (supOf zs 0).toNat (supH (supOf zs)) = zs) = !r) :
    Calls Tryd.prog 14 #[.slice a len cap] w fun e w' => e = .returned (.tuple #[if r then .agg #[.int .i64 0, .int .i64 0, .int .i64 0, .int .i64 0, .int .i64 0, .int .i64 0, .int .i64 0, .int .i64 0, .int .i64 0, .int .i64 0, .int .i64 0, .int .i64 0] else Pv (supOf zs), .int .i64 (if r then 4 else 0)]) ∧ Below w.heap.size w w' := by
  have hl := hr.2.2.1.1
  have hck : checkE (supOf zs) = 0 := check_made hm
  have K : Hid (∀ u, Calls Tryd.prog 45 #[.int .i64 (len : Int)] u fun e w' => e = .returned (.bool true) ∧ u = w') := fun u => size_yes _ u h
  have KG : Hid (∀ (at' n : Int) (u : World), at' ≤ 1000 → Below w.heap.size w u → Calls Tryd.prog 50 #[.slice a len cap, .int .i64 at', .int .i64 n] u fun e w' => e = .returned (.int .i64 (getVal zs at' n)) ∧ u = w') :=
    fun at' n u h1 hb => num_drop0 a len cap zs at' n u (hr.below hb hb.size) (by omega)
  have KM : Hid (∀ u, Calls Tryd.prog 49 #[.int .i64 (getVal zs 4 2), .int .i64 (getVal zs 6 2), .int .i64 (getVal zs 8 2), .int .i64 (getVal zs 10 2)] u fun r w' => r = .returned (.tuple #[Pv (supOf zs), .int .i64 0]) ∧ Below u.heap.size u w') := fun u => by
    have := refMake_any (getVal zs 4 2) (getVal zs 6 2) (getVal zs 8 2) (getVal zs 10 2) u
    rwa [hm] at this
  have KH : Hid (∀ u, Below w.heap.size w u → Calls Tryd.prog 10 #[Pv (supOf zs)] u fun e w' => ∃ a' n' c', e = .returned (.tuple #[.slice a' n' c', .int .i64 0]) ∧ (convert 26 9 (.slice a' n' c')).run Tryd.prog w' = .ok (.string (strOfNums (sumB (supOf zs 0).toNat (supH (supOf zs))))) w' ∧ (convert 26 9 (.slice a len cap)).run Tryd.prog w' = .ok (.string (strOfNums zs)) w' ∧ Below u.heap.size u w') := by
    intro u hb
    refine (refSuper_good (supOf zs) _ u hck (sup_size hck)).mono ?_
    rintro e w' ⟨a', c', rfl, hO, hb'⟩
    have hru := (hr.below hb hb.size).below hb' hb'.size
    exact ⟨a', _, c', rfl, hO.out.has.conv c', hru.has.conv cap, hb'⟩
  have hne := str_neq (sumB_byts (b := (supOf zs 0).toNat) (supH_byts (supOf zs))) hr.byts r hd
  have HZ := hide (Bl.new w #[.int .i64 0, .int .i64 0, .int .i64 0, .int .i64 0, .int .i64 0, .int .i64 0, .int .i64 0, .int .i64 0, .int .i64 0, .int .i64 0, .int .i64 0, .int .i64 0] 23)
  have HB := hide ((Below.refl _ w).alloc (Nat.le_refl _) (.cells #[.int .i64 0, .int .i64 0, .int .i64 0, .int .i64 0, .int .i64 0, .int .i64 0, .int .i64 0, .int .i64 0, .int .i64 0, .int .i64 0, .int .i64 0, .int .i64 0] 23))
  clear h hr hd hm hck
  generalize strOfNums (sumB (supOf zs 0).toNat (supH (supOf zs))) = S1 at *
  generalize strOfNums zs = S2 at *
  generalize supOf zs = P at *
  go_enter Tryd.func14, Tryd.ntmps14
  go_wp2_with fail
  go_at_call 45
  refine (unhide K _).mono ?_
  rintro e w' ⟨rfl, rfl⟩
  clear K
  go_wp2_with fail
  go_at_call 50
  refine (unhide KG _ _ _ (by omega) HB.out).mono ?_
  rintro e w' ⟨rfl, rfl⟩
  go_wp2_with fail
  go_at_call 50
  refine (unhide KG _ _ _ (by omega) HB.out).mono ?_
  rintro e w' ⟨rfl, rfl⟩
  go_wp2_with fail
  go_at_call 50
  refine (unhide KG _ _ _ (by omega) HB.out).mono ?_
  rintro e w' ⟨rfl, rfl⟩
  go_wp2_with fail
  go_at_call 50
  refine (unhide KG _ _ _ (by omega) HB.out).mono ?_
  rintro e w' ⟨rfl, rfl⟩
  clear KG
  go_wp2_with fail
  go_at_call 49
  refine (unhide KM _).mono ?_
  rintro e w1 ⟨rfl, hb⟩
  replace HB := hide ((bchain HB.out hb (Nat.le_refl _)).alloc (bchain HB.out hb (Nat.le_refl _)).size (.cells (Pc P) 23))
  replace HZ := hide ((HZ.out.call hb).alloc (.cells (Pc P) 23))
  have HV := hide (Bl.new w1 (Pc P) 23)
  clear hb KM
  go_upto_region 4 with fail
  change Code.wp _ _ _ _ (w1.alloc (.cells (Pc P) 23))
  generalize w1.alloc (.cells (Pc P) 23) = W at *
  generalize w1.heap.size = g1 at *
  have v0 := HV.out.cell 0 _ rfl
  have v1 := HV.out.cell 1 _ rfl
  have v2 := HV.out.cell 2 _ rfl
  have v3 := HV.out.cell 3 _ rfl
  have v4 := HV.out.cell 4 _ rfl
  have v5 := HV.out.cell 5 _ rfl
  have v6 := HV.out.cell 6 _ rfl
  have v7 := HV.out.cell 7 _ rfl
  have v8 := HV.out.cell 8 _ rfl
  have v9 := HV.out.cell 9 _ rfl
  have v10 := HV.out.cell 10 _ rfl
  have v11 := HV.out.cell 11 _ rfl
  go_wp2_with fail
  go_at_call 10
  refine (unhide KH _ HB.out).mono ?_
  rintro e w2 ⟨a', n', c', rfl, cv1, cv2, hb⟩
  replace HB := hide (bchain HB.out hb (Nat.le_refl _))
  replace HZ := hide (HZ.out.call hb)
  replace HV := hide (HV.out.call hb)
  clear hb KH v0 v1 v2 v3 v4 v5 v6 v7 v8 v9 v10 v11
  have hz := HZ.out.free
  have v0 := HV.out.cell 0 _ rfl
  have v1 := HV.out.cell 1 _ rfl
  have v2 := HV.out.cell 2 _ rfl
  have v3 := HV.out.cell 3 _ rfl
  have v4 := HV.out.cell 4 _ rfl
  have v5 := HV.out.cell 5 _ rfl
  have v6 := HV.out.cell 6 _ rfl
  have v7 := HV.out.cell 7 _ rfl
  have v8 := HV.out.cell 8 _ rfl
  have v9 := HV.out.cell 9 _ rfl
  have v10 := HV.out.cell 10 _ rfl
  have v11 := HV.out.cell 11 _ rfl
  have z0 := HZ.out.cell 0 _ rfl
  have z1 := HZ.out.cell 1 _ rfl
  have z2 := HZ.out.cell 2 _ rfl
  have z3 := HZ.out.cell 3 _ rfl
  have z4 := HZ.out.cell 4 _ rfl
  have z5 := HZ.out.cell 5 _ rfl
  have z6 := HZ.out.cell 6 _ rfl
  have z7 := HZ.out.cell 7 _ rfl
  have z8 := HZ.out.cell 8 _ rfl
  have z9 := HZ.out.cell 9 _ rfl
  have z10 := HZ.out.cell 10 _ rfl
  have z11 := HZ.out.cell 11 _ rfl
  cases r
  · go_wp2_with fail
    have hW : Below w.heap.size w (setAll w2 (w.heap.size) 0 [.int .i64 (P 0), .int .i64 (P 1), .int .i64 (P 2), .int .i64 (P 3), .int .i64 (P 4), .int .i64 (P 5), .int .i64 (P 6), .int .i64 (P 7), .int .i64 (P 8), .int .i64 (P 9), .int .i64 (P 10), .int .i64 (P 11)]) := below_setAll (by omega) _ _ _ _ HB.out
    have hA : Bl (setAll w2 (w.heap.size) 0 [.int .i64 (P 0), .int .i64 (P 1), .int .i64 (P 2), .int .i64 (P 3), .int .i64 (P 4), .int .i64 (P 5), .int .i64 (P 6), .int .i64 (P 7), .int .i64 (P 8), .int .i64 (P 9), .int .i64 (P 10), .int .i64 (P 11)]) (w.heap.size) #[.int .i64 (P 0), .int .i64 (P 1), .int .i64 (P 2), .int .i64 (P 3), .int .i64 (P 4), .int .i64 (P 5), .int .i64 (P 6), .int .i64 (P 7), .int .i64 (P 8), .int .i64 (P 9), .int .i64 (P 10), .int .i64 (P 11)] 23 := setAll_whole [.int .i64 (P 0), .int .i64 (P 1), .int .i64 (P 2), .int .i64 (P 3), .int .i64 (P 4), .int .i64 (P 5), .int .i64 (P 6), .int .i64 (P 7), .int .i64 (P 8), .int .i64 (P 9), .int .i64 (P 10), .int .i64 (P 11)] _ _ HZ.out rfl
    change bodyPost _ _ _ _ _ (setAll w2 (w.heap.size) 0 [.int .i64 (P 0), .int .i64 (P 1), .int .i64 (P 2), .int .i64 (P 3), .int .i64 (P 4), .int .i64 (P 5), .int .i64 (P 6), .int .i64 (P 7), .int .i64 (P 8), .int .i64 (P 9), .int .i64 (P 10), .int .i64 (P 11)])
    generalize setAll w2 (w.heap.size) 0 [.int .i64 (P 0), .int .i64 (P 1), .int .i64 (P 2), .int .i64 (P 3), .int .i64 (P 4), .int .i64 (P 5), .int .i64 (P 6), .int .i64 (P 7), .int .i64 (P 8), .int .i64 (P 9), .int .i64 (P 10), .int .i64 (P 11)] = wf at *
    refine bodyPost_ret (v := .tuple #[Pv P, .int .i64 0]) ?_ rfl ⟨by first | rfl | simp only [HH.out], hW⟩
    simp [results, Tryd.results14, go_sem, hA.cell 0 _ rfl, hA.cell 1 _ rfl, hA.cell 2 _ rfl, hA.cell 3 _ rfl, hA.cell 4 _ rfl, hA.cell 5 _ rfl, hA.cell 6 _ rfl, hA.cell 7 _ rfl, hA.cell 8 _ rfl, hA.cell 9 _ rfl, hA.cell 10 _ rfl, hA.cell 11 _ rfl]

  · go_wp2_with fail
    have hW : Below w.heap.size w (setAll w2 (w.heap.size) 0 [.int .i64 0, .int .i64 0, .int .i64 0, .int .i64 0, .int .i64 0, .int .i64 0, .int .i64 0, .int .i64 0, .int .i64 0, .int .i64 0, .int .i64 0, .int .i64 0]) := below_setAll (by omega) _ _ _ _ HB.out
    have hA : Bl (setAll w2 (w.heap.size) 0 [.int .i64 0, .int .i64 0, .int .i64 0, .int .i64 0, .int .i64 0, .int .i64 0, .int .i64 0, .int .i64 0, .int .i64 0, .int .i64 0, .int .i64 0, .int .i64 0]) (w.heap.size) #[.int .i64 0, .int .i64 0, .int .i64 0, .int .i64 0, .int .i64 0, .int .i64 0, .int .i64 0, .int .i64 0, .int .i64 0, .int .i64 0, .int .i64 0, .int .i64 0] 23 := setAll_whole [.int .i64 0, .int .i64 0, .int .i64 0, .int .i64 0, .int .i64 0, .int .i64 0, .int .i64 0, .int .i64 0, .int .i64 0, .int .i64 0, .int .i64 0, .int .i64 0] _ _ HZ.out rfl
    change bodyPost _ _ _ _ _ (setAll w2 (w.heap.size) 0 [.int .i64 0, .int .i64 0, .int .i64 0, .int .i64 0, .int .i64 0, .int .i64 0, .int .i64 0, .int .i64 0, .int .i64 0, .int .i64 0, .int .i64 0, .int .i64 0])
    generalize setAll w2 (w.heap.size) 0 [.int .i64 0, .int .i64 0, .int .i64 0, .int .i64 0, .int .i64 0, .int .i64 0, .int .i64 0, .int .i64 0, .int .i64 0, .int .i64 0, .int .i64 0, .int .i64 0] = wf at *
    refine bodyPost_ret (v := .tuple #[.agg #[.int .i64 0, .int .i64 0, .int .i64 0, .int .i64 0, .int .i64 0, .int .i64 0, .int .i64 0, .int .i64 0, .int .i64 0, .int .i64 0, .int .i64 0, .int .i64 0], .int .i64 4]) ?_ rfl ⟨by first | rfl | simp only [HH.out], hW⟩
    simp [results, Tryd.results14, go_sem, hA.cell 0 _ rfl, hA.cell 1 _ rfl, hA.cell 2 _ rfl, hA.cell 3 _ rfl, hA.cell 4 _ rfl, hA.cell 5 _ rfl, hA.cell 6 _ rfl, hA.cell 7 _ rfl, hA.cell 8 _ rfl, hA.cell 9 _ rfl, hA.cell 10 _ rfl, hA.cell 11 _ rfl]

end Go.Proofs.YtmdkcoenjadieaaDoor

/- What program and reference answer alike: superblocks and heads. -/
namespace Go.Proofs.YtmdkcoenjadieaaDoor
open Go.RowKit Go.Shelf
set_option linter.unusedVariables false
set_option maxRecDepth 100000

/-- A writer's answer: these bytes, this error. -/
def WA (f : FuncId) (args : Array Value) (E : Int) (n : Nat) (L : List Int) (u : World) : Prop :=
  Calls Tryd.prog f args u fun e w' => ∃ a c, e = .returned (.tuple #[.slice a n c, .int .i64 E]) ∧ Hid (Has w' a n L) ∧ Below u.heap.size u w'

theorem super_ans (P : Nat → Int) : ∃ E n L, ∀ u, Tab u → WA 9 #[Pv P] E n L u ∧ WA 10 #[Pv P] E n L u := by
  by_cases h : checkE P = 0
  · refine ⟨0, (P 0).toNat, sumB (P 0).toNat (supH P), fun u hT => ⟨?_, ?_⟩⟩
    · refine (super_good P _ u h (sup_size h) hT).mono ?_
      rintro e w' ⟨g, rfl, hg, hB, hb⟩
      exact ⟨_, _, rfl, hB.out.has (cells_len (zs := []) (supH_length _) (by have := size_bd (check_bounds h).1; omega)), hb⟩
    · refine (refSuper_good P _ u h (sup_size h)).mono ?_
      rintro e w' ⟨a, c, rfl, hO, hb⟩
      exact ⟨_, _, rfl, hO.out.has, hb⟩
  · refine ⟨4, 0, [], fun u hT => ⟨?_, ?_⟩⟩
    · refine (super_bad P u h).mono ?_
      rintro e w' ⟨rfl, hb⟩
      exact ⟨_, _, rfl, Has.nil _, hb⟩
    · refine (refSuper_bad P u h).mono ?_
      rintro e w' ⟨rfl, hb⟩
      exact ⟨_, _, rfl, Has.nil _, hb⟩

theorem header_ans (H : Nat → Int) (b : Int) : ∃ E n L, ∀ u, Tab u → WA 11 #[Hv H, .int .i64 b] E n L u ∧ WA 12 #[Hv H, .int .i64 b] E n L u := by
  by_cases h : isSize b
  · obtain ⟨k, rfl⟩ := Int.eq_ofNat_of_zero_le (show 0 ≤ b by have := size_bd h; omega)
    by_cases hf : hdrF H = true
    · refine ⟨0, k, sumB k (hdrH H), fun u hT => ⟨?_, ?_⟩⟩
      · refine (header_good H k u h hf hT).mono ?_
        rintro e w' ⟨g, rfl, hg, hB, hb⟩
        exact ⟨_, _, rfl, hB.out.has (cells_len (zs := []) (hdrH_length _) (by have := size_bd h; omega)), hb⟩
      · refine (refHeader_good H k u h hf).mono ?_
        rintro e w' ⟨a, c, rfl, hO, hb⟩
        exact ⟨_, _, rfl, hO.out.has, hb⟩
    · have hf' : hdrF H = false := by simpa using hf
      refine ⟨3, 0, [], fun u hT => ⟨?_, ?_⟩⟩
      · refine (header_value H k u h hf').mono ?_
        rintro e w' ⟨rfl, hb⟩
        exact ⟨_, _, rfl, Has.nil _, hb⟩
      · refine (refHeader_value H k u h hf').mono ?_
        rintro e w' ⟨rfl, hb⟩
        exact ⟨_, _, rfl, Has.nil _, hb⟩
  · refine ⟨1, 0, [], fun u hT => ⟨?_, ?_⟩⟩
    · refine (header_arg H b u h).mono ?_
      rintro e w' ⟨rfl, hb⟩
      exact ⟨_, _, rfl, Has.nil _, hb⟩
    · refine (refHeader_arg H b u h).mono ?_
      rintro e w' ⟨rfl, hb⟩
      exact ⟨_, _, rfl, Has.nil _, hb⟩

/-- A reader's answer. -/
def RA (f : FuncId) (args : Array Value) (v : Value) (q : Int) (u : World) : Prop :=
  Calls Tryd.prog f args u fun e w' => e = .returned (.tuple #[v, .int .i64 q]) ∧ Below u.heap.size u w'

theorem unheader_ans (a : Option Addr) (len cap : Nat) (zs : List Int) : ∃ H q, ∀ u, Tab u → Row u.heap.size u a len cap zs → RA 15 #[.slice a len cap] (Hv H) q u ∧ RA 16 #[.slice a len cap] (Hv H) q u := by
  by_cases h : isSize (len : Int) ∧ sumB len (hdrH (hdrOf zs)) = zs
  · refine ⟨hdrOf zs, 0, fun u hT hr => ⟨unheader_yes a len cap zs u hr hT h.1 h.2, ?_⟩⟩
    exact refUnheader_cmp a len cap zs u hr h.1 false (by simp [h.2])
  · refine ⟨zeroH, 4, fun u hT hr => ⟨unheader_no a len cap zs u hr hT h, ?_⟩⟩
    by_cases hs : isSize (len : Int)
    · exact refUnheader_cmp a len cap zs u hr hs true (by simp; exact fun e => h ⟨hs, e⟩)
    · exact refUnheader_size a len cap u hr.2.2.1.1 hs

theorem unsuper_ans (a : Option Addr) (len cap : Nat) (zs : List Int) : ∃ P q, ∀ u, Tab u → Row u.heap.size u a len cap zs → RA 13 #[.slice a len cap] (Pv P) q u ∧ RA 14 #[.slice a len cap] (Pv P) q u := by
  by_cases h : checkE (supOf zs) = 0 ∧ sumB (supOf zs 0).toNat (supH (supOf zs)) = zs
  · refine ⟨supOf zs, 0, fun u hT hr => ⟨unsuper_yes a len cap zs u hr hT h.1 h.2, ?_⟩⟩
    have hm : makeE (getVal zs 4 2) (getVal zs 6 2) (getVal zs 8 2) (getVal zs 10 2) = 0 := by
      by_cases hm : makeE (getVal zs 4 2) (getVal zs 6 2) (getVal zs 8 2) (getVal zs 10 2) = 0
      · exact hm
      · have := h.1
        rw [supOf, makeP_zero hm, check_zeroP] at this
        omega
    have hs : isSize (len : Int) := by
      have hl := cells_len (zs := zs) (b := (supOf zs 0).toNat) (supH_length (supOf zs)) (by have := size_bd (check_bounds h.1).1; omega)
      rw [h.2, hr.1] at hl
      have := sup_size h.1
      rw [← hl] at this
      rw [← this]
      exact (check_bounds h.1).1
    exact refUnsuper_cmp a len cap zs u hr hs hm false (by simp [h.2])
  · refine ⟨zeroP, 4, fun u hT hr => ⟨unsuper_no a len cap zs u hr hT h, ?_⟩⟩
    by_cases hs : isSize (len : Int)
    · by_cases hm : makeE (getVal zs 4 2) (getVal zs 6 2) (getVal zs 8 2) (getVal zs 10 2) = 0
      · exact refUnsuper_cmp a len cap zs u hr hs hm true (by simp; exact fun e => h ⟨check_made hm, e⟩)
      · exact refUnsuper_make a len cap zs u hr hs _ rfl (by simpa using hm)
    · exact refUnsuper_size a len cap u hr.2.2.1.1 hs

end Go.Proofs.YtmdkcoenjadieaaDoor

