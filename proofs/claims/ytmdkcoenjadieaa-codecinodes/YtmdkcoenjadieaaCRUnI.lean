/- Contracts of skerryref06.Uninode. -/
import Derived.Test.YtmdkcoenjadieaaCUnI
import Derived.Test.YtmdkcoenjadieaaCRIno
namespace Go.Proofs.Ytmdkcoenjadieaa
open Go.RowKit Go.Shelf
set_option linter.unusedVariables false
set_option maxRecDepth 100000

theorem str_ne {xs ys : List Int} (hx : ∀ z ∈ xs, 0 ≤ z ∧ z ≤ 255) (hy : ∀ z ∈ ys, 0 ≤ z ∧ z ≤ 255) (r : Bool) (h : decide (xs = ys) = !r) : (!((strOfNums xs).toList == (strOfNums ys).toList)) = r := by
  rw [str_eq_decide hx hy, h, Bool.not_not]

set_option maxHeartbeats 4000000 in
theorem refUninode_size (a : Option Addr) (len cap : Nat) (w : World) (hl : len ≤ 140737488351232) (h : ¬ len = 32) :
    Calls Try.prog 8 #[.slice a len cap] w fun e w' => e = .returned (.tuple #[Iv zeroX, .int .i64 4]) ∧ Below w.heap.size w w' := by
  have hd : ((len : Int) != 32) = true := by simp; omega
  have HZ := hide (Bl.new w Iz 24)
  have HB := hide ((Below.refl _ w).alloc (Nat.le_refl _) (.cells Iz 24))
  clear h
  go_enter Try.func8, Try.ntmps8
  go_wp2_with fail
  have hW := HB.out
  have hA := HZ.out
  change bodyPost _ _ _ _ _ (w.alloc (.cells Iz 24))
  generalize w.alloc (.cells Iz 24) = wf at *
  refine bodyPost_ret (v := .tuple #[.agg Iz, .int .i64 4]) ?_ rfl ⟨rfl, hW⟩
  simp [results, Try.results8, go_sem, hA.cell 0 _ rfl, hA.cell 1 _ rfl, hA.cell 2 _ rfl, hA.cell 3 _ rfl, hA.cell 4 _ rfl, hA.cell 5 _ rfl, hA.cell 6 _ rfl, hA.cell 7 _ rfl, hA.cell 8 _ rfl, hA.cell 9 _ rfl, hA.cell 10 _ rfl, hA.cell 11 _ rfl, hA.cell 12 _ rfl]

set_option maxHeartbeats 8000000 in
theorem refUninode_err (a : Option Addr) (len cap : Nat) (zs : List Int) (w : World) (hr : Row w.heap.size w a len cap zs) (h : len = 32) (q : Int) (hq : (q != 0) = true) (K : Hid (∀ u, Calls Try.prog 6 #[Iv (inoOf zs)] u fun e w' => e = .returned (.tuple #[.slice none 0 0, .int .i64 q]) ∧ Below u.heap.size u w')) :
    Calls Try.prog 8 #[.slice a len cap] w fun e w' => e = .returned (.tuple #[Iv zeroX, .int .i64 4]) ∧ Below w.heap.size w w' := by
  have hl := hr.2.2.1.1
  have hd : ((len : Int) != 32) = false := by simp; omega
  have KG : Hid (∀ (at' n : Int) (u : World), at' ≤ 1000 → Below w.heap.size w u → Calls Try.prog 24 #[.slice a len cap, .int .i64 at', .int .i64 n] u fun e w' => e = .returned (.int .i64 (getVal zs at' n)) ∧ u = w') :=
    fun at' n u h1 hb => num_drop0 a len cap zs at' n u (hr.below hb hb.size) (by omega)
  have KH : Hid (∀ u, Below w.heap.size w u → Calls Try.prog 6 #[Iv (inoOf zs)] u fun e w' => e = .returned (.tuple #[.slice none 0 0, .int .i64 q]) ∧ Below u.heap.size u w') := fun u _ => K.out u
  have HZ := hide (Bl.new w Iz 24)
  have HB := hide ((Below.refl _ w).alloc (Nat.le_refl _) (.cells Iz 24))
  clear h hr K
  unfold inoOf at *
  go_enter Try.func8, Try.ntmps8
  go_wp2_with fail
  go_at_call 24
  refine (unhide KG _ _ _ (by omega) HB.out).mono ?_
  rintro e w' ⟨rfl, rfl⟩
  go_wp2_with fail
  go_at_call 24
  refine (unhide KG _ _ _ (by omega) HB.out).mono ?_
  rintro e w' ⟨rfl, rfl⟩
  go_wp2_with fail
  go_at_call 24
  refine (unhide KG _ _ _ (by omega) HB.out).mono ?_
  rintro e w' ⟨rfl, rfl⟩
  go_wp2_with fail
  go_at_call 24
  refine (unhide KG _ _ _ (by omega) HB.out).mono ?_
  rintro e w' ⟨rfl, rfl⟩
  go_wp2_with fail
  go_at_call 24
  refine (unhide KG _ _ _ (by omega) HB.out).mono ?_
  rintro e w' ⟨rfl, rfl⟩
  have e1 : (w.alloc (.cells Iz 24)).heap.size = w.heap.size + 1 := by simp
  have HV := hide (Bl.new (w.alloc (.cells Iz 24)) (Ic (inoTake zs 0)) 24)
  rw [e1] at HV
  replace HZ := hide (HZ.out.alloc (.cells (Ic (inoTake zs 0)) 24))
  replace HB := hide (HB.out.alloc HB.out.size (.cells (Ic (inoTake zs 0)) 24))
  go_upto_region 4 with fail
  change Code.wp _ _ _ _ ((w.alloc (.cells Iz 24)).alloc (.cells (Ic (inoTake zs 0)) 24))
  generalize (w.alloc (.cells Iz 24)).alloc (.cells (Ic (inoTake zs 0)) 24) = W at *
  clear e1
  have hg : Hid (w.heap.size < w.heap.size + 1) := Nat.lt_succ_self _
  generalize w.heap.size + 1 = g1 at *
  go_upto_region 5 with fail
  go_loopw [5] (fun i wr => ∃ k : Nat, k ≤ 8 ∧ i = .int .i64 (k : Int) ∧ Hid (Bl wr g1 (Ic (inoTake zs k)) 24) ∧ Hid (Bl wr w.heap.size Iz 24) ∧ Hid (Below w.heap.size w wr)) (fun i _ => 8 - (intOf i).toNat)
  case atStart => exact ⟨0, by omega, rfl, HV, HZ, HB⟩
  case round =>
    obtain ⟨k, hk, rfl, hV, hZ, hB⟩ := hrel
    clear HV HZ HB
    by_cases hlt : k < 8
    · have HX : Hid (Bl (wr.setCell ⟨g1, 3 + k, none⟩ (.int .i64 (getVal zs (8 + 2 * (k : Int)) 2))) g1 (Ic (inoTake zs (k + 1))) 24 ∧ Bl (wr.setCell ⟨g1, 3 + k, none⟩ (.int .i64 (getVal zs (8 + 2 * (k : Int)) 2))) w.heap.size Iz 24 ∧ Below w.heap.size w (wr.setCell ⟨g1, 3 + k, none⟩ (.int .i64 (getVal zs (8 + 2 * (k : Int)) 2)))) :=
        ⟨hV.out.ino hlt, hZ.out.other _ _ (by have := hg.out; simp; omega), hB.out.setCell (by have := hg.out; simp; omega) _⟩
      have HC : Hid ((∃ v, wr.cell? ⟨g1, 3 + k, none⟩ = some (.int .i64 v)) ∧ ∀ i, wr.frozen? ⟨g1, i, none⟩ = false) :=
        ⟨⟨_, hV.out.cell (3 + k) _ (ic_get _ _ (by omega))⟩, hV.out.free⟩
      rcases eight hlt with rfl | rfl | rfl | rfl | rfl | rfl | rfl | rfl
      all_goals
        go_wp2_with fail
        go_at_call 24
        refine (unhide KG _ _ _ (by omega) hB.out).mono ?_
        rintro e w' ⟨rfl, rfl⟩
        obtain ⟨⟨v, hc⟩, hz⟩ := HC.out
        obtain ⟨x1, x2, x3⟩ := HX.out
        have X1 := hide x1
        have X2 := hide x2
        have X3 := hide x3
        clear HC HX x1 x2 x3 hV hZ hB
        go_wp2_with fail
        exact ⟨⟨_, by decide, rfl, X1, X2, X3⟩, by simp [intOf]⟩
    · obtain rfl : k = 8 := by omega
      have HZ := hide hZ.out
      have HB := hide hB.out
      have HV := hide hV.out
      clear hV hZ hB KG
      generalize hX : inoTake zs 8 = X at *
      have HX := hide hX
      clear hX
      have v0 := HV.out.cell 0 _ rfl
      have v1 := HV.out.cell 1 _ rfl
      have v2 := HV.out.cell 2 _ rfl
      have v3 := HV.out.cell 3 _ rfl
      have v4 := HV.out.cell 4 _ rfl
      have v5 := HV.out.cell 5 _ rfl
      have v6 := HV.out.cell 6 _ rfl
      have v7 := HV.out.cell 7 _ rfl
      have v8 := HV.out.cell 8 _ rfl
      have v9 := HV.out.cell 9 _ rfl
      have v10 := HV.out.cell 10 _ rfl
      have v11 := HV.out.cell 11 _ rfl
      have v12 := HV.out.cell 12 _ rfl
      go_wp2_with fail
      go_at_call 6
      refine (unhide KH _ HB.out).mono ?_
      rintro e w2 ⟨rfl, hb⟩
      replace HB := hide (bchain HB.out hb (Nat.le_refl _))
      replace HZ := hide (HZ.out.call hb)
      replace HV := hide (HV.out.call hb)
      clear hb KH v0 v1 v2 v3 v4 v5 v6 v7 v8 v9 v10 v11 v12
      have hz := HZ.out.free
      have v0 := HV.out.cell 0 _ rfl
      have v1 := HV.out.cell 1 _ rfl
      have v2 := HV.out.cell 2 _ rfl
      have v3 := HV.out.cell 3 _ rfl
      have v4 := HV.out.cell 4 _ rfl
      have v5 := HV.out.cell 5 _ rfl
      have v6 := HV.out.cell 6 _ rfl
      have v7 := HV.out.cell 7 _ rfl
      have v8 := HV.out.cell 8 _ rfl
      have v9 := HV.out.cell 9 _ rfl
      have v10 := HV.out.cell 10 _ rfl
      have v11 := HV.out.cell 11 _ rfl
      have v12 := HV.out.cell 12 _ rfl
      have z0 := HZ.out.cell 0 _ rfl
      have z1 := HZ.out.cell 1 _ rfl
      have z2 := HZ.out.cell 2 _ rfl
      have z3 := HZ.out.cell 3 _ rfl
      have z4 := HZ.out.cell 4 _ rfl
      have z5 := HZ.out.cell 5 _ rfl
      have z6 := HZ.out.cell 6 _ rfl
      have z7 := HZ.out.cell 7 _ rfl
      have z8 := HZ.out.cell 8 _ rfl
      have z9 := HZ.out.cell 9 _ rfl
      have z10 := HZ.out.cell 10 _ rfl
      have z11 := HZ.out.cell 11 _ rfl
      have z12 := HZ.out.cell 12 _ rfl
      go_wp2_with fail
      have hW : Below w.heap.size w (setAll w2 w.heap.size 0 [.int .i64 0, .int .i64 0, .int .i64 0, .int .i64 0, .int .i64 0, .int .i64 0, .int .i64 0, .int .i64 0, .int .i64 0, .int .i64 0, .int .i64 0, .int .i64 0, .int .i64 0]) := below_setAll (Nat.le_refl _) _ _ _ _ HB.out
      have hA : Bl (setAll w2 w.heap.size 0 [.int .i64 0, .int .i64 0, .int .i64 0, .int .i64 0, .int .i64 0, .int .i64 0, .int .i64 0, .int .i64 0, .int .i64 0, .int .i64 0, .int .i64 0, .int .i64 0, .int .i64 0]) w.heap.size #[.int .i64 0, .int .i64 0, .int .i64 0, .int .i64 0, .int .i64 0, .int .i64 0, .int .i64 0, .int .i64 0, .int .i64 0, .int .i64 0, .int .i64 0, .int .i64 0, .int .i64 0] 24 := setAll_whole [.int .i64 0, .int .i64 0, .int .i64 0, .int .i64 0, .int .i64 0, .int .i64 0, .int .i64 0, .int .i64 0, .int .i64 0, .int .i64 0, .int .i64 0, .int .i64 0, .int .i64 0] _ _ HZ.out rfl
      change bodyPost _ _ _ _ _ (setAll w2 w.heap.size 0 [.int .i64 0, .int .i64 0, .int .i64 0, .int .i64 0, .int .i64 0, .int .i64 0, .int .i64 0, .int .i64 0, .int .i64 0, .int .i64 0, .int .i64 0, .int .i64 0, .int .i64 0])
      generalize setAll w2 w.heap.size 0 [.int .i64 0, .int .i64 0, .int .i64 0, .int .i64 0, .int .i64 0, .int .i64 0, .int .i64 0, .int .i64 0, .int .i64 0, .int .i64 0, .int .i64 0, .int .i64 0, .int .i64 0] = wf at *
      refine bodyPost_ret (v := .tuple #[.agg Iz, .int .i64 4]) ?_ rfl ⟨rfl, hW⟩
      simp [results, Try.results8, go_sem, hA.cell 0 _ rfl, hA.cell 1 _ rfl, hA.cell 2 _ rfl, hA.cell 3 _ rfl, hA.cell 4 _ rfl, hA.cell 5 _ rfl, hA.cell 6 _ rfl, hA.cell 7 _ rfl, hA.cell 8 _ rfl, hA.cell 9 _ rfl, hA.cell 10 _ rfl, hA.cell 11 _ rfl, hA.cell 12 _ rfl]

set_option maxHeartbeats 8000000 in
theorem refUninode_cmp (a : Option Addr) (len cap : Nat) (zs : List Int) (w : World) (hr : Row w.heap.size w a len cap zs) (h : len = 32) (hB : inoBad (inoOf zs) = false) (hF : inoF (inoOf zs) = true) (r : Bool) (hr0 : decide (layB 32 (inoL (inoOf zs)) = zs) = !r) :
    Calls Try.prog 8 #[.slice a len cap] w fun e w' => e = .returned (.tuple #[if r then .agg Iz else Iv (inoOf zs), .int .i64 (if r then 4 else 0)]) ∧ Below w.heap.size w w' := by
  have hl := hr.2.2.1.1
  have hd : ((len : Int) != 32) = false := by simp; omega
  have KG : Hid (∀ (at' n : Int) (u : World), at' ≤ 1000 → Below w.heap.size w u → Calls Try.prog 24 #[.slice a len cap, .int .i64 at', .int .i64 n] u fun e w' => e = .returned (.int .i64 (getVal zs at' n)) ∧ u = w') :=
    fun at' n u h1 hb => num_drop0 a len cap zs at' n u (hr.below hb hb.size) (by omega)
  have KH : Hid (∀ u, Below w.heap.size w u → Calls Try.prog 6 #[Iv (inoOf zs)] u fun e w' => ∃ a' c', e = .returned (.tuple #[.slice a' 32 c', .int .i64 0]) ∧ (convert 27 9 (.slice a' 32 c')).run Try.prog w' = .ok (.string (strOfNums (layB 32 (inoL (inoOf zs))))) w' ∧ (convert 27 9 (.slice a len cap)).run Try.prog w' = .ok (.string (strOfNums zs)) w' ∧ Below u.heap.size u w') := by
    intro u hb
    refine (refInode_good (inoOf zs) u hB hF).mono ?_
    rintro e w' ⟨a', c', rfl, hO, hb'⟩
    have hru := (hr.below hb hb.size).below hb' hb'.size
    exact ⟨a', c', rfl, hO.out.conv c', hru.has.conv cap, hb'⟩
  have hne := str_ne (ino32 (inoOf zs)) hr.2.2.2.1 r hr0
  have HZ := hide (Bl.new w Iz 24)
  have HB := hide ((Below.refl _ w).alloc (Nat.le_refl _) (.cells Iz 24))
  clear h hr hB hF hr0
  generalize strOfNums (layB 32 (inoL (inoOf zs))) = S1 at *
  generalize strOfNums zs = S2 at *
  unfold inoOf at *
  go_enter Try.func8, Try.ntmps8
  go_wp2_with fail
  go_at_call 24
  refine (unhide KG _ _ _ (by omega) HB.out).mono ?_
  rintro e w' ⟨rfl, rfl⟩
  go_wp2_with fail
  go_at_call 24
  refine (unhide KG _ _ _ (by omega) HB.out).mono ?_
  rintro e w' ⟨rfl, rfl⟩
  go_wp2_with fail
  go_at_call 24
  refine (unhide KG _ _ _ (by omega) HB.out).mono ?_
  rintro e w' ⟨rfl, rfl⟩
  go_wp2_with fail
  go_at_call 24
  refine (unhide KG _ _ _ (by omega) HB.out).mono ?_
  rintro e w' ⟨rfl, rfl⟩
  go_wp2_with fail
  go_at_call 24
  refine (unhide KG _ _ _ (by omega) HB.out).mono ?_
  rintro e w' ⟨rfl, rfl⟩
  have e1 : (w.alloc (.cells Iz 24)).heap.size = w.heap.size + 1 := by simp
  have HV := hide (Bl.new (w.alloc (.cells Iz 24)) (Ic (inoTake zs 0)) 24)
  rw [e1] at HV
  replace HZ := hide (HZ.out.alloc (.cells (Ic (inoTake zs 0)) 24))
  replace HB := hide (HB.out.alloc HB.out.size (.cells (Ic (inoTake zs 0)) 24))
  go_upto_region 4 with fail
  change Code.wp _ _ _ _ ((w.alloc (.cells Iz 24)).alloc (.cells (Ic (inoTake zs 0)) 24))
  generalize (w.alloc (.cells Iz 24)).alloc (.cells (Ic (inoTake zs 0)) 24) = W at *
  clear e1
  have hg : Hid (w.heap.size < w.heap.size + 1) := Nat.lt_succ_self _
  generalize w.heap.size + 1 = g1 at *
  go_upto_region 5 with fail
  go_loopw [5] (fun i wr => ∃ k : Nat, k ≤ 8 ∧ i = .int .i64 (k : Int) ∧ Hid (Bl wr g1 (Ic (inoTake zs k)) 24) ∧ Hid (Bl wr w.heap.size Iz 24) ∧ Hid (Below w.heap.size w wr)) (fun i _ => 8 - (intOf i).toNat)
  case atStart => exact ⟨0, by omega, rfl, HV, HZ, HB⟩
  case round =>
    obtain ⟨k, hk, rfl, hV, hZ, hB⟩ := hrel
    clear HV HZ HB
    by_cases hlt : k < 8
    · have HX : Hid (Bl (wr.setCell ⟨g1, 3 + k, none⟩ (.int .i64 (getVal zs (8 + 2 * (k : Int)) 2))) g1 (Ic (inoTake zs (k + 1))) 24 ∧ Bl (wr.setCell ⟨g1, 3 + k, none⟩ (.int .i64 (getVal zs (8 + 2 * (k : Int)) 2))) w.heap.size Iz 24 ∧ Below w.heap.size w (wr.setCell ⟨g1, 3 + k, none⟩ (.int .i64 (getVal zs (8 + 2 * (k : Int)) 2)))) :=
        ⟨hV.out.ino hlt, hZ.out.other _ _ (by have := hg.out; simp; omega), hB.out.setCell (by have := hg.out; simp; omega) _⟩
      have HC : Hid ((∃ v, wr.cell? ⟨g1, 3 + k, none⟩ = some (.int .i64 v)) ∧ ∀ i, wr.frozen? ⟨g1, i, none⟩ = false) :=
        ⟨⟨_, hV.out.cell (3 + k) _ (ic_get _ _ (by omega))⟩, hV.out.free⟩
      rcases eight hlt with rfl | rfl | rfl | rfl | rfl | rfl | rfl | rfl
      all_goals
        go_wp2_with fail
        go_at_call 24
        refine (unhide KG _ _ _ (by omega) hB.out).mono ?_
        rintro e w' ⟨rfl, rfl⟩
        obtain ⟨⟨v, hc⟩, hz⟩ := HC.out
        obtain ⟨x1, x2, x3⟩ := HX.out
        have X1 := hide x1
        have X2 := hide x2
        have X3 := hide x3
        clear HC HX x1 x2 x3 hV hZ hB
        go_wp2_with fail
        exact ⟨⟨_, by decide, rfl, X1, X2, X3⟩, by simp [intOf]⟩
    · obtain rfl : k = 8 := by omega
      have HZ := hide hZ.out
      have HB := hide hB.out
      have HV := hide hV.out
      clear hV hZ hB KG
      generalize hX : inoTake zs 8 = X at *
      have HX := hide hX
      clear hX
      have v0 := HV.out.cell 0 _ rfl
      have v1 := HV.out.cell 1 _ rfl
      have v2 := HV.out.cell 2 _ rfl
      have v3 := HV.out.cell 3 _ rfl
      have v4 := HV.out.cell 4 _ rfl
      have v5 := HV.out.cell 5 _ rfl
      have v6 := HV.out.cell 6 _ rfl
      have v7 := HV.out.cell 7 _ rfl
      have v8 := HV.out.cell 8 _ rfl
      have v9 := HV.out.cell 9 _ rfl
      have v10 := HV.out.cell 10 _ rfl
      have v11 := HV.out.cell 11 _ rfl
      have v12 := HV.out.cell 12 _ rfl
      go_wp2_with fail
      go_at_call 6
      refine (unhide KH _ HB.out).mono ?_
      rintro e w2 ⟨a', c', rfl, cv1, cv2, hb⟩
      replace HB := hide (bchain HB.out hb (Nat.le_refl _))
      replace HZ := hide (HZ.out.call hb)
      replace HV := hide (HV.out.call hb)
      clear hb KH v0 v1 v2 v3 v4 v5 v6 v7 v8 v9 v10 v11 v12
      have hz := HZ.out.free
      have v0 := HV.out.cell 0 _ rfl
      have v1 := HV.out.cell 1 _ rfl
      have v2 := HV.out.cell 2 _ rfl
      have v3 := HV.out.cell 3 _ rfl
      have v4 := HV.out.cell 4 _ rfl
      have v5 := HV.out.cell 5 _ rfl
      have v6 := HV.out.cell 6 _ rfl
      have v7 := HV.out.cell 7 _ rfl
      have v8 := HV.out.cell 8 _ rfl
      have v9 := HV.out.cell 9 _ rfl
      have v10 := HV.out.cell 10 _ rfl
      have v11 := HV.out.cell 11 _ rfl
      have v12 := HV.out.cell 12 _ rfl
      have z0 := HZ.out.cell 0 _ rfl
      have z1 := HZ.out.cell 1 _ rfl
      have z2 := HZ.out.cell 2 _ rfl
      have z3 := HZ.out.cell 3 _ rfl
      have z4 := HZ.out.cell 4 _ rfl
      have z5 := HZ.out.cell 5 _ rfl
      have z6 := HZ.out.cell 6 _ rfl
      have z7 := HZ.out.cell 7 _ rfl
      have z8 := HZ.out.cell 8 _ rfl
      have z9 := HZ.out.cell 9 _ rfl
      have z10 := HZ.out.cell 10 _ rfl
      have z11 := HZ.out.cell 11 _ rfl
      have z12 := HZ.out.cell 12 _ rfl
      cases r
      · go_wp2_with fail
        have hW : Below w.heap.size w (setAll w2 w.heap.size 0 [.int .i64 (X 0), .int .i64 (X 1), .int .i64 (X 2), .int .i64 (X 3), .int .i64 (X 4), .int .i64 (X 5), .int .i64 (X 6), .int .i64 (X 7), .int .i64 (X 8), .int .i64 (X 9), .int .i64 (X 10), .int .i64 (X 11), .int .i64 (X 12)]) := below_setAll (Nat.le_refl _) _ _ _ _ HB.out
        have hA : Bl (setAll w2 w.heap.size 0 [.int .i64 (X 0), .int .i64 (X 1), .int .i64 (X 2), .int .i64 (X 3), .int .i64 (X 4), .int .i64 (X 5), .int .i64 (X 6), .int .i64 (X 7), .int .i64 (X 8), .int .i64 (X 9), .int .i64 (X 10), .int .i64 (X 11), .int .i64 (X 12)]) w.heap.size #[.int .i64 (X 0), .int .i64 (X 1), .int .i64 (X 2), .int .i64 (X 3), .int .i64 (X 4), .int .i64 (X 5), .int .i64 (X 6), .int .i64 (X 7), .int .i64 (X 8), .int .i64 (X 9), .int .i64 (X 10), .int .i64 (X 11), .int .i64 (X 12)] 24 := setAll_whole [.int .i64 (X 0), .int .i64 (X 1), .int .i64 (X 2), .int .i64 (X 3), .int .i64 (X 4), .int .i64 (X 5), .int .i64 (X 6), .int .i64 (X 7), .int .i64 (X 8), .int .i64 (X 9), .int .i64 (X 10), .int .i64 (X 11), .int .i64 (X 12)] _ _ HZ.out rfl
        change bodyPost _ _ _ _ _ (setAll w2 w.heap.size 0 [.int .i64 (X 0), .int .i64 (X 1), .int .i64 (X 2), .int .i64 (X 3), .int .i64 (X 4), .int .i64 (X 5), .int .i64 (X 6), .int .i64 (X 7), .int .i64 (X 8), .int .i64 (X 9), .int .i64 (X 10), .int .i64 (X 11), .int .i64 (X 12)])
        generalize setAll w2 w.heap.size 0 [.int .i64 (X 0), .int .i64 (X 1), .int .i64 (X 2), .int .i64 (X 3), .int .i64 (X 4), .int .i64 (X 5), .int .i64 (X 6), .int .i64 (X 7), .int .i64 (X 8), .int .i64 (X 9), .int .i64 (X 10), .int .i64 (X 11), .int .i64 (X 12)] = wf at *
        refine bodyPost_ret (v := .tuple #[Iv X, .int .i64 0]) ?_ rfl ⟨by first | (rw [HX.out]; done) | (rw [HX.out]; rfl), hW⟩
        simp [results, Try.results8, go_sem, hA.cell 0 _ rfl, hA.cell 1 _ rfl, hA.cell 2 _ rfl, hA.cell 3 _ rfl, hA.cell 4 _ rfl, hA.cell 5 _ rfl, hA.cell 6 _ rfl, hA.cell 7 _ rfl, hA.cell 8 _ rfl, hA.cell 9 _ rfl, hA.cell 10 _ rfl, hA.cell 11 _ rfl, hA.cell 12 _ rfl]
      · go_wp2_with fail
        have hW : Below w.heap.size w (setAll w2 w.heap.size 0 [.int .i64 0, .int .i64 0, .int .i64 0, .int .i64 0, .int .i64 0, .int .i64 0, .int .i64 0, .int .i64 0, .int .i64 0, .int .i64 0, .int .i64 0, .int .i64 0, .int .i64 0]) := below_setAll (Nat.le_refl _) _ _ _ _ HB.out
        have hA : Bl (setAll w2 w.heap.size 0 [.int .i64 0, .int .i64 0, .int .i64 0, .int .i64 0, .int .i64 0, .int .i64 0, .int .i64 0, .int .i64 0, .int .i64 0, .int .i64 0, .int .i64 0, .int .i64 0, .int .i64 0]) w.heap.size #[.int .i64 0, .int .i64 0, .int .i64 0, .int .i64 0, .int .i64 0, .int .i64 0, .int .i64 0, .int .i64 0, .int .i64 0, .int .i64 0, .int .i64 0, .int .i64 0, .int .i64 0] 24 := setAll_whole [.int .i64 0, .int .i64 0, .int .i64 0, .int .i64 0, .int .i64 0, .int .i64 0, .int .i64 0, .int .i64 0, .int .i64 0, .int .i64 0, .int .i64 0, .int .i64 0, .int .i64 0] _ _ HZ.out rfl
        change bodyPost _ _ _ _ _ (setAll w2 w.heap.size 0 [.int .i64 0, .int .i64 0, .int .i64 0, .int .i64 0, .int .i64 0, .int .i64 0, .int .i64 0, .int .i64 0, .int .i64 0, .int .i64 0, .int .i64 0, .int .i64 0, .int .i64 0])
        generalize setAll w2 w.heap.size 0 [.int .i64 0, .int .i64 0, .int .i64 0, .int .i64 0, .int .i64 0, .int .i64 0, .int .i64 0, .int .i64 0, .int .i64 0, .int .i64 0, .int .i64 0, .int .i64 0, .int .i64 0] = wf at *
        refine bodyPost_ret (v := .tuple #[.agg Iz, .int .i64 4]) ?_ rfl ⟨rfl, hW⟩
        simp [results, Try.results8, go_sem, hA.cell 0 _ rfl, hA.cell 1 _ rfl, hA.cell 2 _ rfl, hA.cell 3 _ rfl, hA.cell 4 _ rfl, hA.cell 5 _ rfl, hA.cell 6 _ rfl, hA.cell 7 _ rfl, hA.cell 8 _ rfl, hA.cell 9 _ rfl, hA.cell 10 _ rfl, hA.cell 11 _ rfl, hA.cell 12 _ rfl]

/-- What program and reference answer alike: inodes. -/
def WAI (f : FuncId) (args : Array Value) (E : Int) (n : Nat) (L : List Int) (u : World) : Prop :=
  Calls Try.prog f args u fun e w' => ∃ a c, e = .returned (.tuple #[.slice a n c, .int .i64 E]) ∧ Hid (Has w' a n L) ∧ Below u.heap.size u w'

def RAI (f : FuncId) (args : Array Value) (v : Value) (q : Int) (u : World) : Prop :=
  Calls Try.prog f args u fun e w' => e = .returned (.tuple #[v, .int .i64 q]) ∧ Below u.heap.size u w'

theorem wai_err {f : FuncId} {args : Array Value} {q : Int} {u : World} (h : Calls Try.prog f args u fun e w' => e = .returned (.tuple #[.slice none 0 0, .int .i64 q]) ∧ Below u.heap.size u w') : WAI f args q 0 [] u := by
  refine Calls.mono h ?_
  rintro e w' ⟨rfl, hb⟩
  exact ⟨_, _, rfl, Has.nil _, hb⟩

theorem inode_ans (X : Nat → Int) : ∃ E n L, ∀ u, WAI 5 #[Iv X] E n L u ∧ WAI 6 #[Iv X] E n L u := by
  by_cases hB : inoBad X = true
  · exact ⟨4, 0, [], fun u => ⟨wai_err (inode_bad X u hB), wai_err (refInode_bad X u hB)⟩⟩
  · have hB : inoBad X = false := by simpa using hB
    by_cases hF : inoF X = true
    · refine ⟨0, 32, layB 32 (inoL X), fun u => ⟨?_, ?_⟩⟩
      · refine Calls.mono (inode_ok X u hB hF) ?_
        rintro e w' ⟨a, c, rfl, hh, hb⟩
        exact ⟨a, c, rfl, hh.out.1, hb⟩
      · exact refInode_good X u hB hF
    · have hF : inoF X = false := by simpa using hF
      exact ⟨3, 0, [], fun u => ⟨wai_err (inode_value X u hB hF), wai_err (refInode_value X u hB hF)⟩⟩

theorem inoIs_len {zs : List Int} (h : inoIs zs) : zs.length = 32 := by
  have := h.2.2
  rw [← this]
  exact length_layB (by rw [inoL_length]; omega)

theorem uninode_ans (a : Option Addr) (len cap : Nat) (zs : List Int) : ∃ X q, ∀ u, Row u.heap.size u a len cap zs → RAI 7 #[.slice a len cap] (Iv X) q u ∧ RAI 8 #[.slice a len cap] (Iv X) q u := by
  by_cases h : inoIs zs
  · refine ⟨inoOf zs, 0, fun u hr => ⟨uninode_yes a len cap zs u hr h, ?_⟩⟩
    exact refUninode_cmp a len cap zs u hr (by rw [← hr.1]; exact inoIs_len h) h.1 h.2.1 false (by simp [h.2.2])
  · refine ⟨zeroX, 4, fun u hr => ⟨uninode_no a len cap zs u hr h, ?_⟩⟩
    by_cases hl : len = 32
    · by_cases hB : inoBad (inoOf zs) = true
      · exact refUninode_err a len cap zs u hr hl 4 rfl (fun u => refInode_bad _ u hB)
      · have hB : inoBad (inoOf zs) = false := by simpa using hB
        by_cases hF : inoF (inoOf zs) = true
        · exact refUninode_cmp a len cap zs u hr hl hB hF true (by simp; exact fun e => h ⟨hB, hF, e⟩)
        · exact refUninode_err a len cap zs u hr hl 3 rfl (fun u => refInode_value _ u hB (by simpa using hF))
    · exact refUninode_size a len cap u hr.2.2.1.1 hl

end Go.Proofs.Ytmdkcoenjadieaa
