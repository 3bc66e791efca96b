/- The program's Tree. -/
import Derived.Test.YtkdiifoipfkmcaaNTreeM
import Derived.Test.YtkdiifoipfkmcaaGI
namespace Go.Proofs.Ytkdiifoipfkmcaa
open Go.RowKit Go.Shelf Ieee
set_option linter.unusedVariables false

/-- In the loop over the files: k are done. -/
def NT1 (w : World) (P : Nat → Int) (F : List Int) (k x y : Nat) (u : World) : Prop := Kp w P u ∧ Am x (pre (flB P) F k) ∧ Am y (pre (flI P) F k) ∧ allOk (whE P) F k

/-- In the loop over the directories: k are done. -/
def NT2 (w : World) (P : Nat → Int) (F D : List Int) (k x y : Nat) (u : World) : Prop := Kp w P u ∧ Am x ((F.map (flB P)).sum + pre (drB P) D k) ∧ Am y ((F.map (flI P)).sum + pre (drI P) D k) ∧ allOk (whE P) F F.length ∧ allOk (drE P) D k

theorem NT1.next {w : World} {P : Nat → Int} {F : List Int} {k x y u v : Nat} {s s' : World} (h : NT1 w P F k x y s) (hk : k < F.length) (hb : Below s.heap.size s s') (hE : whE P (F[k]?.getD 0) = 0) (hu : Rd u (flB P (F[k]?.getD 0))) (hv : Rd v (flI P (F[k]?.getD 0))) :
    ∃ p q, cSumBits .add .f64 x y u v = some (p, q) ∧ NT1 w P F (k + 1) p q s' := by
  have hd := flB_bd (P := P) (n := F[k]?.getD 0)
  obtain ⟨p, q, e, h1, h2⟩ := am_two h.2.1 h.2.2.1 hu hv (by omega) (by omega)
  refine ⟨p, q, e, h.1.call hb, ?_, ?_, allOk_next h.2.2.2 hE⟩
  · rw [pre_next _ _ _ hk]; exact h1
  · rw [pre_next _ _ _ hk]; exact h2

theorem NT2.next {w : World} {P : Nat → Int} {F D : List Int} {k x y u v : Nat} {s s' : World} (h : NT2 w P F D k x y s) (hk : k < D.length) (hb : Below s.heap.size s s') (hE : drE P (D[k]?.getD 0) = 0) (hu : Rd u (drB P (D[k]?.getD 0))) (hv : Rd v (drI P (D[k]?.getD 0))) :
    ∃ p q, cSumBits .add .f64 x y u v = some (p, q) ∧ NT2 w P F D (k + 1) p q s' := by
  have hd := drB_bd (P := P) (k := D[k]?.getD 0)
  obtain ⟨p, q, e, h1, h2⟩ := am_two h.2.1 h.2.2.1 hu hv (by omega) (by omega)
  refine ⟨p, q, e, h.1.call hb, ?_, ?_, h.2.2.2.1, allOk_next h.2.2.2.2 hE⟩
  · rw [pre_next _ _ _ hk, ← Int.add_assoc]; exact h1
  · rw [pre_next _ _ _ hk, ← Int.add_assoc]; exact h2

theorem NT1.done {w : World} {P : Nat → Int} {F : List Int} {x y : Nat} {s : World} (D : List Int) (h : NT1 w P F F.length x y s) : NT2 w P F D 0 x y s := by
  obtain ⟨h1, h2, h3, h4⟩ := h
  rw [pre_all] at h2 h3
  refine ⟨h1, ?_, ?_, h4, fun j hj => by omega⟩
  · rw [pre_zero, Int.add_zero]; exact h2
  · rw [pre_zero, Int.add_zero]; exact h3

set_option maxRecDepth 10000 in
set_option maxHeartbeats 1000000 in
theorem tree_form (P : Nat → Int) (a1 a2 : Option Addr) (l1 c1 l2 c2 : Nat) (F D : List Int) (w : World) (h : checkE P ≠ 0) :
    Calls Try.prog 13 #[Pv P, .slice a1 l1 c1, .slice a2 l2 c2] w fun e w' => AnsA e (trE P F D) (trB P F D) (trI P F D) ∧ Below w.heap.size w w' := by
  obtain ⟨e1, e2, e3⟩ := tr_form (F := F) (D := D) h
  rw [e1, e2, e3]
  have H1 := hide (check_any P)
  have HK := hide (Kp.start w P)
  have h4 : checkE P = 4 := by have := checkE_two P; omega
  rw [h4] at H1
  clear h h4 e1 e2 e3
  go_enter Try.func13, Try.ntmps13
  go_wp2_with fail
  go_at_call 23
  refine (unhide H1 _).mono ?_
  rintro r w1 ⟨rfl, hx⟩
  replace HK := hide ((unhide HK).call hx)
  clear hx H1
  go_wp2
  go_ret2
  exact ⟨⟨0, 0, rfl, rd_zero, rd_zero⟩, (unhide HK).2⟩

set_option maxRecDepth 10000 in
set_option maxHeartbeats 2000000 in
theorem tree_good (P : Nat → Int) (a1 a2 : Option Addr) (l1 c1 l2 c2 : Nat) (F D : List Int) (w : World) (h : checkE P = 0) (h1 : IHas w a1 l1 F) (h2 : IHas w a2 l2 D) (hl1 : l1 ≤ 140737488351232) (hl2 : l2 ≤ 140737488351232) :
    Calls Try.prog 13 #[Pv P, .slice a1 l1 c1, .slice a2 l2 c2] w fun e w' => AnsA e (trE P F D) (trB P F D) (trI P F D) ∧ Below w.heap.size w w' := by
  have H1 := hide (check_any P)
  have HK := hide (Kp.start w P)
  rw [h] at H1
  have HC := hide h
  have HF := hide h1
  have HD := hide h2
  have L1 : Hid (F.length = l1) := h1.1
  have L2 : Hid (D.length = l2) := h2.1
  clear h h1 h2
  have H2 := hide (file_any P)
  have H3 := hide (dir_any P)
  have H4 := hide total_am
  go_enter Try.func13, Try.ntmps13
  go_wp2_with fail
  go_at_call 23
  refine (unhide H1 _).mono ?_
  rintro r w1 ⟨rfl, hx⟩
  replace HK := hide ((unhide HK).call hx)
  clear hx H1
  go_wp2
  go_loopw [8, 22] (fun s i wr => ∃ k x y : Nat, s = .complex .f64 x y ∧ i = .int .i64 (k : Int) ∧ k ≤ l1 ∧ Hid (NT1 w P F k x y wr)) (fun _ i _ => l1 - (intOf i).toNat)
  case atStart => exact ⟨0, 0, 0, rfl, rfl, Nat.zero_le _, hide ⟨unhide HK, am_of (n := 0) rd_zero (by omega) (by omega), am_of (n := 0) rd_zero (by omega) (by omega), fun j hj => by omega⟩⟩
  case round =>
    obtain ⟨k, x, y, rfl, rfl, hk, hJ⟩ := hrel
    clear HK
    by_cases hlt : k < l1
    · obtain ⟨b1, o1, rfl, hc1⟩ := ((unhide HF).later (unhide hJ).1.2).2 (by omega)
      have g1 := hc1 k hlt
      have HE := hide (fun u v s' hb => (unhide hJ).next (u := u) (v := v) (s' := s') (by rw [unhide L1]; exact hlt) hb)
      have HX := hide (fun hz => er_file (P := P) (F := F) (D := D) (k := k) (by rw [unhide L1]; exact hlt) (unhide hJ).2.2.2 hz)
      generalize F[k]?.getD 0 = z at *
      obtain ⟨f0, f1, f2, f3, f4, f5, f6, f7, f8, f9, f10, f11⟩ := (unhide hJ).1.cells
      have hlt' : (k : Int) < (l1 : Int) := by omega
      clear hc1 hlt
      go_wp2_with fail
      go_at_call 7
      refine (unhide H2 _ _).mono ?_
      rintro r w2 ⟨⟨u, v, rfl, hu, hv⟩, hb⟩
      have HU := hide (And.intro hu hv)
      have HB := hide hb
      clear hu hv hb f0 f1 f2 f3 f4 f5 f6 f7 f8 f9 f10 f11
      by_cases hz : whE P z = 0
      · obtain ⟨p, q, e, hN⟩ := unhide HE u v w2 (unhide HB) hz (unhide HU).1 (unhide HU).2
        have HN := hide hN
        have sm := fun w => run_complex_sum (P := Try.prog) w .add (.inl rfl) 26 .f64 x y u v p q e
        rw [hz]
        clear HE HX HU HB hN e hz hJ
        go_wp2
        exact ⟨⟨k + 1, p, q, rfl, by go_num, by omega, HN⟩, by simp [intOf]; omega⟩
      · have HT := hide (tr_err (unhide HC) (unhide HX hz) hz)
        clear HE HX HU
        generalize whE P z = E at *
        go_wp2
        go_ret2
        rw [(unhide HT).1, (unhide HT).2.1, (unhide HT).2.2]
        exact ⟨⟨0, 0, rfl, rd_zero, rd_zero⟩, ((unhide hJ).1.call (unhide HB)).2⟩
    · obtain rfl : k = l1 := by omega
      have hJ2 : Hid (NT2 w P F D 0 x y wr) := by
        have h := unhide hJ
        rw [← unhide L1] at h
        exact h.done D
      clear hJ hlt hk
      go_wp2
      go_loopw [8, 41] (fun s i wr => ∃ k x y : Nat, s = .complex .f64 x y ∧ i = .int .i64 (k : Int) ∧ k ≤ l2 ∧ Hid (NT2 w P F D k x y wr)) (fun _ i _ => l2 - (intOf i).toNat)
      case atStart => exact ⟨0, x, y, rfl, rfl, Nat.zero_le _, hJ2⟩
      case round =>
        obtain ⟨j, x, y, rfl, rfl, hk, hJ⟩ := hrel
        clear hJ2
        by_cases hlt : j < l2
        · obtain ⟨b1, o1, rfl, hc1⟩ := ((unhide HD).later (unhide hJ).1.2).2 (by omega)
          have g1 := hc1 j hlt
          have HE := hide (fun u v s' hb => (unhide hJ).next (u := u) (v := v) (s' := s') (by rw [unhide L2]; exact hlt) hb)
          have HX := hide (fun hz => er_dir (P := P) (F := F) (D := D) (k := j) (unhide hJ).2.2.2.1 (by rw [unhide L2]; exact hlt) (unhide hJ).2.2.2.2 hz)
          generalize D[j]?.getD 0 = z at *
          obtain ⟨f0, f1, f2, f3, f4, f5, f6, f7, f8, f9, f10, f11⟩ := (unhide hJ).1.cells
          have hlt' : (j : Int) < (l2 : Int) := by omega
          clear hc1 hlt
          go_wp2_with fail
          go_at_call 9
          refine (unhide H3 _ _).mono ?_
          rintro r w2 ⟨⟨u, v, rfl, hu, hv⟩, hb⟩
          have HU := hide (And.intro hu hv)
          have HB := hide hb
          clear hu hv hb f0 f1 f2 f3 f4 f5 f6 f7 f8 f9 f10 f11
          by_cases hz : drE P z = 0
          · obtain ⟨p, q, e, hN⟩ := unhide HE u v w2 (unhide HB) hz (unhide HU).1 (unhide HU).2
            have HN := hide hN
            have sm := fun w => run_complex_sum (P := Try.prog) w .add (.inl rfl) 26 .f64 x y u v p q e
            rw [hz]
            clear HE HX HU HB hN e hz hJ
            go_wp2
            exact ⟨⟨j + 1, p, q, rfl, by go_num, by omega, HN⟩, by simp [intOf]; omega⟩
          · have HT := hide (tr_err (unhide HC) (unhide HX hz) hz)
            clear HE HX HU
            generalize drE P z = E at *
            go_wp2
            go_ret2
            rw [(unhide HT).1, (unhide HT).2.1, (unhide HT).2.2]
            exact ⟨⟨0, 0, rfl, rd_zero, rd_zero⟩, ((unhide hJ).1.call (unhide HB)).2⟩
        · obtain rfl : j = l2 := by omega
          have HT := hide (tr_sum (unhide HC) (er_none (unhide hJ).2.2.2.1 (by have := (unhide hJ).2.2.2.2; rw [← unhide L2] at this; exact this)))
          have HS : Hid (Am x (suB P F D) ∧ Am y (suI P F D)) := by
            have h1 := (unhide hJ).2.1
            have h2 := (unhide hJ).2.2.1
            rw [← unhide L2, pre_all] at h1 h2
            exact ⟨h1, h2⟩
          clear hlt hk
          go_wp2_with fail
          go_at_call 25
          refine (unhide H4 x y _ _ _ (unhide HS).1 (unhide HS).2).mono ?_
          rintro r w2 ⟨⟨u, v, rfl, hu, hv⟩, rfl⟩
          have HU := hide (And.intro hu hv)
          clear hu hv
          go_wp2
          go_ret2
          rw [(unhide HT).1, (unhide HT).2.1, (unhide HT).2.2]
          exact ⟨⟨u, v, rfl, (unhide HU).1, (unhide HU).2⟩, (unhide hJ).1.2⟩

theorem tree_any (P : Nat → Int) (a1 a2 : Option Addr) (l1 c1 l2 c2 : Nat) (F D : List Int) (w : World) (h1 : IHas w a1 l1 F) (h2 : IHas w a2 l2 D) (hl1 : l1 ≤ 140737488351232) (hl2 : l2 ≤ 140737488351232) :
    Calls Try.prog 13 #[Pv P, .slice a1 l1 c1, .slice a2 l2 c2] w fun e w' => AnsA e (trE P F D) (trB P F D) (trI P F D) ∧ Below w.heap.size w w' := by
  by_cases h : checkE P = 0
  · exact tree_good P a1 a2 l1 c1 l2 c2 F D w h h1 h2 hl1 hl2
  · exact tree_form P a1 a2 l1 c1 l2 c2 F D w h

end Go.Proofs.Ytkdiifoipfkmcaa
