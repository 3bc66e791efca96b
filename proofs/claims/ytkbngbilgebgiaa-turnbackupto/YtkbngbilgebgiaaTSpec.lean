/- The spectrum of four sums. -/
import Derived.Test.YtkbngbilgebgiaaTLay
namespace Go.Proofs.Ytkbngbilgebgiaa
open Go.RowKit Go.Shelf
set_option linter.unusedVariables false

/-- The spectrum of the first R sums: real and imaginary parts. -/
def sr (S : Nat → Int) : Nat → Nat → Int
  | 0, _ => 0
  | R + 1, j => sr S R j + S R * ire ((j : Int) * ((R : Int) % 4))
def si (S : Nat → Int) : Nat → Nat → Int
  | 0, _ => 0
  | R + 1, j => si S R j + S R * iim ((j : Int) * ((R : Int) % 4))

/-- The spectrum of four sums. -/
def sre (S : Nat → Int) (j : Nat) : Int := if j = 0 then S 0 + S 1 + S 2 + S 3 else if j = 2 then S 0 - S 1 + S 2 - S 3 else S 0 - S 2
def sim (S : Nat → Int) (j : Nat) : Int := if j = 1 then S 1 - S 3 else if j = 3 then S 3 - S 1 else 0

theorem sr_four (S : Nat → Int) (j : Nat) (hj : j < 4) : sr S 4 j = sre S j ∧ si S 4 j = sim S j := by
  have h : j = 0 ∨ j = 1 ∨ j = 2 ∨ j = 3 := by omega
  rcases h with rfl | rfl | rfl | rfl <;> simp [sr, si, sre, sim, ire, iim] <;> omega

theorem ire_bd (m : Int) : -1 ≤ ire m ∧ ire m ≤ 1 := by unfold ire; split <;> (try split) <;> omega
theorem iim_bd (m : Int) : -1 ≤ iim m ∧ iim m ≤ 1 := by unfold iim; split <;> (try split) <;> omega

theorem mul_bd (x y M : Int) (hx : -M ≤ x ∧ x ≤ M) (hy : -1 ≤ y ∧ y ≤ 1) : -M ≤ x * y ∧ x * y ≤ M := by
  have h : y = -1 ∨ y = 0 ∨ y = 1 := by omega
  rcases h with rfl | rfl | rfl <;> simp <;> omega

theorem sr_bd (S : Nat → Int) (M : Int) (hM : 0 ≤ M) (hS : ∀ j, j < 4 → -M ≤ S j ∧ S j ≤ M) (R : Nat) (hR : R ≤ 4) (j : Nat) : (-((R : Int) * M) ≤ sr S R j ∧ sr S R j ≤ (R : Int) * M) ∧ (-((R : Int) * M) ≤ si S R j ∧ si S R j ≤ (R : Int) * M) := by
  induction R with
  | zero => simp [sr, si]
  | succ R ih =>
    have h := ih (by omega)
    have k1 := mul_bd (S R) (ire ((j : Int) * ((R : Int) % 4))) M (hS R (by omega)) (ire_bd _)
    have k2 := mul_bd (S R) (iim ((j : Int) * ((R : Int) % 4))) M (hS R (by omega)) (iim_bd _)
    have e : ((R + 1 : Nat) : Int) * M = (R : Int) * M + M := by push_cast; rw [Int.add_mul, Int.one_mul]
    rw [e]
    simp only [sr, si]
    omega

theorem sr_lid (S : Nat → Int) (hS : ∀ j, j < 4 → -1125899906842624 ≤ S j ∧ S j ≤ 1125899906842624) (R : Nat) (hR : R ≤ 4) : Lid 4503599627370496 (sr S R) (si S R) := by
  intro j hj
  have := sr_bd S 1125899906842624 (by omega) hS R hR j
  have h : (R : Int) * 1125899906842624 ≤ 4503599627370496 := by omega
  omega

/-- Four whole numbers as cells. -/
def ints (S : Nat → Int) : Nat → Value := fun j => .int .i64 (S j)

theorem index_0 (S : Nat → Int) (w : World) : (Instr.index 37 (.agg #[ints S 0, ints S 1, ints S 2, ints S 3]) (.int .i64 0)).run Try.prog w = .ok (.int .i64 (S 0)) w := by kernel_rfl
theorem index_1 (S : Nat → Int) (w : World) : (Instr.index 37 (.agg #[ints S 0, ints S 1, ints S 2, ints S 3]) (.int .i64 1)).run Try.prog w = .ok (.int .i64 (S 1)) w := by kernel_rfl
theorem index_2 (S : Nat → Int) (w : World) : (Instr.index 37 (.agg #[ints S 0, ints S 1, ints S 2, ints S 3]) (.int .i64 2)).run Try.prog w = .ok (.int .i64 (S 2)) w := by kernel_rfl
theorem index_3 (S : Nat → Int) (w : World) : (Instr.index 37 (.agg #[ints S 0, ints S 1, ints S 2, ints S 3]) (.int .i64 3)).run Try.prog w = .ok (.int .i64 (S 3)) w := by kernel_rfl
theorem index_four (S : Nat → Int) (k : Nat) (hk : k < 4) (w : World) : (Instr.index 37 (.agg #[ints S 0, ints S 1, ints S 2, ints S 3]) (.int .i64 (k : Int))).run Try.prog w = .ok (.int .i64 (S k)) w := by
  have h : k = 0 ∨ k = 1 ∨ k = 2 ∨ k = 3 := by omega
  rcases h with rfl | rfl | rfl | rfl
  · exact index_0 S w
  · exact index_1 S w
  · exact index_2 S w
  · exact index_3 S w

theorem rd_of_int (n : Int) (h : -1125899906842624 ≤ n ∧ n ≤ 1125899906842624) : Rd (floatOfInt .f64 n) n := rd_int n (by omega)

theorem cx_next {V : Nat → Value} {S : Nat → Int} {R : Nat} (h : C4 V (lr (sr S R) (fun _ => S R) nought (R : Int) 4) (li (si S R) (fun _ => S R) nought (R : Int) 4)) : C4 V (sr S (R + 1)) (si S (R + 1)) := by
  intro j hj
  have := h j hj
  simp only [lr, li, hj, if_true, nought, Int.zero_mul, Int.sub_zero, Int.add_zero] at this
  exact this

theorem spectrum_any (S : Nat → Int) (w : World) (hS : ∀ j, j < 4 → -1125899906842624 ≤ S j ∧ S j ≤ 1125899906842624) :
    Calls Try.prog 17 #[.agg #[ints S 0, ints S 1, ints S 2, ints S 3]] w fun e w' => ∃ V, e = .returned (.agg #[V 0, V 1, V 2, V 3]) ∧ C4 V (sre S) (sim S) ∧ Below w.heap.size w w' := by
  have hs := store_c
  have HS : Hid (∀ j, j < 4 → -1125899906842624 ≤ S j ∧ S j ≤ 1125899906842624) := hS
  clear hS
  go_enter Try.func17, Try.ntmps17
  go_wp2
  go_loopw [8] (fun i wr => ∃ (R : Nat) (V : Nat → Value), R ≤ 4 ∧ i = .int .i64 (R : Int) ∧ Hid (C4 V (sr S R) (si S R)) ∧ Hid (R4 wr (w.heap.size + 1) 26 zeros ∧ R4 wr (w.heap.size + 1 + 1) 26 V ∧ Below w.heap.size w wr)) (fun i _ => 4 - (intOf i).toNat)
  case atStart =>
    refine ⟨0, zeros, by omega, rfl, hide zeros_c4, hide ⟨?_, ?_, ?_⟩⟩
    · have := (R4.new (w.alloc (Obj.cells #[ints S 0, ints S 1, ints S 2, ints S 3] 37)) 26 zeros).alloc (Obj.cells #[zeros 0, zeros 1, zeros 2, zeros 3] 26)
      simpa [zeros] using this
    · have := R4.new ((w.alloc (Obj.cells #[ints S 0, ints S 1, ints S 2, ints S 3] 37)).alloc (Obj.cells #[zeros 0, zeros 1, zeros 2, zeros 3] 26)) 26 zeros
      simpa [zeros] using this
    · exact (((Below.refl _ _).alloc (Nat.le_refl _) _).alloc (by simp) _).alloc (by simp; omega) _
  case round =>
    obtain ⟨R, V, hR, rfl, hC, hB⟩ := hrel
    by_cases hlt : R < 4
    · have ix := index_four S R hlt
      have e0 := (unhide hB).2.1.cell 0 (by omega)
      have e1 := (unhide hB).2.1.cell 1 (by omega)
      have e2 := (unhide hB).2.1.cell 2 (by omega)
      have e3 := (unhide hB).2.1.cell 3 (by omega)
      have HR : Hid (R < 4) := hlt
      have i2 : (R : Int) < 4 := by omega
      clear hlt
      go_wp2_with fail
      go_at_call 20
      refine (lay_any V (fun _ => .complex .f64 (floatOfInt .f64 (S R)) 0) (sr S R) (si S R) (fun _ => S R) nought (R : Int) _ (unhide hC) (fun j _ => ⟨_, _, rfl, rd_of_int _ (unhide HS R (unhide HR)), rd_zero⟩) (sr_lid S (unhide HS) R (Nat.le_of_lt (unhide HR))) ?_).mono ?_
      · intro j hj
        have := unhide HS R (unhide HR)
        simp only [nought]
        omega
      rintro e w' ⟨V', rfl, hV', hb⟩
      have hC' := cx_next hV'
      have B1 := (unhide hB).1.below hb (unhide hB).1.lt
      have B2 := (unhide hB).2.1.below hb (unhide hB).2.1.lt
      have HB : Hid (R4 w' (w.heap.size + 1) 26 zeros ∧ R4 w' (w.heap.size + 1 + 1) 26 V ∧ Below w.heap.size w w') := ⟨B1, B2, (unhide hB).2.2.trans (hb.mono (by have := (unhide hB).2.2.size; omega))⟩
      have HC : Hid (C4 V' (sr S (R + 1)) (si S (R + 1))) := hC'
      clear e0 e1 e2 e3 hV' hC' hb
      have f0 := B2.free 0
      have f1 := B2.free 1
      have f2 := B2.free 2
      have f3 := B2.free 3
      have c0 := B2.cell 0 (by omega)
      have c1 := B2.cell 1 (by omega)
      have c2 := B2.cell 2 (by omega)
      have c3 := B2.cell 3 (by omega)
      have s0 := store_v (unhide HC 0 (by omega))
      have s1 := store_v (unhide HC 1 (by omega))
      have s2 := store_v (unhide HC 2 (by omega))
      have s3 := store_v (unhide HC 3 (by omega))
      clear B1 B2
      go_wp2
      obtain ⟨B1, B2, B3⟩ := unhide HB
      refine ⟨⟨R + 1, V', by have := unhide HR; omega, by go_num, HC, hide ⟨?_, B2.all V', ?_⟩⟩, by have := unhide HR; simp [intOf]; omega⟩
      · exact (((B1.other _ _ (by simp)).other _ _ (by simp)).other _ _ (by simp)).other _ _ (by simp)
      · exact (((B3.setCell (by simp; omega) _).setCell (by simp; omega) _).setCell (by simp; omega) _).setCell (by simp; omega) _
    · obtain rfl : R = 4 := by omega
      clear hlt hR
      have e0 := (unhide hB).2.1.cell 0 (by omega)
      have e1 := (unhide hB).2.1.cell 1 (by omega)
      have e2 := (unhide hB).2.1.cell 2 (by omega)
      have e3 := (unhide hB).2.1.cell 3 (by omega)
      have f0 := (unhide hB).1.free 0
      have f1 := (unhide hB).1.free 1
      have f2 := (unhide hB).1.free 2
      have f3 := (unhide hB).1.free 3
      have c0 := (unhide hB).1.cell 0 (by omega)
      have c1 := (unhide hB).1.cell 1 (by omega)
      have c2 := (unhide hB).1.cell 2 (by omega)
      have c3 := (unhide hB).1.cell 3 (by omega)
      have s0 := store_v (unhide hC 0 (by omega))
      have s1 := store_v (unhide hC 1 (by omega))
      have s2 := store_v (unhide hC 2 (by omega))
      have s3 := store_v (unhide hC 3 (by omega))
      go_wp2
      have hR := (unhide hB).1.all V
      have hW : Below w.heap.size w ((((wr.setCell ⟨w.heap.size + 1, 0, none⟩ (V 0)).setCell ⟨w.heap.size + 1, 1, none⟩ (V 1)).setCell ⟨w.heap.size + 1, 2, none⟩ (V 2)).setCell ⟨w.heap.size + 1, 3, none⟩ (V 3)) :=
        ((((unhide hB).2.2.setCell (by simp) _).setCell (by simp) _).setCell (by simp) _).setCell (by simp) _
      clear e0 e1 e2 e3 f0 f1 f2 f3 c0 c1 c2 c3 s0 s1 s2 s3
      generalize ((((wr.setCell ⟨w.heap.size + 1, 0, none⟩ (V 0)).setCell ⟨w.heap.size + 1, 1, none⟩ (V 1)).setCell ⟨w.heap.size + 1, 2, none⟩ (V 2)).setCell ⟨w.heap.size + 1, 3, none⟩ (V 3)) = wf at *
      refine bodyPost_ret (v := .agg #[V 0, V 1, V 2, V 3]) ?_ rfl ⟨V, rfl, ?_, hW⟩
      · simp [results, Try.results17, go_sem, hR.cell 0 (by omega), hR.cell 1 (by omega), hR.cell 2 (by omega), hR.cell 3 (by omega)]
      · intro j hj
        have := unhide hC j hj
        rw [(sr_four S j hj).1, (sr_four S j hj).2] at this
        exact this
end Go.Proofs.Ytkbngbilgebgiaa
