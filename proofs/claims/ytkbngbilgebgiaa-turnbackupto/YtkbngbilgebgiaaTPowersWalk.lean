/- The walk through the statement on powers of i. -/
import Derived.Test.YtkbngbilgebgiaaTWakes
namespace Go.Proofs.Ytkbngbilgebgiaa
open Go.RowKit Go.Shelf Ieee
set_option linter.unusedVariables false

theorem pow_mul {x y u v : Nat} {n m : Int} (h1 : Rc x y (ire n) (iim n)) (h2 : Rc u v (ire m) (iim m)) : ∃ p q, cMulBits x y u v = some (p, q) ∧ Rc p q (ire (n + m)) (iim (n + m)) := by
  have hn : n % 4 = 0 ∨ n % 4 = 1 ∨ n % 4 = 2 ∨ n % 4 = 3 := by omega
  have hm : m % 4 = 0 ∨ m % 4 = 1 ∨ m % 4 = 2 ∨ m % 4 = 3 := by omega
  have key : ire n * ire m - iim n * iim m = ire (n + m) ∧ ire n * iim m + iim n * ire m = iim (n + m) := by
    rcases hn with h | h | h | h <;> rcases hm with k | k | k | k <;>
      (have e : (n + m) % 4 = (n % 4 + m % 4) % 4 := by omega
       rw [h, k] at e
       simp [ire, iim, h, k, e])
  have b1 := ire_bd n
  have b2 := iim_bd n
  have b3 := ire_bd m
  have b4 := iim_bd m
  have m1 := mul_bd (ire n) (ire m) 1 b1 b3
  have m2 := mul_bd (iim n) (iim m) 1 b2 b4
  have m3 := mul_bd (ire n) (iim m) 1 b1 b4
  have m4 := mul_bd (iim n) (ire m) 1 b2 b3
  obtain ⟨p, q, e, r⟩ := rc_mul h1 h2 (by omega) (by omega) (by omega) (by omega) (by omega) (by omega)
  rw [key.1, key.2] at r
  exact ⟨p, q, e, r⟩

theorem order_yes {x y : Nat} {a b : Int} (h1 : Rd x a) (h2 : Rd y b) (h : a = b) : FloatKind.f64.format.order x y = some .eq := by
  subst h
  have := rd_order h1 h2
  show double.order x y = some .eq
  rw [this]
  simp [compare, compareOfLessAndEq]

theorem powers_walk (n m : Int) (w : World) (h1 : -9223372036854775808 ≤ n ∧ n ≤ 9223372036854775807) (h2 : -9223372036854775808 ≤ m ∧ m ≤ 9223372036854775807) :
    Calls Try.prog 6 #[.int .i64 n, .int .i64 m] w fun e w' => e = .returned (.bool true) ∧ Below w.heap.size w w' := by
  go_enter Try.func6, Try.ntmps6
  go_wp2_with fail
  go_at_call 7
  refine (wakes_any _).mono ?_
  rintro e w0 ⟨rfl, b0⟩
  have B0 : Hid (Below w.heap.size w w0) := b0
  clear b0
  go_wp2_with fail
  go_at_call 10
  refine (power_any _ _).mono ?_
  rintro e w1 ⟨x1, y1, rfl, P1, b1⟩
  have B1 : Hid (Below w.heap.size w w1) := (unhide B0).trans (b1.mono (unhide B0).size)
  clear B0 b1
  go_wp2_with fail
  go_at_call 10
  refine (power_any _ _).mono ?_
  rintro e w2 ⟨x2, y2, rfl, P2, b2⟩
  have B2 : Hid (Below w.heap.size w w2) := (unhide B1).trans (b2.mono (unhide B1).size)
  clear B1 b2
  obtain ⟨p, q, e1, R1⟩ := pow_mul P1 P2
  have l1 := fun w => run_complex_mul (P := Try.prog) w 24 _ _ _ _ _ _ e1
  have H1 : Hid (Rc x1 y1 (ire n) (iim n) ∧ Rc x2 y2 (ire m) (iim m) ∧ Rc p q (ire (n + m)) (iim (n + m))) := ⟨P1, P2, R1⟩
  clear P1 P2 R1 e1
  go_wp2_with fail
  go_at_call 10
  refine (power_any _ _).mono ?_
  rintro e w3 ⟨x3, y3, rfl, P3, b3⟩
  have B3 : Hid (Below w.heap.size w w3) := (unhide B2).trans (b3.mono (unhide B2).size)
  clear B2 b3
  have hm : wrap64 (n.tmod 4 + m.tmod 4) % 4 = (n + m) % 4 := by
    have t1 := Int.tmod_add_mul_tdiv n 4
    have t2 := Int.tmod_add_mul_tdiv m 4
    generalize n.tmod 4 = a at *
    generalize m.tmod 4 = b at *
    generalize n.tdiv 4 = c at *
    generalize m.tdiv 4 = d at *
    simp only [wrap64]
    omega
  rw [ire_eq hm, iim_eq hm] at P3
  have o1 := order_yes (unhide H1).2.2.1 P3.1 rfl
  have o2 := order_yes (unhide H1).2.2.2 P3.2 rfl
  have H2 : Hid (Rc x1 y1 (ire n) (iim n)) := (unhide H1).1
  clear P3 hm H1 l1
  go_wp2_with fail
  go_at_call 10
  refine (power_any _ _).mono ?_
  rintro e w4 ⟨x4, y4, rfl, P4, b4⟩
  have B4 : Hid (Below w.heap.size w w4) := (unhide B3).trans (b4.mono (unhide B3).size)
  clear B3 b4 o1 o2
  have H4 : Hid (Rc x4 y4 (ire n) (iim n)) := P4
  clear P4
  go_wp2_with fail
  go_at_call 10
  refine (power_any _ _).mono ?_
  rintro e w5 ⟨x5, y5, rfl, P5, b5⟩
  have B5 : Hid (Below w.heap.size w w5) := (unhide B4).trans (b5.mono (unhide B4).size)
  clear B4 b5
  obtain ⟨p5, q5, e5, R5⟩ := pow_mul (unhide H4) P5
  have l5 := fun w => run_complex_mul (P := Try.prog) w 24 _ _ _ _ _ _ e5
  have H5 : Hid (Rc p5 q5 (ire (n + n)) (iim (n + n))) := R5
  clear P5 H4 R5 e5
  go_wp2_with fail
  go_at_call 10
  refine (power_any _ _).mono ?_
  rintro e w6 ⟨x6, y6, rfl, P6, b6⟩
  have B6 : Hid (Below w.heap.size w w6) := (unhide B5).trans (b6.mono (unhide B5).size)
  clear B5 b6
  obtain ⟨p6, q6, e6, R6⟩ := pow_mul (unhide H5) P6
  have l6 := fun w => run_complex_mul (P := Try.prog) w 24 _ _ _ _ _ _ e6
  have H6 : Hid (Rc p6 q6 (ire (n + n + n)) (iim (n + n + n))) := R6
  clear P6 H5 R6 e6 l5
  go_wp2_with fail
  go_at_call 10
  refine (power_any _ _).mono ?_
  rintro e w7 ⟨x7, y7, rfl, P7, b7⟩
  have B7 : Hid (Below w.heap.size w w7) := (unhide B6).trans (b7.mono (unhide B6).size)
  clear B6 b7
  obtain ⟨p7, q7, e7, R7⟩ := pow_mul (unhide H6) P7
  have l7 := fun w => run_complex_mul (P := Try.prog) w 24 _ _ _ _ _ _ e7
  have h0 : (n + n + n + n) % 4 = 0 % 4 := by omega
  rw [ire_eq h0, iim_eq h0] at R7
  have o1 := order_yes R7.1 rd_one rfl
  have o2 := order_yes R7.2 rd_zero rfl
  clear P7 H6 R7 e7 l6 h0
  go_wp2_with fail
  go_at_call 10
  refine (power_any _ _).mono ?_
  rintro e w8 ⟨x8, y8, rfl, P8, b8⟩
  have B8 : Hid (Below w.heap.size w w8) := (unhide B7).trans (b8.mono (unhide B7).size)
  clear B7 b8 o1 o2 l7
  have o1 := order_yes P8.1 rd_one rfl
  have o2 := order_yes P8.2 rd_zero rfl
  clear P8
  go_wp2_with fail
  go_at_call 10
  refine (power_any _ _).mono ?_
  rintro e w9 ⟨x9, y9, rfl, P9, b9⟩
  have B9 : Hid (Below w.heap.size w w9) := (unhide B8).trans (b9.mono (unhide B8).size)
  clear B8 b9 o1 o2
  have o1 := order_yes P9.1 rd_zero rfl
  have o2 := order_yes P9.2 rd_one rfl
  clear P9
  go_wp2
  go_ret
  exact ⟨rfl, unhide B9⟩
end Go.Proofs.Ytkbngbilgebgiaa
