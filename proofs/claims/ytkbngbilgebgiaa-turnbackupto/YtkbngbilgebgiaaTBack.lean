/- A spectrum turned back: four times a sum, and the sum. -/
import Derived.Test.YtkbngbilgebgiaaTWakes
import Derived.Test.YtkbngbilgebgiaaTQuo
import Derived.Deep.RegionHeld3
namespace Go.Proofs.Ytkbngbilgebgiaa
open Go.RowKit Go.Shelf Ieee
set_option linter.unusedVariables false

/-- The first k numbers, turned back by r places. -/
def xr (a b : Nat → Int) (r : Int) : Nat → Int
  | 0 => 0
  | k + 1 => xr a b r k + (a k * ire (-(k : Int) * r) - b k * iim (-(k : Int) * r))
def xi (a b : Nat → Int) (r : Int) : Nat → Int
  | 0 => 0
  | k + 1 => xi a b r k + (a k * iim (-(k : Int) * r) + b k * ire (-(k : Int) * r))

theorem x_bd (a b : Nat → Int) (M : Int) (hM : 0 ≤ M) (h : Lid M a b) (r : Int) (k : Nat) (hk : k ≤ 4) : (-((k : Int) * (2 * M)) ≤ xr a b r k ∧ xr a b r k ≤ (k : Int) * (2 * M)) ∧ (-((k : Int) * (2 * M)) ≤ xi a b r k ∧ xi a b r k ≤ (k : Int) * (2 * M)) := by
  induction k with
  | zero => simp [xr, xi]
  | succ k ih =>
    have h0 := ih (by omega)
    have hl := h k (by omega)
    have k1 := mul_bd (a k) (ire (-(k : Int) * r)) M hl.1 (ire_bd _)
    have k2 := mul_bd (b k) (iim (-(k : Int) * r)) M hl.2 (iim_bd _)
    have k3 := mul_bd (a k) (iim (-(k : Int) * r)) M hl.1 (iim_bd _)
    have k4 := mul_bd (b k) (ire (-(k : Int) * r)) M hl.2 (ire_bd _)
    have e : ((k + 1 : Nat) : Int) * (2 * M) = (k : Int) * (2 * M) + 2 * M := by push_cast; rw [Int.add_mul, Int.one_mul]
    rw [e]
    simp only [xr, xi]
    omega

theorem x_lid (a b : Nat → Int) (h : Lid 281474976710656 a b) (r : Int) (k : Nat) (hk : k ≤ 4) : (-4503599627370496 ≤ xr a b r k ∧ xr a b r k ≤ 4503599627370496) ∧ (-4503599627370496 ≤ xi a b r k ∧ xi a b r k ≤ 4503599627370496) := by
  have := x_bd a b 281474976710656 (by omega) h r k hk
  have e : (k : Int) * (2 * 281474976710656) ≤ 4503599627370496 := by omega
  omega

/-- Of the spectrum of sums this is four times a sum. -/
theorem x_four (S : Nat → Int) (r : Nat) (hr : r < 4) : xr (sre S) (sim S) (r : Int) 4 = 4 * S r := by
  have h : r = 0 ∨ r = 1 ∨ r = 2 ∨ r = 3 := by omega
  rcases h with rfl | rfl | rfl | rfl <;> simp [xr, sre, sim, ire, iim] <;> omega

theorem back_any (V : Nat → Value) (a b : Nat → Int) (r t : Int) (w : World) (hV : C4 V a b) (hl : Lid 281474976710656 a b) (ht : xr a b r 4 = 4 * t) :
    Calls Try.prog 21 #[.agg #[V 0, V 1, V 2, V 3], .int .i64 r] w fun e w' => ∃ y, e = .returned (.float .f64 y) ∧ Rd y t ∧ Below w.heap.size w w' := by
  have HV : Hid (C4 V a b ∧ Lid 281474976710656 a b ∧ xr a b r 4 = 4 * t) := ⟨hV, hl, ht⟩
  clear hV hl ht
  go_enter Try.func21, Try.ntmps21
  go_wp2
  go_loopw [5, 7] (fun x i wr => ∃ (k p q : Nat), k ≤ 4 ∧ i = .int .i64 (k : Int) ∧ x = .complex .f64 p q ∧ Hid (Rc p q (xr a b r k) (xi a b r k)) ∧ Hid (R4 wr w.heap.size 26 V ∧ Below w.heap.size w wr)) (fun _ i _ => 4 - (intOf i).toNat)
  case atStart =>
    exact ⟨0, 0, 0, by omega, rfl, rfl, hide ⟨rd_zero, rd_zero⟩, hide ⟨R4.new w 26 V, (Below.refl _ _).alloc (Nat.le_refl _) _⟩⟩
  case round =>
    obtain ⟨k, p, q, hk, rfl, rfl, hR, hB⟩ := hrel
    by_cases hlt : k < 4
    · obtain ⟨uk, tk, hg, G1⟩ := (unhide HV).1 k hlt
      have e1 := (unhide hB).1.cell k hlt
      rw [hg] at e1
      have HK : Hid (Rc uk tk (a k) (b k) ∧ V k = .complex .f64 uk tk ∧ k < 4) := ⟨G1, hg, hlt⟩
      have i1 : (0 : Int) ≤ (k : Int) := by omega
      have i2 : (k : Int) < 4 := by omega
      clear G1 hg hlt
      go_wp2
      go_region_held3 (fun u => u.cell? ⟨w.heap.size, k, none⟩ = some (.complex .f64 uk tk)) (first | go_keep) (first | (go_at_call 10; refine (power_any _ _).mono ?_; rintro e w' ⟨x, y, rfl, hx, hb⟩; have z1 := ((unhide hB).1.drew.below hb (unhide hB).1.lt).cell k (unhide HK).2.2; rw [(unhide HK).2.1] at z1; have HX : Hid _ := hide hb; clear hb; obtain ⟨s1, s2, s3, s4, m1, m2, R⟩ := turn_step (unhide hR) (unhide HK).1 hx (x_lid a b (unhide HV).2.1 r k (Nat.le_of_lt (unhide HK).2.2)) (by have := (unhide HV).2.1 k (unhide HK).2.2; omega); have l1 := fun w => run_complex_mul (P := Try.prog) w 24 _ _ _ _ _ _ m1; have l2 := fun w => run_complex_sum (P := Try.prog) w .add (.inl rfl) 24 .f64 _ _ _ _ _ _ m2; have HR := hide R; clear m1 m2 R hx))
      go_wp2
      have hm : IntKind.i64.wrap (IntKind.i64.wrap (-(k : Int)) * r) % 4 = -(k : Int) * r % 4 := by
        have e : IntKind.i64.wrap (-(k : Int)) = -(k : Int) := by rw [IntKind.wrap_i64]; omega
        rw [wrap_mod4, e]
      have R := unhide HR
      rw [ire_eq hm, iim_eq hm] at R
      have hb := below_undrew (unhide HX)
      refine ⟨⟨k + 1, s3, s4, by have := (unhide HK).2.2; omega, by go_num, rfl, hide R, hide ⟨(unhide hB).1.below hb (unhide hB).1.lt, (unhide hB).2.trans (hb.mono (unhide hB).2.size)⟩⟩, by have := (unhide HK).2.2; simp [intOf]; omega⟩
    · obtain rfl : k = 4 := by omega
      clear hlt hk
      have h4 := (unhide hR).1
      rw [(unhide HV).2.2] at h4
      have hb4 := (x_lid a b (unhide HV).2.1 r 4 (by omega)).1
      rw [(unhide HV).2.2] at hb4
      obtain ⟨y, hy, hY⟩ := rd_quarter h4 (by omega)
      have l := fun w => run_float_arith (P := Try.prog) w .quo 42 .f64 _ _ _ hy
      have HY : Hid (Rd y t) := hY
      clear h4 hb4 hy hY
      go_wp2
      go_ret
      exact ⟨_, rfl, unhide HY, (unhide hB).2⟩
end Go.Proofs.Ytkbngbilgebgiaa
