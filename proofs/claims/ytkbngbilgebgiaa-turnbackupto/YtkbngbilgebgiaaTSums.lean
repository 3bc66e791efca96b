/- The sums come back from their spectrum. -/
import Derived.Test.YtkbngbilgebgiaaTBack
namespace Go.Proofs.Ytkbngbilgebgiaa
open Go.RowKit Go.Shelf Ieee
set_option linter.unusedVariables false

theorem rd_top : Rd 4787326403894837248 1099511627776 := ⟨false, 1099511627776, 12, by decide +kernel, rfl⟩

theorem order_at {x y : Nat} {a b : Int} (h1 : Rd x a) (h2 : Rd y b) {o : Ordering} (h : compare a b = o) : FloatKind.f64.format.order x y = some o := by
  show double.order x y = some o
  rw [rd_order h1 h2, h]

theorem cmp_lt {a b : Int} (h : a < b) : compare a b = .lt := by simp [compare, compareOfLessAndEq, h]
theorem cmp_gt {a b : Int} (h : b < a) : compare a b = .gt := by
  have h1 : ¬ a < b := by omega
  have h2 : ¬ a = b := by omega
  simp [compare, compareOfLessAndEq, h1, h2]
theorem cmp_eq (a : Int) : compare a a = .eq := by simp [compare, compareOfLessAndEq]

theorem to_int {y : Nat} {t : Int} (h : Rd y t) (hb : -9223372036854775808 ≤ t ∧ t ≤ 9223372036854775807) : floatToIntVal .f64 y .i64 = some t := by
  unfold floatToIntVal
  have e : (FloatKind.f64.decode y).toInt .zero = some t := rd_toInt h
  rw [e]
  have : IntKind.i64.min ≤ t ∧ t ≤ IntKind.i64.max := hb
  exact if_pos this

/-- Sums of a sound spectrum. -/
def Sound (S : Nat → Int) : Prop := ∀ j, j < 4 → 0 ≤ S j ∧ S j ≤ 1099511627776

theorem sound_lid {S : Nat → Int} (h : Sound S) : Lid 281474976710656 (sre S) (sim S) := by
  intro j hj
  have h0 := h 0 (by omega)
  have h1 := h 1 (by omega)
  have h2 := h 2 (by omega)
  have h3 := h 3 (by omega)
  unfold sre sim
  constructor <;> (split <;> (try split) <;> omega)

/-- The first k sums, and behind them 0. -/
def first (S : Nat → Int) (k : Nat) : Nat → Int := fun j => if j < k then S j else 0

theorem first_next (S : Nat → Int) (k : Nat) : upd (first S k) k (S k) = first S (k + 1) := by
  funext j
  unfold upd first
  by_cases h : j = k
  · subst h; simp
  · by_cases h2 : j < k
    · simp [h, h2]; intro h3; omega
    · have : ¬ j < k + 1 := by omega
      simp [h, h2, this]

theorem store_ints (S : Nat → Int) (j : Nat) (a : Addr) (m : Mode) (w : World) : (store a (ints S j) m).run Try.prog w = stored Try.prog w a (ints S j) m := run_store Try.prog w a _ m rfl

theorem sums_any (V : Nat → Value) (S : Nat → Int) (w : World) (hV : C4 V (sre S) (sim S)) (hS : Sound S) :
    Calls Try.prog 14 #[.agg #[V 0, V 1, V 2, V 3]] w fun e w' => e = .returned (.tuple #[.agg #[ints S 0, ints S 1, ints S 2, ints S 3], .int .i64 0]) ∧ Below w.heap.size w w' := by
  have HV : Hid (C4 V (sre S) (sim S) ∧ Sound S) := ⟨hV, hS⟩
  clear hV hS
  go_enter Try.func14, Try.ntmps14
  go_wp2
  go_loopw [7] (fun i wr => ∃ (k : Nat), k ≤ 4 ∧ i = .int .i64 (k : Int) ∧ Hid (R4 wr w.heap.size 26 V ∧ R4 wr (w.heap.size + 1) 37 (ints nought) ∧ R4 wr (w.heap.size + 1 + 1) 37 (ints (first S k)) ∧ Below w.heap.size w wr)) (fun i _ => 4 - (intOf i).toNat)
  case atStart =>
    refine ⟨0, by omega, rfl, hide ⟨((R4.new w 26 V).alloc _).alloc _, ?_, ?_, ?_⟩⟩
    · have := (R4.new (w.alloc (Obj.cells #[V 0, V 1, V 2, V 3] 26)) 37 (ints nought)).alloc (Obj.cells #[ints nought 0, ints nought 1, ints nought 2, ints nought 3] 37)
      simpa [ints, nought] using this
    · have := R4.new ((w.alloc (Obj.cells #[V 0, V 1, V 2, V 3] 26)).alloc (Obj.cells #[ints nought 0, ints nought 1, ints nought 2, ints nought 3] 37)) 37 (ints (first S 0))
      simpa [ints, nought, first] using this
    · exact (((Below.refl _ _).alloc (Nat.le_refl _) _).alloc (by simp) _).alloc (by simp; omega) _
  case round =>
    obtain ⟨k, hk, rfl, hB⟩ := hrel
    by_cases hlt : k < 4
    · have e0 := (unhide hB).1.cell 0 (by omega)
      have e1 := (unhide hB).1.cell 1 (by omega)
      have e2 := (unhide hB).1.cell 2 (by omega)
      have e3 := (unhide hB).1.cell 3 (by omega)
      have i1 : (0 : Int) ≤ (k : Int) := by omega
      have i2 : (k : Int) < 4 := by omega
      have HK : Hid (k < 4) := hlt
      clear hlt
      go_wp2_with fail
      go_at_call 21
      refine (back_any V (sre S) (sim S) (k : Int) (S k) _ (unhide HV).1 (sound_lid (unhide HV).2) (x_four S k (unhide HK))).mono ?_
      rintro e w' ⟨y, rfl, hY, hb⟩
      have hs := (unhide HV).2 k (unhide HK)
      have ti := fun w => run_convert_float_int (P := Try.prog) w 42 3 .f64 .i64 y (S k) (by kernel_rfl) (by kernel_rfl) (to_int hY (by omega))
      have B1 := (unhide hB).1.below hb (unhide hB).1.lt
      have B2 := (unhide hB).2.1.below hb (unhide hB).2.1.lt
      have B3 := (unhide hB).2.2.1.below hb (unhide hB).2.2.1.lt
      have HB : Hid (R4 w' w.heap.size 26 V ∧ R4 w' (w.heap.size + 1) 37 (ints nought) ∧ R4 w' (w.heap.size + 1 + 1) 37 (ints (first S k)) ∧ Below w.heap.size w w') := ⟨B1, B2, B3, (unhide hB).2.2.2.trans (hb.mono (unhide hB).2.2.2.size)⟩
      have f1 := B3.free k
      have c1 := B3.cell k (unhide HK)
      have hcase : (FloatKind.f64.format.order y 0 = some .eq ∧ FloatKind.f64.format.order y 4787326403894837248 = some .lt) ∨ (FloatKind.f64.format.order y 0 = some .gt ∧ FloatKind.f64.format.order y 4787326403894837248 = some .lt) ∨ (FloatKind.f64.format.order y 0 = some .gt ∧ FloatKind.f64.format.order y 4787326403894837248 = some .eq) := by
        by_cases h1 : S k = 0
        · exact .inl ⟨order_at hY rd_zero (by rw [h1]; exact cmp_eq _), order_at hY rd_top (cmp_lt (by omega))⟩
        · by_cases h2 : S k = 1099511627776
          · exact .inr (.inr ⟨order_at hY rd_zero (cmp_gt (by omega)), order_at hY rd_top (by rw [h2]; exact cmp_eq _)⟩)
          · exact .inr (.inl ⟨order_at hY rd_zero (cmp_gt (by omega)), order_at hY rd_top (cmp_lt (by omega))⟩)
      clear e0 e1 e2 e3 B1 B2 B3 hb hY hs
      rcases hcase with ⟨o1, o2⟩ | ⟨o1, o2⟩ | ⟨o1, o2⟩
      all_goals
        go_wp2
        obtain ⟨B1, B2, B3, B4⟩ := unhide HB
        have B5 := B3.set k (unhide HK) (.int .i64 (S k))
        rw [ints_upd, first_next] at B5
        have h4 := unhide HK
        exact ⟨⟨k + 1, by omega, by go_num, hide ⟨B1.other _ _ (by simp; omega), B2.other _ _ (by simp), B5, B4.setCell (by simp; omega) _⟩⟩, by simp [intOf]; omega⟩
    · obtain rfl : k = 4 := by omega
      clear hlt hk
      have e0 := (unhide hB).1.cell 0 (by omega)
      have e1 := (unhide hB).1.cell 1 (by omega)
      have e2 := (unhide hB).1.cell 2 (by omega)
      have e3 := (unhide hB).1.cell 3 (by omega)
      have HB : Hid (R4 wr w.heap.size 26 V ∧ R4 wr (w.heap.size + 1) 37 (ints nought) ∧ R4 wr (w.heap.size + 1 + 1) 37 (ints S) ∧ Below w.heap.size w wr) :=
        ⟨(unhide hB).1, (unhide hB).2.1, ints_congr (fun j hj => by simp [first, hj]) (unhide hB).2.2.1, (unhide hB).2.2.2⟩
      clear hB
      have g0 := (unhide HB).2.2.1.cell 0 (by omega)
      have g1 := (unhide HB).2.2.1.cell 1 (by omega)
      have g2 := (unhide HB).2.2.1.cell 2 (by omega)
      have g3 := (unhide HB).2.2.1.cell 3 (by omega)
      go_wp2
      go_region_held3 (fun u => (u.cell? ⟨w.heap.size, 0, none⟩ = some (V 0) ∧ u.cell? ⟨w.heap.size, 1, none⟩ = some (V 1) ∧ u.cell? ⟨w.heap.size, 2, none⟩ = some (V 2) ∧ u.cell? ⟨w.heap.size, 3, none⟩ = some (V 3)) ∧ u.cell? ⟨w.heap.size + 1 + 1, 0, none⟩ = some (ints S 0) ∧ u.cell? ⟨w.heap.size + 1 + 1, 1, none⟩ = some (ints S 1) ∧ u.cell? ⟨w.heap.size + 1 + 1, 2, none⟩ = some (ints S 2) ∧ u.cell? ⟨w.heap.size + 1 + 1, 3, none⟩ = some (ints S 3)) (first | go_keep) (first | (go_at_call 17; refine (spectrum_any S _ (fun j hj => by have := (unhide HV).2 j hj; omega)).mono ?_; rintro e w' ⟨U, rfl, hU, hb⟩; have z1 := ((unhide HB).1.drew.below hb (unhide HB).1.lt); have z2 := ((unhide HB).2.2.1.drew.below hb (unhide HB).2.2.1.lt); have y0 := z1.cell 0 (by omega); have y1 := z1.cell 1 (by omega); have y2 := z1.cell 2 (by omega); have y3 := z1.cell 3 (by omega); have x0 := z2.cell 0 (by omega); have x1 := z2.cell 1 (by omega); have x2 := z2.cell 2 (by omega); have x3 := z2.cell 3 (by omega); have HX : Hid _ := hide hb; have ne := neq_no hU (unhide HV).1; clear z1 z2 hb hU))
      have hb := below_undrew (unhide HX)
      have HW : Hid (R4 w' (w.heap.size + 1) 37 (ints nought) ∧ Below w.heap.size w w') := ⟨(unhide HB).2.1.below hb (unhide HB).2.1.lt, (unhide HB).2.2.2.trans (hb.mono (unhide HB).2.2.2.size)⟩
      clear hb HX
      have f0 := (unhide HW).1.free 0
      have f1 := (unhide HW).1.free 1
      have f2 := (unhide HW).1.free 2
      have f3 := (unhide HW).1.free 3
      have c0 := (unhide HW).1.cell 0 (by omega)
      have c1 := (unhide HW).1.cell 1 (by omega)
      have c2 := (unhide HW).1.cell 2 (by omega)
      have c3 := (unhide HW).1.cell 3 (by omega)
      have s0 := store_ints S
      go_wp2
      have hR := (unhide HW).1.all (ints S)
      have hW : Below w.heap.size w ((((w'.setCell ⟨w.heap.size + 1, 0, none⟩ (ints S 0)).setCell ⟨w.heap.size + 1, 1, none⟩ (ints S 1)).setCell ⟨w.heap.size + 1, 2, none⟩ (ints S 2)).setCell ⟨w.heap.size + 1, 3, none⟩ (ints S 3)) :=
        ((((unhide HW).2.setCell (by simp) _).setCell (by simp) _).setCell (by simp) _).setCell (by simp) _
      clear f0 f1 f2 f3 c0 c1 c2 c3 s0 e0 e1 e2 e3 g0 g1 g2 g3 y0 y1 y2 y3 x0 x1 x2 x3 ne
      generalize ((((w'.setCell ⟨w.heap.size + 1, 0, none⟩ (ints S 0)).setCell ⟨w.heap.size + 1, 1, none⟩ (ints S 1)).setCell ⟨w.heap.size + 1, 2, none⟩ (ints S 2)).setCell ⟨w.heap.size + 1, 3, none⟩ (ints S 3)) = wf at *
      refine bodyPost_ret (v := .tuple #[.agg #[ints S 0, ints S 1, ints S 2, ints S 3], .int .i64 0]) ?_ rfl ⟨rfl, hW⟩
      simp [results, Try.results14, go_sem, hR.cell 0 (by omega), hR.cell 1 (by omega), hR.cell 2 (by omega), hR.cell 3 (by omega)]
end Go.Proofs.Ytkbngbilgebgiaa
