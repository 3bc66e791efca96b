/- One spectrum laid over another. -/
import Derived.Test.YtkbngbilgebgiaaTCell
import Derived.BigRegion
namespace Go.Proofs.Ytkbngbilgebgiaa
open Go.RowKit Go.Shelf
set_option linter.unusedVariables false

theorem turn_parts (m c d : Int) (hc : -2251799813685248 ≤ c ∧ c ≤ 2251799813685248) (hd : -2251799813685248 ≤ d ∧ d ≤ 2251799813685248) :
    (c * ire m).natAbs ≤ 2251799813685248 ∧ (d * iim m).natAbs ≤ 2251799813685248 ∧ (c * iim m).natAbs ≤ 2251799813685248 ∧ (d * ire m).natAbs ≤ 2251799813685248 ∧ (c * ire m - d * iim m).natAbs ≤ 2251799813685248 ∧ (c * iim m + d * ire m).natAbs ≤ 2251799813685248 := by
  have h4 : m % 4 = 0 ∨ m % 4 = 1 ∨ m % 4 = 2 ∨ m % 4 = 3 := by omega
  rcases h4 with h | h | h | h <;> simp only [ire, iim, h] <;> simp <;> omega

/-- g's number times a power of i, added to f's. -/
theorem turn_step {fx fy gx gy x y : Nat} {a b c d m : Int} (hf : Rc fx fy a b) (hg : Rc gx gy c d) (hp : Rc x y (ire m) (iim m))
    (ha : (-4503599627370496 ≤ a ∧ a ≤ 4503599627370496) ∧ (-4503599627370496 ≤ b ∧ b ≤ 4503599627370496)) (hc : (-2251799813685248 ≤ c ∧ c ≤ 2251799813685248) ∧ (-2251799813685248 ≤ d ∧ d ≤ 2251799813685248)) :
    ∃ p q r s, cMulBits gx gy x y = some (p, q) ∧ cSumBits .add .f64 fx fy p q = some (r, s) ∧ Rc r s (a + (c * ire m - d * iim m)) (b + (c * iim m + d * ire m)) := by
  obtain ⟨ha, hb⟩ := ha
  obtain ⟨hc, hd⟩ := hc
  obtain ⟨k1, k2, k3, k4, k5, k6⟩ := turn_parts m c d hc hd
  obtain ⟨p, q, e1, r1⟩ := rc_mul hg hp (by omega) (by omega) (by omega) (by omega) (by omega) (by omega)
  generalize c * ire m - d * iim m = u at *
  generalize c * iim m + d * ire m = v at *
  obtain ⟨r, s, e2, r2⟩ := rc_add hf r1 (by omega) (by omega)
  exact ⟨p, q, r, s, e1, e2, r2⟩

/-- Number j of f, with g's laid over the first k. -/
def lr (a c d : Nat → Int) (n : Int) (k j : Nat) : Int := if j < k then a j + (c j * ire ((j : Int) * (n % 4)) - d j * iim ((j : Int) * (n % 4))) else a j
def li (b c d : Nat → Int) (n : Int) (k j : Nat) : Int := if j < k then b j + (c j * iim ((j : Int) * (n % 4)) + d j * ire ((j : Int) * (n % 4))) else b j

/-- Every part is at most M. -/
def Lid (M : Int) (a b : Nat → Int) : Prop := ∀ j, j < 4 → (-M ≤ a j ∧ a j ≤ M) ∧ (-M ≤ b j ∧ b j ≤ M)

theorem wrap_mod4 (z : Int) : IntKind.i64.wrap z % 4 = z % 4 := by rw [IntKind.wrap_i64]; omega
theorem ire_eq {a b : Int} (h : a % 4 = b % 4) : ire a = ire b := by unfold ire; rw [h]
theorem iim_eq {a b : Int} (h : a % 4 = b % 4) : iim a = iim b := by unfold iim; rw [h]
theorem ire_wrap (z : Int) : ire (IntKind.i64.wrap z) = ire z := ire_eq (wrap_mod4 z)
theorem iim_wrap (z : Int) : iim (IntKind.i64.wrap z) = iim z := iim_eq (wrap_mod4 z)

theorem lr_at (a c d : Nat → Int) (n : Int) (k : Nat) : lr a c d n k k = a k := by simp [lr]
theorem li_at (b c d : Nat → Int) (n : Int) (k : Nat) : li b c d n k k = b k := by simp [li]
theorem lr_next (a c d : Nat → Int) (n : Int) (k : Nat) : lr a c d n (k + 1) k = a k + (c k * ire ((k : Int) * (n % 4)) - d k * iim ((k : Int) * (n % 4))) := by simp [lr]
theorem li_next (b c d : Nat → Int) (n : Int) (k : Nat) : li b c d n (k + 1) k = b k + (c k * iim ((k : Int) * (n % 4)) + d k * ire ((k : Int) * (n % 4))) := by simp [li]
theorem lr_other (a c d : Nat → Int) (n : Int) (k j : Nat) (h : j ≠ k) : lr a c d n (k + 1) j = lr a c d n k j := by
  unfold lr
  by_cases h1 : j < k
  · rw [if_pos h1, if_pos (by omega)]
  · rw [if_neg h1, if_neg (by omega)]
theorem li_other (b c d : Nat → Int) (n : Int) (k j : Nat) (h : j ≠ k) : li b c d n (k + 1) j = li b c d n k j := by
  unfold li
  by_cases h1 : j < k
  · rw [if_pos h1, if_pos (by omega)]
  · rw [if_neg h1, if_neg (by omega)]

theorem below_undrew {n : Nat} {w w' : World} (h : Below n w.drew w') : Below n w w' := ⟨h.os, h.tape, h.output, h.size, h.block⟩

theorem store_v {v : Value} {a b : Int} (h : Cx v a b) (p : Addr) (m : Mode) (w : World) : (store p v m).run Try.prog w = stored Try.prog w p v m := by
  obtain ⟨x, y, rfl, _⟩ := h
  exact store_c p x y m w

/-- One round: what stands in the world behind it. -/
theorem lay_round {V G Z : Nat → Value} {a b c d : Nat → Int} {n m : Int} {k B : Nat} {wr w w' : World} {s3 s4 : Nat} (hk : k < 4) (hC : C4 V (lr a c d n k) (li b c d n k))
    (hB : R4 wr B 26 V ∧ R4 wr (B + 1) 26 G ∧ R4 wr (B + 1 + 1) 26 Z ∧ Below B w wr) (hb : Below wr.heap.size wr w') (hm : m % 4 = ((k : Int) * (n % 4)) % 4)
    (R : Rc s3 s4 (a k + (c k * ire m - d k * iim m)) (b k + (c k * iim m + d k * ire m))) :
    ∃ V', C4 V' (lr a c d n (k + 1)) (li b c d n (k + 1)) ∧ R4 (w'.setCell ⟨B, k, none⟩ (.complex .f64 s3 s4)) B 26 V' ∧ R4 (w'.setCell ⟨B, k, none⟩ (.complex .f64 s3 s4)) (B + 1) 26 G ∧ R4 (w'.setCell ⟨B, k, none⟩ (.complex .f64 s3 s4)) (B + 1 + 1) 26 Z ∧ Below B w (w'.setCell ⟨B, k, none⟩ (.complex .f64 s3 s4)) := by
  obtain ⟨h1, h2, h3, h4⟩ := hB
  refine ⟨upd V k (.complex .f64 s3 s4), ?_, (h1.below hb h1.lt).set k hk _, (h2.below hb h2.lt).other _ _ (by simp), (h3.below hb h3.lt).other _ _ (by simp; omega), ?_⟩
  · intro j hj
    by_cases h : j = k
    · subst h
      rw [upd_same, lr_next, li_next]
      rw [ire_eq hm, iim_eq hm] at R
      exact ⟨_, _, rfl, R⟩
    · rw [upd_other _ _ _ _ h, lr_other _ _ _ _ _ _ h, li_other _ _ _ _ _ _ h]
      exact hC j hj
  · exact (h4.trans (hb.mono (Nat.le_of_lt h1.lt))).setCell (Nat.le_refl _) _

set_option maxHeartbeats 4000000 in
theorem lay_any (F G : Nat → Value) (a b c d : Nat → Int) (n : Int) (w : World) (hf : C4 F a b) (hg : C4 G c d) (la : Lid 4503599627370496 a b) (lc : Lid 2251799813685248 c d) :
    Calls Try.prog 20 #[.agg #[F 0, F 1, F 2, F 3], .agg #[G 0, G 1, G 2, G 3], .int .i64 n] w fun e w' => ∃ V, e = .returned (.agg #[V 0, V 1, V 2, V 3]) ∧ C4 V (lr a c d n 4) (li b c d n 4) ∧ Below w.heap.size w w' := by
  have hs := store_c
  have ha := i64_and3 n
  obtain ⟨q, hq⟩ : ∃ q, n % 4 = q := ⟨_, rfl⟩
  have hq3 : 0 ≤ q ∧ q ≤ 3 := by omega
  rw [hq] at ha
  have HF : Hid (C4 F a b ∧ C4 G c d) := ⟨hf, hg⟩
  have HL : Hid (Lid 4503599627370496 a b ∧ Lid 2251799813685248 c d) := ⟨la, lc⟩
  have HQ : Hid (n % 4 = q ∧ 0 ≤ q ∧ q ≤ 3) := ⟨hq, hq3⟩
  clear hf hg la lc hq hq3
  go_enter Try.func20, Try.ntmps20
  go_wp2
  go_loopw [8] (fun i wr => ∃ (k : Nat) (V : Nat → Value), k ≤ 4 ∧ i = .int .i64 (k : Int) ∧ Hid (C4 V (lr a c d n k) (li b c d n k)) ∧ Hid (R4 wr w.heap.size 26 V ∧ R4 wr (w.heap.size + 1) 26 G ∧ R4 wr (w.heap.size + 1 + 1) 26 zeros ∧ Below w.heap.size w wr)) (fun i _ => 4 - (intOf i).toNat)
  case atStart =>
    refine ⟨0, F, by omega, rfl, hide ?_, hide ⟨((R4.new w 26 F).alloc _).alloc _, ?_, ?_, ?_⟩⟩
    · intro j hj
      have := (unhide HF).1 j hj
      simpa [lr, li] using this
    · have := (R4.new (w.alloc (Obj.cells #[F 0, F 1, F 2, F 3] 26)) 26 G).alloc (Obj.cells #[zeros 0, zeros 1, zeros 2, zeros 3] 26)
      simpa [zeros] using this
    · have := R4.new ((w.alloc (Obj.cells #[F 0, F 1, F 2, F 3] 26)).alloc (Obj.cells #[G 0, G 1, G 2, G 3] 26)) 26 zeros
      simpa [zeros] using this
    · exact (((Below.refl _ _).alloc (Nat.le_refl _) _).alloc (by simp) _).alloc (by simp; omega) _
  case round =>
    obtain ⟨k, V, hk, rfl, hC, hB⟩ := hrel
    by_cases hlt : k < 4
    · obtain ⟨pk, rk, hv, F1⟩ := unhide hC k hlt
      obtain ⟨uk, tk, hg, G1⟩ := (unhide HF).2 k hlt
      rw [lr_at, li_at] at F1
      have e1 := (unhide hB).1.cell k hlt
      have e2 := (unhide hB).1.free k
      have e3 := (unhide hB).2.1.cell k hlt
      rw [hv] at e1
      rw [hg] at e3
      have HK : Hid (Rc pk rk (a k) (b k) ∧ Rc uk tk (c k) (d k)) := ⟨F1, G1⟩
      have HV : Hid (V k = .complex .f64 pk rk ∧ G k = .complex .f64 uk tk ∧ k < 4) := ⟨hv, hg, hlt⟩
      have i1 : (0 : Int) ≤ (k : Int) := by omega
      have i2 : (k : Int) < 4 := by omega
      clear F1 G1 hv hg hlt
      go_wp2
      go_region_with (first | (go_at_call 10; refine (power_any _ _).mono ?_; rintro e w' ⟨x, y, rfl, hx, hb⟩; have z1 := ((unhide hB).1.drew.below hb (unhide hB).1.lt).cell k (unhide HV).2.2; have z2 := ((unhide hB).1.drew.below hb (unhide hB).1.lt).free k; have z3 := ((unhide hB).2.1.drew.below hb (unhide hB).2.1.lt).cell k (unhide HV).2.2; rw [(unhide HV).1] at z1; rw [(unhide HV).2.1] at z3; have HX : Hid _ := hide hb; clear hb; obtain ⟨s1, s2, s3, s4, m1, m2, R⟩ := turn_step (unhide HK).1 (unhide HK).2 hx ((unhide HL).1 k (unhide HV).2.2) ((unhide HL).2 k (unhide HV).2.2); have l1 := fun w => run_complex_mul (P := Try.prog) w 24 _ _ _ _ _ _ m1; have l2 := fun w => run_complex_sum (P := Try.prog) w .add (.inl rfl) 24 .f64 _ _ _ _ _ _ m2; have HR := hide R; clear m1 m2 R hx))
      all_goals
        go_wp2
        have hm : IntKind.i64.wrap ((k : Int) * q) % 4 = (k : Int) * (n % 4) % 4 := by rw [wrap_mod4, (unhide HQ).1]
        obtain ⟨V', hV, h1, h2, h3, h4⟩ := lay_round (unhide HV).2.2 (unhide hC) (unhide hB) (below_undrew (unhide HX)) hm (unhide HR)
        exact ⟨⟨k + 1, V', by have := (unhide HV).2.2; omega, by go_num, hide hV, hide ⟨h1, h2, h3, h4⟩⟩, by have := (unhide HV).2.2; simp [intOf]; omega⟩
    · obtain rfl : k = 4 := by omega
      clear hlt hk ha HQ HL
      have e0 := (unhide hB).1.cell 0 (by omega)
      have e1 := (unhide hB).1.cell 1 (by omega)
      have e2 := (unhide hB).1.cell 2 (by omega)
      have e3 := (unhide hB).1.cell 3 (by omega)
      have f0 := (unhide hB).2.2.1.free 0
      have f1 := (unhide hB).2.2.1.free 1
      have f2 := (unhide hB).2.2.1.free 2
      have f3 := (unhide hB).2.2.1.free 3
      have c0 := (unhide hB).2.2.1.cell 0 (by omega)
      have c1 := (unhide hB).2.2.1.cell 1 (by omega)
      have c2 := (unhide hB).2.2.1.cell 2 (by omega)
      have c3 := (unhide hB).2.2.1.cell 3 (by omega)
      have s0 := store_v (unhide hC 0 (by omega))
      have s1 := store_v (unhide hC 1 (by omega))
      have s2 := store_v (unhide hC 2 (by omega))
      have s3 := store_v (unhide hC 3 (by omega))
      go_wp2
      have hR := (unhide hB).2.2.1.all V
      have hW : Below w.heap.size w ((((wr.setCell ⟨w.heap.size + 1 + 1, 0, none⟩ (V 0)).setCell ⟨w.heap.size + 1 + 1, 1, none⟩ (V 1)).setCell ⟨w.heap.size + 1 + 1, 2, none⟩ (V 2)).setCell ⟨w.heap.size + 1 + 1, 3, none⟩ (V 3)) :=
        ((((unhide hB).2.2.2.setCell (by simp; omega) _).setCell (by simp; omega) _).setCell (by simp; omega) _).setCell (by simp; omega) _
      clear e0 e1 e2 e3 f0 f1 f2 f3 c0 c1 c2 c3 s0 s1 s2 s3
      generalize ((((wr.setCell ⟨w.heap.size + 1 + 1, 0, none⟩ (V 0)).setCell ⟨w.heap.size + 1 + 1, 1, none⟩ (V 1)).setCell ⟨w.heap.size + 1 + 1, 2, none⟩ (V 2)).setCell ⟨w.heap.size + 1 + 1, 3, none⟩ (V 3)) = wf at *
      refine bodyPost_ret (v := .agg #[V 0, V 1, V 2, V 3]) ?_ rfl ⟨V, rfl, unhide hC, hW⟩
      simp [results, Try.results20, go_sem, hR.cell 0 (by omega), hR.cell 1 (by omega), hR.cell 2 (by omega), hR.cell 3 (by omega)]
end Go.Proofs.Ytkbngbilgebgiaa
