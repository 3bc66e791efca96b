/- Check, From and Shift of what is sound. -/
import Derived.Test.YtkbngbilgebgiaaTSums
namespace Go.Proofs.Ytkbngbilgebgiaa
open Go.RowKit Go.Shelf Ieee
set_option linter.unusedVariables false

theorem check_any (V : Nat → Value) (S : Nat → Int) (w : World) (hV : C4 V (sre S) (sim S)) (hS : Sound S) :
    Calls Try.prog 15 #[.agg #[V 0, V 1, V 2, V 3]] w fun e w' => e = .returned (.int .i64 0) ∧ Below w.heap.size w w' := by
  have HV : Hid (C4 V (sre S) (sim S) ∧ Sound S) := ⟨hV, hS⟩
  have st := store_ints S
  clear hV hS
  go_enter Try.func15, Try.ntmps15
  go_wp2_with fail
  go_at_call 14
  refine (sums_any V S _ (unhide HV).1 (unhide HV).2).mono ?_
  rintro e w' ⟨rfl, hb⟩
  have HB : Hid (Below w.heap.size w w') := ((Below.refl _ _).alloc (Nat.le_refl _) _).trans (hb.mono (by simp))
  clear hb
  go_wp2
  go_ret
  exact ⟨rfl, (unhide HB).alloc (unhide HB).size _⟩

theorem from_any (S : Nat → Int) (w : World) (hS : Sound S) :
    Calls Try.prog 16 #[.agg #[ints S 0, ints S 1, ints S 2, ints S 3]] w fun e w' => ∃ V, e = .returned (.tuple #[.agg #[V 0, V 1, V 2, V 3], .int .i64 0]) ∧ C4 V (sre S) (sim S) ∧ Below w.heap.size w w' := by
  have HS : Hid (Sound S) := hS
  clear hS
  have hs := store_c
  go_enter Try.func16, Try.ntmps16
  go_wp2
  go_loop [7] (fun i => ∃ (k : Nat), k ≤ 4 ∧ i = .int .i64 (k : Int)) (fun i => 4 - (intOf i).toNat)
  case atStart => exact ⟨0, by omega, rfl⟩
  case round =>
    obtain ⟨k, hk, rfl⟩ := hrel
    by_cases hlt : k < 4
    · have ix := index_four S k hlt
      have hb := unhide HS k hlt
      have t1 : ¬ S k < 0 := by omega
      have t2 : ¬ 1099511627776 < S k := by omega
      have i2 : (k : Int) < 4 := by omega
      clear hb
      generalize S k = s at *
      go_wp2
      exact ⟨⟨k + 1, by omega, by go_num⟩, by simp [intOf]; omega⟩
    · obtain rfl : k = 4 := by omega
      clear hlt hk
      go_wp2_with fail
      go_at_call 17
      refine (spectrum_any S _ (fun j hj => by have := unhide HS j hj; omega)).mono ?_
      rintro e w' ⟨V, rfl, hV, hb⟩
      have h0 : R4 ((w.alloc (Obj.cells #[ints S 0, ints S 1, ints S 2, ints S 3] 37)).alloc (Obj.cells #[zeros 0, zeros 1, zeros 2, zeros 3] 26)) (w.heap.size + 1) 26 zeros := by
        have := R4.new (w.alloc (Obj.cells #[ints S 0, ints S 1, ints S 2, ints S 3] 37)) 26 zeros
        simpa using this
      have HB : Hid (R4 w' (w.heap.size + 1) 26 zeros ∧ Below w.heap.size w w') := ⟨h0.below hb h0.lt, (((Below.refl _ _).alloc (Nat.le_refl _) _).alloc (by simp) _).trans (hb.mono (by simp; omega))⟩
      have HC : Hid (C4 V (sre S) (sim S)) := hV
      clear hV hb h0
      have f0 := (unhide HB).1.free 0
      have f1 := (unhide HB).1.free 1
      have f2 := (unhide HB).1.free 2
      have f3 := (unhide HB).1.free 3
      have c0 := (unhide HB).1.cell 0 (by omega)
      have c1 := (unhide HB).1.cell 1 (by omega)
      have c2 := (unhide HB).1.cell 2 (by omega)
      have c3 := (unhide HB).1.cell 3 (by omega)
      have s0 := store_v (unhide HC 0 (by omega))
      have s1 := store_v (unhide HC 1 (by omega))
      have s2 := store_v (unhide HC 2 (by omega))
      have s3 := store_v (unhide HC 3 (by omega))
      go_wp2
      have hR := (unhide HB).1.all V
      have hW : Below w.heap.size w ((((w'.setCell ⟨w.heap.size + 1, 0, none⟩ (V 0)).setCell ⟨w.heap.size + 1, 1, none⟩ (V 1)).setCell ⟨w.heap.size + 1, 2, none⟩ (V 2)).setCell ⟨w.heap.size + 1, 3, none⟩ (V 3)) :=
        ((((unhide HB).2.setCell (by simp) _).setCell (by simp) _).setCell (by simp) _).setCell (by simp) _
      clear f0 f1 f2 f3 c0 c1 c2 c3 s0 s1 s2 s3
      generalize ((((w'.setCell ⟨w.heap.size + 1, 0, none⟩ (V 0)).setCell ⟨w.heap.size + 1, 1, none⟩ (V 1)).setCell ⟨w.heap.size + 1, 2, none⟩ (V 2)).setCell ⟨w.heap.size + 1, 3, none⟩ (V 3)) = wf at *
      refine bodyPost_ret (v := .tuple #[.agg #[V 0, V 1, V 2, V 3], .int .i64 0]) ?_ rfl ⟨V, rfl, unhide HC, hW⟩
      simp [results, Try.results16, go_sem, hR.cell 0 (by omega), hR.cell 1 (by omega), hR.cell 2 (by omega), hR.cell 3 (by omega)]

/-- Sums n places further on. -/
def sh (S : Nat → Int) (n : Nat) (j : Nat) : Int := S ((j + (4 - n % 4)) % 4)

theorem sh_sound {S : Nat → Int} (h : Sound S) (n : Nat) : Sound (sh S n) := fun j hj => h _ (by omega)

/-- The spectrum of shifted sums is the one that is turned. -/
theorem shift_parts (S T : Nat → Int) (n : Nat) (j : Nat) (hj : j < 4) :
    lr (sre T) (sre S) (sim S) (n : Int) 4 j = sre (fun i => T i + sh S n i) j ∧ li (sim T) (sre S) (sim S) (n : Int) 4 j = sim (fun i => T i + sh S n i) j := by
  have hn : n % 4 = 0 ∨ n % 4 = 1 ∨ n % 4 = 2 ∨ n % 4 = 3 := by omega
  have h : j = 0 ∨ j = 1 ∨ j = 2 ∨ j = 3 := by omega
  rcases hn with k | k | k | k
  all_goals
    have e : (n : Int) % 4 = ((n % 4 : Nat) : Int) := by omega
    rw [k] at e
    rcases h with rfl | rfl | rfl | rfl <;> simp [lr, li, e, sre, sim, sh, k, ire, iim] <;> omega

theorem nought_parts (j : Nat) : sre nought j = 0 ∧ sim nought j = 0 := by
  unfold sre sim nought
  constructor <;> (split <;> (try split) <;> simp)

theorem nought_c4 : C4 zeros (sre nought) (sim nought) := by
  intro j hj
  rw [(nought_parts j).1, (nought_parts j).2]
  exact zeros_c4 j hj

theorem nought_lid : Lid 4503599627370496 (sre nought) (sim nought) := by
  intro j hj
  rw [(nought_parts j).1, (nought_parts j).2]
  omega

theorem sound_lid2 {S : Nat → Int} (h : Sound S) : Lid 2251799813685248 (sre S) (sim S) := fun j hj => by
  have := sound_lid h j hj
  omega

theorem sound_lid4 {S : Nat → Int} (h : Sound S) : Lid 4503599627370496 (sre S) (sim S) := fun j hj => by
  have := sound_lid h j hj
  omega

theorem sre_congr {S T : Nat → Int} (h : ∀ j, j < 4 → S j = T j) (j : Nat) : sre S j = sre T j ∧ sim S j = sim T j := by
  unfold sre sim
  rw [h 0 (by omega), h 1 (by omega), h 2 (by omega), h 3 (by omega)]
  exact ⟨rfl, rfl⟩

/-- One spectrum laid over another is that of the sums together. -/
theorem lay_sums (F G : Nat → Value) (T S : Nat → Int) (n : Nat) (w : World) (hf : C4 F (sre T) (sim T)) (hg : C4 G (sre S) (sim S)) (hT : Lid 4503599627370496 (sre T) (sim T)) (hS : Sound S) :
    Calls Try.prog 20 #[.agg #[F 0, F 1, F 2, F 3], .agg #[G 0, G 1, G 2, G 3], .int .i64 (n : Int)] w fun e w' => ∃ V, e = .returned (.agg #[V 0, V 1, V 2, V 3]) ∧ C4 V (sre (fun i => T i + sh S n i)) (sim (fun i => T i + sh S n i)) ∧ Below w.heap.size w w' := by
  refine (lay_any F G _ _ _ _ (n : Int) w hf hg hT (sound_lid2 hS)).mono ?_
  rintro e w' ⟨V, rfl, hV, hb⟩
  exact ⟨V, rfl, hV.congr (fun j hj => (shift_parts S T n j hj).1) (fun j hj => (shift_parts S T n j hj).2), hb⟩

theorem shift_any (V0 : Nat → Value) (S : Nat → Int) (n : Nat) (w : World) (hV : C4 V0 (sre S) (sim S)) (hS : Sound S) :
    Calls Try.prog 13 #[.agg #[V0 0, V0 1, V0 2, V0 3], .int .i64 (n : Int)] w fun e w' => ∃ V, e = .returned (.tuple #[.agg #[V 0, V 1, V 2, V 3], .int .i64 0]) ∧ C4 V (sre (sh S n)) (sim (sh S n)) ∧ Below w.heap.size w w' := by
  have HV : Hid (C4 V0 (sre S) (sim S) ∧ Sound S) := ⟨hV, hS⟩
  have hn : ¬ (n : Int) < 0 := by omega
  clear hV hS
  go_enter Try.func13, Try.ntmps13
  go_wp2_with fail
  go_at_call 15
  refine (check_any V0 S _ (unhide HV).1 (unhide HV).2).mono ?_
  rintro e w1 ⟨rfl, hb⟩
  have h0 : R4 ((w.alloc (Obj.cells #[V0 0, V0 1, V0 2, V0 3] 26)).alloc (Obj.cells #[zeros 0, zeros 1, zeros 2, zeros 3] 26)) w.heap.size 26 V0 := (R4.new w 26 V0).alloc _
  have h1 : R4 ((w.alloc (Obj.cells #[V0 0, V0 1, V0 2, V0 3] 26)).alloc (Obj.cells #[zeros 0, zeros 1, zeros 2, zeros 3] 26)) (w.heap.size + 1) 26 zeros := by
    have := R4.new (w.alloc (Obj.cells #[V0 0, V0 1, V0 2, V0 3] 26)) 26 zeros
    simpa using this
  have H1 : Hid (R4 w1 w.heap.size 26 V0 ∧ R4 w1 (w.heap.size + 1) 26 zeros ∧ Below w.heap.size w w1) := ⟨h0.below hb h0.lt, h1.below hb h1.lt, (((Below.refl _ _).alloc (Nat.le_refl _) _).alloc (by simp) _).trans (hb.mono (by simp; omega))⟩
  clear hb h0 h1
  have e0 := (unhide H1).1.cell 0 (by omega)
  have e1 := (unhide H1).1.cell 1 (by omega)
  have e2 := (unhide H1).1.cell 2 (by omega)
  have e3 := (unhide H1).1.cell 3 (by omega)
  go_wp2_with fail
  go_at_call 20
  refine (lay_sums zeros V0 nought S n _ nought_c4 (unhide HV).1 nought_lid (unhide HV).2).mono ?_
  rintro e w' ⟨V, rfl, hV, hb⟩
  have HC : Hid (C4 V (sre (sh S n)) (sim (sh S n))) := hV.congr (fun j _ => (sre_congr (fun i _ => by simp [nought]) j).1) (fun j _ => (sre_congr (fun i _ => by simp [nought]) j).2)
  have HB : Hid (R4 w' (w.heap.size + 1) 26 zeros ∧ Below w.heap.size w w') := ⟨(unhide H1).2.1.below hb (unhide H1).2.1.lt, (unhide H1).2.2.trans (hb.mono (unhide H1).2.2.size)⟩
  clear hV hb e0 e1 e2 e3 H1
  have f0 := (unhide HB).1.free 0
  have f1 := (unhide HB).1.free 1
  have f2 := (unhide HB).1.free 2
  have f3 := (unhide HB).1.free 3
  have c0 := (unhide HB).1.cell 0 (by omega)
  have c1 := (unhide HB).1.cell 1 (by omega)
  have c2 := (unhide HB).1.cell 2 (by omega)
  have c3 := (unhide HB).1.cell 3 (by omega)
  have s0 := store_v (unhide HC 0 (by omega))
  have s1 := store_v (unhide HC 1 (by omega))
  have s2 := store_v (unhide HC 2 (by omega))
  have s3 := store_v (unhide HC 3 (by omega))
  go_wp2
  have hR := (unhide HB).1.all V
  have hW : Below w.heap.size w ((((w'.setCell ⟨w.heap.size + 1, 0, none⟩ (V 0)).setCell ⟨w.heap.size + 1, 1, none⟩ (V 1)).setCell ⟨w.heap.size + 1, 2, none⟩ (V 2)).setCell ⟨w.heap.size + 1, 3, none⟩ (V 3)) :=
    ((((unhide HB).2.setCell (by simp) _).setCell (by simp) _).setCell (by simp) _).setCell (by simp) _
  clear f0 f1 f2 f3 c0 c1 c2 c3 s0 s1 s2 s3
  generalize ((((w'.setCell ⟨w.heap.size + 1, 0, none⟩ (V 0)).setCell ⟨w.heap.size + 1, 1, none⟩ (V 1)).setCell ⟨w.heap.size + 1, 2, none⟩ (V 2)).setCell ⟨w.heap.size + 1, 3, none⟩ (V 3)) = wf at *
  refine bodyPost_ret (v := .tuple #[.agg #[V 0, V 1, V 2, V 3], .int .i64 0]) ?_ rfl ⟨V, rfl, unhide HC, hW⟩
  simp [results, Try.results13, go_sem, hR.cell 0 (by omega), hR.cell 1 (by omega), hR.cell 2 (by omega), hR.cell 3 (by omega)]

end Go.Proofs.Ytkbngbilgebgiaa
