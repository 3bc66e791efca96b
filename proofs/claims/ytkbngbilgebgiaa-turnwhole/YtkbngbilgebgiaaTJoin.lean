/- Join of what is sound. -/
import Derived.Test.YtkbngbilgebgiaaTCheck
import Derived.Deep.DeepCutAuto
namespace Go.Proofs.Ytkbngbilgebgiaa
open Go.RowKit Go.Shelf Ieee
set_option linter.unusedVariables false

/-- What stands in the call's own blocks. -/
def J (w : World) (F G : Nat → Value) (u : World) : Prop := R4 u w.heap.size 26 F ∧ R4 u (w.heap.size + 1) 26 G ∧ R4 u (w.heap.size + 1 + 1) 26 zeros ∧ Below w.heap.size w u

theorem J.call {w : World} {F G : Nat → Value} {u u' : World} (hb : Below u.heap.size u u') (h : J w F G u) : J w F G u' :=
  ⟨h.1.below hb h.1.lt, h.2.1.below hb h.2.1.lt, h.2.2.1.below hb h.2.2.1.lt, h.2.2.2.trans (hb.mono h.2.2.2.size)⟩
theorem J.alloc {w : World} {F G : Nat → Value} {u : World} (h : J w F G u) (o : Obj) : J w F G (u.alloc o) :=
  ⟨h.1.alloc _, h.2.1.alloc _, h.2.2.1.alloc _, h.2.2.2.alloc h.2.2.2.size _⟩
theorem J.drew {w : World} {F G : Nat → Value} {u : World} (h : J w F G u) : J w F G u.drew := ⟨h.1, h.2.1, h.2.2.1, h.2.2.2.drew⟩
theorem J.lt {w : World} {F G : Nat → Value} {u : World} (h : J w F G u) : w.heap.size + 1 + 1 < u.heap.size := h.2.2.1.lt
theorem J.set {w : World} {F G : Nat → Value} {u : World} (h : J w F G u) (a : Addr) (v : Value) (ha : w.heap.size + 1 + 1 < a.block) : J w F G (u.setCell a v) :=
  ⟨h.1.other _ _ (by omega), h.2.1.other _ _ (by omega), h.2.2.1.other _ _ (by omega), h.2.2.2.setCell (by omega) _⟩

theorem R4.newz (u : World) : R4 (u.alloc (.cells #[.complex .f64 0 0, .complex .f64 0 0, .complex .f64 0 0, .complex .f64 0 0] 26)) u.heap.size 26 zeros := R4.new u 26 zeros
theorem R4.newd (u : World) : R4 (u.alloc (.cells #[.complex .f64 0 0, .complex .f64 0 0, .complex .f64 0 0, .complex .f64 0 0] 26)).drew u.heap.size 26 zeros := R4.new u 26 zeros

/-- The cells that are read. -/
abbrev JS (w : World) (F G : Nat → Value) (u : World) : Prop :=
  Hid (J w F G u) ∧ (u.cell? ⟨w.heap.size, 0, none⟩ = some (F 0) ∧ u.cell? ⟨w.heap.size, 1, none⟩ = some (F 1) ∧ u.cell? ⟨w.heap.size, 2, none⟩ = some (F 2) ∧ u.cell? ⟨w.heap.size, 3, none⟩ = some (F 3)) ∧
    u.cell? ⟨w.heap.size + 1, 0, none⟩ = some (G 0) ∧ u.cell? ⟨w.heap.size + 1, 1, none⟩ = some (G 1) ∧ u.cell? ⟨w.heap.size + 1, 2, none⟩ = some (G 2) ∧ u.cell? ⟨w.heap.size + 1, 3, none⟩ = some (G 3)

theorem J.js {w : World} {F G : Nat → Value} {u : World} (h : J w F G u) : JS w F G u :=
  ⟨h, ⟨h.1.cell 0 (by omega), h.1.cell 1 (by omega), h.1.cell 2 (by omega), h.1.cell 3 (by omega)⟩, h.2.1.cell 0 (by omega), h.2.1.cell 1 (by omega), h.2.1.cell 2 (by omega), h.2.1.cell 3 (by omega)⟩

theorem lay_zero (F G : Nat → Value) (T S : Nat → Int) (w : World) (hf : C4 F (sre T) (sim T)) (hg : C4 G (sre S) (sim S)) (hT : Lid 4503599627370496 (sre T) (sim T)) (hS : Sound S) :
    Calls Try.prog 20 #[.agg #[F 0, F 1, F 2, F 3], .agg #[G 0, G 1, G 2, G 3], .int .i64 0] w fun e w' => ∃ V, e = .returned (.agg #[V 0, V 1, V 2, V 3]) ∧ C4 V (sre (fun i => T i + sh S 0 i)) (sim (fun i => T i + sh S 0 i)) ∧ Below w.heap.size w w' :=
  lay_sums F G T S 0 w hf hg hT hS

theorem nought_sum (S : Nat → Int) (j : Nat) : sre (fun i => nought i + sh S 0 i) j = sre S j ∧ sim (fun i => nought i + sh S 0 i) j = sim S j :=
  sre_congr (fun i hi => by
    have h : i = 0 ∨ i = 1 ∨ i = 2 ∨ i = 3 := by omega
    rcases h with rfl | rfl | rfl | rfl <;> simp [nought, sh]) j

set_option maxHeartbeats 1000000 in
theorem join_any (F G : Nat → Value) (S T : Nat → Int) (n : Nat) (w : World) (hF : C4 F (sre S) (sim S)) (hG : C4 G (sre T) (sim T)) (hS : Sound S) (hT : Sound T) (hR : Sound (fun i => S i + sh T n i)) :
    Calls Try.prog 12 #[.agg #[F 0, F 1, F 2, F 3], .agg #[G 0, G 1, G 2, G 3], .int .i64 (n : Int)] w fun e w' => ∃ V, e = .returned (.tuple #[.agg #[V 0, V 1, V 2, V 3], .int .i64 0]) ∧ C4 V (sre (fun i => S i + sh T n i)) (sim (fun i => S i + sh T n i)) ∧ Below w.heap.size w w' := by
  have HV : Hid (C4 F (sre S) (sim S) ∧ C4 G (sre T) (sim T) ∧ Sound S ∧ Sound T ∧ Sound (fun i => S i + sh T n i)) := ⟨hF, hG, hS, hT, hR⟩
  have hn : ¬ (n : Int) < 0 := by omega
  clear hF hG hS hT hR
  go_enter Try.func12, Try.ntmps12
  go_wp2_with fail
  go_at_call 15
  refine (check_any F S _ (unhide HV).1 (unhide HV).2.2.1).mono ?_
  rintro e w1 ⟨rfl, hb⟩
  have h0 : J w F G (((w.alloc (Obj.cells #[F 0, F 1, F 2, F 3] 26)).alloc (Obj.cells #[G 0, G 1, G 2, G 3] 26)).alloc (Obj.cells #[zeros 0, zeros 1, zeros 2, zeros 3] 26)) := by
    refine ⟨((R4.new w 26 F).alloc _).alloc _, ?_, ?_, (((Below.refl _ _).alloc (Nat.le_refl _) _).alloc (by simp) _).alloc (by simp; omega) _⟩
    · have := (R4.new (w.alloc (Obj.cells #[F 0, F 1, F 2, F 3] 26)) 26 G).alloc (Obj.cells #[zeros 0, zeros 1, zeros 2, zeros 3] 26)
      simpa using this
    · have := R4.new ((w.alloc (Obj.cells #[F 0, F 1, F 2, F 3] 26)).alloc (Obj.cells #[G 0, G 1, G 2, G 3] 26)) 26 zeros
      simpa using this
  have H1 : Hid (J w F G w1) := J.call hb h0
  clear hb h0
  have d0 := (unhide H1).2.1.cell 0 (by omega)
  have d1 := (unhide H1).2.1.cell 1 (by omega)
  have d2 := (unhide H1).2.1.cell 2 (by omega)
  have d3 := (unhide H1).2.1.cell 3 (by omega)
  go_wp2_with fail
  go_at_call 15
  refine (check_any G T _ (unhide HV).2.1 (unhide HV).2.2.2.1).mono ?_
  rintro e w2 ⟨rfl, hb⟩
  have H2 : Hid (J w F G w2) := J.call hb (unhide H1)
  have lt2 := (unhide H2).lt
  clear hb H1 d0 d1 d2 d3
  go_wp2
  go_cut [8] (fun c wx => ∃ (g : Nat) (V : Nat → Value), c = .pointer (some ⟨g, 0, none⟩) ∧ Hid (J w F G wx ∧ R4 wx g 26 V ∧ w.heap.size + 1 + 1 < g ∧ C4 V (sre (fun i => S i + sh T n i)) (sim (fun i => S i + sh T n i))))
  case first =>
    go_region_held3 (fun u => Hid (J w F G u) ∧ (u.cell? ⟨w.heap.size, 0, none⟩ = some (F 0) ∧ u.cell? ⟨w.heap.size, 1, none⟩ = some (F 1) ∧ u.cell? ⟨w.heap.size, 2, none⟩ = some (F 2) ∧ u.cell? ⟨w.heap.size, 3, none⟩ = some (F 3)) ∧ u.cell? ⟨w.heap.size + 1, 0, none⟩ = some (G 0) ∧ u.cell? ⟨w.heap.size + 1, 1, none⟩ = some (G 1) ∧ u.cell? ⟨w.heap.size + 1, 2, none⟩ = some (G 2) ∧ u.cell? ⟨w.heap.size + 1, 3, none⟩ = some (G 3))
      (with_reducible (first | exact J.js (unhide H2).drew | exact J.js (unhide J4) | exact J.js (unhide J3) | exact J.js (J.drew (J.alloc (unhide H2) _)) | exact J.js (J.alloc (unhide J3) _) | exact J.js (J.alloc (unhide J4) _) | exact J.js (J.set (J.set (J.set (J.set (unhide J4) _ _ (by assumption)) _ _ (by assumption)) _ _ (by assumption)) _ _ (by assumption))))
      (first
        | (go_at_call_of 20 (F 0); refine (lay_zero zeros F nought S _ nought_c4 (unhide HV).1 nought_lid (unhide HV).2.2.1).mono ?_; rintro e w3 ⟨V1, rfl, hV1, hb1⟩; have J3 : Hid (J w F G w3) := J.call hb1 (unhide (‹Hid (J w F G _) ∧ _›).1); have lt3 := (unhide J3).lt; (try (have q1 := (R4.newd _).below hb1 (by simp); have HQ1 := hide q1; clear q1)); have HV1 : Hid (C4 V1 (sre S) (sim S)) := hV1.congr (fun j _ => (nought_sum S j).1) (fun j _ => (nought_sum S j).2); clear hb1 hV1)
        | (go_at_call_of 20 (G 0); refine (lay_sums V1 G S T n _ (unhide HV1) (unhide HV).2.1 (sound_lid4 (unhide HV).2.2.1) (unhide HV).2.2.2.1).mono ?_; rintro e w4 ⟨V2, rfl, hV2, hb2⟩; have J4 : Hid (J w F G w4) := J.call hb2 (unhide (‹Hid (J w F G _) ∧ _›).1); have lt4 := (unhide J4).lt; (try (have q2 := (R4.newz _).below hb2 (by simp); have qa := q2.cell 0 (by omega); have qb := q2.cell 1 (by omega); have qc := q2.cell 2 (by omega); have qd := q2.cell 3 (by omega); have qe := q2.free 0; have qf := q2.free 1; have qg := q2.free 2; have qh := q2.free 3; have ql := q2.lt; have HQ2 := hide q2; clear q2)); (try (have q2 := (unhide HQ1).below hb2 (unhide HQ1).lt; have qa := q2.cell 0 (by omega); have qb := q2.cell 1 (by omega); have qc := q2.cell 2 (by omega); have qd := q2.cell 3 (by omega); have qe := q2.free 0; have qf := q2.free 1; have qg := q2.free 2; have qh := q2.free 3; have ql := q2.lt; have HQ2 := hide q2; clear q2)); have HV2 := hide hV2; have s0 := store_v (unhide HV2 0 (by omega)); have s1 := store_v (unhide HV2 1 (by omega)); have s2 := store_v (unhide HV2 2 (by omega)); have s3 := store_v (unhide HV2 3 (by omega)); clear hb2 hV2))
    all_goals
      have jj := unhide (‹Hid (J w F G _) ∧ _›).1
      go_wp2_with fail
      go_meet
      first
        | exact ⟨_, V2, rfl, hide ⟨jj, (unhide HQ2).all V2, by assumption, unhide HV2⟩⟩
        | exact ⟨_, V2, rfl, hide ⟨jj, R4.new _ 26 V2, by assumption, unhide HV2⟩⟩
  case rest =>
    obtain ⟨g, V, rfl, hX⟩ := hcut
    clear H2 lt2
    have e0 := (unhide hX).2.1.cell 0 (by omega)
    have e1 := (unhide hX).2.1.cell 1 (by omega)
    have e2 := (unhide hX).2.1.cell 2 (by omega)
    have e3 := (unhide hX).2.1.cell 3 (by omega)
    go_wp2_with fail
    go_at_call 15
    refine (check_any V _ _ (unhide hX).2.2.2 (unhide HV).2.2.2.2).mono ?_
    rintro e w' ⟨rfl, hb⟩
    have HB : Hid (R4 w' (w.heap.size + 1 + 1) 26 zeros ∧ Below w.heap.size w w' ∧ R4 w' g 26 V) := ⟨(unhide hX).1.2.2.1.below hb (unhide hX).1.2.2.1.lt, (unhide hX).1.2.2.2.trans (hb.mono (unhide hX).1.2.2.2.size), (unhide hX).2.1.below hb (unhide hX).2.1.lt⟩
    have HC : Hid (C4 V (sre (fun i => S i + sh T n i)) (sim (fun i => S i + sh T n i))) := (unhide hX).2.2.2
    clear e0 e1 e2 e3 hb hX
    have e0 := (unhide HB).2.2.cell 0 (by omega)
    have e1 := (unhide HB).2.2.cell 1 (by omega)
    have e2 := (unhide HB).2.2.cell 2 (by omega)
    have e3 := (unhide HB).2.2.cell 3 (by omega)
    have f0 := (unhide HB).1.free 0
    have f1 := (unhide HB).1.free 1
    have f2 := (unhide HB).1.free 2
    have f3 := (unhide HB).1.free 3
    have c0 := (unhide HB).1.cell 0 (by omega)
    have c1 := (unhide HB).1.cell 1 (by omega)
    have c2 := (unhide HB).1.cell 2 (by omega)
    have c3 := (unhide HB).1.cell 3 (by omega)
    have s0 := store_v (unhide HC 0 (by omega))
    have s1 := store_v (unhide HC 1 (by omega))
    have s2 := store_v (unhide HC 2 (by omega))
    have s3 := store_v (unhide HC 3 (by omega))
    go_wp2
    have hR := (unhide HB).1.all V
    have hW : Below w.heap.size w ((((w'.setCell ⟨w.heap.size + 1 + 1, 0, none⟩ (V 0)).setCell ⟨w.heap.size + 1 + 1, 1, none⟩ (V 1)).setCell ⟨w.heap.size + 1 + 1, 2, none⟩ (V 2)).setCell ⟨w.heap.size + 1 + 1, 3, none⟩ (V 3)) :=
      ((((unhide HB).2.1.setCell (by simp; omega) _).setCell (by simp; omega) _).setCell (by simp; omega) _).setCell (by simp; omega) _
    clear f0 f1 f2 f3 c0 c1 c2 c3 s0 s1 s2 s3 e0 e1 e2 e3
    generalize ((((w'.setCell ⟨w.heap.size + 1 + 1, 0, none⟩ (V 0)).setCell ⟨w.heap.size + 1 + 1, 1, none⟩ (V 1)).setCell ⟨w.heap.size + 1 + 1, 2, none⟩ (V 2)).setCell ⟨w.heap.size + 1 + 1, 3, none⟩ (V 3)) = wf at *
    refine bodyPost_ret (v := .tuple #[.agg #[V 0, V 1, V 2, V 3], .int .i64 0]) ?_ rfl ⟨V, rfl, unhide HC, hW⟩
    simp [results, Try.results12, go_sem, hR.cell 0 (by omega), hR.cell 1 (by omega), hR.cell 2 (by omega), hR.cell 3 (by omega)]
end Go.Proofs.Ytkbngbilgebgiaa
