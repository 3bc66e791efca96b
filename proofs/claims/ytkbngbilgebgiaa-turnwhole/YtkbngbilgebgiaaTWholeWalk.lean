/- The walk through the statement on spectra that are joined. -/
import Derived.Test.YtkbngbilgebgiaaTSp
import Derived.Laws.CopyOwn
namespace Go.Proofs.Ytkbngbilgebgiaa
open Go.RowKit Go.Shelf Ieee
set_option linter.unusedVariables false

/-- An append in a region that draws its order, by what it is known to give. -/
theorem step_append_run {w w' : World} {ops : Array Oper} {o : Oper} {a : Act} {K' : Act → World → Prop} {Q : Exit → Act → World → Prop} {E : Prop} (hw : Region.wanted o (yielded ops a.tmps) = true) (d s : Operand) (t : TypeId)
    (ho : o.op = .call { callee := .builtin .append, args := #[d, s], argTypes := #[t, t] }) (v x v' : Value) (hd : a.eval d = v) (hs : a.eval s = x)
    (hrun : ∀ ty, (Builtin.append_ #[t, t] ty #[v, x]).run Try.prog w = .ok v' w')
    (h : K' (a.put o.dst v') w') : if Region.wanted o (yielded ops a.tmps) = true then Oper.wp Try.prog o a w K' Q else E := by
  rw [if_pos hw]
  have hr := hrun o.type
  unfold Oper.wp
  simp [execOp, ho, resolve, invoke, builtin, hd, hs, hr, Result.andThen]
  exact h

/-- What is kept: what came in, and the bytes a2 of the call's own. -/
def K (w : World) (a2 : Option Addr) (n : Nat) (L : List Int) (u : World) : Prop := Below w.heap.size w u ∧ Has u a2 n L

theorem K.call {w : World} {a2 : Option Addr} {n : Nat} {L : List Int} {u u' : World} (hb : Below u.heap.size u u') (h : K w a2 n L u) : K w a2 n L u' := ⟨h.1.trans (hb.mono h.1.size), h.2.below hb⟩
theorem K.alloc {w : World} {a2 : Option Addr} {n : Nat} {L : List Int} {u : World} (h : K w a2 n L u) (o : Obj) : K w a2 n L (u.alloc o) := h.call ((Below.refl _ _).alloc (Nat.le_refl _) _)
theorem K.drew {w : World} {a2 : Option Addr} {n : Nat} {L : List Int} {u : World} (h : K w a2 n L u) : K w a2 n L u.drew := ⟨h.1.drew, h.2⟩

theorem sp_neq {L : List Int} {V U : Nat → Value} (hV : Sp L V) (hU : Sp L U) (w : World) : (binOp .neq 26 (.agg #[V 0, V 1, V 2, V 3]) (.agg #[U 0, U 1, U 2, U 3])).run Try.prog w = .ok (.bool false) w := neq_no hV hU w
theorem sp_eql {L : List Int} {V U : Nat → Value} (hV : Sp L V) (hU : Sp L U) (w : World) : (binOp .eql 26 (.agg #[V 0, V 1, V 2, V 3]) (.agg #[U 0, U 1, U 2, U 3])).run Try.prog w = .ok (.bool true) w := eql_yes hV hU w

/-- .. and two arrays of the call's own. -/
def M (w : World) (a2 : Option Addr) (n : Nat) (L : List Int) (gf : Nat) (F : Nat → Value) (gg : Nat) (G : Nat → Value) (u : World) : Prop := K w a2 n L u ∧ R4 u gf 26 F ∧ R4 u gg 26 G

theorem M.call {w : World} {a2 : Option Addr} {n : Nat} {L : List Int} {gf gg : Nat} {F G : Nat → Value} {u u' : World} (hb : Below u.heap.size u u') (h : M w a2 n L gf F gg G u) : M w a2 n L gf F gg G u' :=
  ⟨h.1.call hb, h.2.1.below hb h.2.1.lt, h.2.2.below hb h.2.2.lt⟩
theorem M.alloc {w : World} {a2 : Option Addr} {n : Nat} {L : List Int} {gf gg : Nat} {F G : Nat → Value} {u : World} (h : M w a2 n L gf F gg G u) (o : Obj) : M w a2 n L gf F gg G (u.alloc o) := h.call ((Below.refl _ _).alloc (Nat.le_refl _) _)
theorem M.drew {w : World} {a2 : Option Addr} {n : Nat} {L : List Int} {gf gg : Nat} {F G : Nat → Value} {u : World} (h : M w a2 n L gf F gg G u) : M w a2 n L gf F gg G u.drew := ⟨h.1.drew, h.2.1, h.2.2⟩

/-- The cells that are read. -/
abbrev MS (gf : Nat) (F : Nat → Value) (gg : Nat) (G : Nat → Value) (u : World) : Prop :=
  (u.cell? ⟨gf, 0, none⟩ = some (F 0) ∧ u.cell? ⟨gf, 1, none⟩ = some (F 1) ∧ u.cell? ⟨gf, 2, none⟩ = some (F 2) ∧ u.cell? ⟨gf, 3, none⟩ = some (F 3)) ∧
    u.cell? ⟨gg, 0, none⟩ = some (G 0) ∧ u.cell? ⟨gg, 1, none⟩ = some (G 1) ∧ u.cell? ⟨gg, 2, none⟩ = some (G 2) ∧ u.cell? ⟨gg, 3, none⟩ = some (G 3)

theorem M.js {w : World} {a2 : Option Addr} {n : Nat} {L : List Int} {gf gg : Nat} {F G : Nat → Value} {u : World} (h : M w a2 n L gf F gg G u) : MS gf F gg G u :=
  ⟨⟨h.2.1.cell 0 (by omega), h.2.1.cell 1 (by omega), h.2.1.cell 2 (by omega), h.2.1.cell 3 (by omega)⟩, h.2.2.cell 0 (by omega), h.2.2.cell 1 (by omega), h.2.2.cell 2 (by omega), h.2.2.cell 3 (by omega)⟩

set_option maxRecDepth 100000 in
set_option maxHeartbeats 8000000 in
theorem whole_walk (aa ab ac : Option Addr) (la ca lb cb lc cc : Nat) (xs ys zs : List Int) (w : World) (ra : Row w.heap.size w aa la ca xs) (rb : Row w.heap.size w ab lb cb ys) (rc : Row w.heap.size w ac lc cc zs) :
    Calls Try.prog 4 #[.slice aa la ca, .slice ab lb cb, .slice ac lc cc] w fun e w' => e = .returned (.bool true) ∧ Below w.heap.size w w' := by
  have HH : Hid ((Has w aa la xs ∧ Byts xs) ∧ (Has w ab lb ys ∧ Byts ys) ∧ (Has w ac lc zs ∧ Byts zs)) := ⟨⟨ra.has, ra.2.2.2.1⟩, ⟨rb.has, rb.2.2.2.1⟩, ⟨rc.has, rc.2.2.2.1⟩⟩
  clear ra rb rc
  by_cases g1 : (4000 : Int) < (la : Int)
  · go_enter Try.func4, Try.ntmps4
    go_wp2_with fail
    go_at_call 7
    refine (wakes_any _).mono ?_
    rintro e w0 ⟨rfl, b0⟩
    go_wp2_with fail
    go_ret
    exact ⟨rfl, b0⟩
  by_cases g2 : (4000 : Int) < (lb : Int)
  · go_enter Try.func4, Try.ntmps4
    go_wp2_with fail
    go_at_call 7
    refine (wakes_any _).mono ?_
    rintro e w0 ⟨rfl, b0⟩
    go_wp2_with fail
    go_ret
    exact ⟨rfl, b0⟩
  by_cases g3 : (4000 : Int) < (lc : Int)
  · go_enter Try.func4, Try.ntmps4
    go_wp2_with fail
    go_at_call 7
    refine (wakes_any _).mono ?_
    rintro e w0 ⟨rfl, b0⟩
    go_wp2_with fail
    go_ret
    exact ⟨rfl, b0⟩
  have HL : Hid ((la ≤ 4000 ∧ xs.length = la) ∧ (lb ≤ 4000 ∧ ys.length = lb) ∧ (lc ≤ 4000 ∧ zs.length = lc)) := ⟨⟨by omega, (unhide HH).1.1.1⟩, ⟨by omega, (unhide HH).2.1.1.1⟩, ⟨by omega, (unhide HH).2.2.1.1⟩⟩
  have d1 : decide ((4000 : Int) < (la : Int)) = false := by simp; omega
  have d2 : decide ((4000 : Int) < (lb : Int)) = false := by simp; omega
  have d3 : decide ((4000 : Int) < (lc : Int)) = false := by simp; omega
  clear g1 g2 g3
  go_enter Try.func4, Try.ntmps4
  go_wp2_with fail
  go_at_call 7
  refine (wakes_any _).mono ?_
  rintro e w0 ⟨rfl, b0⟩
  obtain ⟨a1, c1, w1, a2, c2, w2, r1, r2, h2⟩ := app_two (w := w0) (c := ca) (d := cb) ((unhide HH).1.1.below b0) ((unhide HH).2.1.1.below b0) (by have := unhide HL; omega) (by have := unhide HL; omega)
  obtain ⟨nab, hnab⟩ : ∃ n, la + lb = n := ⟨_, rfl⟩
  rw [hnab] at r2 h2
  have HN : Hid (la + lb = nab ∧ (xs ++ ys).length = nab ∧ nab ≤ 8000) := ⟨hnab, by have := unhide HL; rw [List.length_append]; omega, by have := unhide HL; omega⟩
  have H2 : Hid (K w a2 nab (xs ++ ys) w2) := ⟨b0.trans ((unhide h2).2.1.mono b0.size), (unhide h2).1⟩
  have R1 := hide r1
  have R2 := hide r2
  clear b0 h2 r1 r2 hnab
  go_wp2_with (first
    | (at_builtin; refine wpList_append_run 22 rfl _ _ rfl _ _ _ rfl rfl (unhide R1) ?_; clear R1)
    | (at_builtin; refine wpList_append_run 22 rfl _ _ rfl _ _ _ rfl rfl (unhide R2) ?_; clear R2))
  clear d1 d2 d3
  go_at_call 8
  refine (of_sp aa la ca xs _ ((unhide HH).1.1.below (unhide H2).1) (unhide HH).1.2 (by have := unhide HL; omega)).mono ?_
  rintro e w3 ⟨V1, rfl, hV1, hb⟩
  have H3 : Hid (K w a2 nab (xs ++ ys) w3) := K.call hb (unhide H2)
  have P1 : Hid (Sp xs V1) := hV1
  clear hb H2 hV1
  go_wp2_with fail
  go_at_call 8
  refine (of_sp ab lb cb ys _ ((unhide HH).2.1.1.below (unhide H3).1) (unhide HH).2.1.2 (by have := unhide HL; omega)).mono ?_
  rintro e w4 ⟨V2, rfl, hV2, hb⟩
  have H4 : Hid (K w a2 nab (xs ++ ys) w4) := K.call hb (unhide H3)
  have P2 : Hid (Sp ys V2) := hV2
  clear hb H3 hV2
  go_wp2_with fail
  go_at_call 12
  refine (join_sp xs ys V1 V2 la _ (unhide P1) (unhide P2) (unhide HL).1.2 (unhide HH).1.2 (unhide HH).2.1.2 (by have := unhide HL; omega) (by have := unhide HL; omega)).mono ?_
  rintro e w5 ⟨Vf, rfl, hVf, hb⟩
  have H5 : Hid (K w a2 nab (xs ++ ys) w5) := K.call hb (unhide H4)
  have PF : Hid (Sp (xs ++ ys) Vf) := hVf
  clear hb H4 P1 P2 hVf
  have s0 := store_v (unhide PF 0 (by omega))
  have s1 := store_v (unhide PF 1 (by omega))
  have s2 := store_v (unhide PF 2 (by omega))
  have s3 := store_v (unhide PF 3 (by omega))
  go_wp2_with fail
  clear s0 s1 s2 s3
  go_at_call 8
  refine (of_sp ab lb cb ys _ ((unhide HH).2.1.1.below (K.alloc (unhide H5) _).1) (unhide HH).2.1.2 (by have := unhide HL; omega)).mono ?_
  rintro e w6 ⟨V3, rfl, hV3, hb⟩
  have H6 : Hid (K w a2 nab (xs ++ ys) w6 ∧ R4 w6 w5.heap.size 26 Vf) := ⟨K.call hb ((unhide H5).alloc _), (R4.new w5 26 Vf).below hb (R4.new w5 26 Vf).lt⟩
  have P3 : Hid (Sp ys V3) := hV3
  clear hb H5 hV3
  go_wp2_with fail
  go_at_call 13
  refine (shift_sp ys V3 la _ (unhide P3) (unhide HH).2.1.2 (by have := unhide HL; omega)).mono ?_
  rintro e w7 ⟨Vg, rfl, hVg, hb⟩
  have H7 : Hid (K w a2 nab (xs ++ ys) w7 ∧ R4 w7 w5.heap.size 26 Vf) := ⟨K.call hb (unhide H6).1, (unhide H6).2.below hb (unhide H6).2.lt⟩
  have PG : Hid (Sp (List.replicate la 0 ++ ys) Vg) := hVg
  clear hb H6 P3 hVg
  have s0 := store_v (unhide PG 0 (by omega))
  have s1 := store_v (unhide PG 1 (by omega))
  have s2 := store_v (unhide PG 2 (by omega))
  have s3 := store_v (unhide PG 3 (by omega))
  generalize w5.heap.size = gf at *
  go_wp2_with fail
  clear s0 s1 s2 s3
  have H8 : Hid (M w a2 nab (xs ++ ys) gf Vf w7.heap.size Vg (w7.alloc (Obj.cells #[Vg 0, Vg 1, Vg 2, Vg 3] 26))) := ⟨(unhide H7).1.alloc _, (unhide H7).2.alloc _, R4.new w7 26 Vg⟩
  have hmk := run_make_row' (P := Try.prog) 22 5 (.int .u8 0) 1 Try.underlying22 info5 rfl .i64 .i64 la (by have := unhide HL; omega) (by have := unhide HL; omega)
  clear H7
  generalize w7.alloc (Obj.cells #[Vg 0, Vg 1, Vg 2, Vg 3] 26) = w8 at *
  generalize w7.heap.size = gg at *
  go_region_held3 (fun u => (u.cell? ⟨gf, 0, none⟩ = some (Vf 0) ∧ u.cell? ⟨gf, 1, none⟩ = some (Vf 1) ∧ u.cell? ⟨gf, 2, none⟩ = some (Vf 2) ∧ u.cell? ⟨gf, 3, none⟩ = some (Vf 3)) ∧ u.cell? ⟨gg, 0, none⟩ = some (Vg 0) ∧ u.cell? ⟨gg, 1, none⟩ = some (Vg 1) ∧ u.cell? ⟨gg, 2, none⟩ = some (Vg 2) ∧ u.cell? ⟨gg, 3, none⟩ = some (Vg 3))
    (with_reducible (first | exact M.js (unhide H8).drew | exact M.js (unhide J11) | exact M.js (unhide J10) | exact M.js (unhide J9) | exact M.js ((unhide J9).alloc _)))
    (first
      | (go_at_call_of 8 (a2); refine (of_sp a2 nab c2 (xs ++ ys) _ (unhide H8).drew.1.2 (byts_append (unhide HH).1.2 (unhide HH).2.1.2) (by have := unhide HN; omega)).mono ?_; rintro e w9 ⟨V9, rfl, hV9, hb⟩; have ne1 := sp_neq (unhide PF) hV9; have J9 : Hid (M w a2 nab (xs ++ ys) gf Vf gg Vg w9) := M.call hb (unhide H8).drew; obtain ⟨a4, c4, w10, r4, h10⟩ := app_made (w := w9) (k := la) (d := cb) ((unhide HH).2.1.1.below (unhide J9).1.1) (by have := unhide HL; omega) (by have := unhide HL; omega); have J10 : Hid (M w a2 nab (xs ++ ys) gf Vf gg Vg w10) := M.call (unhide h10).2 (unhide J9); have R4' := hide r4; clear r4; have HA4 : Hid (Has w10 a4 (la + lb) (List.replicate la 0 ++ ys)) := (unhide h10).1; clear hb hV9 h10)
      | (go_at_call_of 8 (a4); refine (of_sp a4 (la + lb) c4 (List.replicate la 0 ++ ys) _ (unhide HA4) (byts_append (by intro z hz; rw [List.eq_of_mem_replicate hz]; omega) (unhide HH).2.1.2) (by have := unhide HL; omega)).mono ?_; rintro e w11 ⟨V11, rfl, hV11, hb⟩; have ne2 := sp_neq (unhide PG) hV11; have J11 : Hid (M w a2 nab (xs ++ ys) gf Vf gg Vg w11) := M.call hb (unhide J10); clear hb hV11)
      | (refine step_append_run (by rfl) _ _ _ (by rfl) _ _ _ (by rfl) (by rfl) (unhide R4') ?_))
  clear hmk
  have J0 : Hid (M w a2 nab (xs ++ ys) gf Vf gg Vg w11) := J11
  have HMK : Hid (∀ u, Below w11.heap.size w11 u → Hid (Below w11.heap.size w11 u) ∧ MS gf Vf gg Vg u) := fun u h => ⟨h, (M.call h (unhide J0)).js⟩
  clear J11 J10 J9 H8 HA4 R4' ne1 ne2
  go_wp2_with fail
  go_cut [9, 12] (fun er c wx => ∃ (gx : Nat) (Vx : Nat → Value), er = .int .i64 0 ∧ c = .pointer (some ⟨gx, 0, none⟩) ∧ Hid (K w a2 nab (xs ++ ys) wx ∧ R4 wx gx 26 Vx ∧ Sp ((xs ++ ys) ++ zs) Vx))
  case first =>
    go_region_held3 (fun u => Hid (Below w11.heap.size w11 u) ∧ (u.cell? ⟨gf, 0, none⟩ = some (Vf 0) ∧ u.cell? ⟨gf, 1, none⟩ = some (Vf 1) ∧ u.cell? ⟨gf, 2, none⟩ = some (Vf 2) ∧ u.cell? ⟨gf, 3, none⟩ = some (Vf 3)) ∧ u.cell? ⟨gg, 0, none⟩ = some (Vg 0) ∧ u.cell? ⟨gg, 1, none⟩ = some (Vg 1) ∧ u.cell? ⟨gg, 2, none⟩ = some (Vg 2) ∧ u.cell? ⟨gg, 3, none⟩ = some (Vg 3))
      (with_reducible (first | exact unhide HMK _ (Below.refl _ _).drew | exact unhide HMK _ (unhide B13) | exact unhide HMK _ (unhide B12) | exact unhide HMK _ ((Below.refl _ _).alloc (Nat.le_refl _) _).drew | exact unhide HMK _ ((unhide B13).alloc (unhide B13).size _) | exact unhide HMK _ ((unhide B12).alloc (unhide B12).size _) | exact unhide HMK _ (((((unhide B13).setCell (Nat.le_refl _) _).setCell (Nat.le_refl _) _).setCell (Nat.le_refl _) _).setCell (Nat.le_refl _) _) | exact unhide HMK _ (((((unhide B13).setCell (unhide B12).size _).setCell (unhide B12).size _).setCell (unhide B12).size _).setCell (unhide B12).size _)))
      (first
        | (go_at_call_of 8 (ac); refine (of_sp ac lc cc zs _ ((unhide HH).2.2.1.below (M.call (unhide (‹Hid (Below w11.heap.size w11 _) ∧ _›).1) (unhide J0)).1.1) (unhide HH).2.2.2 (by have := unhide HL; omega)).mono ?_; rintro e w12 ⟨Vc, rfl, hVc, hb⟩; have B12 : Hid (Below w11.heap.size w11 w12) := (unhide (‹Hid (Below w11.heap.size w11 _) ∧ _›).1).trans (hb.mono (unhide (‹Hid (Below w11.heap.size w11 _) ∧ _›).1).size); have PC : Hid (Sp zs Vc) := hVc; (try (have q1 := (R4.newd _).below hb (by simp); have HQ1 := hide q1; clear q1)); clear hb hVc)
        | (go_at_call_of 12 (Vf 0); refine (join_sp (xs ++ ys) zs Vf Vc nab _ (unhide PF) (unhide PC) (unhide HN).2.1 (byts_append (unhide HH).1.2 (unhide HH).2.1.2) (unhide HH).2.2.2 (by have := unhide HN; omega) (by have := unhide HL; omega)).mono ?_; rintro e w13 ⟨Vx, rfl, hVx, hb⟩; have B13 : Hid (Below w11.heap.size w11 w13) := (unhide (‹Hid (Below w11.heap.size w11 _) ∧ _›).1).trans (hb.mono (unhide (‹Hid (Below w11.heap.size w11 _) ∧ _›).1).size); (try (have q2 := (R4.newz _).below hb (by simp); have qa := q2.cell 0 (by omega); have qb := q2.cell 1 (by omega); have qc := q2.cell 2 (by omega); have qd := q2.cell 3 (by omega); have qe := q2.free 0; have qf := q2.free 1; have qg := q2.free 2; have qh := q2.free 3; have HQ2 := hide q2; clear q2)); (try (have q2 := (unhide HQ1).below hb (unhide HQ1).lt; have qa := q2.cell 0 (by omega); have qb := q2.cell 1 (by omega); have qc := q2.cell 2 (by omega); have qd := q2.cell 3 (by omega); have qe := q2.free 0; have qf := q2.free 1; have qg := q2.free 2; have qh := q2.free 3; have HQ2 := hide q2; clear q2)); have PX : Hid (Sp ((xs ++ ys) ++ zs) Vx) := hVx; have s0 := store_v (unhide PX 0 (by omega)); have s1 := store_v (unhide PX 1 (by omega)); have s2 := store_v (unhide PX 2 (by omega)); have s3 := store_v (unhide PX 3 (by omega)); clear hb hVx))
    all_goals
      have jj := (M.call (unhide (‹Hid (Below w11.heap.size w11 _) ∧ _›).1) (unhide J0)).1
      go_wp2_with fail
      go_meet
      first
        | exact ⟨_, Vx, rfl, rfl, hide ⟨jj, (unhide HQ2).all Vx, unhide PX⟩⟩
        | exact ⟨_, Vx, rfl, rfl, hide ⟨jj, R4.new _ 26 Vx, unhide PX⟩⟩
  case rest =>
    obtain ⟨gx, Vx, rfl, rfl, hX⟩ := hcut
    clear J0 HMK PF PG
    go_wp2_with fail
    go_at_call 8
    refine (of_sp ab lb cb ys _ ((unhide HH).2.1.1.below (unhide hX).1.1) (unhide HH).2.1.2 (by have := unhide HL; omega)).mono ?_
    rintro e w14 ⟨V14, rfl, hV, hb⟩
    have H14 : Hid (K w a2 nab (xs ++ ys) w14 ∧ R4 w14 gx 26 Vx) := ⟨K.call hb (unhide hX).1, (unhide hX).2.1.below hb (unhide hX).2.1.lt⟩
    have PX : Hid (Sp ((xs ++ ys) ++ zs) Vx) := (unhide hX).2.2
    have P14 : Hid (Sp ys V14) := hV
    clear hb hV hX
    go_wp2_with fail
    go_at_call 8
    refine (of_sp ac lc cc zs _ ((unhide HH).2.2.1.below (unhide H14).1.1) (unhide HH).2.2.2 (by have := unhide HL; omega)).mono ?_
    rintro e w15 ⟨V15, rfl, hV, hb⟩
    have H15 : Hid (K w a2 nab (xs ++ ys) w15 ∧ R4 w15 gx 26 Vx) := ⟨K.call hb (unhide H14).1, (unhide H14).2.below hb (unhide H14).2.lt⟩
    have P15 : Hid (Sp zs V15) := hV
    clear hb hV H14
    go_wp2_with fail
    go_at_call 12
    refine (join_sp ys zs V14 V15 lb _ (unhide P14) (unhide P15) (unhide HL).2.1.2 (unhide HH).2.1.2 (unhide HH).2.2.2 (by have := unhide HL; omega) (by have := unhide HL; omega)).mono ?_
    rintro e w16 ⟨Vb, rfl, hV, hb⟩
    have H16 : Hid (K w a2 nab (xs ++ ys) w16 ∧ R4 w16 gx 26 Vx) := ⟨K.call hb (unhide H15).1, (unhide H15).2.below hb (unhide H15).2.lt⟩
    have PB : Hid (Sp (ys ++ zs) Vb) := hV
    clear hb hV H15 P14 P15
    have s0 := store_v (unhide PB 0 (by omega))
    have s1 := store_v (unhide PB 1 (by omega))
    have s2 := store_v (unhide PB 2 (by omega))
    have s3 := store_v (unhide PB 3 (by omega))
    go_wp2_with fail
    clear s0 s1 s2 s3
    have J0 : Hid (M w a2 nab (xs ++ ys) gx Vx w16.heap.size Vb (w16.alloc (Obj.cells #[Vb 0, Vb 1, Vb 2, Vb 3] 26))) := ⟨(unhide H16).1.alloc _, (unhide H16).2.alloc _, R4.new w16 26 Vb⟩
    clear H16
    generalize w16.alloc (Obj.cells #[Vb 0, Vb 1, Vb 2, Vb 3] 26) = w17 at *
    generalize w16.heap.size = gb at *
    have HMK : Hid (∀ u, Below w17.heap.size w17 u → Hid (Below w17.heap.size w17 u) ∧ MS gx Vx gb Vb u) := fun u h => ⟨h, (M.call h (unhide J0)).js⟩
    go_cut [9, 14] (fun er c wx => ∃ (gy : Nat) (Vy : Nat → Value), er = .int .i64 0 ∧ c = .pointer (some ⟨gy, 0, none⟩) ∧ Hid (M w a2 nab (xs ++ ys) gx Vx gy Vy wx ∧ Sp (xs ++ (ys ++ zs)) Vy))
    case first =>
      go_region_held3 (fun u => Hid (Below w17.heap.size w17 u) ∧ (u.cell? ⟨gx, 0, none⟩ = some (Vx 0) ∧ u.cell? ⟨gx, 1, none⟩ = some (Vx 1) ∧ u.cell? ⟨gx, 2, none⟩ = some (Vx 2) ∧ u.cell? ⟨gx, 3, none⟩ = some (Vx 3)) ∧ u.cell? ⟨gb, 0, none⟩ = some (Vb 0) ∧ u.cell? ⟨gb, 1, none⟩ = some (Vb 1) ∧ u.cell? ⟨gb, 2, none⟩ = some (Vb 2) ∧ u.cell? ⟨gb, 3, none⟩ = some (Vb 3))
        (with_reducible (first | exact unhide HMK _ (Below.refl _ _).drew | exact unhide HMK _ (unhide B19) | exact unhide HMK _ (unhide B18) | exact unhide HMK _ ((Below.refl _ _).alloc (Nat.le_refl _) _).drew | exact unhide HMK _ ((unhide B19).alloc (unhide B19).size _) | exact unhide HMK _ ((unhide B18).alloc (unhide B18).size _) | exact unhide HMK _ (((((unhide B19).setCell (Nat.le_refl _) _).setCell (Nat.le_refl _) _).setCell (Nat.le_refl _) _).setCell (Nat.le_refl _) _) | exact unhide HMK _ (((((unhide B19).setCell (unhide B18).size _).setCell (unhide B18).size _).setCell (unhide B18).size _).setCell (unhide B18).size _)))
        (first
          | (go_at_call_of 8 (aa); refine (of_sp aa la ca xs _ ((unhide HH).1.1.below (M.call (unhide (‹Hid (Below w17.heap.size w17 _) ∧ _›).1) (unhide J0)).1.1) (unhide HH).1.2 (by have := unhide HL; omega)).mono ?_; rintro e w18 ⟨Va, rfl, hVa, hb⟩; have B18 : Hid (Below w17.heap.size w17 w18) := (unhide (‹Hid (Below w17.heap.size w17 _) ∧ _›).1).trans (hb.mono (unhide (‹Hid (Below w17.heap.size w17 _) ∧ _›).1).size); have PA : Hid (Sp xs Va) := hVa; (try (have q1 := (R4.newd _).below hb (by simp); have HQ1 := hide q1; clear q1)); clear hb hVa)
          | (go_at_call_of 12 (Vb 0); refine (join_sp xs (ys ++ zs) Va Vb la _ (unhide PA) (unhide PB) (unhide HL).1.2 (unhide HH).1.2 (byts_append (unhide HH).2.1.2 (unhide HH).2.2.2) (by have := unhide HL; omega) (by have := unhide HL; rw [List.length_append]; omega)).mono ?_; rintro e w19 ⟨Vy, rfl, hVy, hb⟩; have B19 : Hid (Below w17.heap.size w17 w19) := (unhide (‹Hid (Below w17.heap.size w17 _) ∧ _›).1).trans (hb.mono (unhide (‹Hid (Below w17.heap.size w17 _) ∧ _›).1).size); (try (have q2 := (R4.newz _).below hb (by simp); have qa := q2.cell 0 (by omega); have qb := q2.cell 1 (by omega); have qc := q2.cell 2 (by omega); have qd := q2.cell 3 (by omega); have qe := q2.free 0; have qf := q2.free 1; have qg := q2.free 2; have qh := q2.free 3; have HQ2 := hide q2; clear q2)); (try (have q2 := (unhide HQ1).below hb (unhide HQ1).lt; have qa := q2.cell 0 (by omega); have qb := q2.cell 1 (by omega); have qc := q2.cell 2 (by omega); have qd := q2.cell 3 (by omega); have qe := q2.free 0; have qf := q2.free 1; have qg := q2.free 2; have qh := q2.free 3; have HQ2 := hide q2; clear q2)); have PY : Hid (Sp (xs ++ (ys ++ zs)) Vy) := hVy; have s0 := store_v (unhide PY 0 (by omega)); have s1 := store_v (unhide PY 1 (by omega)); have s2 := store_v (unhide PY 2 (by omega)); have s3 := store_v (unhide PY 3 (by omega)); clear hb hVy))
      all_goals
        have jj := M.call (unhide (‹Hid (Below w17.heap.size w17 _) ∧ _›).1) (unhide J0)
        go_wp2_with fail
        go_meet
        first
          | exact ⟨_, Vy, rfl, rfl, hide ⟨⟨jj.1, jj.2.1, (unhide HQ2).all Vy⟩, unhide PY⟩⟩
          | exact ⟨_, Vy, rfl, rfl, hide ⟨⟨jj.1, jj.2.1, R4.new _ 26 Vy⟩, unhide PY⟩⟩
    case rest =>
      obtain ⟨gy, Vy, rfl, rfl, hY⟩ := hcut
      clear J0 HMK PB
      have PY : Sp ((xs ++ ys) ++ zs) Vy := by rw [List.append_assoc]; exact (unhide hY).2
      have eq1 := sp_eql (unhide PX) PY
      obtain ⟨a5, c5, w5', a6, c6, w6', r5, r6, h6⟩ := app_two (c := c2) (d := cc) (unhide hY).1.drew.1.2 ((unhide HH).2.2.1.below (unhide hY).1.drew.1.1) (by have := unhide HN; omega) (by have := unhide HL; omega)
      have R5 : Hid (∀ ty, (Builtin.append_ #[22, 22] ty #[.slice (some ⟨wc.heap.size, 0, none⟩) 0 0, .slice a2 nab c2]).run Try.prog (wc.alloc (.cells #[] 5)).drew = .ok (.slice a5 nab c5) w5') := r5
      have R6 := hide r6
      have J6 : Hid (M w a2 nab (xs ++ ys) gx Vx gy Vy w6' ∧ Has w6' a6 (nab + lc) ((xs ++ ys) ++ zs)) := ⟨M.call (unhide h6).2.1 (unhide hY).1.drew, (unhide h6).1⟩
      have J5 : Hid (M w a2 nab (xs ++ ys) gx Vx gy Vy w5') := M.call (unhide h6).2.2 (unhide hY).1.drew
      clear r5 r6 h6 PY
      go_wp2_with fail
      go_region_held3 (fun u => (u.cell? ⟨gx, 0, none⟩ = some (Vx 0) ∧ u.cell? ⟨gx, 1, none⟩ = some (Vx 1) ∧ u.cell? ⟨gx, 2, none⟩ = some (Vx 2) ∧ u.cell? ⟨gx, 3, none⟩ = some (Vx 3)) ∧ u.cell? ⟨gy, 0, none⟩ = some (Vy 0) ∧ u.cell? ⟨gy, 1, none⟩ = some (Vy 1) ∧ u.cell? ⟨gy, 2, none⟩ = some (Vy 2) ∧ u.cell? ⟨gy, 3, none⟩ = some (Vy 3))
        (with_reducible (first | exact M.js (unhide hY).1.drew | exact M.js (unhide J7) | exact M.js (unhide J6).1 | exact M.js (unhide J5) | exact M.js ((unhide hY).1.alloc _).drew))
        (first
          | (go_at_call_of 8 (a6); refine (of_sp a6 (nab + lc) c6 ((xs ++ ys) ++ zs) _ (unhide J6).2 (byts_append (byts_append (unhide HH).1.2 (unhide HH).2.1.2) (unhide HH).2.2.2) (by have := unhide HL; have := unhide HN; omega)).mono ?_; rintro e w20 ⟨V20, rfl, hV20, hb⟩; have eq2 := sp_eql (unhide PX) hV20; have J7 : Hid (M w a2 nab (xs ++ ys) gx Vx gy Vy w20) := M.call hb (unhide J6).1; clear hb hV20)
          | (refine step_append_run (by rfl) _ _ _ (by rfl) _ _ _ (by rfl) (by rfl) (unhide R5) ?_; clear R5)
          | (refine step_append_run (by rfl) _ _ _ (by rfl) _ _ _ (by rfl) (by rfl) (unhide R6) ?_; clear R6))
      go_wp2
      go_ret
      exact ⟨rfl, (unhide J7).1.1⟩
end Go.Proofs.Ytkbngbilgebgiaa
