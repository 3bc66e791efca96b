/- Joined: OReads, OReadZ. -/
import Derived.Test.YtdkicniciciobaaGreatDoorOrJ48
import Derived.Test.YtdkicniciciobaaGreatDoorOrOOpenO
import Derived.Deep.Cut
import Derived.Deep.DeepCutAuto
/- GroupReads' walk. -/
namespace Go.Proofs.YtdkicniciciobaaGreatDoor
open Go.RowKit Go.Shelf Go.Maps
set_option linter.unusedVariables false
set_option maxRecDepth 100000

/-- The plan's row. -/
def plO : Obj := .cells (Pc sP) 26

/-- A call's row. -/
def opO (kd n x : Int) (pa : Option Addr) (pl pc : Nat) : Obj := .cells #[.int .i64 kd, .int .i64 n, .int .u8 x, .slice pa pl pc] 39

theorem opO_cells {u : World} {g : Nat} {kd n x : Int} {pa : Option Addr} {pl pc : Nat} (h : u.heap[g]? = some (opO kd n x pa pl pc)) : u.cell? ⟨g, 0, none⟩ = some (.int .i64 kd) ∧ u.cell? ⟨g, 1, none⟩ = some (.int .i64 n) ∧ u.cell? ⟨g, 2, none⟩ = some (.int .u8 x) ∧ u.cell? ⟨g, 3, none⟩ = some (.slice pa pl pc) := by
  have B : Bl u g #[.int .i64 kd, .int .i64 n, .int .u8 x, .slice pa pl pc] 39 := h
  exact ⟨B.cell 0 _ rfl, B.cell 1 _ rfl, B.cell 2 _ rfl, B.cell 3 _ rfl⟩

theorem plO_cells {u : World} {g : Nat} (h : u.heap[g]? = some plO) : u.cell? ⟨g, 1, none⟩ = some (.int .i64 60) ∧ u.cell? ⟨g, 11, none⟩ = some (.int .i64 16) := by
  have B : Bl u g (Pc sP) 26 := h
  have e : ∀ k, sP k = planOf 64 60 6 9 k := fun k => by unfold sP; rw [makeP_ok sP_make]
  have c1 := B.cell 1 (.int .i64 (sP 1)) rfl
  have c2 := B.cell 11 (.int .i64 (sP 11)) rfl
  rw [e] at c1 c2
  exact ⟨c1, c2⟩

theorem RS.le {w : World} {g dg : Nat} {rows : List (Nat × Obj)} {i i' gh ch : Nat} {H : Nat → Int} {u : World} (h : RS w g dg rows i gh ch H u) (hi : i ≤ i') : RS w g dg rows i' gh ch H u := by
  obtain ⟨X, C, L, D, S, h, e⟩ := h
  exact ⟨X, C, L, D, S, ⟨h.gl, h.gs, Nat.le_trans h.sq hi, h.vl, h.hv, h.nh, h.hb⟩, e⟩

set_option maxHeartbeats 8000000 in
theorem greads_walk (c0 : Int) (cap : Nat) (hcap : (1 ≤ c0 ∧ c0 ≤ 60 ∧ (cap : Int) = c0) ∨ ((c0 < 1 ∨ 60 < c0) ∧ cap = 3)) (a1 : Option Addr) (len1 cap1 : Nat) (z1 : List Int) (a2 : Option Addr) (len2 cap2 : Nat) (w : World) (hT : Tab w) (h1 : IArg w a1 len1 cap1 z1) (h2 : OpsAt w a2 len2) :
    Calls Tryz.prog 4 #[.int .i64 c0, .slice a1 len1 cap1, .slice a2 len2 cap2] w fun e w' => e = .returned (.bool true) ∧ Below w.heap.size w w' := by
  have hc : 1 ≤ cap ∧ cap ≤ 60 := by omega
  have K1 := hide (gwakes_any w hT)
  have KS : Hid (∀ u, Calls Tryz.prog 10 #[] u fun e w' => e = .returned (Pv sP) ∧ Hid (Below u.heap.size u w')) := fun u => gsmall_any u
  have KF : Hid (∀ u, Below w.heap.size w u → ∀ gp, u.heap[gp]? = some plO → Calls Tryz.prog 11 #[Pv sP, .int .i64 cap, .slice a1 len1 cap1] u fun e w' => ∃ dg g, e = .returned (.tuple #[.pointer (some ⟨dg, 0, none⟩), .pointer (some ⟨g, 0, none⟩)]) ∧ w'.cell? ⟨gp, 1, none⟩ = some (.int .i64 60) ∧ Hid (RS w g dg [(gp, plO)] 1 w'.heap.size 60 (fun _ => 0) (w'.alloc (.cells (madeCells #[.int .u8 0] 60) 5)))) := fun u hu gp hp => by
    refine (gfresh_any u (hT.kept (hu.block 0 hT.lt)) cap ⟨hc.1, by omega⟩ a1 len1 cap1 z1 (h1.1.later hu) h1.2.1 h1.2.2.2).mono ?_
    rintro e w' ⟨dg, g, rfl, Y⟩
    have hlt : gp < u.heap.size := (Array.getElem?_eq_some_iff.1 hp).1
    exact ⟨dg, g, rfl, (plO_cells (((unhide Y).bel.block gp hlt).trans hp)).1, r_start hu hp (unhide Y) hc.1⟩
  have KO : Hid (∀ k, k < len2 → ∃ b off kd n x pa pl pc, a2 = some ⟨b, off, none⟩ ∧ 0 ≤ x ∧ x ≤ 255 ∧ pl ≤ pc ∧ pc ≤ 9223372036854775807 ∧ Hid (∀ u, Below w.heap.size w u → u.cell? ⟨b, off + k * 4, none⟩ = some (.int .i64 kd) ∧ u.cell? ⟨b, off + k * 4 + 1, none⟩ = some (.int .i64 n) ∧ u.cell? ⟨b, off + k * 4 + 2, none⟩ = some (.int .u8 x) ∧ u.cell? ⟨b, off + k * 4 + 3, none⟩ = some (.slice pa pl pc)) ∧
      Hid (∀ j, j < pl → ∃ b2 off2 z, pa = some ⟨b2, off2, none⟩ ∧ Hid (∀ u, Below w.heap.size w u → u.cell? ⟨b2, off2 + j, none⟩ = some (.int .i64 z)))) := by
    intro k hk
    obtain ⟨b, off, e, hbl, ho⟩ := h2.2 (by omega)
    obtain ⟨o, ho⟩ := ho k hk
    refine ⟨b, off, o.kind, o.n, o.x, o.pa, o.pl, o.pc, e, ho.xb.1, ho.xb.2, ho.pb.1, ho.pb.2, fun u hu => ⟨(hu.cell (p := ⟨b, off + k * 4, none⟩) hbl).trans ho.c0, (hu.cell (p := ⟨b, off + k * 4 + 1, none⟩) hbl).trans ho.c1, (hu.cell (p := ⟨b, off + k * 4 + 2, none⟩) hbl).trans ho.c2, (hu.cell (p := ⟨b, off + k * 4 + 3, none⟩) hbl).trans ho.c3⟩, fun j hj => ?_⟩
    obtain ⟨b2, off2, e2, hcell⟩ := ho.ints.2 (by omega)
    exact ⟨b2, off2, _, e2, fun u hu => (hu.cell (p := ⟨b2, off2 + j, none⟩) (ho.ints.lt (by omega) e2)).trans (hcell j hj)⟩
  have hl2 := h2.1
  have h0 := hT.lt
  obtain ⟨hc1, hc2⟩ := hc
  have hci : (c0 < 1 ∨ 60 < c0) → (cap : Int) = 3 := by omega
  have hco : ¬ (c0 < 1 ∨ 60 < c0) → (cap : Int) = c0 := by omega
  have hmk : ∀ w : World, (Instr.makeSlice 49 (.int .i64 60) (.int .i64 60)).run Tryz.prog w = .ok (.slice (some ⟨w.heap.size, 0, none⟩) 60 60) (w.alloc (.cells (madeCells #[.int .u8 0] 60) 5)) := run_make_row' (P := Tryz.prog) 49 5 (.int .u8 0) 1 Tryz.underlying49 info5 rfl .i64 .i64 60 (by omega) (by omega)
  have PP : Hid (∀ u : World, (u.alloc (.cells (Pc sP) 26)).heap[u.heap.size]? = some plO) := fun u => World.alloc_heap_new _ _
  clear h1 h2 hT hc1 hc2 hcap
  generalize (cap : Int) = ci at *
  generalize hsp : sP = p at *
  clear hsp
  go_enter Tryz.func4, Tryz.ntmps4
  go_wp2_with fail
  go_at_call 9
  refine (unhide K1).mono ?_
  rintro e w1 ⟨rfl, x1⟩
  have Z1 := hide x1
  clear K1 x1
  go_upto_region 3 with fail
  go_cut [31] (fun c wx => c = .bool (decide (c0 < 1 ∨ 60 < c0)) ∧ w1 = wx)
  case first => as_aux_lemma =>
    by_cases e1 : c0 < 1
    · go_wp2_with fail
      go_meet
      exact ⟨by simp [e1], rfl⟩
    · by_cases e2 : 60 < c0
      · go_wp2_with fail
        go_meet
        exact ⟨by simp [e2], rfl⟩
      · go_wp2_with fail
        go_meet
        exact ⟨by simp [e1, e2], rfl⟩
  obtain ⟨rfl, rfl⟩ := hcut
  go_upto_if 31 with fail
  go_cut [0] (fun c wx => c = .int .i64 ci ∧ w1 = wx)
  case first => as_aux_lemma =>
    by_cases hbad : c0 < 1 ∨ 60 < c0
    · have db : decide (c0 < 1 ∨ 60 < c0) = true := decide_eq_true hbad
      have e3 := hci hbad
      rw [db]
      clear hci hco hbad db
      go_wp2_with fail
      go_meet
      exact ⟨by rw [e3], rfl⟩
    · have db : decide (c0 < 1 ∨ 60 < c0) = false := decide_eq_false hbad
      have e3 := hco hbad
      rw [db]
      clear hci hco hbad db
      go_wp2_with fail
      go_meet
      exact ⟨by rw [e3], rfl⟩
  obtain ⟨rfl, rfl⟩ := hcut
  clear hci hco
  have KS1 := hide (unhide KS w1)
  clear KS
  go_wp2_with fail
  go_at_call 10
  refine (unhide KS1).mono ?_
  rintro e w2 ⟨rfl, hb2⟩
  have HK := hide (Kp.start w2 p)
  have Z2 := hide ((unhide Z1).trans ((unhide hb2).mono (unhide Z1).size))
  have Z3 := hide ((unhide Z2).trans ((unhide HK).2.mono (unhide Z2).size))
  have KF1 := hide (unhide KF _ (unhide Z3) _ (unhide PP w2))
  clear KS1 KF hb2 Z1 Z2 PP
  go_upto_region 6 with fail
  change Code.wp _ _ _ _ (w2.alloc (.cells (Pc p) 26))
  generalize w2.alloc (.cells (Pc p) 26) = w3 at *
  obtain ⟨f0, f1, f2, f3, f4, f5, f6, f7, f8, f9, f10, f11⟩ := (unhide HK).cells
  generalize w2.heap.size = gp at *
  go_wp2_with fail
  go_at_call 11
  refine (unhide KF1).mono ?_
  rintro e y0 ⟨dg, g, rfl, q1, X0⟩
  clear KF1 HK Z3 f0 f1 f2 f3 f4 f5 f6 f7 f8 f9 f10 f11
  go_upto_region 9 with fail
  generalize y0.heap.size = gh0 at *
  generalize y0.alloc (.cells (madeCells #[.int .u8 0] 60) 5) = v0 at *
  clear hmk q1
  go_loopw [10, 11] (fun hv i wr => ∃ (k gh ch : Nat) (H : Nat → Int), k ≤ 60 ∧ i = .int .i64 (k : Int) ∧ hv = .slice (some ⟨gh, 0, none⟩) 60 ch ∧ Hid (RS w g dg [(gp, plO)] (1 + 27 * k) gh ch H wr)) (fun _ i _ => 60 - (intOf i).toNat)
  case atStart => exact ⟨0, _, _, _, by omega, rfl, rfl, X0⟩
  case round =>
    obtain ⟨k, gh, ch, H, hk, rfl, rfl, XR⟩ := hrel
    clear X0
    by_cases hlt : k < len2
    · by_cases h60 : k < 60
      · obtain ⟨b, off, kd, n, x, pa, pl, pc, rfl, hx0, hx1, hpl, hpc, CO, CL⟩ := unhide KO k hlt
        obtain ⟨o0, o1, o2, o3⟩ := unhide CO wr (unhide XR).bel
        have XS := hide ((unhide XR).add (opO kd n x pa pl pc))
        clear KO CO XR
        go_upto_region 12 with fail
        change Code.wp _ _ _ _ (wr.alloc (opO kd n x pa pl pc))
        generalize wr.alloc (opO kd n x pa pl pc) = w5 at *
        generalize wr.heap.size = gs at *
        clear o0 o1 o2 o3
        have K5 := hide (r_begin (unhide XS))
        clear XS
        go_wp2_with fail
        go_at_call 13
        refine (unhide K5).mono ?_
        rintro e y6 ⟨o, rfl, K6⟩
        clear K5
        obtain ⟨gn, cn, y7, R, XP⟩ := unhide K6
        clear K6
        go_upto_region 17 with (at_builtin; refine wpList_append_run 49 rfl _ _ rfl _ _ _ rfl rfl (unhide R) ?_; clear R)
        go_loopw [16] (fun i wr => ∃ (m : Nat) (H2 : Nat → Int), m ≤ 4 ∧ i = .int .i64 (m : Int) ∧ Hid (RPo w g dg o [(gs, opO kd n x pa pl pc), (gp, plO)] (1 + 27 * k) gh ch H gn cn H2 m wr)) (fun i _ => 4 - (intOf i).toNat)
        case atStart => exact ⟨0, H, by omega, rfl, XP⟩
        case round =>
          obtain ⟨m, H2, hm4, rfl, XQ⟩ := hrel
          clear XP
          obtain ⟨s0, s1, s2, s3⟩ := opO_cells ((unhide XQ).row (List.mem_cons_self ..))
          obtain ⟨q1, q11⟩ := plO_cells ((unhide XQ).row (List.mem_cons_of_mem _ (List.mem_cons_self ..)))
          by_cases hmp : m ≤ pl
          · by_cases hm : m < 4
            · go_upto_if 88 with fail
              go_cut [17] (fun c wx => ∃ z, c = .int .i64 z ∧ wx = wr)
              case first => as_aux_lemma =>
                by_cases hmp2 : m < pl
                · obtain ⟨b2, off2, z, rfl, CZ⟩ := unhide CL m hmp2
                  have cz := unhide CZ wr (unhide XQ).bel
                  go_wp2_with fail
                  go_meet
                  exact ⟨z, rfl, rfl⟩
                · have hmp3 : ¬ (m : Int) < (pl : Int) := by omega
                  go_wp2_with fail
                  go_meet
                  exact ⟨n, rfl, rfl⟩
              case rest =>
                obtain ⟨z, rfl, rfl⟩ := hcut
                have hz : (z % 32).toNat < 32 := by omega
                have ha31 : bits .and .i64 z 31 = (((z % 32).toNat : Nat) : Int) := by rw [rand31]; omega
                generalize (z % 32).toNat = zb at *
                go_upto_region 23 with fail
                generalize hbI : (16 : Int) + (zb : Int) = bI at *
                obtain ⟨bn, rfl⟩ : ∃ bn : Nat, bI = (bn : Int) := ⟨16 + zb, by omega⟩
                have hbn : 16 ≤ bn ∧ bn < 60 := by omega
                have ha1 : bits .and .i64 (bn : Int) 1 = ((bn % 2 : Nat) : Int) := by rw [rand1]; omega
                clear ha31 hbI hz
                go_upto_if 101 with fail
                go_cut [14] (fun c wx => c = .int .i64 0 ∧ Hid (StepE w g dg o [(gs, opO kd n x pa pl pc), (gp, plO)] (1 + 27 * k) gh ch H gn cn H2 m bn ((x + (m : Int)) % 256) wx))
                case first => as_aux_lemma =>
                  by_cases he : bn % 2 = 0
                  · have d0 : (((bn % 2 : Nat) : Int) == 0) = true := by simp [he]
                    have K7 := hide (r_write (unhide XQ) hbn (by simp [ev, he]) (v := (x + (m : Int)) % 256) (by omega) h0)
                    clear XQ
                    go_wp2_with fail
                    go_at_call 19
                    refine (unhide K7).mono ?_
                    rintro e y8 ⟨q, rfl, K8⟩
                    clear K7
                    go_wp2_with fail
                    go_at_call 18
                    refine (unhide K8).mono ?_
                    rintro e y9 ⟨rfl, X9⟩
                    clear K8
                    go_wp2_with fail
                    go_meet
                    exact ⟨rfl, X9⟩
                  · have d0 : (((bn % 2 : Nat) : Int) == 0) = false := by simp; omega
                    have K7 := hide (r_data (unhide XQ) hbn (by simp [ev, he]) (v := (x + (m : Int)) % 256) (by omega) h0)
                    clear XQ
                    go_wp2_with fail
                    go_at_call 19
                    refine (unhide K7).mono ?_
                    rintro e y8 ⟨q, rfl, K8⟩
                    clear K7
                    go_wp2_with fail
                    go_at_call 20
                    refine (unhide K8).mono ?_
                    rintro e y9 ⟨rfl, X9⟩
                    clear K8
                    go_wp2_with fail
                    go_meet
                    exact ⟨rfl, X9⟩
                case rest =>
                  obtain ⟨rfl, XE⟩ := hcut
                  clear XQ s0 s1 s2 s3 q1 q11
                  obtain ⟨⟨v0, cv⟩, fv, hrows, hbel, KR⟩ := unhide XE
                  obtain ⟨s0, s1, s2, s3⟩ := opO_cells (hrows _ (List.mem_cons_self ..))
                  have K9 := hide KR
                  have hbn2 := hbn.2
                  clear XE hrows hbel KR
                  go_wp2_with fail
                  go_at_call 21
                  refine (unhide K9).mono ?_
                  rintro e z1 ⟨ra, rc, rfl, cv2, K10⟩
                  clear K9 cv fv s0 s1 s2 s3
                  go_wp2_with fail
                  go_at_call 19
                  refine (unhide K10).mono ?_
                  rintro e z2 ⟨rq, rfl, K11⟩
                  clear K10 cv2
                  go_wp2_with fail
                  go_at_call 22
                  refine (unhide K11).mono ?_
                  rintro e z3 ⟨rfl, X12⟩
                  clear K11
                  go_wp2_with fail
                  go_roundw
                  case rel => exact ⟨m + 1, _, by omega, by go_num, X12⟩
                  case measure => simp [intOf]; omega
            · have nm : ¬ (m : Int) < 4 := by omega
              go_upto_if 152 with fail
              go_cut [10, 14] (fun hv c wx => c = .int .i64 0 ∧ ∃ (gh' ch' : Nat) (H' : Nat → Int), hv = .slice (some ⟨gh', 0, none⟩) 60 ch' ∧ Hid (RS w g dg [(gs, opO kd n x pa pl pc), (gp, plO)] (1 + 27 * k + 9) gh' ch' H' wx))
              case first => as_aux_lemma =>
                by_cases hk6 : kd = 6
                · have d6 : (kd == 6) = true := by simp [hk6]
                  have K7 := hide (r_abort (unhide XQ))
                  clear XQ hk6
                  go_wp2_with fail
                  go_at_call 23
                  refine (unhide K7).mono ?_
                  rintro e y8 ⟨rfl, X8⟩
                  clear K7
                  go_wp2_with fail
                  go_meet
                  exact ⟨rfl, _, _, _, rfl, (unhide X8).le (by omega)⟩
                · have d6 : (kd == 6) = false := by simpa using hk6
                  have K7 := hide (r_end (unhide XQ) hm4 (by omega))
                  clear XQ hk6
                  go_wp2_with fail
                  go_at_call 24
                  refine (unhide K7).mono ?_
                  rintro e y8 ⟨rfl, X8⟩
                  clear K7
                  go_wp2_with fail
                  go_meet
                  exact ⟨rfl, _, _, _, rfl, X8⟩
              case rest =>
                obtain ⟨rfl, gh2, ch2, H3, rfl, X9⟩ := hcut
                clear XQ CL s0 s1 s2 s3 q1 q11
                obtain ⟨s0, _, _, _⟩ := opO_cells ((unhide X9).row (List.mem_cons_self ..))
                go_upto_if 162 with fail
                go_cut [14] (fun c wx => c = .int .i64 0 ∧ Hid (RS w g dg [(gs, opO kd n x pa pl pc), (gp, plO)] (1 + 27 * k + 18) gh2 ch2 H3 wx))
                case first => as_aux_lemma =>
                  by_cases hk9 : kd = 9
                  · have d9 : (kd == 9) = true := by simp [hk9]
                    have K7 := hide (r_commit (unhide X9) (by omega))
                    clear X9 hk9
                    go_wp2_with fail
                    go_at_call 25
                    refine (unhide K7).mono ?_
                    rintro e y8 ⟨rfl, X8⟩
                    clear K7
                    go_wp2_with fail
                    go_meet
                    exact ⟨rfl, X8⟩
                  · have d9 : (kd == 9) = false := by simpa using hk9
                    have X8 := hide ((unhide X9).le (show 1 + 27 * k + 9 ≤ 1 + 27 * k + 18 by omega))
                    clear X9 hk9
                    go_wp2_with fail
                    go_meet
                    exact ⟨rfl, X8⟩
                case rest =>
                  obtain ⟨rfl, X10⟩ := hcut
                  clear X9 s0
                  obtain ⟨s0, _, _, _⟩ := opO_cells ((unhide X10).row (List.mem_cons_self ..))
                  go_upto_if 167 with fail
                  go_cut [14] (fun c wx => c = .int .i64 0 ∧ Hid (RS w g dg [(gs, opO kd n x pa pl pc), (gp, plO)] (1 + 27 * k + 27) gh2 ch2 H3 wx))
                  case first => as_aux_lemma =>
                    by_cases hk9 : kd = 10
                    · have d9 : (kd == 10) = true := by simp [hk9]
                      have K7 := hide (r_settle (unhide X10) (by omega))
                      clear X10 hk9
                      go_wp2_with fail
                      go_at_call 26
                      refine (unhide K7).mono ?_
                      rintro e y8 ⟨rfl, X8⟩
                      clear K7
                      go_wp2_with fail
                      go_meet
                      exact ⟨rfl, X8⟩
                    · have d9 : (kd == 10) = false := by simpa using hk9
                      have X8 := hide ((unhide X10).le (show 1 + 27 * k + 18 ≤ 1 + 27 * k + 27 by omega))
                      clear X10 hk9
                      go_wp2_with fail
                      go_meet
                      exact ⟨rfl, X8⟩
                  case rest =>
                    obtain ⟨rfl, X11⟩ := hcut
                    clear X10 s0
                    obtain ⟨q1, q11⟩ := plO_cells ((unhide X11).row (List.mem_cons_of_mem _ (List.mem_cons_self ..)))
                    go_upto_region 43 with fail
                    go_loopw [21] (fun b wr => ∃ j : Nat, 16 ≤ j ∧ j ≤ 48 ∧ b = .int .i64 (j : Int) ∧ Hid (RS w g dg [(gs, opO kd n x pa pl pc), (gp, plO)] (1 + 27 * k + 27) gh2 ch2 H3 wr)) (fun b _ => 48 - (intOf b).toNat)
                    case atStart => exact ⟨16, by omega, by omega, rfl, X11⟩
                    case round =>
                      obtain ⟨j, j16, j48, rfl, XJ⟩ := hrel
                      clear X11 q1 q11
                      obtain ⟨q1, q11⟩ := plO_cells ((unhide XJ).row (List.mem_cons_of_mem _ (List.mem_cons_self ..)))
                      by_cases hj : j < 48
                      · have K7 := hide (r_gread (unhide XJ) j16 (show j < 60 by omega))
                        have hj60 : j < 60 := by omega
                        clear XJ
                        generalize H3 j = hv at *
                        go_wp2_with fail
                        go_at_call 27
                        refine (unhide K7).mono ?_
                        rintro e z1 ⟨ra, rc, rfl, cv, K8⟩
                        clear K7
                        go_wp2_with fail
                        go_at_call 19
                        refine (unhide K8).mono ?_
                        rintro e z2 ⟨rq, rfl, K9⟩
                        clear K8 cv
                        go_wp2_with fail
                        go_at_call 22
                        refine (unhide K9).mono ?_
                        rintro e z3 ⟨rfl, X12⟩
                        clear K9
                        go_wp2_with fail
                        go_roundw
                        case rel => exact ⟨j + 1, by omega, by omega, by go_num, X12⟩
                        case measure => simp [intOf]; omega
                      · have nj : ¬ (j : Int) < 48 := by omega
                        have X12 := hide ((unhide XJ).drop (show 1 + 27 * k + 27 ≤ 1 + 27 * (k + 1) by omega))
                        clear XJ
                        go_wp2_with fail
                        go_roundw
                        case rel => exact ⟨k + 1, _, _, _, by omega, by go_num, rfl, X12⟩
                        case measure => simp [intOf]; omega
          · have nm : ¬ (m : Int) ≤ (pl : Int) := by omega
            go_upto_if 152 with fail
            go_cut [10, 14] (fun hv c wx => c = .int .i64 0 ∧ ∃ (gh' ch' : Nat) (H' : Nat → Int), hv = .slice (some ⟨gh', 0, none⟩) 60 ch' ∧ Hid (RS w g dg [(gs, opO kd n x pa pl pc), (gp, plO)] (1 + 27 * k + 9) gh' ch' H' wx))
            case first => as_aux_lemma =>
              by_cases hk6 : kd = 6
              · have d6 : (kd == 6) = true := by simp [hk6]
                have K7 := hide (r_abort (unhide XQ))
                clear XQ hk6
                go_wp2_with fail
                go_at_call 23
                refine (unhide K7).mono ?_
                rintro e y8 ⟨rfl, X8⟩
                clear K7
                go_wp2_with fail
                go_meet
                exact ⟨rfl, _, _, _, rfl, (unhide X8).le (by omega)⟩
              · have d6 : (kd == 6) = false := by simpa using hk6
                have K7 := hide (r_end (unhide XQ) hm4 (by omega))
                clear XQ hk6
                go_wp2_with fail
                go_at_call 24
                refine (unhide K7).mono ?_
                rintro e y8 ⟨rfl, X8⟩
                clear K7
                go_wp2_with fail
                go_meet
                exact ⟨rfl, _, _, _, rfl, X8⟩
            case rest =>
              obtain ⟨rfl, gh2, ch2, H3, rfl, X9⟩ := hcut
              clear XQ CL s0 s1 s2 s3 q1 q11
              obtain ⟨s0, _, _, _⟩ := opO_cells ((unhide X9).row (List.mem_cons_self ..))
              go_upto_if 162 with fail
              go_cut [14] (fun c wx => c = .int .i64 0 ∧ Hid (RS w g dg [(gs, opO kd n x pa pl pc), (gp, plO)] (1 + 27 * k + 18) gh2 ch2 H3 wx))
              case first => as_aux_lemma =>
                by_cases hk9 : kd = 9
                · have d9 : (kd == 9) = true := by simp [hk9]
                  have K7 := hide (r_commit (unhide X9) (by omega))
                  clear X9 hk9
                  go_wp2_with fail
                  go_at_call 25
                  refine (unhide K7).mono ?_
                  rintro e y8 ⟨rfl, X8⟩
                  clear K7
                  go_wp2_with fail
                  go_meet
                  exact ⟨rfl, X8⟩
                · have d9 : (kd == 9) = false := by simpa using hk9
                  have X8 := hide ((unhide X9).le (show 1 + 27 * k + 9 ≤ 1 + 27 * k + 18 by omega))
                  clear X9 hk9
                  go_wp2_with fail
                  go_meet
                  exact ⟨rfl, X8⟩
              case rest =>
                obtain ⟨rfl, X10⟩ := hcut
                clear X9 s0
                obtain ⟨s0, _, _, _⟩ := opO_cells ((unhide X10).row (List.mem_cons_self ..))
                go_upto_if 167 with fail
                go_cut [14] (fun c wx => c = .int .i64 0 ∧ Hid (RS w g dg [(gs, opO kd n x pa pl pc), (gp, plO)] (1 + 27 * k + 27) gh2 ch2 H3 wx))
                case first => as_aux_lemma =>
                  by_cases hk9 : kd = 10
                  · have d9 : (kd == 10) = true := by simp [hk9]
                    have K7 := hide (r_settle (unhide X10) (by omega))
                    clear X10 hk9
                    go_wp2_with fail
                    go_at_call 26
                    refine (unhide K7).mono ?_
                    rintro e y8 ⟨rfl, X8⟩
                    clear K7
                    go_wp2_with fail
                    go_meet
                    exact ⟨rfl, X8⟩
                  · have d9 : (kd == 10) = false := by simpa using hk9
                    have X8 := hide ((unhide X10).le (show 1 + 27 * k + 18 ≤ 1 + 27 * k + 27 by omega))
                    clear X10 hk9
                    go_wp2_with fail
                    go_meet
                    exact ⟨rfl, X8⟩
                case rest =>
                  obtain ⟨rfl, X11⟩ := hcut
                  clear X10 s0
                  obtain ⟨q1, q11⟩ := plO_cells ((unhide X11).row (List.mem_cons_of_mem _ (List.mem_cons_self ..)))
                  go_upto_region 43 with fail
                  go_loopw [21] (fun b wr => ∃ j : Nat, 16 ≤ j ∧ j ≤ 48 ∧ b = .int .i64 (j : Int) ∧ Hid (RS w g dg [(gs, opO kd n x pa pl pc), (gp, plO)] (1 + 27 * k + 27) gh2 ch2 H3 wr)) (fun b _ => 48 - (intOf b).toNat)
                  case atStart => exact ⟨16, by omega, by omega, rfl, X11⟩
                  case round =>
                    obtain ⟨j, j16, j48, rfl, XJ⟩ := hrel
                    clear X11 q1 q11
                    obtain ⟨q1, q11⟩ := plO_cells ((unhide XJ).row (List.mem_cons_of_mem _ (List.mem_cons_self ..)))
                    by_cases hj : j < 48
                    · have K7 := hide (r_gread (unhide XJ) j16 (show j < 60 by omega))
                      have hj60 : j < 60 := by omega
                      clear XJ
                      generalize H3 j = hv at *
                      go_wp2_with fail
                      go_at_call 27
                      refine (unhide K7).mono ?_
                      rintro e z1 ⟨ra, rc, rfl, cv, K8⟩
                      clear K7
                      go_wp2_with fail
                      go_at_call 19
                      refine (unhide K8).mono ?_
                      rintro e z2 ⟨rq, rfl, K9⟩
                      clear K8 cv
                      go_wp2_with fail
                      go_at_call 22
                      refine (unhide K9).mono ?_
                      rintro e z3 ⟨rfl, X12⟩
                      clear K9
                      go_wp2_with fail
                      go_roundw
                      case rel => exact ⟨j + 1, by omega, by omega, by go_num, X12⟩
                      case measure => simp [intOf]; omega
                    · have nj : ¬ (j : Int) < 48 := by omega
                      have X12 := hide ((unhide XJ).drop (show 1 + 27 * k + 27 ≤ 1 + 27 * (k + 1) by omega))
                      clear XJ
                      go_wp2_with fail
                      go_roundw
                      case rel => exact ⟨k + 1, _, _, _, by omega, by go_num, rfl, X12⟩
                      case measure => simp [intOf]; omega
      · have n60 : ¬ (k : Int) < 60 := by omega
        have XB := hide (unhide XR).bel
        clear XR KO
        go_wp2_with fail
        go_ret
        exact ⟨rfl, unhide XB⟩
    · have nl : ¬ (k : Int) < (len2 : Int) := by omega
      have XB := hide (unhide XR).bel
      clear XR KO
      go_wp2_with fail
      go_ret
      exact ⟨rfl, unhide XB⟩

end Go.Proofs.YtdkicniciciobaaGreatDoor

/- GroupReads, whatever the capacity is. -/
namespace Go.Proofs.YtdkicniciciobaaGreatDoor
open Go.RowKit Go.Shelf Go.Maps

theorem greads_all (c0 : Int) (a1 : Option Addr) (len1 cap1 : Nat) (z1 : List Int) (a2 : Option Addr) (len2 cap2 : Nat) (w : World) (hT : Tab w) (h1 : IArg w a1 len1 cap1 z1) (h2 : OpsAt w a2 len2) :
    Calls Tryz.prog 4 #[.int .i64 c0, .slice a1 len1 cap1, .slice a2 len2 cap2] w fun e w' => e = .returned (.bool true) ∧ Below w.heap.size w w' := by
  by_cases hb : c0 < 1 ∨ 60 < c0
  · exact greads_walk c0 3 (.inr ⟨hb, rfl⟩) a1 len1 cap1 z1 a2 len2 cap2 w hT h1 h2
  · exact greads_walk c0 c0.toNat (.inl (by omega)) a1 len1 cap1 z1 a2 len2 cap2 w hT h1 h2

end Go.Proofs.YtdkicniciciobaaGreatDoor

