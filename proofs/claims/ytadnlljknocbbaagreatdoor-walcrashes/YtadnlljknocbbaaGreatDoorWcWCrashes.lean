/- The walk of WalCrashes. -/
import Derived.Test.YtadnlljknocbbaaGreatDoorWcJ51
import Derived.Test.YtadnlljknocbbaaGreatDoorWcJ48
import Derived.Deep.RegionHeld3
import Derived.Deep.CutBlock
import Derived.Deep.DeepBigQuietO
namespace Go.Proofs.YtadnlljknocbbaaGreatDoor
open Go.RowKit Go.Shelf Go.Maps
set_option linter.unusedVariables false
set_option maxRecDepth 100000

set_option maxHeartbeats 16000000 in
theorem crashes_walk (a0 : Option Addr) (len0 cap0 : Nat) (a1 : Int) (a2 : Option Addr) (len2 cap2 : Nat) (a3 : Option Addr) (len3 cap3 : Nat) (z3 : List Int) (w : World) (hA : WLs w a0 len0) (hw1 : (Lit.int .i64 a1).wf = true) (hP : ILs w a2 len2) (hG : IArgW w a3 len3 cap3 z3) (hT : Tab w) : Calls Tryz.prog 5 #[.slice a0 len0 cap0, .int .i64 a1, .slice a2 len2 cap2, .slice a3 len3 cap3] w fun e w' => e = .returned (.bool true) ∧ Below w.heap.size w w' := by
  have hmix : Tryz.prog.follows Departure.mixedOrders = true := by kernel_rfl
  have K1 := hide (wakes_any w hT)
  have KS : Hid (∀ u, _) := fun u => small_any u
  have KF : Hid (∀ u, Below w.heap.size w u → Calls Tryz.prog 11 #[Pv sP] u fun e w' => ∃ dg g, e = .returned (.tuple #[.pointer (some ⟨dg, 0, none⟩), .pointer (some ⟨g, 0, none⟩)]) ∧ Hid (WD u.heap.size u g dg sL sD w')) := fun u hu => fresh_any u (hT.kept (hu.block 0 hT.lt))
  have KL : Hid (∀ u, Below w.heap.size w u → WLs u a0 len0 ∧ ILs u a2 len2 ∧ IArgW u a3 len3 cap3 z3) := fun u hu => ⟨hA.later hu, hP.later hu, hG.later hu⟩
  have KI : Hid (∀ w3 g dg u, WD w3.heap.size w3 g dg sL sD u → _) := fun w3 g dg u h => c_begin h
  have KU : Hid (∀ w3 g dg a c u, C3 w3 g dg a c u → _) := fun w3 g dg a c u h => c3_fuse h a1 (int_max hw1).2
  have KN : Hid (∀ w3 g dg a c u, C3 w3 g dg a c u → _) := fun w3 g dg a c u h => c_new h
  have KC : Hid (∀ w3 g dg v12 v14 u, C1 w3 g dg v12 v14 u → ∀ xa xl xc V, WArg w3 xa xl xc V → xl ≠ 0 → _) := fun w3 g dg v12 v14 u h xa xl xc V hV h0 => c_commit h hV h0
  have KA : Hid (∀ w3 g dg v12 v14 u, C1 w3 g dg v12 v14 u → ∀ xa xl xc V, WArg w3 xa xl xc V → xl = 0 → _) := fun w3 g dg v12 v14 u h xa xl xc V hV h0 => c_apply h hV h0
  have KD : Hid (∀ w3 g dg v12 v14 W E u, C2 w3 g dg v12 v14 W E u → ∀ xa xl xc V, WArg w3 xa xl xc V → LOk V xl → _) := fun w3 g dg v12 v14 W E u h xa xl xc V hV hok => c_sound h hV hok
  have KW : Hid (∀ w3 g dg v12 v14 E u xa xl xc V, C2 w3 g dg v12 v14 (wl V) E u → WArg w3 xa xl xc V → LOk V xl → _) := fun w3 g dg v12 v14 E u xa xl xc V h hV hok => c_written h hV hok
  have KP : Hid (∀ w3 g dg a c v14 u, C4 w3 g dg a c v14 u → _) := fun w3 g dg a c v14 u h => c_app h
  have KE : Hid (∀ w3 g dg v12 v14 u, C1 w3 g dg v12 v14 u → _) := fun w3 g dg v12 v14 u h => c_end h
  have KX : Hid (∀ w3 dg T B ub u, CE w3 dg T B ub u → ∀ a len cap ps, IArgW w3 a len cap ps → _) := fun w3 dg T B ub u h a len cap ps hp => ce_crash h hp
  have KY : Hid (∀ w3 dg T B ub fz u, CF w3 dg T B ub fz u → ∀ n : Int, n ≤ 9223372036854775807 → _) := fun w3 dg T B ub fz u h n hn => cf_fuse h n hn
  have KO : Hid (∀ w3 dg T B ub fz u, CF w3 dg T B ub fz u → _) := fun w3 dg T B ub fz u h => cf_open h
  have KG : Hid (∀ w3 gn dg T B ub fz u, CG w3 gn dg T B ub fz u → _) := fun w3 gn dg T B ub fz u h => cg_apply h
  have KZ : Hid (∀ w3 gn dg T B ub u, CG w3 gn dg T B ub True u → ∀ ks m cs, CS ks m cs T B ub → _) := fun w3 gn dg T B ub u h ks m cs hS => cg_last h hS
  clear hA hT hP hG hw1
  generalize sP = p at *
  go_enter Tryz.func5, Tryz.ntmps5
  go_wp2_with fail
  go_at_call 9
  refine (unhide K1).mono ?_
  rintro e w1 ⟨rfl, x1⟩
  have X1 := hide x1
  clear K1 x1
  have KS1 := hide (unhide KS w1)
  clear KS
  go_wp2_with fail
  go_at_call 10
  refine (unhide KS1).mono ?_
  rintro e w2 ⟨rfl, hb2⟩
  have HK := hide (Kp.start w2 p)
  have X2 := hide ((unhide X1).trans (hb2.mono (unhide X1).size))
  have X3 := hide ((unhide X2).trans ((unhide HK).2.mono (unhide X2).size))
  have KF1 := hide (unhide KF _ (unhide X3))
  have L3 := hide (unhide KL _ (unhide X3))
  clear KS1 KF hb2 X1 X2 KL
  go_upto_region 4 with fail
  change Code.wp _ _ _ _ (w2.alloc (.cells (Pc p) 25))
  generalize w2.alloc (.cells (Pc p) 25) = w3 at *
  have HQ : Hid (∀ u, Below w3.heap.size w3 u → _) := fun u hu => ((unhide HK).call hu).cells
  obtain ⟨f0, f1, f2, f3, f4, f5, f6, f7, f8, f9, f10, f11⟩ := (unhide HK).cells
  have HE : Hid (∀ u, Below w3.heap.size w3 u → Below w.heap.size w u) := fun u hu => (unhide X3).trans (hu.mono (unhide X3).size)
  clear X3
  go_wp2_with fail
  go_at_call 11
  refine (unhide KF1).mono ?_
  rintro e u0 ⟨dg, g, rfl, T0⟩
  have CI := hide (unhide KI _ _ _ _ (unhide T0))
  have b0 := (unhide T0).bel
  clear KF1 HK KI T0 f0 f1 f2 f3 f4 f5 f6 f7 f8 f9 f10 f11
  obtain ⟨f0, f1, f2, f3, f4, f5, f6, f7, f8, f9, f10, f11⟩ := unhide HQ _ b0
  clear b0
  generalize w2.heap.size = pb at *
  go_wp2_with fail
  go_at_call 38
  refine (unhide CI).mono ?_
  rintro e v0 ⟨ai, ci, rfl, T1⟩
  clear CI f0 f1 f2 f3 f4 f5 f6 f7 f8 f9 f10 f11
  go_upto_if 43 with fail
  go_cut [] (fun wx => Hid (C3 w3 g dg ai ci wx))
  case first =>
    by_cases hf : 0 ≤ a1
    · have CU := hide (unhide KU _ _ _ _ _ _ (unhide T1))
      clear KU KN KC KA KD KW KP KE KX KY KO KG KZ HQ HE L3 T1
      go_wp2_with fail
      go_at_call 19
      refine (unhide CU).mono ?_
      rintro e v1 ⟨E, rfl, T2⟩
      clear CU
      go_wp2_with fail
      go_meet
      exact T2
    · clear KU KN KC KA KD KW KP KE KX KY KO KG KZ HQ HE L3
      go_wp2_with fail
      go_meet
      exact T1
  case rest =>
  clear T1 KU
  obtain ⟨s0, cv0, D1⟩ := unhide KN _ _ _ _ _ _ (unhide hcut)
  clear hcut
  go_upto_block 0 with fail
  go_cut [14] (fun c wx => ∃ (ks m cs : Nat) (T : List (Nat → List Int)), c = .slice (some ⟨ks, 0, none⟩) m cs ∧ Hid (∃ B ub, CS ks m cs T B ub ∧ CE w3 dg T B ub wx))
  case first =>
    as_aux_lemma =>
      clear KX KY KO KG KZ HE cv0
      go_upto_region 12 with fail
      go_loopw [12, 14, 15] (fun x y i wr => ∃ (k : Nat) (v12 v14 : Value), k ≤ len0 ∧ v12 = x ∧ v14 = y ∧ i = .int .i64 (k : Int) ∧ Hid (C1 w3 g dg v12 v14 wr)) (fun _ _ i _ => len0 - (intOf i).toNat)
      case atStart => exact ⟨0, _, _, Nat.zero_le _, rfl, rfl, rfl, D1⟩
      case round =>
        obtain ⟨k, v12, v14, hk, rfl, rfl, rfl, hJ⟩ := hrel
        clear D1
        have hll := (unhide L3).1.1
        by_cases hc : k < len0 ∧ k < 20
        · obtain ⟨cb, off, ea, hcb, hcell⟩ := (unhide L3).1.2 (by omega)
          obtain ⟨xa, xl, xc, V, c1, hV⟩ := hcell k hc.1
          subst ea
          have HV := hide hV
          have JS : Hid (∀ u, Below w3.heap.size w3 u → (u.cell? ⟨pb, 0, none⟩ = some (.int .i64 (p 0)) ∧ u.cell? ⟨pb, 1, none⟩ = some (.int .i64 (p 1)) ∧ u.cell? ⟨pb, 2, none⟩ = some (.int .i64 (p 2)) ∧ u.cell? ⟨pb, 3, none⟩ = some (.int .i64 (p 3)) ∧ u.cell? ⟨pb, 4, none⟩ = some (.int .i64 (p 4)) ∧ u.cell? ⟨pb, 5, none⟩ = some (.int .i64 (p 5)) ∧ u.cell? ⟨pb, 6, none⟩ = some (.int .i64 (p 6)) ∧ u.cell? ⟨pb, 7, none⟩ = some (.int .i64 (p 7)) ∧ u.cell? ⟨pb, 8, none⟩ = some (.int .i64 (p 8)) ∧ u.cell? ⟨pb, 9, none⟩ = some (.int .i64 (p 9)) ∧ u.cell? ⟨pb, 10, none⟩ = some (.int .i64 (p 10)) ∧ u.cell? ⟨pb, 11, none⟩ = some (.int .i64 (p 11)) ∧ u.cell? ⟨cb, off + k, none⟩ = some (.slice xa xl xc))) := fun u hu => by
            obtain ⟨f0, f1, f2, f3, f4, f5, f6, f7, f8, f9, f10, f11⟩ := unhide HQ u hu
            exact ⟨f0, f1, f2, f3, f4, f5, f6, f7, f8, f9, f10, f11, (hu.cell (p := ⟨cb, off + k, none⟩) hcb).trans c1⟩
          have c2 : wr.cell? ⟨cb, off + k, none⟩ = some (.slice xa xl xc) := ((unhide hJ).bel.cell (p := ⟨cb, off + k, none⟩) hcb).trans c1
          have i1 : (k : Int) < (len0 : Int) := by omega
          have i2 : (k : Int) < 20 := by omega
          have i0 : (0 : Int) ≤ (k : Int) := by omega
          clear hcell c1 hV hcb L3 HQ KE
          go_upto_if 65 with fail
          go_cut [16] (fun c wx => ∃ E : Int, c = .int .i64 E ∧ Hid (CA w3 g dg v12 v14 V xl E wx))
          case first =>
            by_cases h0 : xl = 0
            · have C := hide (unhide KA _ _ _ _ _ _ (unhide hJ) _ _ _ _ (unhide HV) h0)
              have d0 : ((xl : Int) == 0) = true := by simp [h0]
              clear KA KC KD KW KP KN JS HV hJ h0
              go_wp2_with fail
              go_at_call 17
              refine (unhide C).mono ?_
              rintro e v1 ⟨E, rfl, X⟩
              clear C
              go_wp2_with fail
              go_meet
              exact ⟨E, rfl, X⟩
            · have C := hide (unhide KC _ _ _ _ _ _ (unhide hJ) _ _ _ _ (unhide HV) h0)
              have d0 : ((xl : Int) == 0) = false := by simpa using h0
              clear KA KC KD KW KP KN JS HV hJ h0
              go_wp2_with fail
              go_at_call 15
              refine (unhide C).mono ?_
              rintro e v1 ⟨E, rfl, X⟩
              clear C
              go_wp2_with fail
              go_meet
              exact ⟨E, rfl, X⟩
          case rest =>
            obtain ⟨E, rfl, XA⟩ := hcut
            clear KA KC hJ c2
            rcases unhide XA with ⟨e0, e7, X⟩ | ⟨h07, hok, X⟩
            · have d0 : (E == 0) = false := by simpa using e0
              have d7 : (E == 7) = false := by simpa using e7
              have XD : Hid (∀ q, C1 w3 g dg v12 v14 (wc.drewN q)) := fun q => X.drewN q
              clear KD KW KP KN JS HV X XA e0 e7
              go_upto_region 18 with fail
              go_big_quiet_o (fail)
              go_upto_region 20 with fail
              go_big_quiet_o (fail)
              go_wp2_with fail
              go_roundw
              case rel => exact ⟨k + 1, _, _, by omega, rfl, rfl, by go_num, unhide XD _⟩
              case measure => simp [intOf]; omega
            · rcases h07 with rfl | rfl
              · as_aux_lemma =>
                have X0 := hide X
                have B0 : Hid (Below w3.heap.size w3 wc.drew) := X.drew.bel
                have CD := hide (unhide KD _ _ _ _ _ _ _ _ X.drew _ _ _ _ (unhide HV) hok)
                have HO := hide hok
                have g0 : ((0 : Int) == 0) = true := rfl
                clear X XA KD hok
                go_upto_region 18 with fail
                go_region_held3 (fun u => u.cell? ⟨pb, 0, none⟩ = some (.int .i64 (p 0)) ∧ u.cell? ⟨pb, 1, none⟩ = some (.int .i64 (p 1)) ∧ u.cell? ⟨pb, 2, none⟩ = some (.int .i64 (p 2)) ∧ u.cell? ⟨pb, 3, none⟩ = some (.int .i64 (p 3)) ∧ u.cell? ⟨pb, 4, none⟩ = some (.int .i64 (p 4)) ∧ u.cell? ⟨pb, 5, none⟩ = some (.int .i64 (p 5)) ∧ u.cell? ⟨pb, 6, none⟩ = some (.int .i64 (p 6)) ∧ u.cell? ⟨pb, 7, none⟩ = some (.int .i64 (p 7)) ∧ u.cell? ⟨pb, 8, none⟩ = some (.int .i64 (p 8)) ∧ u.cell? ⟨pb, 9, none⟩ = some (.int .i64 (p 9)) ∧ u.cell? ⟨pb, 10, none⟩ = some (.int .i64 (p 10)) ∧ u.cell? ⟨pb, 11, none⟩ = some (.int .i64 (p 11)) ∧ u.cell? ⟨cb, off + k, none⟩ = some (.slice xa xl xc))
                  (with_reducible (first | exact unhide JS _ (unhide B0) | exact unhide JS _ (unhide B9)))
                  ((go_at_call 39; refine (unhide CD).mono ?_; rintro e u9 ⟨rfl, X9⟩; have B9 := hide (unhide X9).bel))
                have XQ : Hid (∀ q, C2 w3 g dg v12 v14 (wl V) 0 (u9.drewN q).drew) := fun q => ((unhide X9).drewN q).drew
                clear CD B0 X0
                go_upto_region 20 with fail
                go_big_quiet_o (fail)
                have CW : Hid (∀ q, _) := fun q => unhide KW _ _ _ _ _ _ _ _ _ _ _ (unhide XQ q) (unhide HV) (unhide HO)
                have BQ : Hid (∀ q, Below w3.heap.size w3 (u9.drewN q).drew) := fun q => (unhide XQ q).bel
                clear KW XQ X9
                go_upto_region 21 with fail
                go_region_held3 (fun u => u.cell? ⟨pb, 0, none⟩ = some (.int .i64 (p 0)) ∧ u.cell? ⟨pb, 1, none⟩ = some (.int .i64 (p 1)) ∧ u.cell? ⟨pb, 2, none⟩ = some (.int .i64 (p 2)) ∧ u.cell? ⟨pb, 3, none⟩ = some (.int .i64 (p 3)) ∧ u.cell? ⟨pb, 4, none⟩ = some (.int .i64 (p 4)) ∧ u.cell? ⟨pb, 5, none⟩ = some (.int .i64 (p 5)) ∧ u.cell? ⟨pb, 6, none⟩ = some (.int .i64 (p 6)) ∧ u.cell? ⟨pb, 7, none⟩ = some (.int .i64 (p 7)) ∧ u.cell? ⟨pb, 8, none⟩ = some (.int .i64 (p 8)) ∧ u.cell? ⟨pb, 9, none⟩ = some (.int .i64 (p 9)) ∧ u.cell? ⟨pb, 10, none⟩ = some (.int .i64 (p 10)) ∧ u.cell? ⟨pb, 11, none⟩ = some (.int .i64 (p 11)) ∧ u.cell? ⟨cb, off + k, none⟩ = some (.slice xa xl xc))
                  (with_reducible (first | exact unhide JS _ (unhide BQ _) | exact unhide JS _ (unhide B10)))
                  ((go_at_call 40; refine (unhide CW _).mono ?_; rintro e u10 ⟨an, cn, rfl, X10⟩; have T3 := hide ((unhide X10).1 rfl); have B10 := hide (unhide T3).bel))
                obtain ⟨s9, cv9, D9⟩ := unhide KN _ _ _ _ _ _ (unhide T3)
                clear CW BQ B9 T3 X10 JS KN KP HV HO B10
                go_wp2_with fail
                go_roundw
                case rel => exact ⟨k + 1, _, _, by omega, rfl, rfl, by go_num, D9⟩
                case measure => simp [intOf]; omega
              · as_aux_lemma =>
                have g0 : ((7 : Int) == 0) = false := rfl
                have g7 : ((7 : Int) == 7) = true := rfl
                have XQ : Hid (∀ q, C2 w3 g dg v12 v14 (wl V) 7 (wc.drewN q).drew) := fun q => (X.drewN q).drew
                have HO := hide hok
                clear X XA hok
                go_upto_region 18 with fail
                go_big_quiet_o (fail)
                have CD : Hid (∀ q, _) := fun q => unhide KD _ _ _ _ _ _ _ _ (unhide XQ q) _ _ _ _ (unhide HV) (unhide HO)
                have BQ : Hid (∀ q, Below w3.heap.size w3 (wc.drewN q).drew) := fun q => (unhide XQ q).bel
                clear KD XQ
                go_upto_region 20 with fail
                go_region_held3 (fun u => u.cell? ⟨pb, 0, none⟩ = some (.int .i64 (p 0)) ∧ u.cell? ⟨pb, 1, none⟩ = some (.int .i64 (p 1)) ∧ u.cell? ⟨pb, 2, none⟩ = some (.int .i64 (p 2)) ∧ u.cell? ⟨pb, 3, none⟩ = some (.int .i64 (p 3)) ∧ u.cell? ⟨pb, 4, none⟩ = some (.int .i64 (p 4)) ∧ u.cell? ⟨pb, 5, none⟩ = some (.int .i64 (p 5)) ∧ u.cell? ⟨pb, 6, none⟩ = some (.int .i64 (p 6)) ∧ u.cell? ⟨pb, 7, none⟩ = some (.int .i64 (p 7)) ∧ u.cell? ⟨pb, 8, none⟩ = some (.int .i64 (p 8)) ∧ u.cell? ⟨pb, 9, none⟩ = some (.int .i64 (p 9)) ∧ u.cell? ⟨pb, 10, none⟩ = some (.int .i64 (p 10)) ∧ u.cell? ⟨pb, 11, none⟩ = some (.int .i64 (p 11)) ∧ u.cell? ⟨cb, off + k, none⟩ = some (.slice xa xl xc))
                  (with_reducible (first | exact unhide JS _ (unhide BQ _) | exact unhide JS _ (unhide B9)))
                  ((go_at_call 39; refine (unhide CD _).mono ?_; rintro e u9 ⟨rfl, X9⟩; have B9 := hide (unhide X9).bel))
                have CW := hide (unhide KW _ _ _ _ _ _ _ _ _ _ _ (unhide X9).drew (unhide HV) (unhide HO))
                have B8 : Hid (Below w3.heap.size w3 u9.drew) := (unhide X9).drew.bel
                clear CD BQ X9 KW
                go_upto_region 21 with fail
                go_region_held3 (fun u => u.cell? ⟨pb, 0, none⟩ = some (.int .i64 (p 0)) ∧ u.cell? ⟨pb, 1, none⟩ = some (.int .i64 (p 1)) ∧ u.cell? ⟨pb, 2, none⟩ = some (.int .i64 (p 2)) ∧ u.cell? ⟨pb, 3, none⟩ = some (.int .i64 (p 3)) ∧ u.cell? ⟨pb, 4, none⟩ = some (.int .i64 (p 4)) ∧ u.cell? ⟨pb, 5, none⟩ = some (.int .i64 (p 5)) ∧ u.cell? ⟨pb, 6, none⟩ = some (.int .i64 (p 6)) ∧ u.cell? ⟨pb, 7, none⟩ = some (.int .i64 (p 7)) ∧ u.cell? ⟨pb, 8, none⟩ = some (.int .i64 (p 8)) ∧ u.cell? ⟨pb, 9, none⟩ = some (.int .i64 (p 9)) ∧ u.cell? ⟨pb, 10, none⟩ = some (.int .i64 (p 10)) ∧ u.cell? ⟨pb, 11, none⟩ = some (.int .i64 (p 11)) ∧ u.cell? ⟨cb, off + k, none⟩ = some (.slice xa xl xc))
                  (with_reducible (first | exact unhide JS _ (unhide B8) | exact unhide JS _ (unhide B10)))
                  ((go_at_call 40; refine (unhide CW).mono ?_; rintro e u10 ⟨an, cn, rfl, X10⟩; have T4 := hide ((unhide X10).2 rfl); have B10 := hide (unhide T4).bel))
                obtain ⟨s9, ks, cs, T, u2, cv9, rn, D9⟩ := unhide KP _ _ _ _ _ _ _ (unhide T4)
                have R := hide rn
                clear CW B8 B9 T4 X10 JS KN KP HV HO B10 rn
                go_wp2_with (at_builtin; refine wpList_append_run 71 rfl _ _ rfl _ _ _ rfl rfl (unhide R) ?_; clear R)
                go_meet
                exact ⟨ks, 2, cs, T, rfl, D9⟩
        · go_upto_region 12 with fail
          go_cut [57] (fun c wx => c = .bool false ∧ wr = wx)
          case first =>
            clear KC KA KD KW KP KN KE L3 HQ hJ
            by_cases h1 : k < len0
            · have i1 : (k : Int) < (len0 : Int) := by omega
              have i2 : ¬ (k : Int) < 20 := by omega
              go_wp2_with fail
              go_meet
              exact ⟨rfl, rfl⟩
            · have i1 : ¬ (k : Int) < (len0 : Int) := by omega
              go_wp2_with fail
              go_meet
              exact ⟨rfl, rfl⟩
          case rest =>
            obtain ⟨rfl, rfl⟩ := hcut
            obtain ⟨ks, cs, T, e14, X⟩ := unhide KE _ _ _ _ _ _ (unhide hJ)
            clear KC KA KD KW KP KN KE L3 HQ hJ
            subst e14
            go_wp2_with fail
            go_meet
            exact ⟨ks, 1, cs, T, rfl, X⟩
  case rest =>
  obtain ⟨ks, m, cs, T, rfl, XE⟩ := hcut
  clear KC KA KD KW KP KN KE D1 cv0
  obtain ⟨B, ub, hS, hE⟩ := unhide XE
  have HS := hide hS
  have T0 := hide hE
  have hm2 : m ≤ 2 := hS.le
  have hmc : m ≤ cs := hS.cap
  clear XE hS hE
  have KX2 : Hid (∀ u, CE w3 dg T B ub u → ∀ a len cap ps, IArgW w3 a len cap ps → _) := fun u h a len cap ps hp => unhide KX _ _ _ _ _ _ h a len cap ps hp
  have KY2 : Hid (∀ fz u, CF w3 dg T B ub fz u → ∀ n : Int, n ≤ 9223372036854775807 → _) := fun fz u h n hn => unhide KY _ _ _ _ _ _ _ h n hn
  have KO2 : Hid (∀ fz u, CF w3 dg T B ub fz u → _) := fun fz u h => unhide KO _ _ _ _ _ _ _ h
  have KG2 : Hid (∀ gn fz u, CG w3 gn dg T B ub fz u → _) := fun gn fz u h => unhide KG _ _ _ _ _ _ _ _ h
  have KZ2 : Hid (∀ gn u, CG w3 gn dg T B ub True u → _) := fun gn u h => unhide KZ _ _ _ _ _ _ _ h _ _ _ (unhide HS)
  clear KX KY KO KG KZ HS
  go_upto_block 2 with fail
  go_cut [] (fun wx => Hid (CE w3 dg T B ub wx))
  case first =>
    as_aux_lemma =>
      clear KZ2 HE
      go_upto_region 27 with fail
      go_loopw [17] (fun i wr => ∃ k : Nat, k ≤ 6 ∧ i = .int .i64 (k : Int) ∧ Hid (CE w3 dg T B ub wr)) (fun i _ => 6 - (intOf i).toNat)
      case atStart => exact ⟨0, Nat.zero_le _, rfl, T0⟩
      case round =>
        obtain ⟨k, hk, rfl, hJ⟩ := hrel
        clear T0
        have hl2 := (unhide L3).2.1.1
        have hl3 := (unhide L3).2.2.lb
        by_cases hc : k ≤ len3 ∧ k < 6
        · have i1 : (k : Int) ≤ (len3 : Int) := by omega
          have i2 : (k : Int) < 6 := by omega
          have i0 : (0 : Int) ≤ (k : Int) := by omega
          have hbw := (unhide hJ).bel
          go_upto_if 131 with fail
          go_cut [18] (fun c wx => ∃ pa pl pc ps, c = .slice pa pl pc ∧ Hid (IArgW w3 pa pl pc ps) ∧ wr = wx)
          case first =>
            by_cases h2 : k < len2
            · obtain ⟨b, off, ea, hlt, hcell⟩ := (unhide L3).2.1.2 (by omega)
              obtain ⟨pa, pl, pc, ps, c1, hp⟩ := hcell k h2
              subst ea
              have c2 : wr.cell? ⟨b, off + k, none⟩ = some (.slice pa pl pc) := (hbw.cell (p := ⟨b, off + k, none⟩) hlt).trans c1
              have HP := hide hp
              have j1 : (k : Int) < (len2 : Int) := by omega
              clear KX2 KY2 KO2 KG2 L3 HQ hJ hcell c1 hp hlt hbw
              go_wp2_with fail
              go_meet
              exact ⟨pa, pl, pc, ps, rfl, HP, rfl⟩
            · have j1 : ¬ (k : Int) < (len2 : Int) := by omega
              clear KX2 KY2 KO2 KG2 L3 HQ hJ hbw
              go_wp2_with fail
              go_meet
              exact ⟨none, 0, 0, [], rfl, iargW_nil w3 0 (by omega) none, rfl⟩
          case rest =>
            obtain ⟨pa, pl, pc, ps, rfl, HP, rfl⟩ := hcut
            have C := hide (unhide KX2 _ (unhide hJ) _ _ _ _ (unhide HP))
            clear KX2 hJ HP
            go_wp2_with fail
            go_at_call 21
            refine (unhide C).mono ?_
            rintro e u1 ⟨rfl, T1⟩
            clear C hbw
            go_upto_region 33 with fail
            go_cut [153] (fun c wx => ∃ b : Bool, c = .bool b ∧ Hid (b = true → k < len3) ∧ u1 = wx)
            case first =>
              by_cases h3 : k < len3
              · obtain ⟨b, off, ea, hcell⟩ := (unhide L3).2.2.has.2 (by omega)
                have hlt := (unhide L3).2.2.lt (by omega) _ ea
                subst ea
                have c2 : u1.cell? ⟨b, off + k, none⟩ = some (.int .i64 (z3[k]?.getD 0)) := ((unhide T1).bel.cell (p := ⟨b, off + k, none⟩) hlt).trans (hcell k h3)
                have j1 : (k : Int) < (len3 : Int) := by omega
                generalize z3[k]?.getD 0 = z at *
                clear KY2 KO2 KG2 L3 HQ T1 hcell hlt
                by_cases hz : 0 ≤ z
                · by_cases h5 : k < 5
                  · have j2 : (k : Int) < 5 := by omega
                    go_wp2_with fail
                    go_meet
                    exact ⟨true, rfl, fun _ => h3, rfl⟩
                  · have j2 : ¬ (k : Int) < 5 := by omega
                    go_wp2_with fail
                    go_meet
                    exact ⟨false, rfl, (fun h => by cases h), rfl⟩
                · go_wp2_with fail
                  go_meet
                  exact ⟨false, rfl, (fun h => by cases h), rfl⟩
              · have j1 : ¬ (k : Int) < (len3 : Int) := by omega
                clear KY2 KO2 KG2 L3 HQ T1
                go_wp2_with fail
                go_meet
                exact ⟨false, rfl, (fun h => by cases h), rfl⟩
            case rest =>
              obtain ⟨bq, rfl, HB, rfl⟩ := hcut
              go_upto_if 153 with fail
              go_cut [] (fun wx => Hid (∃ fz, CF w3 dg T B ub fz wx))
              case first =>
                cases bq with
                | true =>
                  have h3 := unhide HB rfl
                  obtain ⟨b, off, ea, hcell⟩ := (unhide L3).2.2.has.2 (by omega)
                  have hlt := (unhide L3).2.2.lt (by omega) _ ea
                  subst ea
                  have c2 : u1.cell? ⟨b, off + k, none⟩ = some (.int .i64 (z3[k]?.getD 0)) := ((unhide T1).bel.cell (p := ⟨b, off + k, none⟩) hlt).trans (hcell k h3)
                  have j1 : (k : Int) < (len3 : Int) := by omega
                  have C := hide (unhide KY2 _ _ (unhide T1) (z3[k]?.getD 0) ((unhide L3).2.2.num k h3).2)
                  generalize z3[k]?.getD 0 = z at *
                  clear KY2 KO2 KG2 L3 HQ T1 hcell hlt HB
                  go_wp2_with fail
                  go_at_call 19
                  refine (unhide C).mono ?_
                  rintro e u2 ⟨E, rfl, T2⟩
                  clear C
                  go_wp2_with fail
                  go_meet
                  exact ⟨_, unhide T2⟩
                | false =>
                  clear KY2 KO2 KG2 L3 HQ HB
                  go_wp2_with fail
                  go_meet
                  exact ⟨_, unhide T1⟩
              case rest =>
                obtain ⟨fz, T2⟩ := unhide hcut
                have C := hide (unhide KO2 _ _ T2)
                obtain ⟨f0, f1, f2, f3, f4, f5, f6, f7, f8, f9, f10, f11⟩ := unhide HQ _ T2.bel
                clear KY2 KO2 L3 HQ T1 T2 hcut HB
                go_wp2_with fail
                go_at_call 23
                refine (unhide C).mono ?_
                rintro e u3 ⟨gn, rfl, T3⟩
                have CG := hide (unhide KG2 _ _ _ (unhide T3))
                clear C f0 f1 f2 f3 f4 f5 f6 f7 f8 f9 f10 f11 KG2 T3
                go_wp2_with fail
                go_at_call 17
                refine (unhide CG).mono ?_
                rintro e u4 ⟨E, rfl, hE07, T4, CD⟩
                clear CG
                rcases hE07 with rfl | rfl
                · clear CD
                  go_wp2_with fail
                  go_roundw
                  case rel => exact ⟨k + 1, by omega, by go_num, T4⟩
                  case measure => simp [intOf]; omega
                · have CD2 := hide (unhide CD rfl)
                  clear CD
                  go_wp2_with fail
                  go_at_call 41
                  refine (unhide CD2).mono ?_
                  rintro e u5 ⟨rfl, rfl⟩
                  clear CD2
                  go_wp2_with fail
                  go_roundw
                  case rel => exact ⟨k + 1, by omega, by go_num, T4⟩
                  case measure => simp [intOf]; omega
        · go_upto_region 27 with fail
          go_cut [125] (fun c wx => c = .bool false ∧ wr = wx)
          case first =>
            clear KX2 KY2 KO2 KG2 L3 HQ hJ
            by_cases h1 : k ≤ len3
            · have i1 : (k : Int) ≤ (len3 : Int) := by omega
              have i2 : ¬ (k : Int) < 6 := by omega
              go_wp2_with fail
              go_meet
              exact ⟨rfl, rfl⟩
            · have i1 : ¬ (k : Int) ≤ (len3 : Int) := by omega
              go_wp2_with fail
              go_meet
              exact ⟨rfl, rfl⟩
          case rest =>
            obtain ⟨rfl, rfl⟩ := hcut
            clear KX2 KY2 KO2 KG2 L3 HQ
            go_wp2_with fail
            go_meet
            exact hJ
  case rest =>
  have C := hide (unhide KX2 _ (unhide hcut) _ _ _ _ (iargW_nil w3 0 (by omega) none))
  clear KX2 KY2 KG2 L3 T0 hcut
  go_wp2_with fail
  go_at_call 21
  refine (unhide C).mono ?_
  rintro e u1 ⟨rfl, T1⟩
  have C1' := hide (unhide KO2 _ _ (unhide T1))
  obtain ⟨f0, f1, f2, f3, f4, f5, f6, f7, f8, f9, f10, f11⟩ := unhide HQ _ (unhide T1).bel
  clear C KO2 T1
  go_wp2_with fail
  go_at_call 23
  refine (unhide C1').mono ?_
  rintro e u2 ⟨gn, rfl, T2⟩
  have C2' := hide (unhide KZ2 _ _ (unhide T2))
  clear C1' f0 f1 f2 f3 f4 f5 f6 f7 f8 f9 f10 f11 KZ2 T2
  go_wp2_with fail
  go_at_call 17
  refine (unhide C2').mono ?_
  rintro e u3 ⟨rfl, B3, C3'⟩
  clear C2'
  obtain ⟨f0, f1, f2, f3, f4, f5, f6, f7, f8, f9, f10, f11⟩ := unhide HQ _ (unhide B3)
  clear B3 HQ
  go_wp2_with fail
  go_at_call 38
  refine (unhide C3').mono ?_
  rintro e u4 ⟨aa, ca, sa, i0, rfl, hi0, B4, CV, CC⟩
  clear C3' f0 f1 f2 f3 f4 f5 f6 f7 f8 f9 f10 f11
  have HW := hide (unhide HE _ (unhide B4))
  clear HE B4
  go_upto_region 50 with fail
  go_loopw [25] (fun i wr => ∃ k : Nat, k ≤ i0 ∧ i = .int .i64 (k : Int) ∧ Hid (Below u4.heap.size u4 wr)) (fun i _ => m - (intOf i).toNat)
  case atStart => exact ⟨0, Nat.zero_le _, rfl, Below.refl _ _⟩
  case round =>
    obtain ⟨k, hk, rfl, hJ⟩ := hrel
    obtain ⟨si, c1, hsi⟩ := unhide CC k (by omega)
    have JS : Hid (∀ u, Below u4.heap.size u4 u → u.cell? ⟨ks, k, none⟩ = some (.string si) ∧ (convert 50 9 (.slice aa 3136 ca)).run Tryz.prog u = .ok (.string sa) u) := fun u hu => ⟨c1 u hu, unhide CV u hu⟩
    have B0 : Hid (Below u4.heap.size u4 wr.drew) := (unhide hJ).drew
    have HWq := hide ((unhide HW).trans ((unhide B0).mono (unhide HW).size))
    have i1 : (k : Int) < (m : Int) := by omega
    have i2 : (0 : Int) ≤ (k : Int) := by omega
    clear CC CV HW hJ c1
    cases hb : (sa.toList == si.toList) with
    | true =>
      clear hsi
      go_upto_region 52 with fail
      go_region_held3 (fun u => u.cell? ⟨ks, k, none⟩ = some (.string si) ∧ (convert 50 9 (.slice aa 3136 ca)).run Tryz.prog u = .ok (.string sa) u)
        (with_reducible (exact unhide JS _ (unhide B0)))
        (fail)
      all_goals
        go_wp2_with fail
        go_ret
        exact ⟨rfl, unhide HWq⟩
    | false =>
      have hne : k ≠ i0 := fun e => by
        rw [hsi e] at hb
        simp at hb
      clear hsi HWq
      go_upto_region 52 with fail
      go_region_held3 (fun u => u.cell? ⟨ks, k, none⟩ = some (.string si) ∧ (convert 50 9 (.slice aa 3136 ca)).run Tryz.prog u = .ok (.string sa) u)
        (with_reducible (exact unhide JS _ (unhide B0)))
        (fail)
      all_goals
        go_wp2_with fail
        exact ⟨⟨k + 1, by omega, by go_num, B0⟩, by simp [intOf]; omega⟩

end Go.Proofs.YtadnlljknocbbaaGreatDoor
