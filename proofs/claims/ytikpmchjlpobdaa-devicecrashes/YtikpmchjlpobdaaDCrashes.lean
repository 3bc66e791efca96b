/- DeviceCrashes' walk. -/
import Derived.Test.YtikpmchjlpobdaaDCrB
import Derived.Deep.RegionLaw
import Derived.BigRegion
namespace Go.Proofs.Ytikpmchjlpobdaa
open Go.RowKit Go.Shelf
set_option linter.unusedVariables false

set_option maxRecDepth 100000 in
set_option maxHeartbeats 4000000 in
theorem crashes_walk (a0 : Option Addr) (len0 cap0 : Nat) (z0 : List Int) (a1 : Option Addr) (len1 cap1 : Nat) (z1 : List Int) (a2 : Option Addr) (len2 cap2 : Nat) (z2 : List Int) (fb : Bool) (w : World)
    (h0 : Row w.heap.size w a0 len0 cap0 z0) (h1 : IHas w a1 len1 z1 ∧ len1 ≤ 17592186043904 ∧ len1 ≤ cap1 ∧ cap1 ≤ 9223372036854775807) (h2 : IHas w a2 len2 z2 ∧ len2 ≤ 17592186043904 ∧ len2 ≤ cap2 ∧ cap2 ≤ 9223372036854775807) :
    Calls Try.prog 4 #[.slice a0 len0 cap0, .slice a1 len1 cap1, .slice a2 len2 cap2, .bool fb] w fun e w' => e = .returned (.bool true) ∧ Below w.heap.size w w' := by
  have KW := hide (wakes_any w)
  have KN := hide (c_new w)
  have KR : Hid (∀ g gl k u, C2 w.heap.size w g gl k u → ∀ (i : Nat) (x : Int), i < 4 → 0 ≤ x → x ≤ 255 → k < 200 → Calls Try.prog 36 #[.int .i64 64, .int .u8 x] u _) := fun g gl k u h i x hi x0 x1 hk => c_write h i hi x x0 x1 hk
  have KF : Hid (∀ g gl k u, C2 w.heap.size w g gl k u → k ≤ 200 → Calls Try.prog 17 #[.pointer (some ⟨g, 0, none⟩)] u _) := fun g gl k u h hk => c_flush h hk
  have KB : Hid (∀ g gl k u, C2 w.heap.size w g gl k u → Below w.heap.size w u) := fun g gl k u ⟨L, V, S, D, h⟩ => h.bel
  have HV : Hid (∀ k, k < len0 → ∃ b off x, a0 = some ⟨b, off, none⟩ ∧ 0 ≤ x ∧ x ≤ 255 ∧ ∀ u, Below w.heap.size w u → u.cell? ⟨b, off + k, none⟩ = some (.int .u8 x)) := by
    intro k hk
    obtain ⟨b, off, e, hlt, hc⟩ := h0.2.2.2.2 (by omega)
    have hx := h0.2.2.2.1 (z0[k]?.getD 0) (by rw [List.getElem?_eq_getElem (by rw [h0.1]; exact hk)]; exact List.getElem_mem _)
    exact ⟨b, off, z0[k]?.getD 0, e, hx.1, hx.2, fun u hu => (hu.cell (p := ⟨b, off + k, none⟩) hlt).trans (hc k hk)⟩
  have HW : Hid (∀ k, k < len1 → ∃ b off x, a1 = some ⟨b, off, none⟩ ∧ ∀ u, Below w.heap.size w u → u.cell? ⟨b, off + k, none⟩ = some (.int .i64 x)) := by
    intro k hk
    obtain ⟨b, off, e, hc⟩ := h1.1.2 (by omega)
    exact ⟨b, off, z1[k]?.getD 0, e, fun u hu => (hu.cell (p := ⟨b, off + k, none⟩) (cell_block_lt (hc k hk))).trans (hc k hk)⟩
  have HP : Hid (∀ k, k < len2 → ∃ b off, a2 = some ⟨b, off, none⟩ ∧ ∀ u, Below w.heap.size w u → u.cell? ⟨b, off + k, none⟩ = some (.int .i64 (z2[k]?.getD 0))) := by
    intro k hk
    obtain ⟨b, off, e, hc⟩ := h2.1.2 (by omega)
    exact ⟨b, off, e, fun u hu => (hu.cell (p := ⟨b, off + k, none⟩) (cell_block_lt (hc k hk))).trans (hc k hk)⟩
  have KC : Hid (∀ g gl u L S V D k, CW w.heap.size w gl u L S V → Dv u S g D → DL D L k → Calls Try.prog 21 #[.pointer (some ⟨g, 0, none⟩), .slice a2 len2 cap2] u _) := fun g gl u L S V D k x1 x2 x3 => c_crash rfl x1 x2 x3 a2 len2 cap2 z2 h2.1 ⟨h2.2.2.1, h2.2.2.2⟩
  have hl2 := h2.1.1
  have lens : len0 ≤ 140737488351232 ∧ len1 ≤ 17592186043904 ∧ len2 ≤ 17592186043904 := ⟨h0.2.2.1.1, h1.2.1, h2.2.1⟩
  clear h0 h1 h2
  go_enter Try.func4, Try.ntmps4
  go_wp2_with fail
  go_at_call 9
  refine (unhide KW).mono ?_
  rintro e w1 ⟨rfl, h1⟩
  have K2 := hide (unhide KN w1 h1)
  clear KW h1 KN
  go_wp2_with fail
  go_at_call 10
  refine (unhide K2).mono ?_
  rintro e w2 ⟨g, S0, rfl, I0⟩
  clear K2
  go_upto_region 7 with fail
  change Code.wp _ _ _ _ (w2.alloc (.cells #[.slice none 0 0, .slice none 0 0, .slice none 0 0, .slice none 0 0] 46))
  generalize w2.alloc (.cells #[.slice none 0 0, .slice none 0 0, .slice none 0 0, .slice none 0 0] 46) = w3 at *
  generalize w2.heap.size + 1 = g0 at *
  generalize w2.heap.size = gl at *
  go_upto_region 8 with fail
  go_loopw [12] (fun i wr => ∃ k : Nat, k ≤ 4 ∧ i = .int .i64 (k : Int) ∧ Hid (CI w.heap.size w g gl g0 k wr S0)) (fun i _ => 4 - (intOf i).toNat)
  case atStart => exact ⟨0, by omega, rfl, I0⟩
  case round =>
    obtain ⟨k, hk, rfl, hI⟩ := hrel
    clear I0
    by_cases hlt : k < 4
    · have I2 := hide ((unhide hI).step hlt)
      obtain ⟨v0, c3⟩ : ∃ v0, ∀ o, (wr.alloc o).cell? ⟨gl, k, none⟩ = some v0 := ⟨_, fun o => ((unhide hI).row.alloc o).cell (i := k) hlt⟩
      have c4 : ∀ o, (wr.alloc o).frozen? ⟨gl, k, none⟩ = false := fun o => ((unhide hI).row.alloc o).frozen _
      clear hI KR KF KB HV HW HP KC
      go_wp2_with fail
      exact ⟨⟨k + 1, by omega, by go_num, I2⟩, by simp [intOf]; omega⟩
    · have hk4 : k = 4 := by omega
      have H2 := unhide hI
      rw [hk4] at H2
      replace H2 := hide H2.done
      have nk : ¬ (k : Int) < 4 := by omega
      clear hI hk4 hk hlt
      go_upto_region 12 with fail
      clear nk
      generalize (k : Int) = kz at *
      go_loopw [13] (fun i wr => ∃ k : Nat, k ≤ 200 ∧ k ≤ len0 ∧ k ≤ len1 ∧ i = .int .i64 (k : Int) ∧ Hid (C2 w.heap.size w g gl k wr)) (fun i _ => 200 - (intOf i).toNat)
      case atStart => exact ⟨0, by omega, by omega, by omega, rfl, H2⟩
      case round =>
        obtain ⟨k, hk, hk0, hk1, rfl, hA⟩ := hrel
        clear H2
        obtain ⟨qq, hqq⟩ : ∃ qq : Bool, qq = decide (k < len0 ∧ k < len1 ∧ k < 200) := ⟨_, rfl⟩
        have HQ := hide hqq
        clear hqq
        go_upto_region 12 with fail
        go_cut [54] (fun v wx => v = .bool qq ∧ Hid (C2 w.heap.size w g gl k wx))
        case first =>
          clear KR KF KB HV HW HP KC
          have hend2 : (k < len0 ∧ k < len1 ∧ k < 200) ∨ ¬ (k : Int) < len0 ∨ (k : Int) < len0 ∧ ¬ (k : Int) < len1 ∨ (k : Int) < len0 ∧ (k : Int) < len1 ∧ ¬ (k : Int) < 200 := by omega
          rcases hend2 with q0 | q1 | ⟨q1, q2⟩ | ⟨q1, q2, q3⟩
          · have hq : qq = true := by rw [unhide HQ, decide_eq_true q0]
            have q1 : (k : Int) < len0 := by omega
            have q2 : (k : Int) < len1 := by omega
            have q3 : (k : Int) < 200 := by omega
            subst hq
            clear q0
            go_wp2_with fail
            go_meet
            exact ⟨rfl, hA⟩
          all_goals
            have hq : qq = false := by rw [unhide HQ, decide_eq_false (by omega)]
            subst hq
            go_wp2_with fail
            go_meet
            exact ⟨rfl, hA⟩
        case rest =>
         clear hA
         obtain ⟨rfl, hA⟩ := hcut
         cases hq2 : qq with
         | true =>
          have hend : k < len0 ∧ k < len1 ∧ k < 200 := of_decide_eq_true (by rw [← hq2]; exact (unhide HQ).symm)
          clear hq2
          obtain ⟨e1, e2, e3⟩ := hend
          have bel := unhide KB g gl k wc (unhide hA)
          obtain ⟨b0, o0, x, rfl, x0, x1, cv⟩ := unhide HV k e1
          obtain ⟨b1, o1, y, rfl, cw⟩ := unhide HW k e2
          obtain ⟨i, hi4, hand⟩ : ∃ i : Nat, i < 4 ∧ bits .and .i64 y 3 = (i : Int) := ⟨(y % 4).toNat, by omega, by rw [and3]; omega⟩
          have c0 := cv wc bel
          have c1 := cw wc bel
          have K3 := hide (unhide KR g gl k wc (unhide hA) i x hi4 x0 x1 e3)
          have CV : Hid (∀ u, Below w.heap.size w u → u.cell? ⟨b0, o0 + k, none⟩ = some (.int .u8 x)) := cv
          clear hA KR KF KB HV HW HP KC cv cw bel
          go_wp2_with fail
          go_at_call 36
          refine (unhide K3).mono ?_
          rintro e w4 ⟨kk, rfl, K4⟩
          clear K3
          go_wp2_with fail
          go_at_call 15
          refine (unhide K4).mono ?_
          rintro e w5 ⟨rfl, hb5, a, l, c, a', c', w6, d1, d2, d3, R', d4, d5, hA6⟩
          have R := hide R'
          have cv1 : w5.drew.cell? ⟨b0, o0 + k, none⟩ = some (.int .u8 x) := unhide CV w5 (unhide hb5)
          have d1' : w5.drew.cell? ⟨gl, i, none⟩ = some (.slice a l c) := d1
          have d3' := d3 i
          have cv2 : ∀ o, (w5.alloc o).cell? ⟨b0, o0 + k, none⟩ = some (.int .u8 x) := fun o => unhide CV _ ((unhide hb5).alloc (unhide hb5).size o)
          have i4 : (i : Int) < 4 := by omega
          have i5 : (k : Int) < (len0 : Int) := by omega
          clear K4 R' hb5 CV c0 c1 d1 d3
          go_upto_region 18 with fail
          go_region_law (refine step_append_run (by rfl) _ _ _ (by rfl) _ _ _ (by rfl) (by rfl) (unhide R) ?_; clear R)
          all_goals
            go_wp2_with fail
            exact ⟨⟨k + 1, by omega, by omega, by omega, by go_num, hA6⟩, by simp [intOf]; omega⟩
         | false =>
          clear hq2
          have K6 := hide (unhide KF g gl k wc (unhide hA) hk)
          have N6 := hide ((unhide hA).done hk)
          clear KF KR KB HV HW hA HQ
          go_upto_if 83 with fail
          go_cut [] (fun wx => Hid (C3 w.heap.size w g gl wx))
          case first =>
            clear HP KC
            cases fb with
            | false =>
              clear K6
              go_wp2_with fail
              go_meet
              exact N6
            | true =>
              clear N6
              go_wp2_with fail
              go_at_call 17
              refine (unhide K6).mono ?_
              rintro e w7 ⟨rfl, K7⟩
              clear K6
              go_wp2_with fail
              go_at_call 34
              refine (unhide K7).mono ?_
              rintro e w8 ⟨a, c, rfl, hF⟩
              clear K7
              go_upto_region 24 with fail
              go_loopw [15] (fun i wr => ∃ j : Nat, j ≤ 4 ∧ i = .int .i64 (j : Int) ∧ Hid (CFl w.heap.size w g gl j wr)) (fun i _ => 4 - (intOf i).toNat)
              case atStart => exact ⟨0, by omega, rfl, hF⟩
              case round =>
                obtain ⟨j, hj, rfl, hJ⟩ := hrel
                clear hF
                by_cases hj4 : j < 4
                · obtain ⟨a5, l5, c5, a6, c6, hl5, d0, d1, d2, hN⟩ := (unhide hJ).step hj4
                  have d0' : wr.drew.cell? ⟨gl, j, none⟩ = some (.slice a5 (l5 + 1) c5) := d0
                  have d1' := d1 j
                  have j4 : (j : Int) < 4 := by omega
                  have m1 : IntKind.i64.wrap (((l5 + 1 : Nat) : Int) - 1) = (l5 : Int) := by rw [IntKind.wrap_i64]; omega
                  have m2 : wrap64 (((l5 + 1 : Nat) : Int) - 1) = (l5 : Int) := by unfold wrap64; omega
                  have m3 : ((l5 + 1 : Nat) : Int) - 1 = (l5 : Int) := by omega
                  have hN2 := hide (unhide hN).drew
                  clear hJ hN d0 d1
                  go_upto_region 26 with fail
                  go_region
                  all_goals
                    go_wp2_with fail
                    exact ⟨⟨j + 1, by omega, by go_num, hN2⟩, by simp [intOf]; omega⟩
                · have hj5 : j = 4 := by omega
                  have H9 := unhide hJ
                  rw [hj5] at H9
                  replace H9 := hide H9.done
                  have nj : ¬ (j : Int) < 4 := by omega
                  clear hJ hj5 hj hj4
                  go_wp2_with fail
                  go_meet
                  exact H9
          case rest =>
            clear K6 N6
            rename_i wx
            obtain ⟨L, S, V, D, k3, hk3, x1, x2, x3⟩ := unhide hcut
            have K7 := hide (unhide KC g gl _ L S V D k3 x1 x2 x3)
            have HL := hide x3
            clear hcut KC x1 x2 x3
            go_wp2_with fail
            go_at_call 21
            refine (unhide K7).mono ?_
            rintro e w7 ⟨rfl, K8⟩
            clear K7
            go_wp2_with fail
            go_at_call 34
            refine (unhide K8).mono ?_
            rintro e w8 ⟨a, c, rfl, hW, hV⟩
            clear K8
            go_upto_region 32 with fail
            go_loopw [17, 16] (fun i at' wr => ∃ j : Nat, j ≤ 4 ∧ i = .int .i64 (j : Int) ∧ at' = .int .i64 (D.cnt j : Int) ∧ Hid (CW w.heap.size w gl wr L S V) ∧ Hid (Dv wr S g (D.crash z2))) (fun i _ _ => 4 - (intOf i).toNat)
            case atStart => exact ⟨0, by omega, rfl, rfl, hW, hV⟩
            case round =>
              obtain ⟨j, hj, rfl, rfl, hW, hV⟩ := hrel
              by_cases hj4 : j < 4
              · obtain ⟨a5, c5, e1, e2, e3, e4, e5, e6⟩ := (unhide hW).has j hj4
                obtain ⟨b5, o5, rfl, hc5⟩ := e5.2 e4
                have c0 : wr.cell? ⟨gl, j, none⟩ = some (.slice (some ⟨b5, o5, none⟩) (L j).length c5) := by rw [(unhide hW).row.cell hj4, e1]
                have c1 : wr.cell? ⟨b5, o5, none⟩ = some (.int .u8 ((L j)[0]?.getD 0)) := by have := hc5 0 e4; rwa [Nat.add_zero] at this
                have C5 := hide hc5
                have hcn := hide ((unhide HL).cnt hj4)
                have hcl := cnt_le D j
                have K9 := hide (c_read (unhide hW) z2 (unhide hV) (unhide HL) j hj4)
                have hbel := hide (unhide hW).bel
                have hlen : (L j).length ≤ 201 := by have := (unhide HL).len j hj4; omega
                obtain ⟨q, hq⟩ : ∃ q, q = z2[D.cnt j]?.getD 0 := ⟨_, rfl⟩
                have HQ := hide hq
                rw [← hq] at K9
                obtain ⟨wv, hwv⟩ : ∃ wv, wv = wantV L j q := ⟨_, rfl⟩
                have HWV := hide hwv
                rw [← hwv] at K9
                have hj44 : (j : Int) < 4 := by omega
                obtain ⟨l5, hl5⟩ : ∃ l5, (L j).length = l5 + 1 := ⟨(L j).length - 1, by omega⟩
                have HL5 := hide hl5
                rw [hl5] at c0 hlen
                obtain ⟨cj, hcj⟩ : ∃ cj, cj = D.cnt j := ⟨_, rfl⟩
                have HCJ := hide hcj
                rw [← hcj] at hcl
                obtain ⟨cj2, hcj2⟩ : ∃ cj2, cj2 = D.cnt (j + 1) := ⟨_, rfl⟩
                have HCJ2 := hide hcj2
                obtain ⟨z, hz⟩ : ∃ z, z = (L j)[0]?.getD 0 := ⟨_, rfl⟩
                have HZ := hide hz
                rw [← hz] at c1
                rw [← hcj]
                clear hq hwv e1 e2 e4 e5 e6 hc5 hl5 hcj hcj2 hz
                go_upto_if 133 with fail
                go_cut [16, 18] (fun at' v wx => at' = .int .i64 (cj2 : Int) ∧ v = .int .u8 wv ∧ wx = wr)
                case first =>
                  clear K9
                  have hcn2 : cj2 = cj + (if l5 + 1 ≤ 1 then 0 else 1) := by rw [unhide HCJ2, unhide hcn, ← unhide HCJ, unhide HL5]
                  have hwv : wv = (L j)[min q.toNat l5]?.getD 0 := by rw [unhide HWV]; unfold wantV; rw [unhide HL5, Nat.add_sub_cancel]
                  by_cases h1 : l5 = 0
                  · have e1 : cj2 = cj := by rw [hcn2, if_pos (by omega)]; rfl
                    have e2 : wv = z := by rw [hwv, unhide HZ, h1, Nat.min_zero]
                    have n1 : ¬ (1 : Int) < ((l5 + 1 : Nat) : Int) := by omega
                    have n2 : decide ((1 : Int) < ((l5 + 1 : Nat) : Int)) = false := decide_eq_false n1
                    subst e1
                    subst e2
                    clear hcn2 hwv HWV HZ HCJ HCJ2
                    go_wp2_with fail
                    go_meet
                    exact ⟨rfl, rfl, rfl⟩
                  · have e1 : cj2 = cj + 1 := by rw [hcn2, if_neg (by omega)]
                    have n1 : (1 : Int) < ((l5 + 1 : Nat) : Int) := by omega
                    have n2 : decide ((1 : Int) < ((l5 + 1 : Nat) : Int)) = true := decide_eq_true n1
                    have n3 : wrap64 ((cj : Int) + 1) = ((cj2 : Nat) : Int) := by rw [wrap_small cj (by omega), e1, Int.natCast_add]; rfl
                    have n4 : ((cj : Int) + 1) = ((cj2 : Nat) : Int) := by rw [e1, Int.natCast_add]; rfl
                    by_cases hp : cj < len2
                    · obtain ⟨b6, o6, rfl, hc6⟩ := unhide HP cj hp
                      have c6 := hc6 wr (unhide hbel)
                      rw [unhide HCJ, ← unhide HQ, ← unhide HCJ] at c6
                      have p1 : (cj : Int) < (len2 : Int) := Int.ofNat_lt.2 hp
                      by_cases q0 : q < 0
                      · have e2 : wv = z := by rw [hwv, unhide HZ, show q.toNat = 0 by omega, Nat.zero_min]
                        have p2 : ¬ ((l5 + 1 : Nat) : Int) ≤ 0 := by omega
                        subst e2
                        clear hcn2 hwv HWV HZ HCJ HCJ2 hc6 HP e1
                        go_wp2_with fail
                        go_meet
                        exact ⟨rfl, rfl, rfl⟩
                      · by_cases q1 : q ≤ l5
                        · obtain ⟨qn, rfl⟩ : ∃ qn : Nat, q = qn := ⟨q.toNat, by omega⟩
                          have e2 : wv = (L j)[qn]?.getD 0 := by rw [hwv, show min (qn : Int).toNat l5 = qn by omega]
                          have c7 := unhide C5 qn (by rw [unhide HL5]; omega)
                          rw [← e2] at c7
                          have p2 : ¬ ((l5 + 1 : Nat) : Int) ≤ (qn : Int) := by omega
                          have p3 : (qn : Int) < ((l5 + 1 : Nat) : Int) := by omega
                          clear hcn2 hwv HWV HZ HCJ HCJ2 hc6 HP e1 e2
                          go_wp2_with fail
                          go_meet
                          exact ⟨rfl, rfl, rfl⟩
                        · have e2 : wv = (L j)[l5]?.getD 0 := by rw [hwv, show min q.toNat l5 = l5 by omega]
                          have c7 := unhide C5 l5 (by rw [unhide HL5]; omega)
                          rw [← e2] at c7
                          have p2 : ((l5 + 1 : Nat) : Int) ≤ q := by omega
                          have p3 : ¬ q < 0 := by omega
                          clear hcn2 hwv HWV HZ HCJ HCJ2 hc6 HP e1 e2
                          go_wp2_with fail
                          go_meet
                          exact ⟨rfl, rfl, rfl⟩
                    · have q0 : q = 0 := by rw [unhide HQ, ← unhide HCJ, List.getElem?_eq_none (by rw [hl2]; exact Nat.le_of_not_lt hp)]; rfl
                      have e2 : wv = z := by rw [hwv, unhide HZ, q0]; simp
                      have p1 : ¬ (cj : Int) < (len2 : Int) := fun h => hp (Int.ofNat_lt.1 h)
                      have p2 : ¬ ((l5 + 1 : Nat) : Int) ≤ 0 := by omega
                      subst e2
                      clear hcn2 hwv HWV HZ HCJ HCJ2 HP e1 q0
                      go_wp2_with fail
                      go_meet
                      exact ⟨rfl, rfl, rfl⟩
                case rest =>
                  obtain ⟨rfl, rfl, rfl⟩ := hcut
                  clear c0 c1 C5 HQ HWV HZ
                  go_wp2_with fail
                  go_at_call 12
                  refine (unhide K9).mono ?_
                  rintro e w9 ⟨kk2, rfl, K10⟩
                  clear K9
                  go_wp2_with fail
                  go_at_call 36
                  refine (unhide K10).mono ?_
                  rintro e wa ⟨k2, rfl, K11, hWa, hVa⟩
                  clear K10
                  go_wp2_with fail
                  go_at_call 14
                  refine (unhide K11).mono ?_
                  rintro e wb ⟨rfl, rfl⟩
                  clear K11
                  go_wp2_with fail
                  exact ⟨⟨j + 1, by omega, by go_num, by rw [unhide HCJ2], hWa, hVa⟩, by simp [intOf]; omega⟩
              · have nj : ¬ (j : Int) < 4 := by omega
                have XB := hide (unhide hW).bel
                clear HP hW hV
                go_wp2_with fail
                go_ret
                exact ⟨rfl, unhide XB⟩

end Go.Proofs.Ytikpmchjlpobdaa
