/- CacheKeeps' walk. -/
import Derived.Test.YtpkhllpghjldhaaKKpB
namespace Go.Proofs.Ytpkhllpghjldhaa
open Go.RowKit Go.Shelf
set_option linter.unusedVariables false

/-- From SameBytes on. -/
theorem k_tail {w : World} {g dg ga gr : Nat} {x : Int} {pa : Option Addr} {lp cp : Nat} {ps : List Int} {u : World} {S : Nat → Prop} {zr : List Int} {ab ag a1 a2 a3 a4 : Option Addr} {cb cg l1 c1 l2 c2 l3 c3 l4 c4 : Nat}
    (h : KQ w.heap.size w g dg ga gr x pa lp cp ps u S zr) (hA : KA w.heap.size u S ga gr x (ab, 64, cb) (ag, 64, cg) (a1, l1, c1) (a2, l2, c2) (a3, l3, c3) (a4, l4, c4) (pa, lp, cp)) (a : Option Addr) (cap : Nat) (hp : IHas w a lp ps) (hl : lp ≤ 17592186043904) :
    Calls Try.prog 14 #[.slice ab 64 cb, .slice (some ⟨ga, 0, none⟩) 64 64] u fun e w1 => (e = .returned (.bool true) ∧ u = w1) ∧
      Hid (Calls Try.prog 26 #[.slice pa lp cp, .slice a lp cap] u fun e w2 => e = .returned (.bool true) ∧
        Hid (∀ L, L = w2.heap.size → Calls Try.prog 27 #[.slice (some ⟨L, 0, none⟩) 3 3] (w2.alloc (.cells #[.slice ab 64 cb, .slice ag 64 cg, .slice (some ⟨gr, 0, none⟩) 64 68] 36)) fun e w3 => e = .returned (.bool true) ∧
          Hid (∀ L, L = w3.heap.size → Calls Try.prog 28 #[.slice (some ⟨L, 0, none⟩) 5 5] (w3.alloc (.cells #[.slice a1 l1 c1, .slice a2 l2 c2, .slice a3 l3 c3, .slice a4 l4 c4, .slice pa lp cp] 22)) fun e w4 => e = .returned (.bool true) ∧
            Hid (Calls Try.prog 13 #[.pointer (some ⟨g, 0, none⟩), .int .i64 1] w4 fun e w5 => ∃ az cz, e = .returned (.tuple #[.slice az 64 cz, .int .i64 0]) ∧
              Hid (Calls Try.prog 14 #[.slice az 64 cz, .slice (some ⟨ga, 0, none⟩) 64 64] w5 fun e w6 => e = .returned (.bool true) ∧ w5 = w6) ∧ Hid (Below w.heap.size w w5))))) := by
  refine (same_true ab (some ⟨ga, 0, none⟩) 64 cb 64 (fl x) u hA.1 (h.ke.ba.has (fl_len x))).mono ?_
  rintro e w1 ⟨rfl, rfl⟩
  refine ⟨⟨rfl, rfl⟩, ?_⟩
  refine (sameInts_any pa a lp cp cap ps u (iown_has8 h.po) (hp.later h.ke.bel) (by omega)).mono ?_
  rintro e w2 ⟨rfl, m, rfl⟩
  have bm : Below u.heap.size u (u.drewN m) := below_drewN (Below.refl _ _) m
  have hE := h.ke.later bm
  have hA' := hA.later bm
  generalize u.drewN m = w2 at *
  refine ⟨rfl, fun L hL => ?_⟩
  refine (k_bapart hE [(ab, 64, cb), (ag, 64, cg), (some ⟨gr, 0, none⟩, 64, 68)] [(a1, l1, c1), (a2, l2, c2), (a3, l3, c3), (a4, l4, c4), (pa, lp, cp)] hA'.2.1 hA'.2.2.2.1 3 rfl (by omega) hA'.2.2.1 L hL).mono ?_
  rintro e w3 ⟨rfl, X3⟩
  refine ⟨rfl, fun L hL => ?_⟩
  refine (k_iapart (unhide X3).1 [(a1, l1, c1), (a2, l2, c2), (a3, l3, c3), (a4, l4, c4), (pa, lp, cp)] (unhide X3).2 5 rfl (by omega) hA'.2.2.2.2 L hL).mono ?_
  rintro e w4 ⟨rfl, X4⟩
  exact ⟨rfl, k_end (unhide X4)⟩

set_option maxRecDepth 100000 in
set_option maxHeartbeats 8000000 in
theorem keeps_walk (x y : Int) (a2 : Option Addr) (len2 cap2 : Nat) (z2 : List Int) (a3 : Option Addr) (len3 cap3 : Nat) (z3 : List Int) (w : World) (hx : (Lit.int .u8 x).wf = true) (hy : (Lit.int .u8 y).wf = true) (h2 : IArg w a2 len2 cap2 z2) (h3 : IArg w a3 len3 cap3 z3) :
    Calls Try.prog 6 #[.int .u8 x, .int .u8 y, .slice a2 len2 cap2, .slice a3 len3 cap3] w fun e w' => e = .returned (.bool true) ∧ Below w.heap.size w w' := by
  have HX := hide (u8_max hx)
  have KW := hide (wakes_any w)
  have KN : Hid (∀ u, Below w.heap.size w u → _) := fun u hb => kp_new w u hb a2 len2 cap2 z2 h2
  have HI : Hid (IHas w a3 len3 z3 ∧ len3 ≤ 17592186043904) := ⟨h3.1, h3.2.1⟩
  have hl2 : len2 ≤ 17592186043904 := h2.2.1
  clear hx hy h2 h3
  go_enter Try.func6, Try.ntmps6
  go_wp2_with fail
  go_at_call 7
  refine (unhide KW).mono ?_
  rintro e w1 ⟨rfl, x1⟩
  have K1 := hide (unhide KN w1 x1)
  clear KW KN x1
  go_wp2_with fail
  go_at_call 8
  refine (unhide K1).mono ?_
  rintro e u1 ⟨dg, rfl, K2⟩
  clear K1
  obtain ⟨pa, pc, u2, r2, k2⟩ := unhide K2
  have R := hide r2
  have K3 := hide k2
  clear K2 r2 k2
  go_wp2_with (at_builtin; refine wpList_append_run 22 rfl _ _ rfl _ _ _ rfl rfl (unhide R) ?_; clear R)
  go_at_call 9
  refine (unhide K3).mono ?_
  rintro e u3 ⟨g, rfl, X3⟩
  clear K3
  go_upto_region 9 with fail
  go_loopw [14] (fun i wr => ∃ k : Nat, k ≤ len2 ∧ i = .int .i64 (k : Int) ∧ Hid (KP w.heap.size w g dg z2 pa len2 pc wr)) (fun i _ => len2 - (intOf i).toNat)
  case atStart => exact ⟨0, Nat.zero_le _, rfl, X3⟩
  case round =>
    obtain ⟨k, hk, rfl, XP⟩ := hrel
    clear X3
    by_cases hlt : k < len2
    · obtain ⟨q, z, rfl, c1, f1, X4⟩ := (unhide XP).store hlt (-5)
      clear XP HI HX
      go_wp2_with fail
      exact ⟨⟨k + 1, by omega, by go_num, X4⟩, by simp [intOf]; omega⟩
    · have hltI : ¬ (k : Int) < (len2 : Int) := by omega
      have K5 := hide (k_put (unhide XP) x (unhide HX).1 (unhide HX).2)
      clear XP HX
      go_wp2_with fail
      go_at_call 11
      refine (unhide K5).mono ?_
      rintro e v1 ⟨ga, rfl, K6⟩
      clear K5
      go_wp2_with fail
      go_at_call 25
      refine (unhide K6).mono ?_
      rintro e v2 ⟨gr, rfl, K7⟩
      clear K6
      go_wp2_with fail
      go_at_call 10
      refine (unhide K7).mono ?_
      rintro e v3 ⟨rfl, X7⟩
      clear K7
      go_upto_region 16 with fail
      go_loopw [17] (fun i wr => ∃ k : Nat, k ≤ 64 ∧ i = .int .i64 (k : Int) ∧ Hid (∃ S zr, KQ w.heap.size w g dg ga gr x none 0 0 [] wr S zr)) (fun i _ => 64 - (intOf i).toNat)
      case atStart => exact ⟨0, by omega, rfl, X7⟩
      case round =>
        obtain ⟨j, hj, rfl, XQ⟩ := hrel
        clear X7
        obtain ⟨S, zr, kq⟩ := unhide XQ
        by_cases hlt2 : j < 64
        · have c1 := kq.br.cell (i := j) (by rw [kq.lr]; omega)
          have f1 := kq.br.free j
          have H2 : Hid (∃ S zr, KQ w.heap.size w g dg ga gr x none 0 0 [] (wr.setCell ⟨gr, j, none⟩ (.int .u8 y)) S zr) := ⟨_, _, kq.store j y⟩
          generalize zr[j]?.getD 0 = z at *
          clear kq XQ HI
          go_wp2_with fail
          exact ⟨⟨j + 1, by omega, by go_num, H2⟩, by simp [intOf]; omega⟩
        · have nj : ¬ (j : Int) < 64 := by omega
          obtain ⟨la, lc, v4, r4, o4, b4⟩ := app_ints8 (c := cap3) ((unhide HI).1.later kq.ke.bel) (unhide HI).2
          have R := hide r4
          have K8 := hide (k_out (k_list kq o4 b4) (unhide HI).2)
          clear XQ kq r4 o4 b4
          go_wp2_with (at_builtin; refine wpList_append_run 22 rfl _ _ rfl _ _ _ rfl rfl (unhide R) ?_; clear R)
          go_at_call 12
          refine (unhide K8).mono ?_
          rintro e v5 ⟨n5, rfl, X8⟩
          clear K8
          obtain ⟨S5, kq⟩ := unhide X8
          have K9 := hide (k_answers kq (unhide HI).2)
          clear X8 kq
          go_wp2_with fail
          go_at_call 13
          refine (unhide K9).mono ?_
          rintro e v6 ⟨ab, cb, rfl, K10⟩
          clear K9
          go_wp2_with fail
          go_at_call 13
          refine (unhide K10).mono ?_
          rintro e v7 ⟨ag, cg, rfl, K11⟩
          clear K10
          go_wp2_with fail
          go_at_call 15
          refine (unhide K11).mono ?_
          rintro e v8 ⟨m1, l1, c1, rfl, K12⟩
          clear K11
          go_wp2_with fail
          go_at_call 16
          refine (unhide K12).mono ?_
          rintro e v9 ⟨m2, l2, c2, rfl, K13⟩
          clear K12
          go_wp2_with fail
          go_at_call 15
          refine (unhide K13).mono ?_
          rintro e va ⟨m3, l3, c3, rfl, K14⟩
          clear K13
          go_wp2_with fail
          go_at_call 16
          refine (unhide K14).mono ?_
          rintro e vb ⟨m4, l4, c4, rfl, K15⟩
          clear K14
          have K16 := hide (k_tail (unhide K15).1 (unhide K15).2 a3 cap3 (unhide HI).1 (unhide HI).2)
          clear K15 HI
          go_wp2_with fail
          go_at_call 14
          refine (unhide K16).mono ?_
          rintro e vc ⟨⟨rfl, rfl⟩, K17⟩
          clear K16
          go_wp2_with fail
          go_at_call 26
          refine (unhide K17).mono ?_
          rintro e vd ⟨rfl, K18⟩
          clear K17
          have K19 := hide (unhide K18 vd.heap.size rfl)
          clear K18
          go_wp2_with fail
          go_at_call 27
          refine (unhide K19).mono ?_
          rintro e ve ⟨rfl, K20⟩
          clear K19
          have K21 := hide (unhide K20 ve.heap.size rfl)
          clear K20
          go_wp2_with fail
          go_at_call 28
          refine (unhide K21).mono ?_
          rintro e vf ⟨rfl, K22⟩
          clear K21
          go_wp2_with fail
          go_at_call 13
          refine (unhide K22).mono ?_
          rintro e vg ⟨az, cz, rfl, K23, XB⟩
          clear K22
          go_wp2_with fail
          go_at_call 14
          refine (unhide K23).mono ?_
          rintro e vh ⟨rfl, rfl⟩
          clear K23
          go_wp2_with fail
          go_ret
          exact ⟨rfl, unhide XB⟩

end Go.Proofs.Ytpkhllpghjldhaa
