/- DeviceKeeps' walk. -/
import Derived.Test.YtikpmchjlpobdaaDKpA
import Derived.Test.YtikpmchjlpobdaaDOpenO
namespace Go.Proofs.Ytikpmchjlpobdaa
open Go.RowKit Go.Shelf
set_option linter.unusedVariables false

theorem u8_bounds {x : Int} (h : (Lit.int .u8 x).wf = true) : 0 ≤ x ∧ x ≤ 255 := by
  simp [Lit.wf, IntKind.min, IntKind.max, IntKind.signed, IntKind.bits] at h
  omega

theorem k_crash {w : World} {gd go ga : Nat} {x : Int} {pa : Option Addr} {lp cp : Nat} {ps : List Int} {u : World} {Sd So : Nat → Prop} (h : KE w.heap.size w gd go ga x pa lp cp ps u Sd So (kD x)) (a : Option Addr) (cap : Nat) (hp : IHas w a lp ps) (hl : lp ≤ 17592186043904) :
    Calls Try.prog 21 #[.pointer (some ⟨gd, 0, none⟩), .slice pa lp cp] u fun e w1 => e = .returned (.int .i64 0) ∧
      Hid (Calls Try.prog 12 #[.pointer (some ⟨go, 0, none⟩), .int .i64 1] w1 fun e w2 => ∃ kz, e = .returned (.tuple #[.slice (some ⟨kz, 0, none⟩) 64 64, .int .i64 0]) ∧
        Hid (Calls Try.prog 33 #[.slice pa lp cp, .slice a lp cap] w2 fun e w3 => e = .returned (.bool true) ∧
          Hid (Calls Try.prog 14 #[.slice (some ⟨kz, 0, none⟩) 64 64, .slice (some ⟨w3.heap.size, 0, none⟩) 64 64] (w3.alloc (.cells (madeCells #[.int .u8 0] 64) 5)) fun e w4 => e = .returned (.bool true) ∧ w3.alloc (.cells (madeCells #[.int .u8 0] 64) 5) = w4) ∧
          Hid (Calls Try.prog 12 #[.pointer (some ⟨gd, 0, none⟩), .int .i64 2] (w3.alloc (.cells (madeCells #[.int .u8 0] 64) 5)) fun e w4 => ∃ k2, e = .returned (.tuple #[.slice (some ⟨k2, 0, none⟩) 64 64, .int .i64 0]) ∧
            Hid (Calls Try.prog 14 #[.slice (some ⟨k2, 0, none⟩) 64 64, .slice (some ⟨ga, 0, none⟩) 64 64] w4 fun e w5 => e = .returned (.bool true) ∧ w4 = w5) ∧ Hid (Below w.heap.size w w4)))) := by
  have hcm : lp ≤ cp ∧ cp ≤ 9223372036854775807 := ⟨h.po.2.1, by have := h.po.2.2.1; unfold maxLen at this; omega⟩
  have hout : Out Sd lp pa := fun hp0 y e hx => by
    obtain ⟨g, e', _, _, _⟩ := h.po.cell (j := 0) hp0
    rw [e'] at e
    cases e
    exact (h.pn g e').1 hx
  refine (crash_any gd pa lp cp ps Sd (kD x) u h.dd (iown_has7 h.po) hcm hout).mono ?_
  rintro e w1 ⟨rfl, y1, y2⟩
  have h1 := h.nx y1 y2
  refine ⟨rfl, ?_⟩
  refine (read64 go 1 So (Dev.new 64 4) w1 h1.d2 rfl rfl (by decide)).mono ?_
  rintro e w2 ⟨rfl, r1, b1⟩
  have h2 := h1.later b1
  refine ⟨_, rfl, ?_⟩
  refine (sameInts_any pa a lp cp cap ps w2 (iown_has7 h2.po) (hp.later h2.bel) (by omega)).mono ?_
  rintro e w3 ⟨rfl, m, rfl⟩
  have bm : Below w2.heap.size w2 (w2.drewN m) := below_drewN (Below.refl _ _) m
  have h2' := h2.later bm
  have r1' := r1.below bm r1.lt
  generalize w2.drewN m = w3 at *
  have hb := (Below.refl w3.heap.size w3).alloc (Nat.le_refl _) (.cells (madeCells #[.int .u8 0] 64) 5)
  refine ⟨rfl, ?_, ?_⟩
  · have hB : Block (w3.alloc (.cells (madeCells #[.int .u8 0] 64) 5)) w3.heap.size (fl 0) := by
      unfold Block
      rw [World.alloc_heap_new, ← Array.toArray_toList (xs := madeCells #[.int .u8 0] 64), toList_madeCells_one]
      simp [fl]
    have e0 : (Dev.new 64 4).rd 1 = fl 0 := rfl
    rw [e0] at r1'
    exact same_true _ _ 64 64 64 (fl 0) _ ((r1'.below hb r1'.lt).has (fl_len 0)) (hB.has (fl_len 0))
  · have h3 := h2'.later hb
    refine (read64 gd 2 Sd ((kD x).crash ps) _ h3.dd rfl rfl (show 2 < (kD x).n from (by decide : 2 < 4))).mono ?_
    rintro e w4 ⟨rfl, r4, b4⟩
    rw [kD_crash] at r4
    have h4 := h3.later b4
    exact ⟨_, rfl, same_true _ _ 64 64 64 (fl x) w4 (r4.has (fl_len x)) (h4.ba.has (fl_len x)), h4.bel⟩

set_option maxRecDepth 100000 in
set_option maxHeartbeats 4000000 in
theorem keeps_walk (x y : Int) (a : Option Addr) (len cap : Nat) (ps : List Int) (w : World) (hx : (Lit.int .u8 x).wf = true) (hy : (Lit.int .u8 y).wf = true) (hi : IHas w a len ps ∧ len ≤ 17592186043904 ∧ len ≤ cap ∧ cap ≤ 9223372036854775807) :
    Calls Try.prog 8 #[.int .u8 x, .int .u8 y, .slice a len cap] w fun e w' => e = .returned (.bool true) ∧ Below w.heap.size w w' := by
  obtain ⟨x0, x1⟩ := u8_bounds hx
  have KW := hide (wakes_any w)
  have KN : Hid (∀ u, Below w.heap.size w u → _) := fun u hb => k_new w u hb x x0 x1
  have HX : Hid (0 ≤ x ∧ x ≤ 255) := ⟨x0, x1⟩
  have HI := hide hi
  clear hx hy hi x0 x1
  have hmk : ∀ w : World, (Instr.makeSlice 31 (.int .i64 64) (.int .i64 64)).run Try.prog w = .ok (.slice (some ⟨w.heap.size, 0, none⟩) 64 64) (w.alloc (.cells (madeCells #[.int .u8 0] 64) 5)) := run_make_row' (P := Try.prog) 31 5 (.int .u8 0) 1 Try.underlying31 info5 rfl .i64 .i64 64 (by omega) (by omega)
  go_enter Try.func8, Try.ntmps8
  go_wp2_with fail
  go_at_call 9
  refine (unhide KW).mono ?_
  rintro e w1 ⟨rfl, h1⟩
  have K2 := hide (unhide KN w1 h1)
  clear KW h1 KN
  go_wp2_with fail
  go_at_call 10
  refine (unhide K2).mono ?_
  rintro e w2 ⟨gd, rfl, K3⟩
  clear K2
  go_wp2_with fail
  go_at_call 10
  refine (unhide K3).mono ?_
  rintro e w3 ⟨go, rfl, K4⟩
  clear K3
  go_wp2_with fail
  go_at_call 36
  refine (unhide K4).mono ?_
  rintro e w4 ⟨ga, rfl, K5⟩
  clear K4
  go_wp2_with fail
  go_at_call 37
  refine (unhide K5).mono ?_
  rintro e w5 ⟨gr, rfl, K6⟩
  clear K5
  obtain ⟨Sd, So, k6⟩ := unhide K6
  obtain ⟨pa, cp, w6, R', o6, b6⟩ := app_ints7 (c := cap) ((unhide HI).1.later k6.bel) (unhide HI).2.1
  have R := hide R'
  have k7 : KJ w.heap.size w gd go ga gr x pa len cp ps w6 Sd So (Dev.new 64 4) (rm (fl x) 4) := by
    have k := k6.later b6
    refine ⟨k.dd, k.d2, k.dis, k.ba, k.br, k.lr, k.na, k.nr, k.nar, o6.base k6.siz, fun q e => ?_, k.low, k.gB, k.siz, k.bel⟩
    have := (o6.lt e).2.1
    exact ⟨fun hs => by have := k6.dd.lt hs; omega, fun hs => by have := k6.d2.lt hs; omega⟩
  have K8 := hide (k_write k7 (unhide HX).1 (unhide HX).2)
  clear K6 R' o6 b6 k6 k7
  go_wp2_with (at_builtin; refine wpList_append_run 32 rfl _ _ rfl _ _ _ rfl rfl (unhide R) ?_; clear R)
  go_at_call 15
  refine (unhide K8).mono ?_
  rintro e w7 ⟨rfl, K9⟩
  clear K8
  go_wp2_with fail
  go_at_call 23
  refine (unhide K9).mono ?_
  rintro e w8 ⟨rfl, K10⟩
  clear K9
  go_wp2_with fail
  go_at_call 38
  refine (unhide K10).mono ?_
  rintro e w9 ⟨rfl, K11⟩
  clear K10
  obtain ⟨Sd2, zr0, k11⟩ := unhide K11
  have H11 : Hid (∃ zr, KJ w.heap.size w gd go ga gr x pa len cp ps w9 Sd2 So (kD x) zr) := ⟨zr0, k11⟩
  clear K11 k11
  go_upto_region 15 with fail
  go_loopw [14] (fun i wr => ∃ k : Nat, k ≤ 64 ∧ i = .int .i64 (k : Int) ∧ Hid (∃ zr, KJ w.heap.size w gd go ga gr x pa len cp ps wr Sd2 So (kD x) zr)) (fun i _ => 64 - (intOf i).toNat)
  case atStart => exact ⟨0, by omega, rfl, H11⟩
  case round =>
    obtain ⟨k, hk, rfl, hK⟩ := hrel
    clear H11
    obtain ⟨zr, kj⟩ := unhide hK
    by_cases hlt : k < 64
    · have c1 := kj.br.cell (i := k) (by rw [kj.lr]; omega)
      have f1 := kj.br.free k
      have H2 : Hid (∃ zr, KJ w.heap.size w gd go ga gr x pa len cp ps (wr.setCell ⟨gr, k, none⟩ (.int .u8 y)) Sd2 So (kD x) zr) := ⟨_, kj.store k y⟩
      generalize zr[k]?.getD 0 = z at *
      clear kj hK HI HX
      go_wp2_with fail
      exact ⟨⟨k + 1, by omega, by go_num, H2⟩, by simp [intOf]; omega⟩
    · have nk : ¬ (k : Int) < 64 := by omega
      have K12 := hide (k_reads kj)
      clear kj hK
      go_wp2_with fail
      go_at_call 12
      refine (unhide K12).mono ?_
      rintro e v1 ⟨kb, rfl, K13⟩
      clear K12
      go_wp2_with fail
      go_at_call 12
      refine (unhide K13).mono ?_
      rintro e v2 ⟨kc, rfl, K14⟩
      clear K13
      go_wp2_with fail
      go_at_call 12
      refine (unhide K14).mono ?_
      rintro e v3 ⟨kg, rfl, K15⟩
      clear K14
      go_wp2_with fail
      go_at_call 34
      refine (unhide K15).mono ?_
      rintro e v4 ⟨a1, l1, c1, rfl, K16⟩
      clear K15
      go_wp2_with fail
      go_at_call 34
      refine (unhide K16).mono ?_
      rintro e v5 ⟨a2, l2, c2, rfl, K17⟩
      clear K16
      obtain ⟨kj, k3, n1, n2, xs, ys, o1, o2, as', m1, m2, n12, nk2, nu, q1, q2, q3, q4⟩ := unhide K17
      have S1 := hide (same_true (some ⟨kb, 0, none⟩) (some ⟨ga, 0, none⟩) 64 64 64 (fl x) v5 (k3.1.has (fl_len x)) (kj.ba.has (fl_len x)))
      have S2 := hide (same_true (some ⟨kc, 0, none⟩) (some ⟨ga, 0, none⟩) 64 64 64 (fl x) v5 (k3.2.1.has (fl_len x)) (kj.ba.has (fl_len x)))
      have S3 := hide (same_true (some ⟨kg, 0, none⟩) (some ⟨ga, 0, none⟩) 64 64 64 (fl x) v5 (k3.2.2.1.has (fl_len x)) (kj.ba.has (fl_len x)))
      have K18 := hide (k_apart kj k3 o1 o2 as' m1 m2 n12 nk2 nu q1 q2 q3 q4 v5.heap.size rfl)
      clear K17 kj k3 o1 o2 as' m1 m2 n12 nk2 nu q1 q2 q3 q4
      go_wp2_with fail
      go_at_call 14
      refine (unhide S1).mono ?_
      rintro e v6 ⟨rfl, rfl⟩
      clear S1
      go_wp2_with fail
      go_at_call 14
      refine (unhide S2).mono ?_
      rintro e v6 ⟨rfl, rfl⟩
      clear S2
      go_wp2_with fail
      go_at_call 14
      refine (unhide S3).mono ?_
      rintro e v6 ⟨rfl, rfl⟩
      clear S3
      go_wp2_with fail
      go_at_call 39
      refine (unhide K18).mono ?_
      rintro e v6 ⟨rfl, K19⟩
      clear K18
      have K20 := hide (unhide K19 v6.heap.size rfl)
      clear K19
      go_wp2_with fail
      go_at_call 40
      refine (unhide K20).mono ?_
      rintro e v7 ⟨rfl, hE⟩
      clear K20
      have K21 := hide (k_crash (unhide hE) a cap (unhide HI).1 (unhide HI).2.1)
      clear hE HI HX
      go_wp2_with fail
      go_at_call 21
      refine (unhide K21).mono ?_
      rintro e v8 ⟨rfl, K22⟩
      clear K21
      go_wp2_with fail
      go_at_call 12
      refine (unhide K22).mono ?_
      rintro e v9 ⟨kz, rfl, K23⟩
      clear K22
      go_wp2_with fail
      go_at_call 33
      refine (unhide K23).mono ?_
      rintro e va ⟨rfl, K24, K25⟩
      clear K23
      go_wp2_with fail
      go_at_call 14
      refine (unhide K24).mono ?_
      rintro e vb ⟨rfl, rfl⟩
      clear K24
      go_wp2_with fail
      go_at_call 12
      refine (unhide K25).mono ?_
      rintro e vc ⟨k2, rfl, K26, hB⟩
      clear K25
      go_wp2_with fail
      go_at_call 14
      refine (unhide K26).mono ?_
      rintro e vd ⟨rfl, rfl⟩
      clear K26
      go_wp2_with fail
      go_ret
      exact ⟨rfl, unhide hB⟩

end Go.Proofs.Ytikpmchjlpobdaa
