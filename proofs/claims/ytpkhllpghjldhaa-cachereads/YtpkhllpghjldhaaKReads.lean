/- CacheReads' walk. -/
import Derived.Test.YtpkhllpghjldhaaKReadC
import Derived.Test.YtpkhllpghjldhaaKOpenO
namespace Go.Proofs.Ytpkhllpghjldhaa
open Go.RowKit Go.Shelf
set_option linter.unusedVariables false

set_option maxRecDepth 100000 in
set_option maxHeartbeats 1000000 in
theorem reads_bad (a0 : Int) (a1 : Option Addr) (len1 cap1 : Nat) (v2 : Value) (w : World) (hc : a0 < 1 ∨ 512 < a0) :
    Calls Try.prog 3 #[.int .i64 a0, .slice a1 len1 cap1, v2] w fun e w' => e = .returned (.bool true) ∧ Below w.heap.size w w' := by
  have KW := hide (wakes_any w)
  have KN : Hid (∀ u, Below w.heap.size w u → Calls Try.prog 8 #[.int .i64 64, .int .i64 8] u fun e u1 => ∃ dg, e = .returned (.tuple #[.pointer (some ⟨dg, 0, none⟩), .int .i64 0]) ∧ Hid (Calls Try.prog 9 #[.pointer (some ⟨dg, 0, none⟩), .int .i64 a0, .slice a1 len1 cap1] u1 fun e u2 => e = .returned (.tuple #[.pointer none, .int .i64 1]) ∧ u1 = u2) ∧ Hid (Below w.heap.size w u1)) := by
    intro u hb
    refine (new_ok 64 8 u (by decide)).mono ?_
    rintro e u1 ⟨dg, Sd, rfl, a1, a2, a3⟩
    exact ⟨dg, rfl, cnew_bad _ _ _ u1 hc, hb.trans (a3.mono hb.size)⟩
  generalize hB : w.heap.size = B at *
  clear hB
  rcases hc with hc | hc
  · go_enter Try.func3, Try.ntmps3
    go_wp2_with fail
    go_at_call 7
    refine (unhide KW).mono ?_
    rintro e w1 ⟨rfl, x1⟩
    have K1 := hide (unhide KN w1 x1)
    clear KW KN x1
    go_wp2_with fail
    go_at_call 8
    refine (unhide K1).mono ?_
    rintro e u1 ⟨dg, rfl, K2, X1⟩
    clear K1
    go_wp2_with fail
    go_at_call 9
    refine (unhide K2).mono ?_
    rintro e u2 ⟨rfl, rfl⟩
    clear K2
    go_wp2_with fail
    go_ret
    exact ⟨rfl, unhide X1⟩
  · have hc' : ¬ a0 < 1 := by omega
    go_enter Try.func3, Try.ntmps3
    go_wp2_with fail
    go_at_call 7
    refine (unhide KW).mono ?_
    rintro e w1 ⟨rfl, x1⟩
    have K1 := hide (unhide KN w1 x1)
    clear KW KN x1
    go_wp2_with fail
    go_at_call 8
    refine (unhide K1).mono ?_
    rintro e u1 ⟨dg, rfl, K2, X1⟩
    clear K1
    go_wp2_with fail
    go_at_call 9
    refine (unhide K2).mono ?_
    rintro e u2 ⟨rfl, rfl⟩
    clear K2
    go_wp2_with fail
    go_ret
    exact ⟨rfl, unhide X1⟩

set_option maxRecDepth 100000 in
set_option maxHeartbeats 8000000 in
theorem reads_ok (cap : Nat) (hc : 1 ≤ cap ∧ cap ≤ 512) (a1 : Option Addr) (len1 cap1 : Nat) (z1 : List Int) (a2 : Option Addr) (len2 cap2 : Nat) (w : World) (h1 : IArg w a1 len1 cap1 z1) (h2 : OpsAt w a2 len2) :
    Calls Try.prog 3 #[.int .i64 cap, .slice a1 len1 cap1, .slice a2 len2 cap2] w fun e w' => e = .returned (.bool true) ∧ Below w.heap.size w w' := by
  have KW := hide (wakes_any w)
  have KN : Hid (∀ u, Below w.heap.size w u → _) := fun u hb => l_new w u hb cap (by omega) a1 len1 cap1 z1 h1.1 h1.2.1 h1.2.2.2
  have KS : Hid (∀ g dg u, KD w.heap.size w g dg (Cac.new cap z1) (Dev.new 64 8) u → _) := fun g dg u h => r_start h hc
  have KO : Hid (∀ k, k < len2 → ∃ b off z n x, a2 = some ⟨b, off, none⟩ ∧ 0 ≤ x ∧ x ≤ 255 ∧ Hid (∀ u, Below w.heap.size w u → u.cell? ⟨b, off + k * 4, none⟩ = some (.int .i64 z) ∧ u.cell? ⟨b, off + k * 4 + 1, none⟩ = some (.int .i64 n) ∧ u.cell? ⟨b, off + k * 4 + 2, none⟩ = some (.int .u8 x))) := by
    intro k hk
    obtain ⟨b, off, e, hbl, ho⟩ := h2.2 (by omega)
    obtain ⟨o, ho⟩ := ho k hk
    exact ⟨b, off, o.kind, o.n, o.x, e, ho.xb.1, ho.xb.2, fun u hu => ⟨(hu.cell (p := ⟨b, off + k * 4, none⟩) hbl).trans ho.c0, (hu.cell (p := ⟨b, off + k * 4 + 1, none⟩) hbl).trans ho.c1, (hu.cell (p := ⟨b, off + k * 4 + 2, none⟩) hbl).trans ho.c2⟩⟩
  have hl2 := h2.1
  obtain ⟨hc1, hc2⟩ := hc
  generalize hB : w.heap.size = B at *
  clear h1 h2 hB
  generalize Dev.new 64 8 = D0 at *
  generalize Cac.new cap z1 = C0 at *
  go_enter Try.func3, Try.ntmps3
  go_wp2_with fail
  go_at_call 7
  refine (unhide KW).mono ?_
  rintro e w1 ⟨rfl, x1⟩
  have K1 := hide (unhide KN w1 x1)
  clear KW KN x1
  go_wp2_with fail
  go_at_call 8
  refine (unhide K1).mono ?_
  rintro e u1 ⟨dg, rfl, K2⟩
  clear K1
  go_wp2_with fail
  go_at_call 9
  refine (unhide K2).mono ?_
  rintro e u2 ⟨g, rfl, X2⟩
  have X3 := hide (unhide KS g dg u2 (unhide X2))
  clear K2 KS X2
  go_upto_region 11 with fail
  change Code.wp _ _ _ _ (u2.alloc zero8)
  generalize u2.alloc zero8 = u3 at *
  generalize u2.heap.size = gh at *
  go_loopw [12] (fun i wr => ∃ k : Nat, k ≤ 100 ∧ i = .int .i64 (k : Int) ∧ Hid (∃ hv, RS B w g dg cap gh hv false wr)) (fun i _ => 100 - (intOf i).toNat)
  case atStart => exact ⟨0, by omega, rfl, ⟨_, unhide X3⟩⟩
  case round =>
    obtain ⟨k, hk, rfl, XR0⟩ := hrel
    clear X3
    obtain ⟨hv, xr⟩ := unhide XR0
    have XR := hide xr
    clear XR0 xr
    by_cases hlt : k < len2
    · by_cases h100 : k < 100
      · obtain ⟨b, off, z, n, x, rfl, hx0, hx1, CO⟩ := unhide KO k hlt
        obtain ⟨o0, o1, o2⟩ := unhide CO wr (unhide XR).bel
        have hz8 : (n % 8).toNat < 8 := by omega
        have ha7 : bits .and .i64 n 7 = (((n % 8).toNat : Nat) : Int) := by rw [and7]; omega
        generalize (n % 8).toNat = zb at *
        clear KO
        by_cases hz2 : z = 2
        · have d2 : (z == 2) = true := by simp [hz2]
          have K5 := hide (r_put (unhide XR) hz8 ⟨hx0, hx1⟩)
          have COu : Hid (∀ u, Below B w u → u.cell? ⟨b, off + k * 4 + 2, none⟩ = some (.int .u8 x)) := fun u hu => (unhide CO u hu).2.2
          clear XR CO hz2
          go_wp2_with fail
          go_at_call 11
          refine (unhide K5).mono ?_
          rintro e v1 ⟨k1, rfl, K6⟩
          clear K5 o0 o1 o2
          go_wp2_with fail
          go_at_call 10
          refine (unhide K6).mono ?_
          rintro e v2 ⟨rfl, ⟨vv, ch⟩, fh, HB2, XS⟩
          have o2 := unhide COu v2 (unhide HB2)
          clear K6 COu HB2
          go_upto_region 23 with fail
          generalize v2.setCell ⟨gh, zb, none⟩ (.int .u8 x) = v3 at *
          clear ch fh o2
          have K8 := hide (r_asks (unhide XS))
          clear XS
          go_wp2_with fail
          go_at_call 15
          refine (unhide K8).mono ?_
          rintro e v8 ⟨a8, lh, c8, rfl, hlh, K9⟩
          clear K8
          go_wp2_with fail
          go_at_call 16
          refine (unhide K9).mono ?_
          rintro e v9 ⟨a9, ld, c9, rfl, hld, K10⟩
          clear K9
          go_wp2_with fail
          go_at_call 15
          refine (unhide K10).mono ?_
          rintro e v10 ⟨a10, c10, rfl, X10⟩
          clear K10
          go_wp2_with fail
          go_roundw
          case rel => exact ⟨k + 1, by omega, by go_num, ⟨_, unhide X10⟩⟩
          case measure => simp [intOf]; omega
        · have d2 : (z == 2) = false := by simpa using hz2
          by_cases hz7 : z = 7
          · have d7 : (z == 7) = true := by simp [hz7]
            have K5 := hide (r_out (unhide XR) hz8)
            clear XR CO hz2 hz7
            go_wp2_with fail
            go_at_call 12
            refine (unhide K5).mono ?_
            rintro e v1 ⟨rfl, XS⟩
            clear K5 o0 o1 o2
            have K8 := hide (r_asks (unhide XS))
            clear XS
            go_wp2_with fail
            go_at_call 15
            refine (unhide K8).mono ?_
            rintro e v8 ⟨a8, lh, c8, rfl, hlh, K9⟩
            clear K8
            go_wp2_with fail
            go_at_call 16
            refine (unhide K9).mono ?_
            rintro e v9 ⟨a9, ld, c9, rfl, hld, K10⟩
            clear K9
            go_wp2_with fail
            go_at_call 15
            refine (unhide K10).mono ?_
            rintro e v10 ⟨a10, c10, rfl, X10⟩
            clear K10
            go_wp2_with fail
            go_roundw
            case rel => exact ⟨k + 1, by omega, by go_num, ⟨_, unhide X10⟩⟩
            case measure => simp [intOf]; omega
          · have d7 : (z == 7) = false := by simpa using hz7
            have K5 := hide (r_get (unhide XR) hz8)
            have KM : Hid (∀ u a c y, RS B w g dg cap gh hv false u → Has u a 64 (fl y) → _) := fun u a c y h ha => r_same (c := c) h ha
            have KC : Hid (∀ u, RS B w g dg cap gh hv false u → u.cell? ⟨gh, zb, none⟩ = some (.int .u8 (hv zb))) := fun u h => (h.cell hz8).1
            clear XR CO hz2 hz7
            generalize hv zb = hx at *
            go_wp2_with fail
            go_at_call 13
            refine (unhide K5).mono ?_
            rintro e v1 ⟨a5, c5, rfl, X5⟩
            have K6 := hide (unhide KM v1 a5 c5 hx (unhide X5).2 (unhide X5).1)
            have ch := unhide KC v1 (unhide X5).2
            clear K5 KM KC X5 o0 o1 o2
            go_wp2_with fail
            go_at_call 11
            refine (unhide K6).mono ?_
            rintro e v2 ⟨k2, rfl, K7, XS⟩
            clear K6 ch
            go_wp2_with fail
            go_at_call 14
            refine (unhide K7).mono ?_
            rintro e v3 ⟨rfl, rfl⟩
            clear K7
            have K8 := hide (r_asks (unhide XS))
            clear XS
            go_wp2_with fail
            go_at_call 15
            refine (unhide K8).mono ?_
            rintro e v8 ⟨a8, lh, c8, rfl, hlh, K9⟩
            clear K8
            go_wp2_with fail
            go_at_call 16
            refine (unhide K9).mono ?_
            rintro e v9 ⟨a9, ld, c9, rfl, hld, K10⟩
            clear K9
            go_wp2_with fail
            go_at_call 15
            refine (unhide K10).mono ?_
            rintro e v10 ⟨a10, c10, rfl, X10⟩
            clear K10
            go_wp2_with fail
            go_roundw
            case rel => exact ⟨k + 1, by omega, by go_num, ⟨_, unhide X10⟩⟩
            case measure => simp [intOf]; omega
      · have K5 := hide (r_all (unhide XR))
        have KL2 : Hid (∀ u j, RS B w g dg cap gh hv true u → j < 8 → _) := fun u j h hj => r_last h hj
        have KB : Hid (∀ u, RS B w g dg cap gh hv true u → Below B w u) := fun u h => h.bel
        clear XR KO
        go_wp2_with fail
        go_at_call 17
        refine (unhide K5).mono ?_
        rintro e v1 ⟨rfl, K6⟩
        clear K5
        go_wp2_with fail
        go_at_call 18
        refine (unhide K6).mono ?_
        rintro e v2 ⟨rfl, K7⟩
        clear K6
        go_wp2_with fail
        go_at_call 19
        refine (unhide K7).mono ?_
        rintro e v3 ⟨rfl, K8⟩
        clear K7
        go_wp2_with fail
        go_at_call 16
        refine (unhide K8).mono ?_
        rintro e v4 ⟨a4, c4, rfl, X4⟩
        clear K8
        go_upto_region 31 with fail
        go_loopw [17] (fun i wr => ∃ j : Nat, j ≤ 8 ∧ i = .int .i64 (j : Int) ∧ Hid (RS B w g dg cap gh hv true wr)) (fun i _ => 60 - (intOf i).toNat)
        case atStart => exact ⟨0, by omega, rfl, X4⟩
        case round =>
          obtain ⟨j, hj, rfl, XQ⟩ := hrel
          clear X4
          by_cases hj8 : j < 8
          · have K9 := hide (unhide KL2 wr j (unhide XQ) hj8)
            clear KL2 KB XQ
            generalize hv j = hx at *
            go_wp2_with fail
            go_at_call 20
            refine (unhide K9).mono ?_
            rintro e v5 ⟨k5, rfl, K10⟩
            clear K9
            go_wp2_with fail
            go_at_call 13
            refine (unhide K10).mono ?_
            rintro e v6 ⟨a6, c6, rfl, ch, K11⟩
            clear K10
            go_wp2_with fail
            go_at_call 11
            refine (unhide K11).mono ?_
            rintro e v7 ⟨k7, rfl, K12, K13, X7⟩
            clear K11 ch
            go_wp2_with fail
            go_at_call 14
            refine (unhide K12).mono ?_
            rintro e v8 ⟨rfl, rfl⟩
            clear K12
            go_wp2_with fail
            go_at_call 14
            refine (unhide K13).mono ?_
            rintro e v9 ⟨rfl, rfl⟩
            clear K13
            go_wp2_with fail
            go_roundw
            case rel => exact ⟨j + 1, by omega, by go_num, X7⟩
            case measure => simp [intOf]; omega
          · have HB := hide (unhide KB wr (unhide XQ))
            clear KL2 KB XQ
            go_wp2_with fail
            go_ret
            exact ⟨rfl, unhide HB⟩
    · have K5 := hide (r_all (unhide XR))
      have KL2 : Hid (∀ u j, RS B w g dg cap gh hv true u → j < 8 → _) := fun u j h hj => r_last h hj
      have KB : Hid (∀ u, RS B w g dg cap gh hv true u → Below B w u) := fun u h => h.bel
      clear XR KO
      go_wp2_with fail
      go_at_call 17
      refine (unhide K5).mono ?_
      rintro e v1 ⟨rfl, K6⟩
      clear K5
      go_wp2_with fail
      go_at_call 18
      refine (unhide K6).mono ?_
      rintro e v2 ⟨rfl, K7⟩
      clear K6
      go_wp2_with fail
      go_at_call 19
      refine (unhide K7).mono ?_
      rintro e v3 ⟨rfl, K8⟩
      clear K7
      go_wp2_with fail
      go_at_call 16
      refine (unhide K8).mono ?_
      rintro e v4 ⟨a4, c4, rfl, X4⟩
      clear K8
      go_upto_region 31 with fail
      go_loopw [17] (fun i wr => ∃ j : Nat, j ≤ 8 ∧ i = .int .i64 (j : Int) ∧ Hid (RS B w g dg cap gh hv true wr)) (fun i _ => 60 - (intOf i).toNat)
      case atStart => exact ⟨0, by omega, rfl, X4⟩
      case round =>
        obtain ⟨j, hj, rfl, XQ⟩ := hrel
        clear X4
        by_cases hj8 : j < 8
        · have K9 := hide (unhide KL2 wr j (unhide XQ) hj8)
          clear KL2 KB XQ
          generalize hv j = hx at *
          go_wp2_with fail
          go_at_call 20
          refine (unhide K9).mono ?_
          rintro e v5 ⟨k5, rfl, K10⟩
          clear K9
          go_wp2_with fail
          go_at_call 13
          refine (unhide K10).mono ?_
          rintro e v6 ⟨a6, c6, rfl, ch, K11⟩
          clear K10
          go_wp2_with fail
          go_at_call 11
          refine (unhide K11).mono ?_
          rintro e v7 ⟨k7, rfl, K12, K13, X7⟩
          clear K11 ch
          go_wp2_with fail
          go_at_call 14
          refine (unhide K12).mono ?_
          rintro e v8 ⟨rfl, rfl⟩
          clear K12
          go_wp2_with fail
          go_at_call 14
          refine (unhide K13).mono ?_
          rintro e v9 ⟨rfl, rfl⟩
          clear K13
          go_wp2_with fail
          go_roundw
          case rel => exact ⟨j + 1, by omega, by go_num, X7⟩
          case measure => simp [intOf]; omega
        · have HB := hide (unhide KB wr (unhide XQ))
          clear KL2 KB XQ
          go_wp2_with fail
          go_ret
          exact ⟨rfl, unhide HB⟩

/-- CacheReads' walk. -/
theorem reads_walk (a0 : Int) (a1 : Option Addr) (len1 cap1 : Nat) (z1 : List Int) (a2 : Option Addr) (len2 cap2 : Nat) (w : World) (w0 : (Lit.int .i64 a0).wf = true) (h1 : IArg w a1 len1 cap1 z1) (h2 : OpsAt w a2 len2) :
    Calls Try.prog 3 #[.int .i64 a0, .slice a1 len1 cap1, .slice a2 len2 cap2] w fun e w' => e = .returned (.bool true) ∧ Below w.heap.size w w' := by
  by_cases hc : a0 < 1 ∨ 512 < a0
  · exact reads_bad a0 a1 len1 cap1 _ w hc
  · obtain ⟨n, rfl⟩ : ∃ n : Nat, a0 = (n : Int) := ⟨a0.toNat, by omega⟩
    exact reads_ok n (by omega) a1 len1 cap1 z1 a2 len2 cap2 w h1 h2

end Go.Proofs.Ytpkhllpghjldhaa
