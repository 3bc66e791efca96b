/- CachePins' walk. -/
import Derived.Test.YtpkhllpghjldhaaKPinM
import Derived.Test.YtpkhllpghjldhaaKOpenO
namespace Go.Proofs.Ytpkhllpghjldhaa
open Go.RowKit Go.Shelf
set_option linter.unusedVariables false

/-- Behind New: Put(0), Pin(0). -/
theorem p_start {B : Nat} {w : World} {g dg cap : Nat} {ns : List Int} {u : World} (h : KD B w g dg (Cac.new cap ns) (Dev.new 64 8) u) (hc : 2 ≤ cap ∧ cap ≤ 6) :
    Calls Try.prog 11 #[.int .u8 9] u fun e u1 => ∃ k, e = .returned (.slice (some ⟨k, 0, none⟩) 64 64) ∧
      Hid (Calls Try.prog 10 #[.pointer (some ⟨g, 0, none⟩), .int .i64 0, .slice (some ⟨k, 0, none⟩) 64 64] u1 fun e u2 => e = .returned (.int .i64 0) ∧
        Hid (Calls Try.prog 21 #[.pointer (some ⟨g, 0, none⟩), .int .i64 0] u2 fun e u3 => e = .returned (.int .i64 0) ∧ Hid (PD B w g dg cap 1 u3))) := by
  have ha : (Dev.new 64 8).ali := ⟨rfl, rfl⟩
  have hcl : (Cac.new cap ns).cln (Dev.new 64 8) := fun b l _ hl => by cases hl
  have h0 : cnt ((Cac.new cap ns).wants fHeld) (Dev.new 64 8).n = 0 := by
    have : ∀ b, (Cac.new cap ns).wants fHeld b = false := fun b => rfl
    have hz : cnt ((Cac.new cap ns).wants fHeld) 8 ≤ cnt (fun _ => false) 8 := cnt_mono (fun b _ hw => by rw [this b] at hw; cases hw)
    have h8 : cnt (fun _ => false) 8 = 0 := by decide
    show cnt ((Cac.new cap ns).wants fHeld) 8 = 0
    omega
  have hcap : (Cac.new cap ns).cap = cap := rfl
  obtain ⟨t1, t2, ⟨t3, t3'⟩, t4, t5, t6, t7, ⟨l, t8, t9⟩, t10⟩ := pt_facts (Cac.new cap ns) ha hcl (b := 0) (by decide) (fl 9) (by omega) (.inr (.inl (by omega)))
  have r := l_put h rfl (b := 0) (by decide) 9 (by omega) (by omega)
  rw [t1] at r
  refine r.mono ?_
  rintro e u1 ⟨k, rfl, y1⟩
  refine ⟨k, rfl, (unhide y1).mono ?_⟩
  rintro e u2 ⟨rfl, x2⟩
  refine ⟨rfl, (l_pin x2 (by rw [t3]; decide) t8).mono ?_⟩
  rintro e u3 ⟨rfl, x3⟩
  refine ⟨rfl, ((Cac.new cap ns).ptC (Dev.new 64 8) 0 (fl 9)).set 0 ⟨l.z, l.d, wrap64 (l.p + 1)⟩, (Cac.new cap ns).ptD (Dev.new 64 8) 0, ⟨t2, t3, t3', t4, ?_, ?_, ?_, ?_, ?_, by omega, by omega, hc.2⟩, x3⟩
  · intro b l2 hb hl2 hd
    by_cases e : b = 0
    · subst e
      simp [Cac.set] at hl2
      subst hl2
      exact t5 0 l hb t8 hd
    · exact t5 b l2 hb (by simpa [Cac.set, e] using hl2) hd
  · refine Nat.le_trans (Nat.le_of_eq (cnt_congr (fun b _ => ?_))) (Nat.le_trans t10 (Nat.le_of_eq hcap))
    unfold Cac.wants
    by_cases e : b = 0
    · subst e; simp [Cac.set, t8, fHeld]
    · simp [Cac.set, e]
  · intro b l2 hb hl2
    by_cases e : b = 0
    · subst e
      simp [Cac.set] at hl2
      subst hl2
      rw [if_pos (by omega)]
      show wrap64 (l.p + 1) = 1
      have : l.p = 0 := t9
      rw [this]
      unfold wrap64
      omega
    · have hl3 : ((Cac.new cap ns).ptC (Dev.new 64 8) 0 (fl 9)).L b = some l2 := by simpa [Cac.set, e] using hl2
      rcases t7 b e with x | x
      · rw [x] at hl3; cases hl3
      · rw [x] at hl3; cases hl3
  · intro b hb
    obtain rfl : b = 0 := by omega
    exact ⟨⟨l.z, l.d, wrap64 (l.p + 1)⟩, by simp [Cac.set]⟩
  · have := t6 0 (by decide)
    rw [if_pos rfl] at this
    rw [← this]
    unfold Cac.val
    simp [Cac.set, t8]

set_option maxRecDepth 100000 in
set_option maxHeartbeats 8000000 in
theorem pins_walk (a0 : Int) (a1 : Option Addr) (len1 cap1 : Nat) (z1 : List Int) (a2 : Option Addr) (len2 cap2 : Nat) (z2 : List Int) (w : World) (w0 : (Lit.int .i64 a0).wf = true) (h1 : IArg w a1 len1 cap1 z1) (h2 : IArg w a2 len2 cap2 z2) :
    Calls Try.prog 4 #[.int .i64 a0, .slice a1 len1 cap1, .slice a2 len2 cap2] w fun e w' => e = .returned (.bool true) ∧ Below w.heap.size w w' := by
  have KW := hide (wakes_any w)
  have KN : Hid (∀ u cap, Below w.heap.size w u → 2 ≤ cap → cap ≤ 6 → _) := fun u cap hb hc1 hc2 => l_new w u hb cap (by omega) a1 len1 cap1 z1 h1.1 h1.2.1 h1.2.2.2
  have KS : Hid (∀ g dg u cap, KD w.heap.size w g dg (Cac.new cap z1) (Dev.new 64 8) u → 2 ≤ cap → cap ≤ 6 → _) := fun g dg u cap h hc1 hc2 => p_start h ⟨hc1, hc2⟩
  have KC : Hid (∀ g dg u k cap, PD w.heap.size w g dg cap 1 u → k < len2 → ∃ b off, a2 = some ⟨b, off, none⟩ ∧ u.cell? ⟨b, off + k, none⟩ = some (.int .i64 (z2[k]?.getD 0))) := by
    intro g dg u k cap hu hk
    obtain ⟨b, off, e, hcell⟩ := h2.1.2 (by omega)
    exact ⟨b, off, e, (hu.bel.cell (p := ⟨b, off + k, none⟩) (h2.1.lt (by omega) e)).trans (hcell k hk)⟩
  have hl2 := h2.2.1
  have hcp2 := h2.2.2.1
  generalize hB : w.heap.size = B at *
  clear h1 h2 hB
  generalize Dev.new 64 8 = D0 at *
  have hw0 := int_max w0
  clear w0
  go_enter Try.func4, Try.ntmps4
  go_wp2_with fail
  go_at_call 7
  refine (unhide KW).mono ?_
  rintro e w1 ⟨rfl, x1⟩
  have X1 := hide x1
  clear KW x1
  go_upto_region 3 with fail
  go_cut [27] (fun c wx => ∃ b : Bool, c = .bool b ∧ Hid (b = false → 2 ≤ a0 ∧ a0 ≤ 6) ∧ w1 = wx)
  case first =>
    by_cases hl : a0 < 2
    · go_wp2_with fail
      go_meet
      exact ⟨true, rfl, (fun h => by cases h), rfl⟩
    · by_cases hh : 6 < a0
      · go_wp2_with fail
        go_meet
        exact ⟨true, rfl, (fun h => by cases h), rfl⟩
      · go_wp2_with fail
        go_meet
        exact ⟨false, rfl, (fun _ => by omega), rfl⟩
  case rest =>

  obtain ⟨b, rfl, HB, rfl⟩ := hcut
  go_upto_if 27 with fail
  go_cut [0] (fun c wx => ∃ cap : Nat, 2 ≤ cap ∧ cap ≤ 6 ∧ c = .int .i64 (cap : Int) ∧ w1 = wx)
  case first =>
    cases b with
    | true =>
      go_wp2_with fail
      go_meet
      exact ⟨3, by omega, by omega, rfl, rfl⟩
    | false =>
      have hb := unhide HB rfl
      go_wp2_with fail
      go_meet
      exact ⟨a0.toNat, by omega, by omega, val_int (by omega), rfl⟩
  case rest =>
  obtain ⟨cap, hc1, hc2, rfl, rfl⟩ := hcut
  clear HB
  have K1 := hide (unhide KN w1 cap (unhide X1) hc1 hc2)
  clear KN X1 hw0
  go_wp2_with fail
  go_at_call 8
  refine (unhide K1).mono ?_
  rintro e u1 ⟨dg, rfl, K2⟩
  clear K1
  go_wp2_with fail
  go_at_call 9
  refine (unhide K2).mono ?_
  rintro e u2 ⟨g, rfl, X2⟩
  have K3 := hide (unhide KS g dg u2 cap (unhide X2) hc1 hc2)
  clear K2 KS X2
  go_wp2_with fail
  go_at_call 11
  refine (unhide K3).mono ?_
  rintro e u3 ⟨k3, rfl, K4⟩
  clear K3
  go_wp2_with fail
  go_at_call 10
  refine (unhide K4).mono ?_
  rintro e u4 ⟨rfl, K5⟩
  clear K4
  go_wp2_with fail
  go_at_call 21
  refine (unhide K5).mono ?_
  rintro e u5 ⟨rfl, X5⟩
  clear K5
  go_upto_region 14 with fail
  go_loopw [12] (fun i wr => ∃ k : Nat, k ≤ 60 ∧ i = .int .i64 (k : Int) ∧ Hid (PD B w g dg cap 1 wr)) (fun i _ => 60 - (intOf i).toNat)
  case atStart => exact ⟨0, by omega, rfl, X5⟩
  case round =>
    obtain ⟨k, hk, rfl, XR⟩ := hrel
    clear X5
    by_cases hlt : k < len2
    · by_cases h60 : k < 60
      · obtain ⟨b, off, rfl, ck⟩ := unhide KC g dg wr k cap (unhide XR) hlt
        generalize z2[k]?.getD 0 = z at *
        have hz8 : (z % 8).toNat < 8 := by omega
        have ha7 : bits .and .i64 z 7 = (((z % 8).toNat : Nat) : Int) := by rw [and7]; omega
        have KG := hide (p_get (unhide XR) (by omega) (z % 8).toNat hz8)
        have KH : Hid (∀ u, PD B w g dg cap 1 u → _) := fun u h => p_held h
        generalize (z % 8).toNat = zb at *
        clear XR KC
        go_wp2_with fail
        go_at_call 13
        refine (unhide KG).mono ?_
        rintro e v1 ⟨aa, cc, rfl, X1⟩
        have KH1 := hide (unhide KH v1 (unhide X1).2)
        clear KG KH X1 ck
        go_wp2_with fail
        go_at_call 15
        refine (unhide KH1).mono ?_
        rintro e v2 ⟨kb, ko, l, c, rfl, hl, c0, X2⟩
        clear KH1
        go_wp2_with fail
        go_roundw
        case rel => exact ⟨k + 1, by omega, by go_num, X2⟩
        case measure => simp [intOf]; omega
      · have KG := hide (p_get (unhide XR) (by omega) 0 (by omega))
        have KB : Hid (∀ u, PD B w g dg cap 1 u → _) := fun u h => p_busy h
        have KM : Hid (∀ u a c, PD B w g dg cap 1 u → Has u a 64 (fl 9) → Calls Try.prog 11 #[.int .u8 9] u fun e u1 => ∃ k, e = .returned (.slice (some ⟨k, 0, none⟩) 64 64) ∧ Hid (Calls Try.prog 14 #[.slice a 64 c, .slice (some ⟨k, 0, none⟩) 64 64] u1 fun e u2 => e = .returned (.bool true) ∧ u1 = u2) ∧ Hid (PD B w g dg cap 1 u1)) := by
          intro u a c hu ha
          obtain ⟨C, D, p1, p2⟩ := hu
          refine (l_same p2 (c := c) ha 9 rfl).mono ?_
          rintro e u1 ⟨k, rfl, y1, y2⟩
          exact ⟨k, rfl, y1, C, D, p1, y2⟩
        have KP : Hid (∀ u j, PD B w g dg cap j u → j < cap → _) := fun u j h hj => p_pin h hj
        have KE : Hid (∀ u, PD B w g dg cap cap u → _) := fun u h => p_end h
        clear XR KC
        go_wp2_with fail
        go_at_call 13
        refine (unhide KG).mono ?_
        rintro e v1 ⟨aa, cc, rfl, X1⟩
        have KB1 := hide (unhide KB v1 (unhide X1).2)
        clear KG KB
        go_wp2_with fail
        go_at_call 22
        refine (unhide KB1).mono ?_
        rintro e v2 ⟨rfl, rfl⟩
        have KM1 := hide (unhide KM v1 aa cc (unhide X1).2 ((unhide X1).1 trivial))
        clear KB1 KM X1
        go_wp2_with fail
        go_at_call 11
        refine (unhide KM1).mono ?_
        rintro e v3 ⟨k3, rfl, K4, X3⟩
        clear KM1
        go_wp2_with fail
        go_at_call 14
        refine (unhide K4).mono ?_
        rintro e v4 ⟨rfl, rfl⟩
        clear K4
        go_upto_region 25 with fail
        go_loopw [16] (fun i wr => ∃ j : Nat, j ≤ cap ∧ i = .int .i64 (j : Int) ∧ Hid (PD B w g dg cap j wr)) (fun i _ => 60 - (intOf i).toNat)
        case atStart => exact ⟨1, by omega, rfl, X3⟩
        case round =>
          obtain ⟨j, hj, rfl, XQ⟩ := hrel
          clear X3
          by_cases hjc : j < cap
          · have K5 := hide (unhide KP wr j (unhide XQ) hjc)
            clear KP KE XQ
            go_wp2_with fail
            go_at_call 13
            refine (unhide K5).mono ?_
            rintro e v5 ⟨a5, c5, rfl, K6⟩
            clear K5
            go_wp2_with fail
            go_at_call 21
            refine (unhide K6).mono ?_
            rintro e v6 ⟨rfl, X6⟩
            clear K6
            go_wp2_with fail
            go_roundw
            case rel => exact ⟨j + 1, by omega, by go_num, X6⟩
            case measure => simp [intOf]; omega
          · obtain rfl : j = cap := by omega
            have K5 := hide (unhide KE wr (unhide XQ))
            clear KP KE XQ
            go_wp2_with fail
            go_at_call 13
            refine (unhide K5).mono ?_
            rintro e v5 ⟨rfl, K6⟩
            clear K5
            go_wp2_with fail
            go_at_call 11
            refine (unhide K6).mono ?_
            rintro e v6 ⟨k6, rfl, K7⟩
            clear K6
            go_wp2_with fail
            go_at_call 10
            refine (unhide K7).mono ?_
            rintro e v7 ⟨rfl, K8⟩
            clear K7
            go_wp2_with fail
            go_at_call 23
            refine (unhide K8).mono ?_
            rintro e v8 ⟨rfl, K9, K10⟩
            clear K8
            go_wp2_with fail
            go_at_call 23
            refine (unhide K9).mono ?_
            rintro e v9 ⟨rfl, rfl⟩
            clear K9
            go_wp2_with fail
            go_at_call 22
            refine (unhide K10).mono ?_
            rintro e v10 ⟨rfl, K11⟩
            clear K10
            go_wp2_with fail
            go_at_call 13
            refine (unhide K11).mono ?_
            rintro e v11 ⟨a11, c11, rfl, X11⟩
            clear K11
            go_wp2_with fail
            go_ret
            exact ⟨rfl, unhide X11⟩
    · have KG := hide (p_get (unhide XR) (by omega) 0 (by omega))
      have KB : Hid (∀ u, PD B w g dg cap 1 u → _) := fun u h => p_busy h
      have KM : Hid (∀ u a c, PD B w g dg cap 1 u → Has u a 64 (fl 9) → Calls Try.prog 11 #[.int .u8 9] u fun e u1 => ∃ k, e = .returned (.slice (some ⟨k, 0, none⟩) 64 64) ∧ Hid (Calls Try.prog 14 #[.slice a 64 c, .slice (some ⟨k, 0, none⟩) 64 64] u1 fun e u2 => e = .returned (.bool true) ∧ u1 = u2) ∧ Hid (PD B w g dg cap 1 u1)) := by
        intro u a c hu ha
        obtain ⟨C, D, p1, p2⟩ := hu
        refine (l_same p2 (c := c) ha 9 rfl).mono ?_
        rintro e u1 ⟨k, rfl, y1, y2⟩
        exact ⟨k, rfl, y1, C, D, p1, y2⟩
      have KP : Hid (∀ u j, PD B w g dg cap j u → j < cap → _) := fun u j h hj => p_pin h hj
      have KE : Hid (∀ u, PD B w g dg cap cap u → _) := fun u h => p_end h
      clear XR KC
      go_wp2_with fail
      go_at_call 13
      refine (unhide KG).mono ?_
      rintro e v1 ⟨aa, cc, rfl, X1⟩
      have KB1 := hide (unhide KB v1 (unhide X1).2)
      clear KG KB
      go_wp2_with fail
      go_at_call 22
      refine (unhide KB1).mono ?_
      rintro e v2 ⟨rfl, rfl⟩
      have KM1 := hide (unhide KM v1 aa cc (unhide X1).2 ((unhide X1).1 trivial))
      clear KB1 KM X1
      go_wp2_with fail
      go_at_call 11
      refine (unhide KM1).mono ?_
      rintro e v3 ⟨k3, rfl, K4, X3⟩
      clear KM1
      go_wp2_with fail
      go_at_call 14
      refine (unhide K4).mono ?_
      rintro e v4 ⟨rfl, rfl⟩
      clear K4
      go_upto_region 25 with fail
      go_loopw [16] (fun i wr => ∃ j : Nat, j ≤ cap ∧ i = .int .i64 (j : Int) ∧ Hid (PD B w g dg cap j wr)) (fun i _ => 60 - (intOf i).toNat)
      case atStart => exact ⟨1, by omega, rfl, X3⟩
      case round =>
        obtain ⟨j, hj, rfl, XQ⟩ := hrel
        clear X3
        by_cases hjc : j < cap
        · have K5 := hide (unhide KP wr j (unhide XQ) hjc)
          clear KP KE XQ
          go_wp2_with fail
          go_at_call 13
          refine (unhide K5).mono ?_
          rintro e v5 ⟨a5, c5, rfl, K6⟩
          clear K5
          go_wp2_with fail
          go_at_call 21
          refine (unhide K6).mono ?_
          rintro e v6 ⟨rfl, X6⟩
          clear K6
          go_wp2_with fail
          go_roundw
          case rel => exact ⟨j + 1, by omega, by go_num, X6⟩
          case measure => simp [intOf]; omega
        · obtain rfl : j = cap := by omega
          have K5 := hide (unhide KE wr (unhide XQ))
          clear KP KE XQ
          go_wp2_with fail
          go_at_call 13
          refine (unhide K5).mono ?_
          rintro e v5 ⟨rfl, K6⟩
          clear K5
          go_wp2_with fail
          go_at_call 11
          refine (unhide K6).mono ?_
          rintro e v6 ⟨k6, rfl, K7⟩
          clear K6
          go_wp2_with fail
          go_at_call 10
          refine (unhide K7).mono ?_
          rintro e v7 ⟨rfl, K8⟩
          clear K7
          go_wp2_with fail
          go_at_call 23
          refine (unhide K8).mono ?_
          rintro e v8 ⟨rfl, K9, K10⟩
          clear K8
          go_wp2_with fail
          go_at_call 23
          refine (unhide K9).mono ?_
          rintro e v9 ⟨rfl, rfl⟩
          clear K9
          go_wp2_with fail
          go_at_call 22
          refine (unhide K10).mono ?_
          rintro e v10 ⟨rfl, K11⟩
          clear K10
          go_wp2_with fail
          go_at_call 13
          refine (unhide K11).mono ?_
          rintro e v11 ⟨a11, c11, rfl, X11⟩
          clear K11
          go_wp2_with fail
          go_ret
          exact ⟨rfl, unhide X11⟩

end Go.Proofs.Ytpkhllpghjldhaa
