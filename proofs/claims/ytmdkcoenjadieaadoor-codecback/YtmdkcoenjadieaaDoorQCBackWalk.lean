/- CodecBack's walk. -/
import Derived.Test.YtmdkcoenjadieaaDoorQJ39
import Derived.Test.YtmdkcoenjadieaaDoorQJ25
import Derived.Test.YtmdkcoenjadieaaDoorQCOpenH
import Derived.Test.YtmdkcoenjadieaaDoorQJ33
import Derived.Test.YtmdkcoenjadieaaDoorQJ7
namespace Go.Proofs.YtmdkcoenjadieaaDoor
open Go.RowKit Go.Shelf
set_option linter.unusedVariables false
set_option maxRecDepth 100000

/-- The four values that came in, boxed. -/
def JB (w : World) (P H X Z : Nat → Int) (s : ByteArray) (u : World) : Prop := Below w.heap.size w u ∧ Bl u w.heap.size (Pc P) 23 ∧ Bl u (w.heap.size + 1) (Hc H) 25 ∧ Bl u (w.heap.size + 2) (Ic X) 55 ∧ Bl u (w.heap.size + 3) (Rc Z s) 48

theorem JB.call {w u u' : World} {P H X Z : Nat → Int} {s : ByteArray} (h : JB w P H X Z s u) (hb : Below u.heap.size u u') : JB w P H X Z s u' := ⟨bchain h.1 hb (Nat.le_refl _), h.2.1.call hb, h.2.2.1.call hb, h.2.2.2.1.call hb, h.2.2.2.2.call hb⟩

theorem JB.alloc {w u : World} {P H X Z : Nat → Int} {s : ByteArray} (h : JB w P H X Z s u) (o : Obj) : JB w P H X Z s (u.alloc o) := h.call ((Below.refl _ u).alloc (Nat.le_refl _) o)

theorem JB.start (w : World) (P H X Z : Nat → Int) (s : ByteArray) : JB w P H X Z s ((((w.alloc (.cells (Pc P) 23)).alloc (.cells (Hc H) 25)).alloc (.cells (Ic X) 55)).alloc (.cells (Rc Z s) 48)) := by
  have e1 : (w.alloc (.cells (Pc P) 23)).heap.size = w.heap.size + 1 := by simp
  have e2 : ((w.alloc (.cells (Pc P) 23)).alloc (.cells (Hc H) 25)).heap.size = w.heap.size + 2 := by simp
  have e3 : (((w.alloc (.cells (Pc P) 23)).alloc (.cells (Hc H) 25)).alloc (.cells (Ic X) 55)).heap.size = w.heap.size + 3 := by simp
  have b1 := Bl.new w (Pc P) 23
  have b2 := Bl.new (w.alloc (.cells (Pc P) 23)) (Hc H) 25
  rw [e1] at b2
  have b3 := Bl.new ((w.alloc (.cells (Pc P) 23)).alloc (.cells (Hc H) 25)) (Ic X) 55
  rw [e2] at b3
  have b4 := Bl.new (((w.alloc (.cells (Pc P) 23)).alloc (.cells (Hc H) 25)).alloc (.cells (Ic X) 55)) (Rc Z s) 48
  rw [e3] at b4
  exact ⟨((((Below.refl _ w).alloc (Nat.le_refl _) _).alloc (by simp) _).alloc (by simp; omega) _).alloc (by simp; omega) _, ((b1.alloc _).alloc _).alloc _, (b2.alloc _).alloc _, b3.alloc _, b4⟩

set_option maxHeartbeats 32000000 in
theorem back_walk (P H X Z : Nat → Int) (s : ByteArray) (a : Option Addr) (len cap : Nat) (zs : List Int) (w : World) (hr : Row w.heap.size w a len cap zs) (hs : s.size ≤ 140737488351232) (hT : Tab w) :
    Calls Tryd.prog 6 #[Pv P, Hv H, Iv X, Rv Z s, .slice a len cap] w fun e w' => e = .returned (.bool true) ∧ Below w.heap.size w w' := by
  obtain ⟨E1, S1⟩ := super_bk P
  obtain ⟨E2, S2⟩ := header_bk H
  obtain ⟨E3, S3⟩ := inode_bk X
  obtain ⟨E4, S4⟩ := record_bk Z s hs
  obtain ⟨Y, q5, S5⟩ := uninode_bk a len cap zs
  obtain ⟨I, S, q6, S6⟩ := undirent_bk a len cap zs
  have K1 := hide (fun u (hb : Below w.heap.size w u) => S1 u (hT.below hb (tab_size hT)))
  have K2 := hide (fun u (hb : Below w.heap.size w u) => S2 u (hT.below hb (tab_size hT)))
  have K3 := hide (fun u (hb : Below w.heap.size w u) => S3 u)
  have K4 := hide (fun u (hb : Below w.heap.size w u) => S4 u (hT.below hb (tab_size hT)))
  have K5 := hide (fun u (hb : Below w.heap.size w u) => S5 u (hr.below hb hb.size))
  have K6 := hide (fun u (hb : Below w.heap.size w u) => S6 u (hr.below hb hb.size))
  have HR := hide (fun u (hb : Below w.heap.size w u) => (hr.has.later hb))
  have NP : Hid (∀ u : World, (binOp .neq 23 (Pv P) (Pv P)).run Tryd.prog u = .ok (.bool false) u) := fun u => neq_plan_no (fun _ _ => rfl) u
  have NH : Hid (∀ u : World, (binOp .neq 25 (Hv H) (Hv H)).run Tryd.prog u = .ok (.bool false) u) := fun u => neq_plan_noH (fun _ _ => rfl) u
  have NX : Hid (∀ u : World, (binOp .neq 55 (Iv X) (Iv X)).run Tryd.prog u = .ok (.bool false) u) := fun u => by
    have := neq_inode X X u
    rwa [inoSame_refl] at this
  have NR : Hid (∀ u : World, (binOp .neq 48 (Rv Z s) (Rv Z s)).run Tryd.prog u = .ok (.bool false) u) := fun u => neq_record Z s u
  have KW := hide wakes_any
  have J := hide (JB.start w P H X Z s)
  clear hr hs hT S1 S2 S3 S4 S5 S6
  go_enter Tryd.func6, Tryd.ntmps6
  go_wp2_with fail
  go_at_call 8
  refine (unhide KW _).mono ?_
  rintro e w1 ⟨rfl, hb⟩
  replace J := hide (J.out.call hb)
  clear hb KW
  have p0 := J.out.2.1.cell 0 _ rfl
  have p1 := J.out.2.1.cell 1 _ rfl
  have p2 := J.out.2.1.cell 2 _ rfl
  have p3 := J.out.2.1.cell 3 _ rfl
  have p4 := J.out.2.1.cell 4 _ rfl
  have p5 := J.out.2.1.cell 5 _ rfl
  have p6 := J.out.2.1.cell 6 _ rfl
  have p7 := J.out.2.1.cell 7 _ rfl
  have p8 := J.out.2.1.cell 8 _ rfl
  have p9 := J.out.2.1.cell 9 _ rfl
  have p10 := J.out.2.1.cell 10 _ rfl
  have p11 := J.out.2.1.cell 11 _ rfl
  go_wp2_with fail
  go_at_call 9
  refine Calls.mono (unhide K1 _ J.out.1) ?_
  rintro e w2 ⟨a1, n1, c1, rfl, h1, hb⟩
  replace J := hide (J.out.call hb)
  clear hb K1 p0 p1 p2 p3 p4 p5 p6 p7 p8 p9 p10 p11
  go_upto_if 39 with fail
  go_cut [] (fun wx => Hid (JB w P H X Z s wx))
  case first =>
    by_cases hE : E1 = 0
    · have hE' : (E1 == 0) = true := by simp [hE]
      obtain ⟨hn, kr⟩ := h1.out hE
      have KR := hide kr
      have hl : ((n1 : Int) != P 0) = false := by simpa using hn
      clear h1 hE kr hn
      go_wp2_with fail
      go_at_call 13
      refine Calls.mono (unhide KR _ (Below.refl _ _)) ?_
      rintro e w3 ⟨rfl, hb⟩
      replace J := hide ((J.out.call hb).alloc (.cells (Pc P) 23))
      clear hb KR
      have hne := NP.out
      have p0 := J.out.2.1.cell 0 _ rfl
      have p1 := J.out.2.1.cell 1 _ rfl
      have p2 := J.out.2.1.cell 2 _ rfl
      have p3 := J.out.2.1.cell 3 _ rfl
      have p4 := J.out.2.1.cell 4 _ rfl
      have p5 := J.out.2.1.cell 5 _ rfl
      have p6 := J.out.2.1.cell 6 _ rfl
      have p7 := J.out.2.1.cell 7 _ rfl
      have p8 := J.out.2.1.cell 8 _ rfl
      have p9 := J.out.2.1.cell 9 _ rfl
      have p10 := J.out.2.1.cell 10 _ rfl
      have p11 := J.out.2.1.cell 11 _ rfl
      go_wp2_with fail
      go_meet
      exact J
    · have hE' : (E1 == 0) = false := by simpa using hE
      clear h1 hE
      go_wp2_with fail
      go_meet
      exact J
  case rest =>
    replace J := hcut
    clear hcut NP
    have p0 := J.out.2.2.1.cell 0 _ rfl
    have p1 := J.out.2.2.1.cell 1 _ rfl
    have p2 := J.out.2.2.1.cell 2 _ rfl
    go_wp2_with fail
    go_at_call 11
    refine Calls.mono (unhide K2 _ J.out.1) ?_
    rintro e w2 ⟨a1, n1, c1, rfl, h1, hb⟩
    replace J := hide (J.out.call hb)
    clear hb K2 p0 p1 p2
    go_upto_if 65 with fail
    go_cut [] (fun wx => Hid (JB w P H X Z s wx))
    case first =>
      by_cases hE : E2 = 0
      · have hE' : (E2 == 0) = true := by simp [hE]
        obtain ⟨hn, kr⟩ := h1.out hE
        have KR := hide kr
        have hl : ((n1 : Int) != 64) = false := by simpa using hn
        clear h1 hE kr hn
        go_wp2_with fail
        go_at_call 15
        refine Calls.mono (unhide KR _ (Below.refl _ _)) ?_
        rintro e w3 ⟨rfl, hb⟩
        replace J := hide ((J.out.call hb).alloc (.cells (Hc H) 25))
        clear hb KR
        have hne := NH.out
        have p0 := J.out.2.2.1.cell 0 _ rfl
        have p1 := J.out.2.2.1.cell 1 _ rfl
        have p2 := J.out.2.2.1.cell 2 _ rfl
        go_wp2_with fail
        go_meet
        exact J
      · have hE' : (E2 == 0) = false := by simpa using hE
        clear h1 hE
        go_wp2_with fail
        go_meet
        exact J
    case rest =>
      replace J := hcut
      clear hcut NH
      have p0 := J.out.2.2.2.1.cell 0 _ rfl
      have p1 := J.out.2.2.2.1.cell 1 _ rfl
      have p2 := J.out.2.2.2.1.cell 2 _ rfl
      have p3 := J.out.2.2.2.1.cell 3 _ rfl
      have p4 := J.out.2.2.2.1.cell 4 _ rfl
      have p5 := J.out.2.2.2.1.cell 5 _ rfl
      have p6 := J.out.2.2.2.1.cell 6 _ rfl
      have p7 := J.out.2.2.2.1.cell 7 _ rfl
      have p8 := J.out.2.2.2.1.cell 8 _ rfl
      have p9 := J.out.2.2.2.1.cell 9 _ rfl
      have p10 := J.out.2.2.2.1.cell 10 _ rfl
      have p11 := J.out.2.2.2.1.cell 11 _ rfl
      have p12 := J.out.2.2.2.1.cell 12 _ rfl
      go_wp2_with fail
      go_at_call 27
      refine Calls.mono (unhide K3 _ J.out.1) ?_
      rintro e w2 ⟨a1, n1, c1, rfl, h1, hb⟩
      replace J := hide (J.out.call hb)
      clear hb K3 p0 p1 p2 p3 p4 p5 p6 p7 p8 p9 p10 p11 p12
      go_upto_if 89 with fail
      go_cut [] (fun wx => Hid (JB w P H X Z s wx))
      case first =>
        by_cases hE : E3 = 0
        · have hE' : (E3 == 0) = true := by simp [hE]
          obtain ⟨hn, kr⟩ := h1.out hE
          have KR := hide kr
          have hl : ((n1 : Int) != 32) = false := by simpa using hn
          clear h1 hE kr hn
          go_wp2_with fail
          go_at_call 28
          refine Calls.mono (unhide KR _ (Below.refl _ _)) ?_
          rintro e w3 ⟨rfl, hb⟩
          replace J := hide ((J.out.call hb).alloc (.cells (Ic X) 55))
          clear hb KR
          have hne := NX.out
          have p0 := J.out.2.2.2.1.cell 0 _ rfl
          have p1 := J.out.2.2.2.1.cell 1 _ rfl
          have p2 := J.out.2.2.2.1.cell 2 _ rfl
          have p3 := J.out.2.2.2.1.cell 3 _ rfl
          have p4 := J.out.2.2.2.1.cell 4 _ rfl
          have p5 := J.out.2.2.2.1.cell 5 _ rfl
          have p6 := J.out.2.2.2.1.cell 6 _ rfl
          have p7 := J.out.2.2.2.1.cell 7 _ rfl
          have p8 := J.out.2.2.2.1.cell 8 _ rfl
          have p9 := J.out.2.2.2.1.cell 9 _ rfl
          have p10 := J.out.2.2.2.1.cell 10 _ rfl
          have p11 := J.out.2.2.2.1.cell 11 _ rfl
          have p12 := J.out.2.2.2.1.cell 12 _ rfl
          go_wp2_with fail
          go_meet
          exact J
        · have hE' : (E3 == 0) = false := by simpa using hE
          clear h1 hE
          go_wp2_with fail
          go_meet
          exact J
      case rest =>
        replace J := hcut
        clear hcut NX
        have p0 := J.out.2.2.2.2.cell 0 _ rfl
        have p1 := J.out.2.2.2.2.cell 1 _ rfl
        have p2 := J.out.2.2.2.2.cell 2 _ rfl
        have p3 := J.out.2.2.2.2.cell 3 _ rfl
        have p4 := J.out.2.2.2.2.cell 4 _ rfl
        have p5 := J.out.2.2.2.2.cell 5 _ rfl
        have p6 := J.out.2.2.2.2.cell 6 _ rfl
        have p7 := J.out.2.2.2.2.cell 7 _ rfl
        have p8 := J.out.2.2.2.2.cell 8 _ rfl
        go_wp2_with fail
        go_at_call 23
        refine Calls.mono (unhide K4 _ J.out.1) ?_
        rintro e w2 ⟨a1, n1, c1, rfl, h1, hb⟩
        replace J := hide (J.out.call hb)
        clear hb K4 p0 p1 p2 p3 p4 p5 p6 p7 p8
        go_upto_if 113 with fail
        go_cut [] (fun wx => Hid (JB w P H X Z s wx))
        case first =>
          by_cases hE : E4 = 0
          · have hE' : (E4 == 0) = true := by simp [hE]
            obtain ⟨hn, kr⟩ := h1.out hE
            have KR := hide kr
            have hl : ((n1 : Int) != (n1 : Int)) = false := by simp
            clear h1 hE kr hn
            go_wp2_with fail
            go_at_call 25
            refine Calls.mono (unhide KR _ (Below.refl _ _)) ?_
            rintro e w3 ⟨rfl, hb⟩
            replace J := hide ((J.out.call hb).alloc (.cells (Rc Z s) 48))
            clear hb KR
            have hne := NR.out
            have p0 := J.out.2.2.2.2.cell 0 _ rfl
            have p1 := J.out.2.2.2.2.cell 1 _ rfl
            have p2 := J.out.2.2.2.2.cell 2 _ rfl
            have p3 := J.out.2.2.2.2.cell 3 _ rfl
            have p4 := J.out.2.2.2.2.cell 4 _ rfl
            have p5 := J.out.2.2.2.2.cell 5 _ rfl
            have p6 := J.out.2.2.2.2.cell 6 _ rfl
            have p7 := J.out.2.2.2.2.cell 7 _ rfl
            have p8 := J.out.2.2.2.2.cell 8 _ rfl
            go_wp2_with fail
            go_meet
            exact J
          · have hE' : (E4 == 0) = false := by simpa using hE
            clear h1 hE
            go_wp2_with fail
            go_meet
            exact J
        case rest =>
          replace J := hcut
          clear hcut NR
          go_wp2_with fail
          go_at_call 28
          refine Calls.mono (unhide K5 _ J.out.1).1 ?_
          rintro e w2 ⟨rfl, hb⟩
          have h1 := hide ((unhide K5 _ J.out.1).2)
          replace J := hide ((J.out.call hb).alloc (.cells (Ic Y) 55))
          have B := hide (Bl.new w2 (Ic Y) 55)
          clear hb K5
          go_upto_if 139 with fail
          change Code.wp _ _ _ _ (w2.alloc (.cells (Ic Y) 55))
          generalize w2.alloc (.cells (Ic Y) 55) = W at *
          generalize w2.heap.size = g1 at *
          go_cut [] (fun wx => Hid (JB w P H X Z s wx))
          case first =>
            by_cases hE : q5 = 0
            · have hE' : (q5 == 0) = true := by simp [hE]
              obtain ⟨hl, kr⟩ := h1.out hE
              have KR := hide kr
              have HL := hide hl
              clear h1 hE kr hl
              have y0 := B.out.cell 0 _ rfl
              have y1 := B.out.cell 1 _ rfl
              have y2 := B.out.cell 2 _ rfl
              have y3 := B.out.cell 3 _ rfl
              have y4 := B.out.cell 4 _ rfl
              have y5 := B.out.cell 5 _ rfl
              have y6 := B.out.cell 6 _ rfl
              have y7 := B.out.cell 7 _ rfl
              have y8 := B.out.cell 8 _ rfl
              have y9 := B.out.cell 9 _ rfl
              have y10 := B.out.cell 10 _ rfl
              have y11 := B.out.cell 11 _ rfl
              have y12 := B.out.cell 12 _ rfl
              go_wp2_with fail
              go_at_call 27
              refine (unhide KR _).mono ?_
              rintro e w3 ⟨a3, c3, rfl, h3, hb⟩
              replace J := hide (J.out.call hb)
              have KS : Hid (Calls Tryd.prog 17 #[.slice a3 32 c3, .slice a len cap] w3 fun e w' => e = .returned (.bool true) ∧ w3 = w') := by
                have hz := HR.out w3 J.out.1
                have hl := HL.out
                subst hl
                exact same_true a3 a 32 c3 cap zs w3 h3.out hz
              clear hb KR h3 y0 y1 y2 y3 y4 y5 y6 y7 y8 y9 y10 y11 y12
              go_wp2_with fail
              go_at_call 17
              refine (unhide KS).mono ?_
              rintro e w' ⟨rfl, rfl⟩
              clear KS
              go_wp2_with fail
              go_meet
              exact J
            · have hE' : (q5 == 0) = false := by simpa using hE
              clear h1 hE
              go_wp2_with fail
              go_meet
              exact J
          case rest =>
            replace J := hcut
            clear hcut
            go_wp2_with fail
            go_at_call 29
            refine Calls.mono (unhide K6 _ J.out.1).1 ?_
            rintro e w2 ⟨rfl, hb⟩
            have h1 := hide ((unhide K6 _ J.out.1).2)
            replace J := hide ((J.out.call hb).alloc (.cells (Dc I S) 60))
            have B := hide (Bl.new w2 (Dc I S) 60)
            clear hb K6
            go_upto_if 159 with fail
            change Code.wp _ _ _ _ (w2.alloc (.cells (Dc I S) 60))
            generalize w2.alloc (.cells (Dc I S) 60) = W at *
            generalize w2.heap.size = g1 at *
            go_cut [] (fun wx => Hid (JB w P H X Z s wx))
            case first =>
              by_cases hE : q6 = 0
              · have hE' : (q6 == 0) = true := by simp [hE]
                obtain ⟨hl, kr⟩ := h1.out hE
                have KR := hide kr
                have HL := hide hl
                clear h1 hE kr hl
                have y0 := B.out.cell 0 _ rfl
                have y1 := B.out.cell 1 _ rfl
                go_wp2_with fail
                go_at_call 30
                refine (unhide KR _).mono ?_
                rintro e w3 ⟨a3, c3, rfl, h3, hb⟩
                replace J := hide (J.out.call hb)
                have KS : Hid (Calls Tryd.prog 17 #[.slice a3 16 c3, .slice a len cap] w3 fun e w' => e = .returned (.bool true) ∧ w3 = w') := by
                  have hz := HR.out w3 J.out.1
                  have hl := HL.out
                  subst hl
                  exact same_true a3 a 16 c3 cap zs w3 h3.out hz
                clear hb KR h3 y0 y1
                go_wp2_with fail
                go_at_call 17
                refine (unhide KS).mono ?_
                rintro e w' ⟨rfl, rfl⟩
                clear KS
                go_wp2_with fail
                go_meet
                exact J
              · have hE' : (q6 == 0) = false := by simpa using hE
                clear h1 hE
                go_wp2_with fail
                go_meet
                exact J
            case rest =>
              replace J := hcut
              clear hcut
              go_wp2_with fail
              go_ret
              exact ⟨rfl, J.out.1⟩

end Go.Proofs.YtmdkcoenjadieaaDoor
