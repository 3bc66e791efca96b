/- CodecHeads' walk. -/
import Derived.Test.YtmdkcoenjadieaaDoorCAns
import Derived.Test.YtmdkcoenjadieaaDoorCWakes
import Derived.Test.YtmdkcoenjadieaaDoorCOpenH
import Derived.Test.YtmdkcoenjadieaaDoorGSame
namespace Go.Proofs.YtmdkcoenjadieaaDoor
open Go.RowKit Go.Shelf
set_option linter.unusedVariables false
set_option maxRecDepth 100000

set_option maxHeartbeats 16000000 in
theorem heads_walk (P H : Nat → Int) (block : Int) (a : Option Addr) (len cap : Nat) (zs : List Int) (w : World) (hr : Row w.heap.size w a len cap zs) (hT : Tab w) :
    Calls Tryd.prog 3 #[Pv P, Hv H, .int .i64 block, .slice a len cap] w fun e w' => e = .returned (.bool true) ∧ Below w.heap.size w w' := by
  obtain ⟨E1, n1, L1, S1⟩ := super_ans P
  obtain ⟨E2, n2, L2, S2⟩ := header_ans H block
  obtain ⟨Q, q, S3⟩ := unsuper_ans a len cap zs
  obtain ⟨G, g, S4⟩ := unheader_ans a len cap zs
  have K1 := hide (fun u (hb : Below w.heap.size w u) => (S1 u (hT.below hb (tab_size hT))).1)
  have K2 := hide (fun u (hb : Below w.heap.size w u) => (S1 u (hT.below hb (tab_size hT))).2)
  have K3 := hide (fun u (hb : Below w.heap.size w u) => (S2 u (hT.below hb (tab_size hT))).1)
  have K4 := hide (fun u (hb : Below w.heap.size w u) => (S2 u (hT.below hb (tab_size hT))).2)
  have K5 := hide (fun u (hb : Below w.heap.size w u) => (S3 u (hT.below hb (tab_size hT)) (hr.below hb hb.size)).1)
  have K6 := hide (fun u (hb : Below w.heap.size w u) => (S3 u (hT.below hb (tab_size hT)) (hr.below hb hb.size)).2)
  have K7 := hide (fun u (hb : Below w.heap.size w u) => (S4 u (hT.below hb (tab_size hT)) (hr.below hb hb.size)).1)
  have K8 := hide (fun u (hb : Below w.heap.size w u) => (S4 u (hT.below hb (tab_size hT)) (hr.below hb hb.size)).2)
  have hq1 := fun u => eql_plan_yes (P := Q) (Q := Q) (fun _ _ => rfl) u
  have hq2 := fun u => eql_plan_yesH (P := G) (Q := G) (fun _ _ => rfl) u
  have HQ1 := hide hq1
  have HQ2 := hide hq2
  have KW := hide wakes_any
  have e0 : (w.alloc (.cells (Pc P) 23)).heap.size = w.heap.size + 1 := by simp
  have BP := hide ((Bl.new w (Pc P) 23).alloc (.cells (Hc H) 25))
  have BH : Hid (Bl ((w.alloc (.cells (Pc P) 23)).alloc (.cells (Hc H) 25)) (w.heap.size + 1) (Hc H) 25) := by
    have := Bl.new (w.alloc (.cells (Pc P) 23)) (Hc H) 25
    rwa [e0] at this
  have HB := hide (((Below.refl _ w).alloc (Nat.le_refl _) (.cells (Pc P) 23)).alloc (by simp) (.cells (Hc H) 25))
  clear hr hT S1 S2 S3 S4 hq1 hq2 e0
  go_enter Tryd.func3, Tryd.ntmps3
  go_wp2_with fail
  go_at_call 8
  refine (unhide KW _).mono ?_
  rintro e w1 ⟨rfl, hb⟩
  replace BP := hide (BP.out.call hb)
  replace BH := hide (BH.out.call hb)
  replace HB := hide (bchain HB.out hb (Nat.le_refl _))
  clear hb KW
  have p0 := BP.out.cell 0 _ rfl
  have p1 := BP.out.cell 1 _ rfl
  have p2 := BP.out.cell 2 _ rfl
  have p3 := BP.out.cell 3 _ rfl
  have p4 := BP.out.cell 4 _ rfl
  have p5 := BP.out.cell 5 _ rfl
  have p6 := BP.out.cell 6 _ rfl
  have p7 := BP.out.cell 7 _ rfl
  have p8 := BP.out.cell 8 _ rfl
  have p9 := BP.out.cell 9 _ rfl
  have p10 := BP.out.cell 10 _ rfl
  have p11 := BP.out.cell 11 _ rfl
  go_wp2_with fail
  go_at_call 9
  refine Calls.mono (unhide K1 _ HB.out) ?_
  rintro e w2 ⟨a1, c1, rfl, h1, hb⟩
  replace BP := hide (BP.out.call hb)
  replace BH := hide (BH.out.call hb)
  replace HB := hide (bchain HB.out hb (Nat.le_refl _))
  clear hb K1 p0 p1 p2 p3 p4 p5 p6 p7 p8 p9 p10 p11
  have p0 := BP.out.cell 0 _ rfl
  have p1 := BP.out.cell 1 _ rfl
  have p2 := BP.out.cell 2 _ rfl
  have p3 := BP.out.cell 3 _ rfl
  have p4 := BP.out.cell 4 _ rfl
  have p5 := BP.out.cell 5 _ rfl
  have p6 := BP.out.cell 6 _ rfl
  have p7 := BP.out.cell 7 _ rfl
  have p8 := BP.out.cell 8 _ rfl
  have p9 := BP.out.cell 9 _ rfl
  have p10 := BP.out.cell 10 _ rfl
  have p11 := BP.out.cell 11 _ rfl
  go_wp2_with fail
  go_at_call 10
  refine Calls.mono (unhide K2 _ HB.out) ?_
  rintro e w3 ⟨a2, c2, rfl, h2, hb⟩
  replace BP := hide (BP.out.call hb)
  replace BH := hide (BH.out.call hb)
  replace HB := hide (bchain HB.out hb (Nat.le_refl _))
  replace h1 := hide (h1.out.later hb)
  clear hb K2 p0 p1 p2 p3 p4 p5 p6 p7 p8 p9 p10 p11
  have p0 := BH.out.cell 0 _ rfl
  have p1 := BH.out.cell 1 _ rfl
  have p2 := BH.out.cell 2 _ rfl
  go_wp2_with fail
  go_at_call 11
  refine Calls.mono (unhide K3 _ HB.out) ?_
  rintro e w4 ⟨a3, c3, rfl, h3, hb⟩
  replace BP := hide (BP.out.call hb)
  replace BH := hide (BH.out.call hb)
  replace HB := hide (bchain HB.out hb (Nat.le_refl _))
  replace h1 := hide (h1.out.later hb)
  replace h2 := hide (h2.out.later hb)
  clear hb K3 p0 p1 p2
  have p0 := BH.out.cell 0 _ rfl
  have p1 := BH.out.cell 1 _ rfl
  have p2 := BH.out.cell 2 _ rfl
  go_wp2_with fail
  go_at_call 12
  refine Calls.mono (unhide K4 _ HB.out) ?_
  rintro e w5 ⟨a4, c4, rfl, h4, hb⟩
  replace BP := hide (BP.out.call hb)
  replace BH := hide (BH.out.call hb)
  replace HB := hide (bchain HB.out hb (Nat.le_refl _))
  replace h1 := hide (h1.out.later hb)
  replace h2 := hide (h2.out.later hb)
  replace h3 := hide (h3.out.later hb)
  clear hb K4 p0 p1 p2
  clear BP BH
  go_wp2_with fail
  go_at_call 13
  refine Calls.mono (unhide K5 _ HB.out) ?_
  rintro e w6 ⟨rfl, hb⟩
  replace HB := hide ((bchain HB.out hb (Nat.le_refl _)).alloc (bchain HB.out hb (Nat.le_refl _)).size (.cells (Pc Q) 23))
  replace h1 := hide ((h1.out.later hb).later ((Below.refl _ _).alloc (Nat.le_refl _) (.cells (Pc Q) 23)))
  replace h2 := hide ((h2.out.later hb).later ((Below.refl _ _).alloc (Nat.le_refl _) (.cells (Pc Q) 23)))
  replace h3 := hide ((h3.out.later hb).later ((Below.refl _ _).alloc (Nat.le_refl _) (.cells (Pc Q) 23)))
  replace h4 := hide ((h4.out.later hb).later ((Below.refl _ _).alloc (Nat.le_refl _) (.cells (Pc Q) 23)))
  have b5 := hide (Bl.new w6 (Pc Q) 23)
  clear hb K5
  go_upto_region 8 with fail
  change Code.wp _ _ _ _ (w6.alloc (.cells (Pc Q) 23))
  generalize w6.alloc (.cells (Pc Q) 23) = v6 at *
  generalize w6.heap.size = g6 at *
  go_wp2_with fail
  go_at_call 14
  refine Calls.mono (unhide K6 _ HB.out) ?_
  rintro e w7 ⟨rfl, hb⟩
  replace HB := hide ((bchain HB.out hb (Nat.le_refl _)).alloc (bchain HB.out hb (Nat.le_refl _)).size (.cells (Pc Q) 23))
  replace h1 := hide ((h1.out.later hb).later ((Below.refl _ _).alloc (Nat.le_refl _) (.cells (Pc Q) 23)))
  replace h2 := hide ((h2.out.later hb).later ((Below.refl _ _).alloc (Nat.le_refl _) (.cells (Pc Q) 23)))
  replace h3 := hide ((h3.out.later hb).later ((Below.refl _ _).alloc (Nat.le_refl _) (.cells (Pc Q) 23)))
  replace h4 := hide ((h4.out.later hb).later ((Below.refl _ _).alloc (Nat.le_refl _) (.cells (Pc Q) 23)))
  replace b5 := hide ((b5.out.call hb).alloc (.cells (Pc Q) 23))
  have b6 := hide (Bl.new w7 (Pc Q) 23)
  clear hb K6
  go_upto_region 9 with fail
  change Code.wp _ _ _ _ (w7.alloc (.cells (Pc Q) 23))
  generalize w7.alloc (.cells (Pc Q) 23) = v7 at *
  generalize w7.heap.size = g7 at *
  go_wp2_with fail
  go_at_call 15
  refine Calls.mono (unhide K7 _ HB.out) ?_
  rintro e w8 ⟨rfl, hb⟩
  replace HB := hide ((bchain HB.out hb (Nat.le_refl _)).alloc (bchain HB.out hb (Nat.le_refl _)).size (.cells (Hc G) 25))
  replace h1 := hide ((h1.out.later hb).later ((Below.refl _ _).alloc (Nat.le_refl _) (.cells (Hc G) 25)))
  replace h2 := hide ((h2.out.later hb).later ((Below.refl _ _).alloc (Nat.le_refl _) (.cells (Hc G) 25)))
  replace h3 := hide ((h3.out.later hb).later ((Below.refl _ _).alloc (Nat.le_refl _) (.cells (Hc G) 25)))
  replace h4 := hide ((h4.out.later hb).later ((Below.refl _ _).alloc (Nat.le_refl _) (.cells (Hc G) 25)))
  replace b5 := hide ((b5.out.call hb).alloc (.cells (Hc G) 25))
  replace b6 := hide ((b6.out.call hb).alloc (.cells (Hc G) 25))
  have b7 := hide (Bl.new w8 (Hc G) 25)
  clear hb K7
  go_upto_region 10 with fail
  change Code.wp _ _ _ _ (w8.alloc (.cells (Hc G) 25))
  generalize w8.alloc (.cells (Hc G) 25) = v8 at *
  generalize w8.heap.size = g8 at *
  go_wp2_with fail
  go_at_call 16
  refine Calls.mono (unhide K8 _ HB.out) ?_
  rintro e w9 ⟨rfl, hb⟩
  replace HB := hide ((bchain HB.out hb (Nat.le_refl _)).alloc (bchain HB.out hb (Nat.le_refl _)).size (.cells (Hc G) 25))
  replace h1 := hide ((h1.out.later hb).later ((Below.refl _ _).alloc (Nat.le_refl _) (.cells (Hc G) 25)))
  replace h2 := hide ((h2.out.later hb).later ((Below.refl _ _).alloc (Nat.le_refl _) (.cells (Hc G) 25)))
  replace h3 := hide ((h3.out.later hb).later ((Below.refl _ _).alloc (Nat.le_refl _) (.cells (Hc G) 25)))
  replace h4 := hide ((h4.out.later hb).later ((Below.refl _ _).alloc (Nat.le_refl _) (.cells (Hc G) 25)))
  replace b5 := hide ((b5.out.call hb).alloc (.cells (Hc G) 25))
  replace b6 := hide ((b6.out.call hb).alloc (.cells (Hc G) 25))
  replace b7 := hide ((b7.out.call hb).alloc (.cells (Hc G) 25))
  have b8 := hide (Bl.new w9 (Hc G) 25)
  clear hb K8
  go_upto_region 11 with fail
  change Code.wp _ _ _ _ (w9.alloc (.cells (Hc G) 25))
  generalize w9.alloc (.cells (Hc G) 25) = v9 at *
  generalize w9.heap.size = g9 at *
  have KA := hide (same_true a1 a2 n1 c1 c2 L1 v9 h1.out h2.out)
  have KB := hide (same_true a3 a4 n2 c3 c4 L2 v9 h3.out h4.out)
  clear h1 h2 h3 h4
  go_wp2_with fail
  go_at_call 17
  refine (unhide KA).mono ?_
  rintro e w' ⟨rfl, rfl⟩
  clear KA
  go_wp2_with fail
  go_at_call 17
  refine (unhide KB).mono ?_
  rintro e w' ⟨rfl, rfl⟩
  clear KB
  have y1 := HQ1.out v9
  have y2 := HQ2.out v9
  have x0 := b5.out.cell 0 _ rfl
  have x1 := b5.out.cell 1 _ rfl
  have x2 := b5.out.cell 2 _ rfl
  have x3 := b5.out.cell 3 _ rfl
  have x4 := b5.out.cell 4 _ rfl
  have x5 := b5.out.cell 5 _ rfl
  have x6 := b5.out.cell 6 _ rfl
  have x7 := b5.out.cell 7 _ rfl
  have x8 := b5.out.cell 8 _ rfl
  have x9 := b5.out.cell 9 _ rfl
  have x10 := b5.out.cell 10 _ rfl
  have x11 := b5.out.cell 11 _ rfl
  have y0 := b6.out.cell 0 _ rfl
  have yy1 := b6.out.cell 1 _ rfl
  have yy2 := b6.out.cell 2 _ rfl
  have y3 := b6.out.cell 3 _ rfl
  have y4 := b6.out.cell 4 _ rfl
  have y5 := b6.out.cell 5 _ rfl
  have y6 := b6.out.cell 6 _ rfl
  have y7 := b6.out.cell 7 _ rfl
  have y8 := b6.out.cell 8 _ rfl
  have y9 := b6.out.cell 9 _ rfl
  have y10 := b6.out.cell 10 _ rfl
  have y11 := b6.out.cell 11 _ rfl
  have s0 := b7.out.cell 0 _ rfl
  have s1 := b7.out.cell 1 _ rfl
  have s2 := b7.out.cell 2 _ rfl
  have t0 := b8.out.cell 0 _ rfl
  have t1 := b8.out.cell 1 _ rfl
  have t2 := b8.out.cell 2 _ rfl
  go_wp2_with fail
  go_ret
  exact ⟨rfl, HB.out⟩

end Go.Proofs.YtmdkcoenjadieaaDoor
