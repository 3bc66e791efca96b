/- CodecInodes' walk. -/
import Derived.Test.YtmdkcoenjadieaaCRUnD
import Derived.Test.YtmdkcoenjadieaaCWakes
import Derived.Test.YtmdkcoenjadieaaGSame
import Derived.Deep.RegionHeld3
namespace Go.Proofs.Ytmdkcoenjadieaa
open Go.RowKit Go.Shelf
set_option linter.unusedVariables false
set_option maxRecDepth 100000

set_option maxHeartbeats 16000000 in
theorem inodes_walk (X : Nat → Int) (i : Int) (s : ByteArray) (a : Option Addr) (len cap : Nat) (zs : List Int) (w : World) (hr : Row w.heap.size w a len cap zs) (hm : s.size ≤ 9223372036854775807) :
    Calls Try.prog 3 #[Iv X, Dv i s, .slice a len cap] w fun e w' => e = .returned (.bool true) ∧ Below w.heap.size w w' := by
  obtain ⟨E1, n1, L1, S1⟩ := inode_ans X
  obtain ⟨E2, n2, L2, S2⟩ := dirent_ans i s hm
  obtain ⟨Q, q, S3⟩ := uninode_ans a len cap zs
  obtain ⟨I, S, g, S4⟩ := undirent_ans a len cap zs
  have K1 := hide (fun u (hb : Below w.heap.size w u) => (S1 u).1)
  have K2 := hide (fun u (hb : Below w.heap.size w u) => (S1 u).2)
  have K5 := hide (fun u (hb : Below w.heap.size w u) => (S2 u).1)
  have K6 := hide (fun u (hb : Below w.heap.size w u) => (S2 u).2)
  have K3 := hide (fun u (hb : Below w.heap.size w u) => (S3 u (hr.below hb hb.size)).1)
  have K4 := hide (fun u (hb : Below w.heap.size w u) => (S3 u (hr.below hb hb.size)).2)
  have K7 := hide (fun u (hb : Below w.heap.size w u) => (S4 u (hr.below hb hb.size)).1)
  have K8 := hide (fun u (hb : Below w.heap.size w u) => (S4 u (hr.below hb hb.size)).2)
  have KN := hide (fun u => name_any s u hm)
  have KM := hide (fun u => refName_any s u hm)
  generalize nameE s = nE at *
  have hq1 : ∀ u : World, (binOp .eql 24 (Iv Q) (Iv Q)).run Try.prog u = .ok (.bool true) u := fun u => by
    have := eql_inode Q Q u
    rwa [inoSame_refl] at this
  have HQ1 := hide hq1
  have HQ2 := hide (fun u => eql_dirent I S u)
  have KW := hide wakes_any
  have e0 : (w.alloc (.cells (Ic X) 24)).heap.size = w.heap.size + 1 := by simp
  have BP := hide ((Bl.new w (Ic X) 24).alloc (.cells (Dc i s) 26))
  have BH : Hid (Bl ((w.alloc (.cells (Ic X) 24)).alloc (.cells (Dc i s) 26)) (w.heap.size + 1) (Dc i s) 26) := by
    have := Bl.new (w.alloc (.cells (Ic X) 24)) (Dc i s) 26
    rwa [e0] at this
  have HB := hide (((Below.refl _ w).alloc (Nat.le_refl _) (.cells (Ic X) 24)).alloc (by simp) (.cells (Dc i s) 26))
  clear hr hm S1 S2 S3 S4 hq1 e0
  go_enter Try.func3, Try.ntmps3
  go_wp2_with fail
  go_at_call 4
  refine (unhide KW _).mono ?_
  rintro e w1 ⟨rfl, hb⟩
  replace BP := hide (BP.out.call hb)
  replace BH := hide (BH.out.call hb)
  replace HB := hide (bchain HB.out hb (Nat.le_refl _))
  clear hb KW
  have p0 := BP.out.cell 0 _ rfl
  have p1 := BP.out.cell 1 _ rfl
  have p2 := BP.out.cell 2 _ rfl
  have p3 := BP.out.cell 3 _ rfl
  have p4 := BP.out.cell 4 _ rfl
  have p5 := BP.out.cell 5 _ rfl
  have p6 := BP.out.cell 6 _ rfl
  have p7 := BP.out.cell 7 _ rfl
  have p8 := BP.out.cell 8 _ rfl
  have p9 := BP.out.cell 9 _ rfl
  have p10 := BP.out.cell 10 _ rfl
  have p11 := BP.out.cell 11 _ rfl
  have p12 := BP.out.cell 12 _ rfl
  go_wp2_with fail
  go_at_call 5
  refine Calls.mono (unhide K1 _ HB.out) ?_
  rintro e w2 ⟨a1, c1, rfl, h1, hb⟩
  replace BP := hide (BP.out.call hb)
  replace BH := hide (BH.out.call hb)
  replace HB := hide (bchain HB.out hb (Nat.le_refl _))
  clear hb K1 p0 p1 p2 p3 p4 p5 p6 p7 p8 p9 p10 p11 p12
  have p0 := BP.out.cell 0 _ rfl
  have p1 := BP.out.cell 1 _ rfl
  have p2 := BP.out.cell 2 _ rfl
  have p3 := BP.out.cell 3 _ rfl
  have p4 := BP.out.cell 4 _ rfl
  have p5 := BP.out.cell 5 _ rfl
  have p6 := BP.out.cell 6 _ rfl
  have p7 := BP.out.cell 7 _ rfl
  have p8 := BP.out.cell 8 _ rfl
  have p9 := BP.out.cell 9 _ rfl
  have p10 := BP.out.cell 10 _ rfl
  have p11 := BP.out.cell 11 _ rfl
  have p12 := BP.out.cell 12 _ rfl
  go_wp2_with fail
  go_at_call 6
  refine Calls.mono (unhide K2 _ HB.out) ?_
  rintro e w3 ⟨a2, c2, rfl, h2, hb⟩
  replace BP := hide (BP.out.call hb)
  replace BH := hide (BH.out.call hb)
  replace HB := hide (bchain HB.out hb (Nat.le_refl _))
  replace h1 := hide (h1.out.later hb)
  clear hb K2 p0 p1 p2 p3 p4 p5 p6 p7 p8 p9 p10 p11 p12
  go_wp2_with fail
  go_at_call 7
  refine Calls.mono (unhide K3 _ HB.out) ?_
  rintro e w4 ⟨rfl, hb⟩
  replace BP := hide ((BP.out.call hb).alloc (.cells (Ic Q) 24))
  replace BH := hide ((BH.out.call hb).alloc (.cells (Ic Q) 24))
  replace HB := hide ((bchain HB.out hb (Nat.le_refl _)).alloc (bchain HB.out hb (Nat.le_refl _)).size (.cells (Ic Q) 24))
  replace h1 := hide ((h1.out.later hb).later ((Below.refl _ _).alloc (Nat.le_refl _) (.cells (Ic Q) 24)))
  replace h2 := hide ((h2.out.later hb).later ((Below.refl _ _).alloc (Nat.le_refl _) (.cells (Ic Q) 24)))
  have b3 := hide (Bl.new w4 (Ic Q) 24)
  clear hb K3
  go_upto_region 6 with fail
  change Code.wp _ _ _ _ (w4.alloc (.cells (Ic Q) 24))
  generalize w4.alloc (.cells (Ic Q) 24) = v4 at *
  generalize w4.heap.size = g4 at *
  go_wp2_with fail
  go_at_call 8
  refine Calls.mono (unhide K4 _ HB.out) ?_
  rintro e w5 ⟨rfl, hb⟩
  replace BP := hide ((BP.out.call hb).alloc (.cells (Ic Q) 24))
  replace BH := hide ((BH.out.call hb).alloc (.cells (Ic Q) 24))
  replace HB := hide ((bchain HB.out hb (Nat.le_refl _)).alloc (bchain HB.out hb (Nat.le_refl _)).size (.cells (Ic Q) 24))
  replace h1 := hide ((h1.out.later hb).later ((Below.refl _ _).alloc (Nat.le_refl _) (.cells (Ic Q) 24)))
  replace h2 := hide ((h2.out.later hb).later ((Below.refl _ _).alloc (Nat.le_refl _) (.cells (Ic Q) 24)))
  replace b3 := hide ((b3.out.call hb).alloc (.cells (Ic Q) 24))
  have b4 := hide (Bl.new w5 (Ic Q) 24)
  clear hb K4
  go_upto_region 7 with fail
  change Code.wp _ _ _ _ (w5.alloc (.cells (Ic Q) 24))
  generalize w5.alloc (.cells (Ic Q) 24) = v5 at *
  generalize w5.heap.size = g5 at *
  have p0 := BH.out.cell 0 _ rfl
  have p1 := BH.out.cell 1 _ rfl
  go_wp2_with fail
  go_at_call 9
  refine Calls.mono (unhide K5 _ HB.out) ?_
  rintro e w6 ⟨a5, c5, rfl, h5, hb⟩
  replace BP := hide (BP.out.call hb)
  replace BH := hide (BH.out.call hb)
  replace HB := hide (bchain HB.out hb (Nat.le_refl _))
  replace h1 := hide (h1.out.later hb)
  replace h2 := hide (h2.out.later hb)
  replace b3 := hide (b3.out.call hb)
  replace b4 := hide (b4.out.call hb)
  clear hb K5 p0 p1
  have p0 := BH.out.cell 0 _ rfl
  have p1 := BH.out.cell 1 _ rfl
  go_wp2_with fail
  go_at_call 10
  refine Calls.mono (unhide K6 _ HB.out) ?_
  rintro e w7 ⟨a6, c6, rfl, h6, hb⟩
  replace BP := hide (BP.out.call hb)
  replace BH := hide (BH.out.call hb)
  replace HB := hide (bchain HB.out hb (Nat.le_refl _))
  replace h1 := hide (h1.out.later hb)
  replace h2 := hide (h2.out.later hb)
  replace h5 := hide (h5.out.later hb)
  replace b3 := hide (b3.out.call hb)
  replace b4 := hide (b4.out.call hb)
  clear hb K6 p0 p1
  go_wp2_with fail
  go_at_call 11
  refine Calls.mono (unhide K7 _ HB.out) ?_
  rintro e w8 ⟨rfl, hb⟩
  replace BP := hide ((BP.out.call hb).alloc (.cells (Dc I S) 26))
  replace BH := hide ((BH.out.call hb).alloc (.cells (Dc I S) 26))
  replace HB := hide ((bchain HB.out hb (Nat.le_refl _)).alloc (bchain HB.out hb (Nat.le_refl _)).size (.cells (Dc I S) 26))
  replace h1 := hide ((h1.out.later hb).later ((Below.refl _ _).alloc (Nat.le_refl _) (.cells (Dc I S) 26)))
  replace h2 := hide ((h2.out.later hb).later ((Below.refl _ _).alloc (Nat.le_refl _) (.cells (Dc I S) 26)))
  replace h5 := hide ((h5.out.later hb).later ((Below.refl _ _).alloc (Nat.le_refl _) (.cells (Dc I S) 26)))
  replace h6 := hide ((h6.out.later hb).later ((Below.refl _ _).alloc (Nat.le_refl _) (.cells (Dc I S) 26)))
  replace b3 := hide ((b3.out.call hb).alloc (.cells (Dc I S) 26))
  replace b4 := hide ((b4.out.call hb).alloc (.cells (Dc I S) 26))
  have b7 := hide (Bl.new w8 (Dc I S) 26)
  clear hb K7
  go_upto_region 10 with fail
  change Code.wp _ _ _ _ (w8.alloc (.cells (Dc I S) 26))
  generalize w8.alloc (.cells (Dc I S) 26) = v8 at *
  generalize w8.heap.size = g8 at *
  go_wp2_with fail
  go_at_call 12
  refine Calls.mono (unhide K8 _ HB.out) ?_
  rintro e w9 ⟨rfl, hb⟩
  replace BP := hide ((BP.out.call hb).alloc (.cells (Dc I S) 26))
  replace BH := hide ((BH.out.call hb).alloc (.cells (Dc I S) 26))
  replace HB := hide ((bchain HB.out hb (Nat.le_refl _)).alloc (bchain HB.out hb (Nat.le_refl _)).size (.cells (Dc I S) 26))
  replace h1 := hide ((h1.out.later hb).later ((Below.refl _ _).alloc (Nat.le_refl _) (.cells (Dc I S) 26)))
  replace h2 := hide ((h2.out.later hb).later ((Below.refl _ _).alloc (Nat.le_refl _) (.cells (Dc I S) 26)))
  replace h5 := hide ((h5.out.later hb).later ((Below.refl _ _).alloc (Nat.le_refl _) (.cells (Dc I S) 26)))
  replace h6 := hide ((h6.out.later hb).later ((Below.refl _ _).alloc (Nat.le_refl _) (.cells (Dc I S) 26)))
  replace b3 := hide ((b3.out.call hb).alloc (.cells (Dc I S) 26))
  replace b4 := hide ((b4.out.call hb).alloc (.cells (Dc I S) 26))
  replace b7 := hide ((b7.out.call hb).alloc (.cells (Dc I S) 26))
  have b8 := hide (Bl.new w9 (Dc I S) 26)
  clear hb K8
  go_upto_region 11 with fail
  change Code.wp _ _ _ _ (w9.alloc (.cells (Dc I S) 26))
  generalize w9.alloc (.cells (Dc I S) 26) = v9 at *
  generalize w9.heap.size = g9 at *
  have KA := hide (fun u (hb : Below v9.heap.size v9 u) => same_true a1 a2 n1 c1 c2 L1 u (h1.out.later hb) (h2.out.later hb))
  have KB := hide (fun u (hb : Below v9.heap.size v9 u) => same_true a5 a6 n2 c5 c6 L2 u (h5.out.later hb) (h6.out.later hb))
  have HMK : Hid (∀ u, Below v9.heap.size v9 u → Hid (Below v9.heap.size v9 u) ∧ u.cell? ⟨g4, 0, none⟩ = some (.int .i64 (Q 0)) ∧ u.cell? ⟨g4, 1, none⟩ = some (.int .i64 (Q 1)) ∧ u.cell? ⟨g4, 2, none⟩ = some (.int .i64 (Q 2)) ∧ u.cell? ⟨g4, 3, none⟩ = some (.int .i64 (Q 3)) ∧ u.cell? ⟨g4, 4, none⟩ = some (.int .i64 (Q 4)) ∧ u.cell? ⟨g4, 5, none⟩ = some (.int .i64 (Q 5)) ∧ u.cell? ⟨g4, 6, none⟩ = some (.int .i64 (Q 6)) ∧ u.cell? ⟨g4, 7, none⟩ = some (.int .i64 (Q 7)) ∧ u.cell? ⟨g4, 8, none⟩ = some (.int .i64 (Q 8)) ∧ u.cell? ⟨g4, 9, none⟩ = some (.int .i64 (Q 9)) ∧ u.cell? ⟨g4, 10, none⟩ = some (.int .i64 (Q 10)) ∧ u.cell? ⟨g4, 11, none⟩ = some (.int .i64 (Q 11)) ∧ u.cell? ⟨g4, 12, none⟩ = some (.int .i64 (Q 12)) ∧ u.cell? ⟨g5, 0, none⟩ = some (.int .i64 (Q 0)) ∧ u.cell? ⟨g5, 1, none⟩ = some (.int .i64 (Q 1)) ∧ u.cell? ⟨g5, 2, none⟩ = some (.int .i64 (Q 2)) ∧ u.cell? ⟨g5, 3, none⟩ = some (.int .i64 (Q 3)) ∧ u.cell? ⟨g5, 4, none⟩ = some (.int .i64 (Q 4)) ∧ u.cell? ⟨g5, 5, none⟩ = some (.int .i64 (Q 5)) ∧ u.cell? ⟨g5, 6, none⟩ = some (.int .i64 (Q 6)) ∧ u.cell? ⟨g5, 7, none⟩ = some (.int .i64 (Q 7)) ∧ u.cell? ⟨g5, 8, none⟩ = some (.int .i64 (Q 8)) ∧ u.cell? ⟨g5, 9, none⟩ = some (.int .i64 (Q 9)) ∧ u.cell? ⟨g5, 10, none⟩ = some (.int .i64 (Q 10)) ∧ u.cell? ⟨g5, 11, none⟩ = some (.int .i64 (Q 11)) ∧ u.cell? ⟨g5, 12, none⟩ = some (.int .i64 (Q 12)) ∧ u.cell? ⟨g8, 0, none⟩ = some (.int .i64 I) ∧ u.cell? ⟨g8, 1, none⟩ = some (.string S) ∧ u.cell? ⟨g9, 0, none⟩ = some (.int .i64 I) ∧ u.cell? ⟨g9, 1, none⟩ = some (.string S) ∧ u.cell? ⟨(w.heap.size + 1), 1, none⟩ = some (.string s)) := fun u hb => ⟨hb, (b3.out.call hb).cell 0 _ rfl, (b3.out.call hb).cell 1 _ rfl, (b3.out.call hb).cell 2 _ rfl, (b3.out.call hb).cell 3 _ rfl, (b3.out.call hb).cell 4 _ rfl, (b3.out.call hb).cell 5 _ rfl, (b3.out.call hb).cell 6 _ rfl, (b3.out.call hb).cell 7 _ rfl, (b3.out.call hb).cell 8 _ rfl, (b3.out.call hb).cell 9 _ rfl, (b3.out.call hb).cell 10 _ rfl, (b3.out.call hb).cell 11 _ rfl, (b3.out.call hb).cell 12 _ rfl, (b4.out.call hb).cell 0 _ rfl, (b4.out.call hb).cell 1 _ rfl, (b4.out.call hb).cell 2 _ rfl, (b4.out.call hb).cell 3 _ rfl, (b4.out.call hb).cell 4 _ rfl, (b4.out.call hb).cell 5 _ rfl, (b4.out.call hb).cell 6 _ rfl, (b4.out.call hb).cell 7 _ rfl, (b4.out.call hb).cell 8 _ rfl, (b4.out.call hb).cell 9 _ rfl, (b4.out.call hb).cell 10 _ rfl, (b4.out.call hb).cell 11 _ rfl, (b4.out.call hb).cell 12 _ rfl, (b7.out.call hb).cell 0 _ rfl, (b7.out.call hb).cell 1 _ rfl, (b8.out.call hb).cell 0 _ rfl, (b8.out.call hb).cell 1 _ rfl, (BH.out.call hb).cell 1 _ rfl⟩
  have y1 := HQ1.out
  have y2 := HQ2.out
  clear h1 h2 h5 h6 b3 b4 b7 b8 BP BH HQ1 HQ2
  go_region_held3 (fun u => Hid (Below v9.heap.size v9 u) ∧ u.cell? ⟨g4, 0, none⟩ = some (.int .i64 (Q 0)) ∧ u.cell? ⟨g4, 1, none⟩ = some (.int .i64 (Q 1)) ∧ u.cell? ⟨g4, 2, none⟩ = some (.int .i64 (Q 2)) ∧ u.cell? ⟨g4, 3, none⟩ = some (.int .i64 (Q 3)) ∧ u.cell? ⟨g4, 4, none⟩ = some (.int .i64 (Q 4)) ∧ u.cell? ⟨g4, 5, none⟩ = some (.int .i64 (Q 5)) ∧ u.cell? ⟨g4, 6, none⟩ = some (.int .i64 (Q 6)) ∧ u.cell? ⟨g4, 7, none⟩ = some (.int .i64 (Q 7)) ∧ u.cell? ⟨g4, 8, none⟩ = some (.int .i64 (Q 8)) ∧ u.cell? ⟨g4, 9, none⟩ = some (.int .i64 (Q 9)) ∧ u.cell? ⟨g4, 10, none⟩ = some (.int .i64 (Q 10)) ∧ u.cell? ⟨g4, 11, none⟩ = some (.int .i64 (Q 11)) ∧ u.cell? ⟨g4, 12, none⟩ = some (.int .i64 (Q 12)) ∧ u.cell? ⟨g5, 0, none⟩ = some (.int .i64 (Q 0)) ∧ u.cell? ⟨g5, 1, none⟩ = some (.int .i64 (Q 1)) ∧ u.cell? ⟨g5, 2, none⟩ = some (.int .i64 (Q 2)) ∧ u.cell? ⟨g5, 3, none⟩ = some (.int .i64 (Q 3)) ∧ u.cell? ⟨g5, 4, none⟩ = some (.int .i64 (Q 4)) ∧ u.cell? ⟨g5, 5, none⟩ = some (.int .i64 (Q 5)) ∧ u.cell? ⟨g5, 6, none⟩ = some (.int .i64 (Q 6)) ∧ u.cell? ⟨g5, 7, none⟩ = some (.int .i64 (Q 7)) ∧ u.cell? ⟨g5, 8, none⟩ = some (.int .i64 (Q 8)) ∧ u.cell? ⟨g5, 9, none⟩ = some (.int .i64 (Q 9)) ∧ u.cell? ⟨g5, 10, none⟩ = some (.int .i64 (Q 10)) ∧ u.cell? ⟨g5, 11, none⟩ = some (.int .i64 (Q 11)) ∧ u.cell? ⟨g5, 12, none⟩ = some (.int .i64 (Q 12)) ∧ u.cell? ⟨g8, 0, none⟩ = some (.int .i64 I) ∧ u.cell? ⟨g8, 1, none⟩ = some (.string S) ∧ u.cell? ⟨g9, 0, none⟩ = some (.int .i64 I) ∧ u.cell? ⟨g9, 1, none⟩ = some (.string S) ∧ u.cell? ⟨(w.heap.size + 1), 1, none⟩ = some (.string s))
    (with_reducible (first | exact unhide HMK _ (Below.refl _ _).drew | exact unhide HMK _ (unhide BN)))
    (first
      | (go_at_call_of 13 (a1); refine (unhide KA _ (unhide (‹Hid (Below v9.heap.size v9 _) ∧ _›).1)).mono ?_; rintro e w' ⟨rfl, rfl⟩)
      | (go_at_call_of 13 (a5); refine (unhide KB _ (unhide (‹Hid (Below v9.heap.size v9 _) ∧ _›).1)).mono ?_; rintro e w' ⟨rfl, rfl⟩)
      | (go_at_call 14; refine (unhide KN _).mono ?_; rintro e w10 ⟨rfl, hb⟩; have BN : Hid (Below v9.heap.size v9 w10) := bchain (unhide (‹Hid (Below v9.heap.size v9 _) ∧ _›).1) hb (Nat.le_refl _); clear hb)
      | (go_at_call 15; refine (unhide KM _).mono ?_; rintro e w' ⟨rfl, rfl⟩))
  all_goals
    have jj := unhide (‹Hid (Below v9.heap.size v9 _) ∧ _›).1
    go_wp2_with fail
    go_ret
    exact ⟨rfl, bchain HB.out jj (Nat.le_refl _)⟩

end Go.Proofs.Ytmdkcoenjadieaa
