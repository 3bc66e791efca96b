/- Joined: TRefW, TStatE. -/
import Derived.Test.YtknmgefpjdfenaaGreatTnJ51
import Derived.Test.YtknmgefpjdfenaaGreatTnJ50
/- The walk of TreeRefuses. -/
namespace Go.Proofs.YtknmgefpjdfenaaGreat
open Go.RowKit Go.Shelf Go.Maps
set_option linter.unusedVariables false
set_option maxRecDepth 100000

theorem dump_wo {w : World} {S : Nat → Prop} {g r n : Nat} {s : Tr} (h : TM w S g s) (hw : Wo s r n) (hn : n ≤ 900000) :
    Calls Tryz.prog 12 #[.pointer (some ⟨g, 0, none⟩)] w fun e w' => ∃ v ys, e = .returned v ∧ DL w.heap.size w' v ys ∧ ys.map (fun x => (x.p, x.t)) = dumpL s 900010 [47] r ∧ Below w.heap.size w w' := by
  obtain ⟨rk, hdp, hrk⟩ := hw.wf.deep (by omega)
  have hlt : rk r < 900010 := by have := hrk r; omega
  exact dump_ok h hw.wf.ok hdp 900010 hlt (by omega) (by rw [hw.wf.dump_len hdp hlt]; have := hw.wf.few; omega)

theorem Wo.told {s : Tr} {r n : Nat} (hw : Wo s r n) (hn : n ≤ 900000) {ys : List Nd} (hy : ys.map (fun x => (x.p, x.t)) = dumpL s 900010 [47] r) :
    ys.length = 1 + s.all ∧ (∃ y, ys[0]? = some y ∧ y.p = [47] ∧ y.t.n = 1 ∧ y.t.k = 2) ∧
      ∀ (k : Nat) (y : Nd), 1 ≤ k → ys[k]? = some y → y.t.l = (nmN ys y.t.n : Int) ∧ (∀ y' ∈ ys, y'.t.n = y.t.n → y'.t.k = y.t.k) ∧ (y.t.k = 1 → sizeT y.t = (y.t.d.length : Int)) := by
  obtain ⟨rk, hdp, hrk⟩ := hw.wf.deep (by omega)
  exact hw.wf.told hdp (by have := hrk r; omega) hy

/-- Between the calls of a script. -/
def RP (W : World) (g r k : Nat) (w : World) : Prop := ∃ S s, TM w S g s ∧ Wo s r k ∧ (∀ j, S j → W.heap.size ≤ j) ∧ Below W.heap.size W w

theorem RP.below {W w w' : World} {g r k : Nat} (h : RP W g r k w) (hb : Below w.heap.size w w') : RP W g r k w' := by
  obtain ⟨S, s, h1, h2, h3, h4⟩ := h
  exact ⟨S, s, h1.below hb, h2, h3, h4.trans (hb.mono h4.size)⟩

/-- .. with a list of Nodes. -/
def RQ (W : World) (g r k : Nat) (w : World) (v : Value) (ys : List Nd) : Prop := RP W g r k w ∧ DL W.heap.size w v ys

theorem RQ.below {W w w' : World} {g r k : Nat} {v : Value} {ys : List Nd} (h : RQ W g r k w v ys) (hb : Below w.heap.size w w') : RQ W g r k w' v ys := ⟨h.1.below hb, h.2.below hb (Nat.le_refl _)⟩

theorem RQ.alloc {W w : World} {g r k : Nat} {v : Value} {ys : List Nd} (h : RQ W g r k w v ys) (cs : Array Value) : RQ W g r k (w.alloc (.cells cs 43)) v ys := h.below ((Below.refl _ _).alloc (Nat.le_refl _) _)

theorem RQ.drewN {W w : World} {g r k : Nat} {v : Value} {ys : List Nd} (h : RQ W g r k w v ys) (q : Nat) : RQ W g r k (w.drewN q) v ys := h.below (bdr (Below.refl _ _) q)

theorem DL.base {B B' : Nat} {w : World} {v : Value} {xs : List Nd} (h : DL B w v xs) (hb : B' ≤ B) : DL B' w v xs := by
  refine ⟨?_, fun x hx => (h.2 x hx).base hb⟩
  obtain ⟨h1, h2⟩ := h.1
  refine ⟨h1, h2.imp id ?_⟩
  rintro ⟨g, cap, cur, e, hg, r⟩
  exact ⟨g, cap, cur, e, Nat.le_trans hb hg, r⟩

theorem DL.kp {B : Nat} {S : Nat → Prop} {w w' : World} {v : Value} {xs : List Nd} (h : DL B w v xs) (hk : Kp S w w') (hS : ∀ k, S k → k < B) : DL B w' v xs :=
  h.kept (fun k cs t hB hh _ => hk.block k (Array.getElem?_eq_some_iff.1 hh).1 (fun q => by have := hS k q; omega))

set_option maxHeartbeats 16000000 in
theorem refuses_walk (a : Option Addr) (len cap : Nat) (W : World) (hO : OpsAt W a len) :
    Calls Tryz.prog 4 #[.slice a len cap] W fun e w' => e = .returned (.bool true) ∧ Below W.heap.size W w' := by
  have KWk := hide (wakes_any W)
  have hlm := hO.1
  have HO := hide hO
  clear hO
  go_enter Tryz.func4, Tryz.ntmps4
  go_wp2_with fail
  refine (unhide KWk).mono ?_
  rintro e w1 ⟨rfl, hb⟩
  have HB := hide hb
  have KN := hide (new_ok (n := 5000) (by decide) (by decide) w1)
  clear KWk hb
  go_wp2_with fail
  refine (unhide KN).mono ?_
  rintro e w2 ⟨g, r, mp, ra, rc, S, rfl, htm, hS, hb⟩
  have H0 : Hid (RP W g r 0 w2) := ⟨S, _, htm, wo_new mp r ra rc, fun j hj => Nat.le_trans HB.out.size (hS j hj), HB.out.trans (hb.mono HB.out.size)⟩
  clear KN htm hS hb HB
  go_wp2_with fail
  go_loopw [5] (fun iv wr => ∃ k : Nat, k ≤ len ∧ k ≤ 50 ∧ iv = .int .i64 (k : Int) ∧ Hid (RP W g r k wr)) (fun iv _ => (len : Int).toNat - (intOf iv).toNat)
  case atStart => exact ⟨0, Nat.zero_le _, Nat.zero_le _, rfl, H0⟩
  case round =>
    obtain ⟨k, hk, hk50, rfl, hJ⟩ := hrel
    clear H0
    by_cases hlt : k < len
    · by_cases h50 : k < 50
      · have d1 : decide ((k : Int) < (len : Int)) = true := by simp; omega
        have d2 : decide ((k : Int) < 50) = true := by simp; omega
        obtain ⟨S1, s1, h1, hw1, hS1, hB1⟩ := hJ.out
        have K1 := hide (dump_wo h1 hw1 (by omega))
        have HE := hide (And.intro h1 (And.intro hw1 (And.intro hS1 hB1)))
        clear h1 hw1 hS1 hB1 hJ
        go_wp2_with fail
        refine (unhide K1).mono ?_
        rintro e w3 ⟨v1, ys1, rfl, hD1, hm1, hb⟩
        obtain ⟨h1, hw1, hS1, hB1⟩ := HE.out
        have h1' := h1.below hb
        have hB3 := hB1.trans (hb.mono hB1.size)
        obtain ⟨ab, aoff, rfl, habW, hops⟩ := HO.out.2 (by omega)
        obtain ⟨o, ho⟩ := hops k hlt
        have KP := play_any h1' hw1 (by omega) o ho.la ho.lb (ho.row.below hB3 hB3.size).has ho.row.2.2.1.1 (fun h0 x hx => by
          obtain ⟨b', off', e, hlt', _⟩ := ho.row.2.2.2.2 h0
          rw [hx] at e
          cases e
          exact ⟨fun q => by have := hS1 _ q; simp only at this hlt'; omega, Nat.lt_of_lt_of_le hlt' hB3.size⟩)
        have c0 := (hB3.cell (p := ⟨ab, aoff + k * 7, none⟩) habW).trans ho.c0
        have c1 := (hB3.cell (p := ⟨ab, aoff + k * 7 + 1, none⟩) habW).trans ho.c1
        have c2 := (hB3.cell (p := ⟨ab, aoff + k * 7 + 2, none⟩) habW).trans ho.c2
        have c3 := (hB3.cell (p := ⟨ab, aoff + k * 7 + 3, none⟩) habW).trans ho.c3
        have c4 := (hB3.cell (p := ⟨ab, aoff + k * 7 + 4, none⟩) habW).trans ho.c4
        have c5 := (hB3.cell (p := ⟨ab, aoff + k * 7 + 5, none⟩) habW).trans ho.c5
        have c6 := (hB3.cell (p := ⟨ab, aoff + k * 7 + 6, none⟩) habW).trans ho.c6
        have KP := hide KP
        unfold OpD.v at KP
        have HE := hide (And.intro h1 (And.intro h1' (And.intro hw1 (And.intro hS1 (And.intro hB3 (And.intro hD1 (And.intro hm1 hB1)))))))
        have hlt' : (k : Int) < (len : Int) := by omega
        have hk0 : (0 : Int) ≤ (k : Int) := by omega
        clear h1 h1' hw1 hS1 hB1 hB3 hD1 hm1 hb K1 hops ho
        generalize o.kind = ok at *
        generalize St o.a = oa at *
        generalize St o.b = ob at *
        generalize o.f = of at *
        generalize o.n = on at *
        generalize o.m = om at *
        generalize o.da = oda at *
        generalize o.dl = odl at *
        generalize o.dc = odc at *
        go_wp2_with fail
        refine (unhide KP).mono ?_
        rintro e w4 ⟨E, s2, rfl, h2, hkp, hcase⟩
        obtain ⟨h1, h1', hw1, hS1, hB3, hD1, hm1, hB1⟩ := HE.out
        have hw2 : Wo s2 r (k + 1) := by
          rcases hcase with ⟨_, rfl⟩ | ⟨_, q⟩
          · exact hw1.mono (by omega)
          · exact q
        have hS2 : ∀ j, Up S1 w3.heap.size w4.heap.size j → W.heap.size ≤ j := fun j hj => hj.elim (hS1 j) (fun q => Nat.le_trans hB3.size q.1)
        have hB4 : Below W.heap.size W w4 := hB3.trans (hkp.below hB3.size hS1)
        have hD1' := hD1.kp hkp (fun j hj => h1.lt j hj)
        have K2 := hide (dump_wo h2 hw2 (by omega))
        have HE := hide (And.intro h2 (And.intro hw2 (And.intro hS2 (And.intro hB4 (And.intro (hD1'.base hB1.size) (And.intro hm1 (And.intro hw1 hcase)))))))
        clear KP h1 h1' hw1 hS1 hB3 hD1 hm1 hB1 h2 hkp hcase hw2 hS2 hB4 hD1' c0 c1 c2 c3 c4 c5 c6
        go_wp2_with fail
        refine (unhide K2).mono ?_
        rintro e w5' ⟨v2, ys2, rfl, hD2, hm2, hb⟩
        obtain ⟨h2, hw2, hS2, hB4, hD1, hm1, hw1, hcase⟩ := HE.out
        have HX : Hid (RQ W g r (k + 1) w5' v2 ys2) := ⟨⟨_, s2, h2.below hb, hw2, hS2, hB4.trans (hb.mono hB4.size)⟩, hD2.base hB4.size⟩
        have HT2 := hide (hw2.told (by omega) hm2)
        have hla : s2.all ≤ 51 := by have := hw2.wf.few; omega
        have KS : Hid (E ≠ 0 → Calls Tryz.prog 11 #[v1, v2] w5' fun e w' => e = .returned (.bool true) ∧ Below w5'.heap.size w5' w') := fun hE => by
          have hs : s2 = s1 := by
            rcases hcase with ⟨_, q⟩ | ⟨q, _⟩
            · exact q
            · exact absurd q hE
          subst hs
          have e : ys1.map (fun x => (x.p, x.t)) = ys2.map (fun x => (x.p, x.t)) := hm1.trans hm2.symm
          refine sameNodes_true (hD1.below hb (Nat.le_refl _)) hD2 ?_ ?_
          · have := congrArg (List.map (fun q : List UInt8 × Th => (q.1, q.2.k, q.2.n, q.2.l, sizeT q.2, q.2.d))) e
            rw [List.map_map, List.map_map] at this
            exact this
          · have := congrArg List.length e
            rw [List.length_map, List.length_map] at this
            have := (unhide HT2).1
            omega
        clear K2 HE h2 hw2 hS2 hB4 hD1 hm1 hw1 hcase hD2 hm2 hb
        by_cases hE : E = 0
        · subst hE
          clear KS
          go_upto_region 14 with fail
          generalize hwx : w5' = wx at *
          clear hwx
          obtain ⟨ht1, ⟨y0, hy0, hp0, hnr0, hk0⟩, ht3⟩ := HT2.out
          have hsh := HX.out.2.shape
          obtain ⟨a2, z2, rfl⟩ := hsh
          have hnd := HX.out.2.node hy0
          obtain ⟨g2, cap2, eg, hg2, c0, c1, c2, _, _, _⟩ := hnd
          cases eg
          rw [hp0] at c0
          rw [hk0] at c1
          rw [hnr0] at c2
          change wx.cell? ⟨g2, 0 * 6, none⟩ = some (.string ⟨#[47]⟩) at c0
          rw [Nat.zero_mul] at c0 c1 c2
          rw [Nat.zero_add] at c1 c2
          generalize hn2 : ys2.length = n2 at *
          have hn1 : 1 ≤ n2 := by omega
          have hnm : n2 ≤ 1000 := by omega
          have dn0 : ((n2 : Int) == 0) = false := by simp; omega
          have il : (0 : Int) < (n2 : Int) := by omega
          have HT3 := hide ht3
          clear hp0 hk0 hnr0 hy0 ht1 ht3 HT2
          go_wp2_with fail
          clear c0 c1 c2
          go_loopw [8] (fun iv wr => ∃ j : Nat, 1 ≤ j ∧ j ≤ n2 ∧ iv = .int .i64 (j : Int) ∧ Hid (RQ W g r (k + 1) wr (.slice (some ⟨g2, 0, none⟩) n2 z2) ys2)) (fun iv _ => (n2 : Int).toNat - (intOf iv).toNat)
          case atStart => exact ⟨1, Nat.le_refl _, hn1, rfl, HX⟩
          case round =>
            obtain ⟨j, hj1, hj, rfl, hJ⟩ := hrel
            clear HX
            by_cases hjl : j < n2
            · obtain ⟨x, hx⟩ : ∃ x, ys2[j]? = some x := ⟨_, List.getElem?_eq_getElem (by omega)⟩
              obtain ⟨t1, t2, t3⟩ := HT3.out j x hj1 hx
              have hnd := hJ.out.2.node hx
              obtain ⟨g3, cap3, eg, _, c0, c1, c2, c3, c4, c5⟩ := hnd
              rw [hn2] at eg
              cases eg
              have hjl' : (j : Int) < (n2 : Int) := by omega
              have hj0 : (0 : Int) ≤ (j : Int) := by omega
              have HK := hide (And.intro t2 t3)
              have hJ2 := hide (hJ.out.alloc (ncs x))
              have blX := hide (Bl.new wr (ncs x) 43)
              rw [t1] at c3
              have HC : Hid (ncs x = #[.string (St x.p), .int .i64 x.t.k, .int .i64 (x.t.n : Int), .int .i64 (nmN ys2 x.t.n : Int), .int .i64 (sizeT x.t), .slice x.da x.t.d.length x.dc]) := by unfold Hid ncs; rw [t1]
              rw [HC.out] at hJ2 blX
              have hcle := nmN_le ys2 x.t.n
              clear t1 t2 t3 hJ hx HC
              generalize St x.p = sp at *
              generalize sizeT x.t = tz at *
              generalize hxk : x.t.k = tk at *
              generalize hxn : x.t.n = tn at *
              generalize hxd : x.t.d.length = ld at *
              generalize hcn : nmN ys2 tn = cn at *
              go_upto_region 20 with fail
              change Code.wp _ _ _ _ (wr.alloc (.cells #[.string sp, .int .i64 tk, .int .i64 (tn : Int), .int .i64 (cn : Int), .int .i64 tz, .slice x.da ld x.dc] 43))
              clear c0 c1 c2 c3 c4 c5
              generalize wr.alloc (.cells #[.string sp, .int .i64 tk, .int .i64 (tn : Int), .int .i64 (cn : Int), .int .i64 tz, .slice x.da ld x.dc] 43) = w5 at *
              generalize wr.heap.size = m9 at *
              have HY : Hid (RQ W g r (k + 1) w5 (.slice (some ⟨g2, 0, none⟩) n2 z2) ys2 ∧ Bl w5 m9 #[.string sp, .int .i64 tk, .int .i64 (tn : Int), .int .i64 (cn : Int), .int .i64 tz, .slice x.da ld x.dc] 43) := ⟨hJ2.out, blX.out⟩
              clear hJ2 blX
              go_wp2_with fail
              go_loopw [11, 10] (fun jv nv wv => ∃ i : Nat, i ≤ n2 ∧ jv = .int .i64 (i : Int) ∧ nv = .int .i64 (nmN (ys2.take i) tn : Int) ∧ Hid (RQ W g r (k + 1) wv (.slice (some ⟨g2, 0, none⟩) n2 z2) ys2 ∧ Bl wv m9 #[.string sp, .int .i64 tk, .int .i64 (tn : Int), .int .i64 (cn : Int), .int .i64 tz, .slice x.da ld x.dc] 43)) (fun iv _ _ => (n2 : Int).toNat - (intOf iv).toNat)
              case atStart => exact ⟨0, Nat.zero_le _, rfl, rfl, HY⟩
              case round =>
                obtain ⟨i, hi, rfl, rfl, hI⟩ := hrel
                clear HY
                by_cases hil : i < n2
                · obtain ⟨y, hy⟩ : ∃ y, ys2[i]? = some y := ⟨_, List.getElem?_eq_getElem (by omega)⟩
                  have hnd := hI.out.1.2.node hy
                  obtain ⟨g4, cap4, eg, _, c0, c1, c2, _, _, _⟩ := hnd
                  rw [hn2] at eg
                  cases eg
                  have hst := nmN_step hy tn
                  have hle : nmN (ys2.take i) tn ≤ n2 := Nat.le_trans (nmN_le _ _) (by rw [List.length_take]; omega)
                  have b1 := hI.out.2.cell 1 _ rfl
                  have b2 := hI.out.2.cell 2 _ rfl
                  have hil' : (i : Int) < (n2 : Int) := by omega
                  have hi0 : (0 : Int) ≤ (i : Int) := by omega
                  have hym := List.mem_of_getElem? hy
                  have HZ : Hid (∀ q, RQ W g r (k + 1) (wr.drewN q) (.slice (some ⟨g2, 0, none⟩) n2 z2) ys2 ∧ Bl (wr.drewN q) m9 #[.string sp, .int .i64 tk, .int .i64 (tn : Int), .int .i64 (cn : Int), .int .i64 tz, .slice x.da ld x.dc] 43) := fun q => ⟨hI.out.1.drewN q, hI.out.2⟩
                  by_cases hnn : y.t.n = tn
                  · have hkk := HK.out.1 y hym hnn
                    rw [hkk] at c1
                    rw [hnn] at c2
                    rw [if_pos hnn] at hst
                    have HS : Hid (((nmN (ys2.take (i + 1)) tn : Nat) : Int) = ((nmN (ys2.take i) tn : Nat) : Int) + 1) := by unfold Hid; omega
                    have e1 : ((tn : Int) == (tn : Int)) = true := by simp
                    have e2 : (tk == tk) = true := by simp
                    clear hst hy hym hnn hkk hI
                    generalize nmN (ys2.take i) tn = c1v at *
                    go_wp2_with fail
                    go_quiet (fail)
                    go_wp2_with fail
                    go_quiet (fail)
                    go_wp2_with fail
                    go_roundw
                    case rel => exact ⟨i + 1, by omega, by go_num, by rw [HS.out], unhide HZ _⟩
                    case measure => simp [intOf]; omega
                  · rw [if_neg hnn, Nat.add_zero] at hst
                    have e1 : ((y.t.n : Int) == (tn : Int)) = false := by simpa using fun q : (y.t.n : Int) = (tn : Int) => hnn (by omega)
                    have HS := hide hst
                    clear hst hy hym hnn hI
                    generalize (y.t.n : Int) = yn at *
                    generalize nmN (ys2.take i) tn = c1v at *
                    go_wp2_with fail
                    go_quiet (fail)
                    go_wp2_with fail
                    go_roundw
                    case rel => exact ⟨i + 1, by omega, by go_num, by rw [HS.out]; rfl, unhide HZ _⟩
                    case measure => simp [intOf]; omega
                · obtain rfl : i = n2 := by omega
                  rw [List.take_of_length_le (by omega), hcn] at *
                  have b1 := hI.out.2.cell 1 _ rfl
                  have b3 := hI.out.2.cell 3 _ rfl
                  have b4 := hI.out.2.cell 4 _ rfl
                  have b5 := hI.out.2.cell 5 _ rfl
                  have HN := hide hI.out.1
                  have e1 : ((cn : Int) == (cn : Int)) = true := by simp
                  by_cases hk1 : tk = 1
                  · have hz := HK.out.2 hk1
                    subst hk1
                    subst hz
                    have e2 : ((ld : Int) == (ld : Int)) = true := by simp
                    clear hI HK
                    go_wp2_with fail
                    go_roundw
                    case rel => exact ⟨j + 1, by omega, by omega, by go_num, HN⟩
                    case measure => simp [intOf]; omega
                  · have e2 : (tk == 1) = false := by simpa using hk1
                    clear hI HK
                    go_wp2_with fail
                    go_roundw
                    case rel => exact ⟨j + 1, by omega, by omega, by go_num, HN⟩
                    case measure => simp [intOf]; omega
            · obtain rfl : j = n2 := by omega
              have HN := hide hJ.out.1
              clear hJ HT3
              go_wp2_with fail
              go_roundw
              case rel => exact ⟨k + 1, by omega, by omega, by go_num, HN⟩
              case measure => simp [intOf]; omega
        · have KS := hide (KS.out hE)
          have dE : (E != 0) = true := by simpa using hE
          go_wp2_with fail
          refine (unhide KS).mono ?_
          rintro e wx ⟨rfl, hb⟩
          have HX := hide (HX.out.below hb)
          clear KS hb
          go_upto_region 14 with fail
          obtain ⟨ht1, ⟨y0, hy0, hp0, hnr0, hk0⟩, ht3⟩ := HT2.out
          have hsh := HX.out.2.shape
          obtain ⟨a2, z2, rfl⟩ := hsh
          have hnd := HX.out.2.node hy0
          obtain ⟨g2, cap2, eg, hg2, c0, c1, c2, _, _, _⟩ := hnd
          cases eg
          rw [hp0] at c0
          rw [hk0] at c1
          rw [hnr0] at c2
          change wx.cell? ⟨g2, 0 * 6, none⟩ = some (.string ⟨#[47]⟩) at c0
          rw [Nat.zero_mul] at c0 c1 c2
          rw [Nat.zero_add] at c1 c2
          generalize hn2 : ys2.length = n2 at *
          have hn1 : 1 ≤ n2 := by omega
          have hnm : n2 ≤ 1000 := by omega
          have dn0 : ((n2 : Int) == 0) = false := by simp; omega
          have il : (0 : Int) < (n2 : Int) := by omega
          have HT3 := hide ht3
          clear hp0 hk0 hnr0 hy0 ht1 ht3 HT2
          go_wp2_with fail
          clear c0 c1 c2
          go_loopw [8] (fun iv wr => ∃ j : Nat, 1 ≤ j ∧ j ≤ n2 ∧ iv = .int .i64 (j : Int) ∧ Hid (RQ W g r (k + 1) wr (.slice (some ⟨g2, 0, none⟩) n2 z2) ys2)) (fun iv _ => (n2 : Int).toNat - (intOf iv).toNat)
          case atStart => exact ⟨1, Nat.le_refl _, hn1, rfl, HX⟩
          case round =>
            obtain ⟨j, hj1, hj, rfl, hJ⟩ := hrel
            clear HX
            by_cases hjl : j < n2
            · obtain ⟨x, hx⟩ : ∃ x, ys2[j]? = some x := ⟨_, List.getElem?_eq_getElem (by omega)⟩
              obtain ⟨t1, t2, t3⟩ := HT3.out j x hj1 hx
              have hnd := hJ.out.2.node hx
              obtain ⟨g3, cap3, eg, _, c0, c1, c2, c3, c4, c5⟩ := hnd
              rw [hn2] at eg
              cases eg
              have hjl' : (j : Int) < (n2 : Int) := by omega
              have hj0 : (0 : Int) ≤ (j : Int) := by omega
              have HK := hide (And.intro t2 t3)
              have hJ2 := hide (hJ.out.alloc (ncs x))
              have blX := hide (Bl.new wr (ncs x) 43)
              rw [t1] at c3
              have HC : Hid (ncs x = #[.string (St x.p), .int .i64 x.t.k, .int .i64 (x.t.n : Int), .int .i64 (nmN ys2 x.t.n : Int), .int .i64 (sizeT x.t), .slice x.da x.t.d.length x.dc]) := by unfold Hid ncs; rw [t1]
              rw [HC.out] at hJ2 blX
              have hcle := nmN_le ys2 x.t.n
              clear t1 t2 t3 hJ hx HC
              generalize St x.p = sp at *
              generalize sizeT x.t = tz at *
              generalize hxk : x.t.k = tk at *
              generalize hxn : x.t.n = tn at *
              generalize hxd : x.t.d.length = ld at *
              generalize hcn : nmN ys2 tn = cn at *
              go_upto_region 20 with fail
              change Code.wp _ _ _ _ (wr.alloc (.cells #[.string sp, .int .i64 tk, .int .i64 (tn : Int), .int .i64 (cn : Int), .int .i64 tz, .slice x.da ld x.dc] 43))
              clear c0 c1 c2 c3 c4 c5
              generalize wr.alloc (.cells #[.string sp, .int .i64 tk, .int .i64 (tn : Int), .int .i64 (cn : Int), .int .i64 tz, .slice x.da ld x.dc] 43) = w5 at *
              generalize wr.heap.size = m9 at *
              have HY : Hid (RQ W g r (k + 1) w5 (.slice (some ⟨g2, 0, none⟩) n2 z2) ys2 ∧ Bl w5 m9 #[.string sp, .int .i64 tk, .int .i64 (tn : Int), .int .i64 (cn : Int), .int .i64 tz, .slice x.da ld x.dc] 43) := ⟨hJ2.out, blX.out⟩
              clear hJ2 blX
              go_wp2_with fail
              go_loopw [11, 10] (fun jv nv wv => ∃ i : Nat, i ≤ n2 ∧ jv = .int .i64 (i : Int) ∧ nv = .int .i64 (nmN (ys2.take i) tn : Int) ∧ Hid (RQ W g r (k + 1) wv (.slice (some ⟨g2, 0, none⟩) n2 z2) ys2 ∧ Bl wv m9 #[.string sp, .int .i64 tk, .int .i64 (tn : Int), .int .i64 (cn : Int), .int .i64 tz, .slice x.da ld x.dc] 43)) (fun iv _ _ => (n2 : Int).toNat - (intOf iv).toNat)
              case atStart => exact ⟨0, Nat.zero_le _, rfl, rfl, HY⟩
              case round =>
                obtain ⟨i, hi, rfl, rfl, hI⟩ := hrel
                clear HY
                by_cases hil : i < n2
                · obtain ⟨y, hy⟩ : ∃ y, ys2[i]? = some y := ⟨_, List.getElem?_eq_getElem (by omega)⟩
                  have hnd := hI.out.1.2.node hy
                  obtain ⟨g4, cap4, eg, _, c0, c1, c2, _, _, _⟩ := hnd
                  rw [hn2] at eg
                  cases eg
                  have hst := nmN_step hy tn
                  have hle : nmN (ys2.take i) tn ≤ n2 := Nat.le_trans (nmN_le _ _) (by rw [List.length_take]; omega)
                  have b1 := hI.out.2.cell 1 _ rfl
                  have b2 := hI.out.2.cell 2 _ rfl
                  have hil' : (i : Int) < (n2 : Int) := by omega
                  have hi0 : (0 : Int) ≤ (i : Int) := by omega
                  have hym := List.mem_of_getElem? hy
                  have HZ : Hid (∀ q, RQ W g r (k + 1) (wr.drewN q) (.slice (some ⟨g2, 0, none⟩) n2 z2) ys2 ∧ Bl (wr.drewN q) m9 #[.string sp, .int .i64 tk, .int .i64 (tn : Int), .int .i64 (cn : Int), .int .i64 tz, .slice x.da ld x.dc] 43) := fun q => ⟨hI.out.1.drewN q, hI.out.2⟩
                  by_cases hnn : y.t.n = tn
                  · have hkk := HK.out.1 y hym hnn
                    rw [hkk] at c1
                    rw [hnn] at c2
                    rw [if_pos hnn] at hst
                    have HS : Hid (((nmN (ys2.take (i + 1)) tn : Nat) : Int) = ((nmN (ys2.take i) tn : Nat) : Int) + 1) := by unfold Hid; omega
                    have e1 : ((tn : Int) == (tn : Int)) = true := by simp
                    have e2 : (tk == tk) = true := by simp
                    clear hst hy hym hnn hkk hI
                    generalize nmN (ys2.take i) tn = c1v at *
                    go_wp2_with fail
                    go_quiet (fail)
                    go_wp2_with fail
                    go_quiet (fail)
                    go_wp2_with fail
                    go_roundw
                    case rel => exact ⟨i + 1, by omega, by go_num, by rw [HS.out], unhide HZ _⟩
                    case measure => simp [intOf]; omega
                  · rw [if_neg hnn, Nat.add_zero] at hst
                    have e1 : ((y.t.n : Int) == (tn : Int)) = false := by simpa using fun q : (y.t.n : Int) = (tn : Int) => hnn (by omega)
                    have HS := hide hst
                    clear hst hy hym hnn hI
                    generalize (y.t.n : Int) = yn at *
                    generalize nmN (ys2.take i) tn = c1v at *
                    go_wp2_with fail
                    go_quiet (fail)
                    go_wp2_with fail
                    go_roundw
                    case rel => exact ⟨i + 1, by omega, by go_num, by rw [HS.out]; rfl, unhide HZ _⟩
                    case measure => simp [intOf]; omega
                · obtain rfl : i = n2 := by omega
                  rw [List.take_of_length_le (by omega), hcn] at *
                  have b1 := hI.out.2.cell 1 _ rfl
                  have b3 := hI.out.2.cell 3 _ rfl
                  have b4 := hI.out.2.cell 4 _ rfl
                  have b5 := hI.out.2.cell 5 _ rfl
                  have HN := hide hI.out.1
                  have e1 : ((cn : Int) == (cn : Int)) = true := by simp
                  by_cases hk1 : tk = 1
                  · have hz := HK.out.2 hk1
                    subst hk1
                    subst hz
                    have e2 : ((ld : Int) == (ld : Int)) = true := by simp
                    clear hI HK
                    go_wp2_with fail
                    go_roundw
                    case rel => exact ⟨j + 1, by omega, by omega, by go_num, HN⟩
                    case measure => simp [intOf]; omega
                  · have e2 : (tk == 1) = false := by simpa using hk1
                    clear hI HK
                    go_wp2_with fail
                    go_roundw
                    case rel => exact ⟨j + 1, by omega, by omega, by go_num, HN⟩
                    case measure => simp [intOf]; omega
            · obtain rfl : j = n2 := by omega
              have HN := hide hJ.out.1
              clear hJ HT3
              go_wp2_with fail
              go_roundw
              case rel => exact ⟨k + 1, by omega, by omega, by go_num, HN⟩
              case measure => simp [intOf]; omega
      · have d1 : decide ((k : Int) < (len : Int)) = true := by simp; omega
        have d2 : decide ((k : Int) < 50) = false := by simp; omega
        obtain ⟨S1, s1, h1, hw1, hS1, hB1⟩ := hJ.out
        have HB := hide hB1
        clear h1 hw1 hS1 hB1 hJ HO
        go_wp2_with fail
        go_ret
        exact ⟨rfl, HB.out⟩
    · have d1 : decide ((k : Int) < (len : Int)) = false := by simp; omega
      obtain ⟨S1, s1, h1, hw1, hS1, hB1⟩ := hJ.out
      have HB := hide hB1
      clear h1 hw1 hS1 hB1 hJ HO
      go_wp2_with fail
      go_ret
      exact ⟨rfl, HB.out⟩

end Go.Proofs.YtknmgefpjdfenaaGreat

/- Stat: all ways. -/
namespace Go.Proofs.YtknmgefpjdfenaaGreat
open Go.RowKit Go.Shelf Go.Maps
set_option linter.unusedVariables false
set_option maxRecDepth 100000

def zst : Value := .agg #[.int .i64 0, .int .i64 0, .int .i64 0, .int .i64 0]

/-- What Stat answers. -/
def stA (s : Tr) (r : Nat) (p : List UInt8) : Value × Int := match spl p with
  | none => (zst, 16)
  | some ns => match (go s ns r).2 with
    | none => (zst, (go s ns r).1)
    | some b => match s.T b with
      | none => (zst, 0)
      | some t => (statV t, 0)

set_option maxHeartbeats 4000000 in
theorem stat_no {w : World} {S : Nat → Prop} {g r : Nat} {s : Tr} (h : TM w S g s) (hk : Ok s r) {p : List UInt8} (hpl : p.length ≤ 9223372036854775807) {E : Int} (hE : E ≠ 0) (he : (spl p = none ∧ E = 16) ∨ ∃ ns, spl p = some ns ∧ go s ns r = (E, none)) :
    Calls Tryz.prog 15 #[.pointer (some ⟨g, 0, none⟩), .string (St p)] w fun e w' => e = .returned (.tuple #[zst, .int .i64 E]) ∧ Below w.heap.size w w' := by
  have hb0 : Below w.heap.size w (w.alloc (.cells #[.int .i64 0, .int .i64 0, .int .i64 0, .int .i64 0] 46)) := (Below.refl _ w).alloc (Nat.le_refl _) _
  have hlt : w.heap.size < (w.alloc (.cells #[.int .i64 0, .int .i64 0, .int .i64 0, .int .i64 0] 46)).heap.size := by simp
  have hbl := Bl.new w #[.int .i64 0, .int .i64 0, .int .i64 0, .int .i64 0] 46
  have K := refuses_one (p := p) (h.below hb0) hk.row_ne hpl (Below.refl _ _)
  rw [show (w.alloc (.cells #[.int .i64 0, .int .i64 0, .int .i64 0, .int .i64 0] 46)).heap.size = w.heap.size + 1 by simp] at K
  have HZ : Hid ((w.alloc (.cells #[.int .i64 0, .int .i64 0, .int .i64 0, .int .i64 0] 46)).heap.size = w.heap.size + 1) := by unfold Hid; simp
  have HT := hide (h.below hb0)
  have HB := hide hb0
  have HL := hide hbl
  have HV : Hid (zst = .agg #[.int .i64 0, .int .i64 0, .int .i64 0, .int .i64 0]) := rfl
  rcases he with ⟨hs, rfl⟩ | ⟨ns, hs, hg⟩
  · rw [splE_none hs] at K
    have K := hide K
    clear h hk hs hb0 hbl
    generalize St p = sp at *
    go_enter Tryz.func15, Tryz.ntmps15
    go_wp2_with fail
    generalize w.alloc (.cells #[.int .i64 0, .int .i64 0, .int .i64 0, .int .i64 0] 46) = w0 at *
    generalize hm : w.heap.size = m at *
    refine (unhide K).mono ?_
    rintro e w1 ⟨rfl, hb⟩
    rw [← HZ.out] at hb
    have HB := hide (HB.out.trans (hb.mono (Nat.le_of_lt hlt)))
    have HL := hide (HL.out.call hb)
    clear K hb HT
    have l0 := HL.out.cell 0 _ rfl
    have l1 := HL.out.cell 1 _ rfl
    have l2 := HL.out.cell 2 _ rfl
    have l3 := HL.out.cell 3 _ rfl
    have lf := HL.out.free
    have HF : Hid (Bl ((((w1.setCell ⟨m, 0, none⟩ (.int .i64 0)).setCell ⟨m, 1, none⟩ (.int .i64 0)).setCell ⟨m, 2, none⟩ (.int .i64 0)).setCell ⟨m, 3, none⟩ (.int .i64 0)) m #[.int .i64 0, .int .i64 0, .int .i64 0, .int .i64 0] 46 ∧ Below m w ((((w1.setCell ⟨m, 0, none⟩ (.int .i64 0)).setCell ⟨m, 1, none⟩ (.int .i64 0)).setCell ⟨m, 2, none⟩ (.int .i64 0)).setCell ⟨m, 3, none⟩ (.int .i64 0))) :=
      ⟨setAll_whole [.int .i64 0, .int .i64 0, .int .i64 0, .int .i64 0] w1 _ HL.out rfl, below_setAll (Nat.le_refl m) [.int .i64 0, .int .i64 0, .int .i64 0, .int .i64 0] w w1 0 HB.out⟩
    go_wp2_with fail
    obtain ⟨hA, hW⟩ := HF.out
    change bodyPost _ _ _ _ _ ((((w1.setCell ⟨m, 0, none⟩ (.int .i64 0)).setCell ⟨m, 1, none⟩ (.int .i64 0)).setCell ⟨m, 2, none⟩ (.int .i64 0)).setCell ⟨m, 3, none⟩ (.int .i64 0))
    generalize (((w1.setCell ⟨m, 0, none⟩ (.int .i64 0)).setCell ⟨m, 1, none⟩ (.int .i64 0)).setCell ⟨m, 2, none⟩ (.int .i64 0)).setCell ⟨m, 3, none⟩ (.int .i64 0) = wf at *
    refine bodyPost_ret (v := .tuple #[.agg #[.int .i64 0, .int .i64 0, .int .i64 0, .int .i64 0], .int .i64 16]) ?_ rfl ⟨by rw [HV.out], ?_⟩
    · simp [results, Tryz.results15, go_sem, hA.cell 0 _ rfl, hA.cell 1 _ rfl, hA.cell 2 _ rfl, hA.cell 3 _ rfl]
    · rw [hm]; exact hW
  · rw [splE_of hs] at K
    have K := hide K
    have KF : Hid (∀ u, TM u S g s → Calls Tryz.prog 53 #[.pointer (some ⟨g, 0, none⟩), .string (St p)] u fun e w' => e = .returned (.tuple #[.pointer none, .int .i64 E]) ∧ Below u.heap.size u w') := fun u hu => by
      have := find_any hu hk hs
      rw [hg] at this
      exact this
    have d1 : (E != 0) = true := by simpa using hE
    clear h hk hs hb0 hbl hg
    generalize St p = sp at *
    go_enter Tryz.func15, Tryz.ntmps15
    go_wp2_with fail
    generalize w.alloc (.cells #[.int .i64 0, .int .i64 0, .int .i64 0, .int .i64 0] 46) = w0 at *
    generalize hm : w.heap.size = m at *
    refine (unhide K).mono ?_
    rintro e w1' ⟨rfl, hb⟩
    rw [← HZ.out] at hb
    have HT := hide (HT.out.below hb)
    have HB := hide (HB.out.trans (hb.mono (Nat.le_of_lt hlt)))
    have HL := hide (HL.out.call hb)
    have KF := hide (KF.out w1' HT.out)
    clear K hb hlt HZ
    go_wp2_with fail
    refine (unhide KF).mono ?_
    rintro e w1 ⟨rfl, hb⟩
    have HB := hide (HB.out.trans (hb.mono (Nat.le_of_lt HL.out.lt)))
    have HL := hide (HL.out.call hb)
    clear KF hb HT
    have l0 := HL.out.cell 0 _ rfl
    have l1 := HL.out.cell 1 _ rfl
    have l2 := HL.out.cell 2 _ rfl
    have l3 := HL.out.cell 3 _ rfl
    have lf := HL.out.free
    have HF : Hid (Bl ((((w1.setCell ⟨m, 0, none⟩ (.int .i64 0)).setCell ⟨m, 1, none⟩ (.int .i64 0)).setCell ⟨m, 2, none⟩ (.int .i64 0)).setCell ⟨m, 3, none⟩ (.int .i64 0)) m #[.int .i64 0, .int .i64 0, .int .i64 0, .int .i64 0] 46 ∧ Below m w ((((w1.setCell ⟨m, 0, none⟩ (.int .i64 0)).setCell ⟨m, 1, none⟩ (.int .i64 0)).setCell ⟨m, 2, none⟩ (.int .i64 0)).setCell ⟨m, 3, none⟩ (.int .i64 0))) :=
      ⟨setAll_whole [.int .i64 0, .int .i64 0, .int .i64 0, .int .i64 0] w1 _ HL.out rfl, below_setAll (Nat.le_refl m) [.int .i64 0, .int .i64 0, .int .i64 0, .int .i64 0] w w1 0 HB.out⟩
    go_wp2_with fail
    obtain ⟨hA, hW⟩ := HF.out
    change bodyPost _ _ _ _ _ ((((w1.setCell ⟨m, 0, none⟩ (.int .i64 0)).setCell ⟨m, 1, none⟩ (.int .i64 0)).setCell ⟨m, 2, none⟩ (.int .i64 0)).setCell ⟨m, 3, none⟩ (.int .i64 0))
    generalize (((w1.setCell ⟨m, 0, none⟩ (.int .i64 0)).setCell ⟨m, 1, none⟩ (.int .i64 0)).setCell ⟨m, 2, none⟩ (.int .i64 0)).setCell ⟨m, 3, none⟩ (.int .i64 0) = wf at *
    refine bodyPost_ret (v := .tuple #[.agg #[.int .i64 0, .int .i64 0, .int .i64 0, .int .i64 0], .int .i64 E]) ?_ rfl ⟨by rw [HV.out], ?_⟩
    · simp [results, Tryz.results15, go_sem, hA.cell 0 _ rfl, hA.cell 1 _ rfl, hA.cell 2 _ rfl, hA.cell 3 _ rfl]
    · rw [hm]; exact hW

theorem stat_any {w : World} {S : Nat → Prop} {g r n : Nat} {s : Tr} (h : TM w S g s) (hw : Wf s r n) (hn : n ≤ 900000) {p : List UInt8} (hpl : p.length ≤ 9223372036854775807) :
    Calls Tryz.prog 15 #[.pointer (some ⟨g, 0, none⟩), .string (St p)] w fun e w' => e = .returned (.tuple #[(stA s r p).1, .int .i64 (stA s r p).2]) ∧ Below w.heap.size w w' := by
  unfold stA
  cases hs : spl p with
  | none => exact stat_no h hw.ok hpl (E := 16) (by decide) (.inl ⟨hs, rfl⟩)
  | some ns =>
    obtain ⟨tr, htr, _⟩ := hw.ok.dir
    rcases go_ends hw.ok ns r ⟨tr, htr⟩ with ⟨h1, b, t, h2, ht⟩ | ⟨h1, h2⟩
    · simp only [h2, ht]
      obtain ⟨rk, hdp, _⟩ := hw.deep (by omega)
      exact stat_ok h hw.ok hs (Prod.ext h1 h2) ht (hdp.small b t ht)
    · simp only [h2]
      exact stat_no h hw.ok hpl (E := (go s ns r).1) (by omega) (.inr ⟨ns, hs, Prod.ext rfl h2⟩)

end Go.Proofs.YtknmgefpjdfenaaGreat

