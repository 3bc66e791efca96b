/- Joined: RParE, RParG, ROpA, ROpB, WLaw. -/
import Derived.Test.YtadnlljknocbbaaGreatDoorWoJ45
import Derived.Test.YtadnlljknocbbaaGreatDoorWoJ41
import Derived.Test.YtadnlljknocbbaaGreatDoorWoJ18
import Derived.Test.YtadnlljknocbbaaGreatDoorWoJ40
import Derived.Test.YtadnlljknocbbaaGreatDoorWoJ44
import Derived.Test.YtadnlljknocbbaaGreatDoorWoJ43
import Derived.Test.YtadnlljknocbbaaGreatDoorWoJ42
import Derived.Test.YtadnlljknocbbaaGreatDoorWoJ31
import Derived.Test.YtadnlljknocbbaaGreatDoorWoJ4
import Derived.Test.YtadnlljknocbbaaGreatDoorWoJ10
/- The document's Parse: the walk behind a header that is sound. -/
namespace Go.Proofs.YtadnlljknocbbaaGreatDoor
open Go.RowKit Go.Shelf
set_option linter.unusedVariables false
set_option maxRecDepth 100000

set_option maxHeartbeats 8000000 in
theorem rparse_good (P : Nat → Int) (G : Geo) (hP : PG P G) (kb c : Nat) (X : Nat → Option Addr × Nat) (rd : Nat → List Int) (w : World) (hB : Bks w kb G.ib G.blk X rd) (sq0 t used : Nat) (ht : t < G.lg) (hu : used ≤ G.lg) (hs0 : sq0 ≤ 4294967295)
    (K0 : ∀ u, Below w.heap.size w u → Calls Tryz.prog 94 #[.slice (X 1).1 G.blk (X 1).2] u fun e w' => e = .returned (.tuple #[.agg #[.int .i64 (sq0 : Int), .int .i64 (t : Int), .int .i64 (used : Int)], .int .i64 0]) ∧ Below u.heap.size u w') :
    Calls Tryz.prog 54 #[Pv P, .slice (some ⟨kb, 0, none⟩) G.ib c] w (PEnd w G (.agg #[.int .i64 (sq0 : Int), .int .i64 (t : Int), .int .i64 (used : Int)]) (sq0 : Int) (rgo G rd t used 600 0 (fun _ => none) [])) := by
  have hmix : Tryz.prog.follows Departure.mixedOrders = true := by kernel_rfl
  have hGo := hP.ok
  have l1 := hGo.l1
  have l2 := hGo.l2
  have K := hide K0
  have HBk := hide hB
  have hk0 := Kp.start w P
  have HZ := hide (Bl.new (w.alloc (.cells (Pc P) 25)) #[.int .i64 0, .int .i64 0, .int .i64 0] 57)
  have HK := hide (hk0.alloc (.cells #[.int .i64 0, .int .i64 0, .int .i64 0] 57))
  have e1 : (w.alloc (.cells (Pc P) 25)).heap.size = w.heap.size + 1 := by simp
  rw [e1] at HZ
  have C1 : Hid (∀ u, Below w.heap.size w u → u.cell? ⟨kb, 1, none⟩ = some (.slice (X 1).1 G.blk (X 1).2)) := fun u hu => (hB.below hu).cel 1 (by unfold Geo.ib; omega)
  have hP3 := hide hP.p3
  have HPG := hide hP
  have i1 : (1 : Int) < (G.ib : Int) := by unfold Geo.ib; omega
  have R0 : Hid (rgo G rd t used (used - 0 + 1) 0 (fun _ => none) [] = rgo G rd t used 600 0 (fun _ => none) []) := (rgo_fuel 600 0 _ _ (by omega)).symm
  generalize rgo G rd t used 600 0 (fun _ => none) [] = R at *
  clear K0 hB hk0 hP
  generalize hni : G.ib = ni at *
  go_enter Tryz.func54, Tryz.ntmps54
  go_upto_region 1 with fail
  change Code.wp _ _ _ _ ((w.alloc (.cells (Pc P) 25)).alloc (.cells #[.int .i64 0, .int .i64 0, .int .i64 0] 57))
  generalize (w.alloc (.cells (Pc P) 25)).alloc (.cells #[.int .i64 0, .int .i64 0, .int .i64 0] 57) = W at *
  clear e1
  have c1 := C1.out W HK.out.2
  go_wp2_with fail
  go_at_call 94
  refine (K.out W HK.out.2).mono ?_
  rintro e w1 ⟨rfl, hb⟩
  replace HK := hide (HK.out.call hb)
  replace HZ := hide (HZ.out.call hb)
  clear hb K c1 C1
  have HV := hide (Bl.new w1 #[.int .i64 (sq0 : Int), .int .i64 (t : Int), .int .i64 (used : Int)] 57)
  have HN := hide (show w1.heap.size ≠ w.heap.size + 1 from fun e => by have := HZ.out.lt; omega)
  replace HK := hide (HK.out.alloc (.cells #[.int .i64 (sq0 : Int), .int .i64 (t : Int), .int .i64 (used : Int)] 57))
  replace HZ := hide (HZ.out.alloc (.cells #[.int .i64 (sq0 : Int), .int .i64 (t : Int), .int .i64 (used : Int)] 57))
  go_upto_region 2 with fail
  change Code.wp _ _ _ _ (w1.alloc (.cells #[.int .i64 (sq0 : Int), .int .i64 (t : Int), .int .i64 (used : Int)] 57))
  generalize w1.alloc (.cells #[.int .i64 (sq0 : Int), .int .i64 (t : Int), .int .i64 (used : Int)] 57) = w2 at *
  have HWL : Hid (w.heap.size + 1 < w2.heap.size) := HZ.out.lt
  generalize w1.heap.size = gh at *
  have HP2 : Hid (PB w P gh (sq0 : Int) (t : Int) (used : Int) w2) := ⟨HK.out, HZ.out, HV.out, HN.out⟩
  replace HBk := hide (HBk.out.below HK.out.2)
  have v1 := HV.out.cell 1 _ rfl
  have v2 := HV.out.cell 2 _ rfl
  have f3 := HK.out.1.cell 3 (by omega)
  rw [hP3.out] at f3
  clear HK HZ HV HN hP3
  have h1' : ¬ (G.lg : Int) ≤ (t : Int) := by omega
  have h2' : ¬ (G.lg : Int) < (used : Int) := by omega
  have J0 : Hid (PO w2 G rd t used R 0 (.slice none 0 0) (.slice none 0 0) w2) := ⟨[], _, [], PA.start w2 G, SQ.nil _ _, Nat.le_refl _, R0.out⟩
  clear R0
  go_upto_region 7 with fail
  clear v1 v2 f3 h1' h2'
  have KP : Hid (∀ u, Below w2.heap.size w2 u → PB w P gh (sq0 : Int) (t : Int) (used : Int) u) := fun u hu => HP2.out.call hu
  have KB : Hid (∀ u, Below w2.heap.size w2 u → Bks u kb ni G.blk X rd) := fun u hu => HBk.out.below hu
  clear HP2 HBk
  have hblk : G.blk ≤ 4096 := by have := size_bd hGo.size; omega
  go_loopw [9, 10, 11] (fun pv sv i wr => ∃ (k : Nat) (v s : Value), k ≤ used ∧ v = pv ∧ s = sv ∧ i = .int .i64 (k : Int) ∧ Hid (PO w2 G rd t used R k v s wr)) (fun _ _ i _ => used - (intOf i).toNat)
  case atStart => exact ⟨0, _, _, Nat.zero_le _, rfl, rfl, rfl, J0⟩
  case round =>
    obtain ⟨k, v, s, hk, rfl, rfl, rfl, hJ⟩ := hrel
    clear J0
    have v2 := (KP.out wr hJ.out.bel).hd.cell 2 _ rfl
    by_cases hlt : k < used
    · have j1 : (k : Int) < (used : Int) := by omega
      obtain ⟨m, y, n0, n1, n2, n3, n4, n5, n6, n7, n8⟩ := par_nums hGo t k ht (by omega)
      rw [hni] at n7
      have CS : Hid (∀ u, Below w2.heap.size w2 u → u.cell? ⟨w.heap.size, 4, none⟩ = some (.int .i64 2) ∧ u.cell? ⟨w.heap.size, 3, none⟩ = some (.int .i64 (G.lg : Int)) ∧ u.cell? ⟨gh, 1, none⟩ = some (.int .i64 (t : Int)) ∧ u.cell? ⟨kb, G.ring (t + k), none⟩ = some (.slice (X (G.ring (t + k))).1 G.blk (X (G.ring (t + k))).2)) := fun u hu => by
        have a1 := (KP.out u hu).kp.1.cell 4 (by omega)
        have a2 := (KP.out u hu).kp.1.cell 3 (by omega)
        rw [HPG.out.p4] at a1
        rw [HPG.out.p3] at a2
        exact ⟨a1, a2, (KP.out u hu).hd.cell 1 _ rfl, (KB.out u hu).cel _ (by omega)⟩
      have KU : Hid (∀ u, Below w2.heap.size w2 u → Calls Tryz.prog 95 #[.slice (X (G.ring (t + k))).1 G.blk (X (G.ring (t + k))).2] u fun e w' => _) := fun u hu => undesc_both _ _ _ (rd (G.ring (t + k))) u ((KB.out u hu).row _ (by omega)) hblk
      have B0 := hide hJ.out.bel
      have B0d : Hid (Below w2.heap.size w2 wr.drew) := hJ.out.bel.drew
      generalize (X (G.ring (t + k))).1 = xa at *
      generalize (X (G.ring (t + k))).2 = xc at *
      go_upto_region 8 with fail
      clear v2
      have J0d : Hid (PO w2 G rd t used R k v s wr.drew) := hJ.out.later ((Below.refl _ _).drew)
      have J0p : Hid (PO w2 G rd t used R k v s wr) := hJ
      clear hJ
      generalize hzs : rd (G.ring (t + k)) = zs at *
      generalize hrr : G.ring (t + k) = r at *
      generalize hli : (G.lg : Int) = li at *
      go_cut [12, 13, 14] from 43 to 155 (fun q l f wx => ∃ q0 a1 N c1 e0, q = .int .i64 q0 ∧ l = .slice a1 N c1 ∧ f = .int .i64 e0 ∧ Hid (UD wx zs q0 a1 N e0) ∧ Hid (PO w2 G rd t used R k v s wx))
      case first =>
        go_region_held3 (fun u => u.cell? ⟨w.heap.size, 4, none⟩ = some (.int .i64 2) ∧ u.cell? ⟨w.heap.size, 3, none⟩ = some (.int .i64 li) ∧ u.cell? ⟨gh, 1, none⟩ = some (.int .i64 (t : Int)) ∧ u.cell? ⟨kb, r, none⟩ = some (.slice xa G.blk xc))
          (with_reducible (first | exact unhide CS _ (unhide B0d) | exact unhide CS _ (unhide B0) | exact unhide CS _ (unhide B1)))
          ((go_at_call 95; refine (unhide KU _ (unhide B0d)).mono ?_; rintro e w6 ⟨q0, a1, N, c1, e0, rfl, hb, hU⟩; have J1 : Hid (PO w2 G rd t used R k v s w6) := (unhide J0d).later (unhide hb); have B1 : Hid (Below w2.heap.size w2 w6) := (unhide J1).bel; clear hb))
        all_goals
          go_wp2_with fail
          go_meet
          exact ⟨q0, a1, N, c1, e0, rfl, rfl, rfl, hU, J1⟩
      case rest =>
        obtain ⟨q0, a1, N, c1, e0, rfl, rfl, rfl, hU, J1⟩ := hcut
        clear CS KU B0 B0d J0d J0p n1 n2 n3 n4 n5
        have HP := hide (KP.out _ J1.out.bel)
        have v2 := HP.out.hd.cell 2 _ rfl
        obtain ⟨d, d1, u1, u2, u3, u4, u5, u6⟩ : ∃ d d1 : Int, (used : Int) - (k : Int) = d ∧ wrap64 d = d ∧ IntKind.i64.wrap d = d ∧ d - 1 = d1 ∧ wrap64 d1 = d1 ∧ IntKind.i64.wrap d1 = d1 := ⟨_, _, rfl, by unfold wrap64; omega, by rw [IntKind.wrap_i64]; omega, rfl, by unfold wrap64; omega, by rw [IntKind.wrap_i64]; omega⟩
        rcases unhide hU with ⟨rfl, hnd⟩ | ⟨rfl, hd, hN, hq, hI, hN2⟩
        · have NB : Hid (rres (sq0 : Int) R = none) := J1.out.bad hlt (by rw [hrr, hzs]; exact fun x => hnd x.1.1) _
          clear hU J1 KP KB hnd u1 u2 u3 u4 u5 u6 hlt HPG hli hrr hzs n0 n6 n7 n8 hGo l1 l2 hblk hni ht hu hs0
          have hz := HP.out.res.free
          have z0 := HP.out.res.cell 0 _ rfl
          have z1 := HP.out.res.cell 1 _ rfl
          have z2 := HP.out.res.cell 2 _ rfl
          go_wp2_with fail
          obtain ⟨wf, ewf, hW, hA⟩ := HP.out.bad
          change bodyPost _ _ _ _ _ (setAll wc (w.heap.size + 1) 0 [.int .i64 0, .int .i64 0, .int .i64 0])
          rw [← ewf]
          refine bodyPost_ret (v := .tuple #[.agg #[.int .i64 0, .int .i64 0, .int .i64 0], .slice none 0 0, .bool false]) ?_ rfl ⟨hW, .inl ⟨unhide NB, rfl⟩⟩
          simp [results, Tryz.results54, go_sem, hA.cell 0 _ rfl, hA.cell 1 _ rfl, hA.cell 2 _ rfl]
        · by_cases hN0 : N = 0
          · have NB : Hid (rres (sq0 : Int) R = none) := J1.out.bad hlt (by rw [hrr, hzs]; exact fun x => x.1.2.1 (List.length_eq_zero_iff.1 (by omega))) _
            subst hN0
            clear hU J1 KP KB hI hd hN hq hN2 u1 u2 u3 u4 u5 u6 hlt HPG hli hrr hzs n0 n6 n7 n8 hGo l1 l2 hblk hni ht hu hs0
            have hz := HP.out.res.free
            have z0 := HP.out.res.cell 0 _ rfl
            have z1 := HP.out.res.cell 1 _ rfl
            have z2 := HP.out.res.cell 2 _ rfl
            go_wp2_with fail
            obtain ⟨wf, ewf, hW, hA⟩ := HP.out.bad
            change bodyPost _ _ _ _ _ (setAll wc (w.heap.size + 1) 0 [.int .i64 0, .int .i64 0, .int .i64 0])
            rw [← ewf]
            refine bodyPost_ret (v := .tuple #[.agg #[.int .i64 0, .int .i64 0, .int .i64 0], .slice none 0 0, .bool false]) ?_ rfl ⟨hW, .inl ⟨unhide NB, rfl⟩⟩
            simp [results, Tryz.results54, go_sem, hA.cell 0 _ rfl, hA.cell 1 _ rfl, hA.cell 2 _ rfl]
          · have b0 : ((N : Int) == 0) = false := by simpa using hN0
            by_cases hN1 : d1 < (N : Int)
            · have NB : Hid (rres (sq0 : Int) R = none) := J1.out.bad hlt (by rw [hrr, hzs]; exact fun x => by omega) _
              clear hU J1 KP KB hI hN hd hq hN2 hlt HPG hli hrr hzs n0 n6 n7 n8 hGo l1 l2 hblk hni ht hu hs0
              have hz := HP.out.res.free
              have z0 := HP.out.res.cell 0 _ rfl
              have z1 := HP.out.res.cell 1 _ rfl
              have z2 := HP.out.res.cell 2 _ rfl
              go_wp2_with fail
              obtain ⟨wf, ewf, hW, hA⟩ := HP.out.bad
              change bodyPost _ _ _ _ _ (setAll wc (w.heap.size + 1) 0 [.int .i64 0, .int .i64 0, .int .i64 0])
              rw [← ewf]
              refine bodyPost_ret (v := .tuple #[.agg #[.int .i64 0, .int .i64 0, .int .i64 0], .slice none 0 0, .bool false]) ?_ rfl ⟨hW, .inl ⟨unhide NB, rfl⟩⟩
              simp [results, Tryz.results54, go_sem, hA.cell 0 _ rfl, hA.cell 1 _ rfl, hA.cell 2 _ rfl]
            · have HI := hide hI
              have HD := hide hd
              have HQ := hide hq
              have HNl := hide hN
              have HN2 := hide hN2
              have HR := hide (And.intro hrr hzs)
              have HLI := hide hli
              clear hU hI hd hq hN hN2 hrr hzs n0 n6 n7 n8 hli
              have b1 : decide (d1 < (N : Int)) = false := by simpa using hN1
              have JI : Hid (PI w2 G rd t used R k s a1 N 0 v wc) := PI.start J1.out (by rw [HR.out.1, HR.out.2]; exact HI.out) (by rw [HR.out.1, HR.out.2]; exact HNl.out) (by rw [HR.out.1, HR.out.2]; exact HD.out) hN0 (by omega)
              obtain ⟨kl, off, rfl⟩ : ∃ kl off, a1 = some ⟨kl, off, none⟩ := by
                obtain ⟨b, o, e, _⟩ := HI.out.2 (by omega)
                exact ⟨b, o, e⟩
              have CL : Hid (∀ u i, i < N → IHas u (some ⟨kl, off, none⟩) N (dsL (rd (G.ring (t + k)))) → u.cell? ⟨kl, off + i, none⟩ = some (.int .i64 ((dsL (rd (G.ring (t + k))))[i]?.getD 0))) := fun u i hi h => by
                obtain ⟨b', o', e, hc⟩ := h.2 (by omega)
                cases e
                exact hc i hi
              have PC : Hid (∀ u, Below w2.heap.size w2 u → u.cell? ⟨w.heap.size, 5, none⟩ = some (.int .i64 (ni : Int)) ∧ u.cell? ⟨w.heap.size, 1, none⟩ = some (.int .i64 (G.n : Int))) := fun u hu => by
                have a1 := (KP.out u hu).kp.1.cell 5 (by omega)
                have a2 := (KP.out u hu).kp.1.cell 1 (by omega)
                rw [HPG.out.p5, hni] at a1
                rw [HPG.out.p1] at a2
                exact ⟨a1, a2⟩
              have HNI := hide hni
              have HUU := hide (And.intro u1 u4)
              go_upto_region 12 with fail
              clear HI HD HNl HP v2 J1 u1 u2 u3 u4 u5 u6 b0 b1 hN1 hni
              go_loopw [9, 15] (fun pv i wr => ∃ (j : Nat) (v' : Value), j ≤ N ∧ v' = pv ∧ i = .int .i64 (j : Int) ∧ Hid (PI w2 G rd t used R k s (some ⟨kl, off, none⟩) N j v' wr)) (fun _ i _ => N - (intOf i).toNat)
              case atStart => exact ⟨0, v, Nat.zero_le _, rfl, rfl, JI⟩
              case round =>
                obtain ⟨j, v', hj, rfl, rfl, hI⟩ := hrel
                clear JI
                by_cases hlt2 : j < N
                · have i0 : (0 : Int) ≤ (j : Int) := by omega
                  have i2 : (j : Int) < (N : Int) := by omega
                  have cj := CL.out wr j hlt2 hI.out.li
                  obtain ⟨p5, p1⟩ := PC.out wr hI.out.bel
                  have ID : Hid (∀ q, PI w2 G rd t used R k s (some ⟨kl, off, none⟩) N j v' (wr.drewN q)) := fun q => hI.out.later (below_drewN (Below.refl _ _) q)
                  obtain ⟨b, hb⟩ : ∃ b, (dsL (rd (G.ring (t + k))))[j]?.getD 0 = b := ⟨_, rfl⟩
                  rw [hb] at cj
                  have HB := hide hb
                  clear hb
                  have HL2 := hide (And.intro hlt hlt2)
                  have HJ2 := hide hj
                  have HK2 := hide hk
                  generalize hgn : (G.n : Int) = gn at *
                  have HGN := hide hgn
                  clear hgn
                  generalize hnn : (ni : Int) = nn at *
                  have HNN := hide hnn
                  clear hnn
                  go_upto_region 14 with fail
                  go_cut [104] from 83 to 146 (fun c wx => c = .bool (decide (b < nn) || decide (gn ≤ b)) ∧ Hid (PI w2 G rd t used R k s (some ⟨kl, off, none⟩) N j v' wx))
                  case first =>
                    by_cases h : b < nn
                    · go_big_quiet_o (fail)
                      go_wp2
                      go_meet
                      exact ⟨by simp [h], ID.out _⟩
                    · have dn : decide (b < nn) = false := decide_eq_false h
                      by_cases h2 : gn ≤ b
                      · go_big_quiet_o (fail)
                        go_wp2
                        go_meet
                        exact ⟨by simp [h2], ID.out _⟩
                      · have dn2 : decide (gn ≤ b) = false := decide_eq_false h2
                        go_big_quiet_o (fail)
                        go_wp2
                        go_meet
                        exact ⟨by simp [dn, dn2], ID.out _⟩
                  case rest =>
                    obtain ⟨rfl, I2⟩ := hcut
                    clear cj p5 p1 ID
                    by_cases hr : nn ≤ b ∧ b < gn
                    · have eb : (decide (b < nn) || decide (gn ≤ b)) = false := by simp; omega
                      rw [eb]
                      have HRg := hide hr
                      go_upto_region 17 with fail
                      clear eb hr
                      go_loopw [16] (fun i wr => ∃ m2 : Nat, m2 ≤ j ∧ i = .int .i64 (m2 : Int) ∧ Hid (PI w2 G rd t used R k s (some ⟨kl, off, none⟩) N j v' wr) ∧ Hid (∀ m3, m3 < m2 → (dsL (rd (G.ring (t + k))))[m3]?.getD 0 ≠ b)) (fun i _ => j - (intOf i).toNat)
                      case atStart => exact ⟨0, Nat.zero_le _, rfl, I2, fun m3 h => by omega⟩
                      case round =>
                        obtain ⟨m2, hm, rfl, I3, HD2⟩ := hrel
                        clear I2
                        by_cases hlt3 : m2 < j
                        · have c1 := CL.out wr m2 (by have := HL2.out.2; omega) I3.out.li
                          have c2 := CL.out wr j HL2.out.2 I3.out.li
                          rw [HB.out] at c2
                          obtain ⟨b2, hb2⟩ : ∃ b2, (dsL (rd (G.ring (t + k))))[m2]?.getD 0 = b2 := ⟨_, rfl⟩
                          rw [hb2] at c1
                          have HB2 := hide hb2
                          clear hb2
                          have i3 : (m2 : Int) < (j : Int) := by omega
                          have i4 : (0 : Int) ≤ (m2 : Int) := by omega
                          have i5 : (m2 : Int) < (N : Int) := by omega
                          have ID : Hid (∀ q, PI w2 G rd t used R k s (some ⟨kl, off, none⟩) N j v' (wr.drewN q)) := fun q => I3.out.later (below_drewN (Below.refl _ _) q)
                          have HL3 := hide hlt3
                          go_upto_region 19 with fail
                          go_cut [119] from 106 to 120 (fun c wx => c = .bool (b2 == b) ∧ Hid (PI w2 G rd t used R k s (some ⟨kl, off, none⟩) N j v' wx))
                          case first =>
                            go_big_quiet_o (fail)
                            go_wp2
                            go_meet
                            exact ⟨rfl, ID.out _⟩
                          case rest =>
                            obtain ⟨rfl, I4⟩ := hcut
                            clear c1 c2 ID I3
                            by_cases e : b2 = b
                            · have eb : (b2 == b) = true := by simpa using e
                              rw [eb]
                              have HP := hide (KP.out _ I4.out.bel)
                              have NB : Hid (rres (sq0 : Int) R = none) := I4.out.two HL2.out.2 hlt3 (by rw [HB.out, HB2.out]; exact e) _
                              clear KP KB PC CL I4 e eb
                              have hz := HP.out.res.free
                              have z0 := HP.out.res.cell 0 _ rfl
                              have z1 := HP.out.res.cell 1 _ rfl
                              have z2 := HP.out.res.cell 2 _ rfl
                              go_wp2_with fail
                              obtain ⟨wf, ewf, hW, hA⟩ := HP.out.bad
                              change bodyPost _ _ _ _ _ (setAll wc (w.heap.size + 1) 0 [.int .i64 0, .int .i64 0, .int .i64 0])
                              rw [← ewf]
                              refine bodyPost_ret (v := .tuple #[.agg #[.int .i64 0, .int .i64 0, .int .i64 0], .slice none 0 0, .bool false]) ?_ rfl ⟨hW, .inl ⟨unhide NB, rfl⟩⟩
                              simp [results, Tryz.results54, go_sem, hA.cell 0 _ rfl, hA.cell 1 _ rfl, hA.cell 2 _ rfl]
                            · have eb : (b2 == b) = false := by simpa using e
                              rw [eb]
                              have HD3 : Hid (∀ m3, m3 < m2 + 1 → (dsL (rd (G.ring (t + k))))[m3]?.getD 0 ≠ b) := fun m3 h => by
                                by_cases e1 : m3 = m2
                                · rw [e1, HB2.out]; exact e
                                · exact HD2.out m3 (by omega)
                              clear e eb HD2
                              have hN2 := HN2.out
                              have hj2 := HJ2.out
                              go_wp2_with fail
                              go_roundw
                              case rel => exact ⟨m2 + 1, by omega, by go_num, I4, HD3⟩
                              case measure => simp [intOf]; omega
                        · have i6 : ¬ (m2 : Int) < (j : Int) := by omega
                          have HD4 : Hid (∀ m3, m3 < j → (dsL (rd (G.ring (t + k))))[m3]?.getD 0 ≠ b) := fun m3 h => HD2.out m3 (by omega)
                          have hfit := I3.out.fit
                          have hlt2' := HL2.out.2
                          obtain ⟨m, y, q0, q1, q2, q3, q4, q5, q6, q7, q8⟩ := par_nums hGo t (k + 1 + j) ht (by omega)
                          have hw : G.ring (t + k + 1 + j) = G.ring (t + (k + 1 + j)) := by rw [show t + k + 1 + j = t + (k + 1 + j) by omega]
                          rw [HNI.out] at q7
                          obtain ⟨s1, s2, g1, g2, g3, g4, g5, g6, g7⟩ : ∃ s1 s2 : Int, (t : Int) + (k : Int) = s1 ∧ wrap64 s1 = s1 ∧ IntKind.i64.wrap s1 = s1 ∧ s1 + 1 = s2 ∧ wrap64 s2 = s2 ∧ IntKind.i64.wrap s2 = s2 ∧ s2 + (j : Int) = m := ⟨_, _, rfl, by unfold wrap64; omega, by rw [IntKind.wrap_i64]; omega, rfl, by unfold wrap64; omega, by rw [IntKind.wrap_i64]; omega, by omega⟩
                          rw [HLI.out] at q3 q6
                          have hrow := (KB.out wr I3.out.bel).row (G.ring (t + (k + 1 + j))) (by have := HNN.out; omega)
                          have CS : Hid (∀ u, Below w2.heap.size w2 u → u.cell? ⟨w.heap.size, 4, none⟩ = some (.int .i64 2) ∧ u.cell? ⟨w.heap.size, 3, none⟩ = some (.int .i64 li) ∧ u.cell? ⟨gh, 1, none⟩ = some (.int .i64 (t : Int)) ∧ u.cell? ⟨kb, G.ring (t + (k + 1 + j)), none⟩ = some (.slice (X (G.ring (t + (k + 1 + j)))).1 G.blk (X (G.ring (t + (k + 1 + j)))).2)) := fun u hu => by
                            have a1 := (KP.out u hu).kp.1.cell 4 (by omega)
                            have a2 := (KP.out u hu).kp.1.cell 3 (by omega)
                            rw [HPG.out.p4] at a1
                            rw [HPG.out.p3, HLI.out] at a2
                            exact ⟨a1, a2, (KP.out u hu).hd.cell 1 _ rfl, (KB.out u hu).cel _ (by have := HNN.out; omega)⟩
                          obtain ⟨da, dc, u1, r1, o1, b1⟩ := app_newd (c := (X (G.ring (t + (k + 1 + j)))).2) hrow.has (by omega)
                          have R1 := hide r1
                          have I5 : Hid (PI w2 G rd t used R k s (some ⟨kl, off, none⟩) N j v' u1) := I3.out.later b1
                          have O1 : Hid (Own w2.heap.size u1 da G.blk dc (rd (G.ring (t + (k + 1 + j))))) := o1.base I3.out.bel.size
                          have Z1 := hide hrow.2.2.2.1
                          have B0d : Hid (Below w2.heap.size w2 wr.drew) := I3.out.bel.drew
                          have BA : Hid (Below w2.heap.size w2 (wr.alloc (.cells #[] 5)).drew) := (I3.out.bel.alloc I3.out.bel.size _).drew
                          have B1 := hide I5.out.bel
                          have HW := hide hw
                          clear r1 o1 b1 hrow hw HD2 I3 q0 hfit hlt2'
                          generalize (X (G.ring (t + (k + 1 + j)))).1 = xa2 at *
                          generalize (X (G.ring (t + (k + 1 + j)))).2 = xc2 at *
                          generalize hr2 : G.ring (t + (k + 1 + j)) = r2 at *
                          have HR2 := hide hr2
                          clear hr2
                          go_upto_region 21 with fail
                          go_cut [17] from 83 to 146 (fun d wx => d = .slice da G.blk dc ∧ u1 = wx)
                          case first =>
                            go_region_held3 (fun u => u.cell? ⟨w.heap.size, 4, none⟩ = some (.int .i64 2) ∧ u.cell? ⟨w.heap.size, 3, none⟩ = some (.int .i64 li) ∧ u.cell? ⟨gh, 1, none⟩ = some (.int .i64 (t : Int)) ∧ u.cell? ⟨kb, r2, none⟩ = some (.slice xa2 G.blk xc2))
                              (with_reducible (first | exact unhide CS _ (unhide B0d) | exact unhide CS _ (unhide BA) | exact unhide CS _ (unhide B1)))
                              ((refine step_append_run (by rfl) _ _ _ (by rfl) _ _ _ (by rfl) (by rfl) (unhide R1) ?_; clear R1))
                            all_goals
                              go_wp2_with fail
                              go_meet
                              exact ⟨rfl, rfl⟩
                          case rest =>
                            obtain ⟨rfl, rfl⟩ := hcut
                            have KN := hide (I5.out.note hGo HL2.out.2 (by rw [HB.out, HGN.out, HNI.out, HNN.out]; exact HRg.out) (by rw [HB.out]; exact HD4.out) da dc (by rw [HW.out]; exact O1.out) (by rw [HW.out]; exact Z1.out))
                            rw [HB.out] at KN
                            have cj := CL.out _ j HL2.out.2 I5.out.li
                            rw [HB.out] at cj
                            clear CS O1 Z1 B0d BA B1 q1 q2 q3 q4 q5 q6 q7 q8 g1 g2 g3 g4 g5 g6 g7 I5
                            go_wp2_with fail
                            go_at_call 61
                            refine (unhide KN).mono ?_
                            rintro e w8 ⟨v8, rfl, I6⟩
                            have hN2 := HN2.out
                            have hlt2' := HL2.out.2
                            clear KN cj
                            go_wp2_with fail
                            go_roundw
                            case rel => exact ⟨j + 1, v8, by omega, rfl, by go_num, I6⟩
                            case measure => simp [intOf]; omega
                    · have eb : (decide (b < nn) || decide (gn ≤ b)) = true := by simp; omega
                      rw [eb]
                      have HP := hide (KP.out _ I2.out.bel)
                      have NB : Hid (rres (sq0 : Int) R = none) := I2.out.out HL2.out.2 (by rw [HB.out, HGN.out, HNI.out, HNN.out]; exact hr) _
                      clear KP KB PC CL I2 hr eb
                      have hz := HP.out.res.free
                      have z0 := HP.out.res.cell 0 _ rfl
                      have z1 := HP.out.res.cell 1 _ rfl
                      have z2 := HP.out.res.cell 2 _ rfl
                      go_wp2_with fail
                      obtain ⟨wf, ewf, hW, hA⟩ := HP.out.bad
                      change bodyPost _ _ _ _ _ (setAll wc (w.heap.size + 1) 0 [.int .i64 0, .int .i64 0, .int .i64 0])
                      rw [← ewf]
                      refine bodyPost_ret (v := .tuple #[.agg #[.int .i64 0, .int .i64 0, .int .i64 0], .slice none 0 0, .bool false]) ?_ rfl ⟨hW, .inl ⟨unhide NB, rfl⟩⟩
                      simp [results, Tryz.results54, go_sem, hA.cell 0 _ rfl, hA.cell 1 _ rfl, hA.cell 2 _ rfl]
                · have ej : j = N := by omega
                  rw [ej] at hI
                  have i2 : ¬ (j : Int) < (N : Int) := by omega
                  obtain ⟨s', u', r, Z⟩ := hI.out.done (by omega)
                  have Z2 := hide Z
                  have R1 := hide r
                  have hN2 := HN2.out
                  have hfit := hI.out.fit
                  have hq2 : getVal (rd (G.ring (t + k))) 4 4 = q0 := by rw [HR.out.1, HR.out.2]; exact HQ.out.symm
                  rw [hq2] at R1
                  clear Z r hI hq2 KP KB PC CL
                  have hli9 := HLI.out
                  subst hli9
                  go_wp2_with (at_builtin; refine wpList_append_run 40 rfl _ _ rfl _ _ _ rfl rfl (unhide R1) ?_; clear R1)
                  go_roundw
                  case rel => exact ⟨k + 1 + N, v', s', by omega, rfl, rfl, by go_num, Z2⟩
                  case measure => simp [intOf]; omega
    · have ek : k = used := by omega
      have j1 : ¬ (k : Int) < (used : Int) := by omega
      have hJu := hJ.out
      rw [ek] at hJu
      obtain ⟨V, Q, sq, hA, hS, hL, hR⟩ := hJu.done
      obtain ⟨sa, sc, hse, hSI⟩ := hS.shape
      have HA := hide hA
      have HSI := hide hSI
      have HRR := hide hR
      have HW2 : Hid (w.heap.size + 1 < w2.heap.size) := HWL.out
      subst hse
      generalize hln : sq.length = M at *
      have HLN := hide hln
      clear hJ hJu hA hS hSI hR hln HPG KB hlt hk
      have hM : M ≤ 512 := by omega
      go_upto_region 26 with fail
      clear v2 j1
      go_loopw [18] (fun i wr => ∃ m : Nat, m ≤ M ∧ i = .int .i64 (m : Int) ∧ Hid (PA w2 G wr v V Q) ∧ Hid (IHas wr sa M sq) ∧ Hid (∀ m3, m3 < m → sq[m3]?.getD 0 = (sq0 : Int) - (M : Int) + (m3 : Int))) (fun i _ => M - (intOf i).toNat)
      case atStart => exact ⟨0, Nat.zero_le _, rfl, HA, HSI, fun m3 h => by omega⟩
      case round =>
        obtain ⟨m, hm, rfl, A1, S1, N1⟩ := hrel
        clear HA HSI
        by_cases hlt : m < M
        · obtain ⟨x1, x2, y1, y2, y3, y4, y5, y6⟩ := seq_nums sq0 M m hs0 hM hm
          obtain ⟨b, o, rfl, hc⟩ := S1.out.2 (by omega)
          have c1 := hc m hlt
          obtain ⟨zq, hzq⟩ : ∃ zq, sq[m]?.getD 0 = zq := ⟨_, rfl⟩
          rw [hzq] at c1
          have HZQ := hide hzq
          have v0 := (KP.out wr A1.out.bel).hd.cell 0 _ rfl
          have i1 : (m : Int) < (M : Int) := by omega
          have i2 : (0 : Int) ≤ (m : Int) := by omega
          have AD : Hid (∀ q, PA w2 G (wr.drewN q) v V Q) := fun q => A1.out.later (below_drewN (Below.refl _ _) q)
          have SD : Hid (∀ q, IHas (wr.drewN q) (some ⟨b, o, none⟩) M sq) := fun q => S1.out.later (below_drewN (Below.refl _ _) q)
          have HX2 : Hid (x2 = (sq0 : Int) - (M : Int) + (m : Int)) := by rw [y1]; exact y4.symm
          have HLM := hide hlt
          clear hc hzq hlt A1 S1
          go_upto_region 28 with fail
          go_cut [173] from 156 to 174 (fun c wx => c = .bool (zq != x2) ∧ Hid (PA w2 G wx v V Q) ∧ Hid (IHas wx (some ⟨b, o, none⟩) M sq))
          case first =>
            go_big_quiet_o (fail)
            go_wp2
            go_meet
            exact ⟨rfl, AD.out _, SD.out _⟩
          case rest =>
            obtain ⟨rfl, A2, S2⟩ := hcut
            clear AD SD c1 v0 y1 y2 y3 y4 y5 y6
            by_cases e : zq = x2
            · have eb : (zq != x2) = false := by simpa using e
              rw [eb]
              have N2 : Hid (∀ m3, m3 < m + 1 → sq[m3]?.getD 0 = (sq0 : Int) - (M : Int) + (m3 : Int)) := fun m3 h => by
                by_cases e1 : m3 = m
                · rw [e1, HZQ.out, e]; exact HX2.out
                · exact N1.out m3 (by omega)
              have hm9 := HLM.out
              clear e eb N1 HX2 HZQ HLM
              go_wp2_with fail
              go_roundw
              case rel => exact ⟨m + 1, by omega, by go_num, A2, S2, N2⟩
              case measure => simp [intOf]; omega
            · have eb : (zq != x2) = true := by simpa using e
              rw [eb]
              have HP := hide (KP.out _ A2.out.bel)
              have nb : ¬ sqOk (sq0 : Int) sq := by
                intro ho
                have h9 := ho m (by rw [HLN.out]; exact HLM.out)
                rw [HLN.out, HZQ.out] at h9
                exact e (h9.trans HX2.out.symm)
              have NB : Hid (rres (sq0 : Int) R = none) := hide (by rw [HRR.out]; exact rres_bad nb)
              clear nb
              clear KP A2 S2 e eb N1 HX2 HZQ HLM HLN HRR hm hM
              have hz := HP.out.res.free
              have z0 := HP.out.res.cell 0 _ rfl
              have z1 := HP.out.res.cell 1 _ rfl
              have z2 := HP.out.res.cell 2 _ rfl
              go_wp2_with fail
              obtain ⟨wf, ewf, hW, hA⟩ := HP.out.bad
              change bodyPost _ _ _ _ _ (setAll wc (w.heap.size + 1) 0 [.int .i64 0, .int .i64 0, .int .i64 0])
              rw [← ewf]
              refine bodyPost_ret (v := .tuple #[.agg #[.int .i64 0, .int .i64 0, .int .i64 0], .slice none 0 0, .bool false]) ?_ rfl ⟨hW, .inl ⟨unhide NB, rfl⟩⟩
              simp [results, Tryz.results54, go_sem, hA.cell 0 _ rfl, hA.cell 1 _ rfl, hA.cell 2 _ rfl]
        · have em : m = M := by omega
          have i1 : ¬ (m : Int) < (M : Int) := by omega
          have HP := hide (KP.out wr A1.out.bel)
          have HG := hide (HP.out.good HW2.out A1.out)
          have ng : sqOk (sq0 : Int) sq := by
            intro i hi
            rw [HLN.out] at hi ⊢
            exact N1.out i (by omega)
          have NG : Hid (rres (sq0 : Int) R = some Q) := hide (by rw [HRR.out]; exact rres_ok ng)
          clear ng
          have v0 := HP.out.hd.cell 0 _ rfl
          have v1 := HP.out.hd.cell 1 _ rfl
          have v2 := HP.out.hd.cell 2 _ rfl
          have hz := HP.out.res.free
          have z0 := HP.out.res.cell 0 _ rfl
          have z1 := HP.out.res.cell 1 _ rfl
          have z2 := HP.out.res.cell 2 _ rfl
          clear KP A1 S1 N1 HRR HLN HP hlt hm em hM
          go_wp2_with fail
          obtain ⟨wf, ewf, hW, hA, hV⟩ := HG.out
          change bodyPost _ _ _ _ _ (setAll wr (w.heap.size + 1) 0 [.int .i64 (sq0 : Int), .int .i64 (t : Int), .int .i64 (used : Int)])
          rw [← ewf]
          refine bodyPost_ret (v := .tuple #[.agg #[.int .i64 (sq0 : Int), .int .i64 (t : Int), .int .i64 (used : Int)], v, .bool true]) ?_ rfl ⟨hW, .inr ⟨Q, v, unhide NG, rfl, hide hV⟩⟩
          simp [results, Tryz.results54, go_sem, hA.cell 0 _ rfl, hA.cell 1 _ rfl, hA.cell 2 _ rfl]

end Go.Proofs.YtadnlljknocbbaaGreatDoor

/- The document's Parse: what it answers to all blocks. -/
namespace Go.Proofs.YtadnlljknocbbaaGreatDoor
open Go.RowKit Go.Shelf
set_option linter.unusedVariables false
set_option maxRecDepth 100000

/-- What Parse answers. -/
def PsA (w : World) (G : Geo) (rd : Nat → List Int) (e : Ending) (w' : World) : Prop :=
  Below w.heap.size w w' ∧ ((parse G rd = none ∧ e = .returned (.tuple #[.agg #[.int .i64 0, .int .i64 0, .int .i64 0], .slice none 0 0, .bool false])) ∨
    ∃ L v, parse G rd = some L ∧ L.dead = false ∧ L.h.Ok G ∧ e = .returned (.tuple #[.agg #[.int .i64 (L.h.seq : Int), .int .i64 (L.h.tail : Int), .int .i64 (L.h.used : Int)], v, .bool true]) ∧
      Hid (∃ V, Lw w.heap.size w' v V ∧ (∀ y ∈ V, Own w.heap.size w' y.da y.dl y.dc y.z ∧ (∀ z ∈ y.z, 0 ≤ z ∧ z ≤ 255)) ∧ wl V = pendW G L.Q ∧ ∀ y ∈ V, 0 ≤ y.b ∧ y.dl = G.blk))

theorem parse_no {G : Geo} {rd : Nat → List Int} (h : ¬ (hdIs (rd 1) ∧ (hdOf (rd 1)).tail < G.lg ∧ (hdOf (rd 1)).used ≤ G.lg)) : parse G rd = none := by
  unfold parse
  rw [if_neg h]

theorem rparse_any (P : Nat → Int) (G : Geo) (hP : PG P G) (kb c : Nat) (X : Nat → Option Addr × Nat) (rd : Nat → List Int) (w : World) (hB : Bks w kb G.ib G.blk X rd) :
    Calls Tryz.prog 54 #[Pv P, .slice (some ⟨kb, 0, none⟩) G.ib c] w (PsA w G rd) := by
  have h1 : 1 < G.ib := by unfold Geo.ib; omega
  have hr := hB.row 1 h1
  have hz := hr.2.2.2.1
  by_cases hd : hdIs (rd 1)
  · have f0 := hdOf_fn hz 0 (by omega)
    have f1 := hdOf_fn hz 1 (by omega)
    have f2 := hdOf_fn hz 2 (by omega)
    have hs := hdOf_seq hz
    have K0 : ∀ u, Below w.heap.size w u → Calls Tryz.prog 94 #[.slice (X 1).1 G.blk (X 1).2] u fun e w' => e = .returned (.tuple #[.agg #[.int .i64 ((hdOf (rd 1)).seq : Int), .int .i64 ((hdOf (rd 1)).tail : Int), .int .i64 ((hdOf (rd 1)).used : Int)], .int .i64 0]) ∧ Below u.heap.size u w' := fun u hu => by
      refine (refUnheader_is _ _ _ _ u ((hB.below hu).row 1 h1) hd).mono ?_
      rintro e w' ⟨rfl, hb⟩
      refine ⟨?_, hb⟩
      show Ending.returned (.tuple #[.agg #[.int .i64 (hdrOf (rd 1) 0), .int .i64 (hdrOf (rd 1) 1), .int .i64 (hdrOf (rd 1) 2)], .int .i64 0]) = _
      rw [f0, f1, f2]
      rfl
    by_cases hb : (hdOf (rd 1)).tail < G.lg ∧ (hdOf (rd 1)).used ≤ G.lg
    · have hp := parse_ref (G := G) (rd := rd) ⟨hd, hb.1, hb.2⟩
      refine (rparse_good P G hP kb c X rd w hB (hdOf (rd 1)).seq (hdOf (rd 1)).tail (hdOf (rd 1)).used hb.1 hb.2 hs K0).mono ?_
      rintro e w' ⟨b, (⟨hn, rfl⟩ | ⟨Q, v, hq, rfl, hv⟩)⟩
      · refine ⟨b, .inl ⟨?_, rfl⟩⟩
        rw [hp, hn]
        rfl
      · refine ⟨b, .inr ⟨⟨hdOf (rd 1), Q, false⟩, v, ?_, rfl, ⟨hs, hb.1, hb.2⟩, rfl, hv⟩⟩
        rw [hp, hq]
        rfl
    · refine (rparse_bad P G hP kb G.ib c X rd w hB (by omega) _ _ _ 0 K0 (by omega)).mono ?_
      rintro e w' ⟨rfl, b⟩
      exact ⟨b, .inl ⟨parse_no (fun x => hb x.2), rfl⟩⟩
  · have K0 : ∀ u, Below w.heap.size w u → Calls Tryz.prog 94 #[.slice (X 1).1 G.blk (X 1).2] u fun e w' => e = .returned (.tuple #[.agg #[.int .i64 0, .int .i64 0, .int .i64 0], .int .i64 4]) ∧ Below u.heap.size u w' := fun u hu => refUnheader_not _ _ _ _ u ((hB.below hu).row 1 h1) hd
    refine (rparse_bad P G hP kb G.ib c X rd w hB (by omega) _ _ _ 4 K0 (by omega)).mono ?_
    rintro e w' ⟨rfl, b⟩
    exact ⟨b, .inl ⟨parse_no (fun x => hd x.1), rfl⟩⟩

end Go.Proofs.YtadnlljknocbbaaGreatDoor

/- The document's Open: the blocks that it reads. -/
namespace Go.Proofs.YtadnlljknocbbaaGreatDoor
open Go.RowKit Go.Shelf
set_option linter.unusedVariables false
set_option maxRecDepth 100000

set_option maxHeartbeats 1000000 in
theorem rread_own (g i : Nat) (S : Nat → Prop) (D : Dev) (w : World) (hD : Rv w S g D) (hd : D.dead = false) (hi : i < D.n) :
    Calls Tryz.prog 53 #[.pointer (some ⟨g, 0, none⟩), .int .i64 i] w fun e w' => ∃ a' c', e = .returned (.tuple #[.slice a' D.blk c', .int .i64 0]) ∧ Hid (Own w.heap.size w' a' D.blk c' (D.rd i) ∧ ∀ z ∈ D.rd i, 0 ≤ z ∧ z ≤ 255) ∧ Below w.heap.size w w' := by
  obtain ⟨m, hD⟩ := hD
  obtain ⟨c0, c1, c2, c3, c4⟩ := hD.cells
  rw [hd] at c3
  obtain ⟨k, c, e1, e2, e3, e4, l1, l2, l3⟩ := hD.list hi
  obtain ⟨r, l4, l5⟩ := l3 (D.Y i).length (by omega)
  rw [rd_last] at l5
  have hb2 := hD.ok.b2
  have hn2 := hD.ok.n2
  have hy := hD.ok.y i hi
  obtain ⟨a', c', w', R', hO, hB⟩ := app_new (c := r.2) (l5.row hb2).has (by omega)
  have R := hide R'
  have H1 := hide (And.intro hO (l5.row hb2).2.2.2.1)
  have H2 := hide hB
  have l6 : ∀ o, (w.alloc o).cell? ⟨k, (D.Y i).length, none⟩ = some (rv D.blk r) := fun o => by
    have hb := (Below.refl w.heap.size w).alloc (Nat.le_refl _) o
    rw [hb.cell (p := ⟨k, (D.Y i).length, none⟩) (cell_block_lt l4)]
    exact l4
  unfold maxLen at e3
  have hin : (i : Int) < (D.n : Int) := by omega
  generalize hq : D.rd i = zs at *
  clear hq e1 l5 R' hO hB hD hd l2 l3 e4
  generalize (D.Y i).length = ly at *
  obtain ⟨r1, r2⟩ := r
  generalize m.h = hh at *
  generalize m.hc = hc at *
  generalize D.n = nn at *
  generalize D.blk = bb at *
  go_enter Tryz.func53, Tryz.ntmps53
  go_wp2_with (at_builtin; refine wpList_append_run 50 rfl _ _ rfl _ _ _ rfl rfl (unhide R) ?_; clear R)
  go_ret2
  exact ⟨a', c', rfl, H1, unhide H2⟩

theorem info_row : (Tryz.prog.info? 50).map (fun i => (i.zero, i.size, i.bytes)) = some (some (.slice none 0 0), 1, 24) := by kernel_rfl

/-- A list of rows of the call's own. -/
def BL (w0 u : World) (v : Value) (blk : Nat) (rd : Nat → List Int) (Xs : List (Option Addr × Nat)) : Prop :=
  u.ownsRow w0.heap.size 50 1 v Xs.length (Xs.map (fun x => .slice x.1 blk x.2)) ∧ (∀ j x, Xs[j]? = some x → Own w0.heap.size u x.1 blk x.2 (rd j) ∧ ∀ z ∈ rd j, 0 ≤ z ∧ z ≤ 255) ∧ Below w0.heap.size w0 u

theorem ownsRow_own1 {u : World} {B e n : Nat} {v : Value} {L : List Value} (h : u.ownsRow B e 1 v n L) {k : Nat} (hk : v.ownBlock = some k) : B ≤ k ∧ ∃ cur, u.heap[k]? = some (.cells cur e (0, 0)) := by
  obtain ⟨h1, h2⟩ := h
  rcases h2 with ⟨rfl, _⟩ | ⟨g, cap, cur, rfl, hb, hg, r⟩
  · simp [Value.ownBlock] at hk
  · simp [Value.ownBlock] at hk
    subst hk
    exact ⟨hb, cur, hg⟩

theorem ownsRow_kept1 {u u' : World} {B e n : Nat} {v : Value} {L : List Value} (h : u.ownsRow B e 1 v n L) (hk : ∀ k, v.ownBlock = some k → u'.heap[k]? = u.heap[k]?) : u'.ownsRow B e 1 v n L := by
  obtain ⟨h1, h2⟩ := h
  refine ⟨h1, ?_⟩
  rcases h2 with h2 | ⟨g, cap, cur, rfl, hb, hg, r⟩
  · exact .inl h2
  · exact .inr ⟨g, cap, cur, rfl, hb, (hk g rfl).trans hg, r⟩

theorem BL.nil (w0 : World) (blk : Nat) (rd : Nat → List Int) : BL w0 w0 (.slice none 0 0) blk rd [] := ⟨World.ownsRow_nil _ _ _ 1, fun j x h => by simp at h, Below.refl _ _⟩

theorem BL.later {w0 u u' : World} {v : Value} {blk : Nat} {rd : Nat → List Int} {Xs : List (Option Addr × Nat)} (h : BL w0 u v blk rd Xs) (hb : Below u.heap.size u u') : BL w0 u' v blk rd Xs := by
  obtain ⟨h1, h2, h3⟩ := h
  refine ⟨ownsRow_kept1 h1 (fun k e => ?_), fun j x hj => ⟨(h2 j x hj).1.below hb (Nat.le_refl _), (h2 j x hj).2⟩, h3.trans (hb.mono h3.size)⟩
  obtain ⟨_, cur, hc⟩ := ownsRow_own1 h1 e
  exact hb.block k (Array.getElem?_eq_some_iff.1 hc).1

/-- One block more. -/
theorem BL.app {w0 u u1 : World} {v : Value} {blk : Nat} {rd : Nat → List Int} {Xs : List (Option Addr × Nat)} (h : BL w0 u v blk rd Xs) (hb : Below u.heap.size u u1) (a' : Option Addr) (c' : Nat) (hO : Own u.heap.size u1 a' blk c' (rd Xs.length)) (hz : ∀ z ∈ rd Xs.length, 0 ≤ z ∧ z ≤ 255) (hl : Xs.length ≤ 65536) :
    ∃ v' w', (∀ ty, (Builtin.append_ #[80, 80] ty #[v, .slice (some ⟨u1.heap.size, 0, none⟩) 1 1]).run Tryz.prog (u1.alloc (.cells #[.slice a' blk c'] 50)) = .ok v' w') ∧ BL w0 w' v' blk rd (Xs ++ [(a', c')]) := by
  obtain ⟨i0, hi, hz0, hz1, hz2⟩ := info_parts info_row
  have h1 := h.later hb
  have hb0 : Below u1.heap.size u1 (u1.alloc (.cells #[.slice a' blk c'] 50)) := (Below.refl _ _).alloc (Nat.le_refl _) _
  have h2 := h1.later hb0
  have hs := h1.2.2.size
  have hnews : ∀ (j : Nat) (x : Value), [Value.slice a' blk c'][j]? = some x → (u1.alloc (.cells #[.slice a' blk c'] 50)).cell? ((⟨u1.heap.size, 0, none⟩ : Addr).add j) = some x := by
    intro j x hj
    obtain rfl : j = 0 := by
      have := (List.getElem?_eq_some_iff.1 hj).1
      simp at this
      exact this
    simp at hj
    subst hj
    rw [World.add_zero_spot]
    simp [go_sem]
  obtain ⟨v', w', hr, ho, hg, _⟩ := run_append_own (P := Tryz.prog) (u1.alloc (.cells #[.slice a' blk c'] 50)) w0.heap.size 80 0 50 i0 (.slice none 0 0) 1 24 (by kernel_rfl) hi hz0 hz1 hz2 rfl (by decide) v Xs.length _ h2.1 ⟨u1.heap.size, 0, none⟩ 1 1 [.slice a' blk c'] (by simp) hnews (by simp [Value.oneCell']) (by unfold maxLen; omega) (by omega) (by simp; omega)
  have hrow : ∀ k, k < (u1.alloc (.cells #[.slice a' blk c'] 50)).heap.size → (∀ (t : TypeId) (c : Array Value) (q : Nat × Nat), (u1.alloc (.cells #[.slice a' blk c'] 50)).heap[k]? = some (Obj.cells c t q) → t ≠ 50) → w'.heap[k]? = (u1.alloc (.cells #[.slice a' blk c'] 50)).heap[k]? := fun k hk ht => by
    refine hg.block k hk (fun e => ?_)
    obtain ⟨_, cur, hc⟩ := ownsRow_own1 h2.1 e.symm
    exact ht _ _ _ hc rfl
  have keep : ∀ {x : Option Addr} {c : Nat} {zs : List Int}, Own w0.heap.size (u1.alloc (.cells #[.slice a' blk c'] 50)) x blk c zs → Own w0.heap.size w' x blk c zs := fun {x c zs} ho' => ho'.kept (fun g e => by
    obtain ⟨l1, l2, cur, l3⟩ := ho'.lt e
    exact hrow g l1 (fun t c q hh => by rw [l3] at hh; cases hh; decide))
  refine ⟨v', w', fun ty => hr, ?_, ?_, h2.2.2.grown hg (by simp; omega) (fun k e => (ownsRow_own1 h2.1 e).1)⟩
  · have e1 : (Xs ++ [(a', c')]).map (fun x => Value.slice x.1 blk x.2) = Xs.map (fun x => Value.slice x.1 blk x.2) ++ [.slice a' blk c'] := by simp
    have e2 : (Xs ++ [(a', c')]).length = Xs.length + 1 := by simp
    rw [e1, e2]
    exact ho
  · intro j x hj
    by_cases hlt : j < Xs.length
    · rw [List.getElem?_append_left hlt] at hj
      exact ⟨keep (h2.2.1 j x hj).1, (h2.2.1 j x hj).2⟩
    · have hjl := (List.getElem?_eq_some_iff.1 hj).1
      simp at hjl
      obtain rfl : j = Xs.length := by omega
      rw [List.getElem?_append_right (Nat.le_refl _), Nat.sub_self] at hj
      simp at hj
      subst hj
      exact ⟨keep ((hO.base (Nat.le_trans h.2.2.size (Nat.le_refl _))).below hb0 (Nat.le_refl _)), hz⟩

theorem own_row {B : Nat} {u : World} {a : Option Addr} {n c : Nat} {xs : List Int} (h : Own B u a n c xs) (hz : ∀ z ∈ xs, 0 ≤ z ∧ z ≤ 255) (hn : n ≤ 4096) : Row u.heap.size u a n c xs :=
  ⟨h.1, h.2.1, ⟨by omega, by have := h.2.2.1; unfold maxLen at this; omega⟩, hz, fun hp => by
    obtain ⟨b, off, e, hc⟩ := h.has.2 hp
    exact ⟨b, off, e, cell_block_lt (hc 0 hp), hc⟩⟩

/-- All of them. -/
theorem BL.bks {w0 u : World} {v : Value} {blk : Nat} {rd : Nat → List Int} {Xs : List (Option Addr × Nat)} (h : BL w0 u v blk rd Xs) (h0 : 0 < Xs.length) (hk : blk ≤ 4096) : ∃ kb c, v = .slice (some ⟨kb, 0, none⟩) Xs.length c ∧ Bks u kb Xs.length blk (fun j => Xs[j]?.getD (none, 0)) rd := by
  obtain ⟨⟨h1, h2⟩, h3, h4⟩ := h
  rcases h2 with ⟨_, h2⟩ | ⟨g, cap, cur, rfl, hg, hh, k1, k2, k3, k4⟩
  · omega
  · refine ⟨g, cap, rfl, (Array.getElem?_eq_some_iff.1 hh).1, fun j hj => ?_, fun j hj => ?_⟩
    · have hx : Xs[j]? = some Xs[j] := List.getElem?_eq_getElem hj
      rw [Nat.mul_one] at k4
      have he : (cur.toList.take Xs.length)[j]? = some (.slice (Xs[j]).1 blk (Xs[j]).2) := by rw [k4, List.getElem?_map, hx]; rfl
      rw [List.getElem?_take_of_lt hj] at he
      simp only [World.cell?, hh, hx, Option.getD_some]
      simpa using he
    · have hx : Xs[j]? = some Xs[j] := List.getElem?_eq_getElem hj
      obtain ⟨o1, o2⟩ := h3 j _ hx
      rw [hx]
      exact own_row o1 o2 hk

end Go.Proofs.YtadnlljknocbbaaGreatDoor

/- The document's Open. -/
namespace Go.Proofs.YtadnlljknocbbaaGreatDoor
open Go.RowKit Go.Shelf Go.Maps
set_option linter.unusedVariables false
set_option maxRecDepth 100000

/-- What the document's Open answers. -/
def ROA (P : Nat → Int) (G : Geo) (D : Dev) (dg : Nat) (w : World) (w' : World) (e : Ending) : Prop :=
  Below w.heap.size w w' ∧ ((D.dead = true ∧ e = .returned (.tuple #[.pointer none, .int .i64 7])) ∨ (D.dead = false ∧ parse G D.rd = none ∧ e = .returned (.tuple #[.pointer none, .int .i64 9])) ∨
    (D.dead = false ∧ ∃ L g V pv, parse G D.rd = some L ∧ e = .returned (.tuple #[.pointer (some ⟨g, 0, none⟩), .int .i64 0]) ∧ RlM w' (fun k => w.heap.size ≤ k ∧ k < w'.heap.size) g dg P G L V pv))

theorem lw_slice {B : Nat} {u : World} {v : Value} {V : List Wr} (h : Lw B u v V) : ∃ a n c, v = .slice a n c := by
  rcases h.2 with ⟨rfl, _⟩ | ⟨g, cap, cur, rfl, _⟩
  · exact ⟨_, _, _, rfl⟩
  · exact ⟨_, _, _, rfl⟩

/-- The struct is laid. -/
theorem ropen_laid {w u w1 : World} {dg : Nat} {P : Nat → Int} {G : Geo} {L : Lg} {v : Value} (hP : PG P G) (hb : Below w.heap.size w u) (hb1 : Below u.heap.size u w1) (hd : L.dead = false) (hh : L.h.Ok G)
    (hV : ∃ V, Lw u.heap.size w1 v V ∧ (∀ y ∈ V, Own u.heap.size w1 y.da y.dl y.dc y.z ∧ (∀ z ∈ y.z, 0 ≤ z ∧ z ≤ 255)) ∧ wl V = pendW G L.Q ∧ ∀ y ∈ V, 0 ≤ y.b ∧ y.dl = G.blk) (ob : Obj) :
    ∃ V, RlM ((w1.alloc ob).alloc (.cells #[.pointer (some ⟨dg, 0, none⟩), .int .i64 (P 0), .int .i64 (P 1), .int .i64 (P 2), .int .i64 (P 3), .int .i64 (P 4), .int .i64 (P 5), .int .i64 (P 6), .int .i64 (P 7), .int .i64 (P 8), .int .i64 (P 9), .int .i64 (P 10), .int .i64 (P 11), .int .i64 (L.h.seq : Int), .int .i64 (L.h.tail : Int), .int .i64 (L.h.used : Int), v, .bool false] 94)) (fun k => w.heap.size ≤ k ∧ k < ((w1.alloc ob).alloc (.cells #[.pointer (some ⟨dg, 0, none⟩), .int .i64 (P 0), .int .i64 (P 1), .int .i64 (P 2), .int .i64 (P 3), .int .i64 (P 4), .int .i64 (P 5), .int .i64 (P 6), .int .i64 (P 7), .int .i64 (P 8), .int .i64 (P 9), .int .i64 (P 10), .int .i64 (P 11), .int .i64 (L.h.seq : Int), .int .i64 (L.h.tail : Int), .int .i64 (L.h.used : Int), v, .bool false] 94)).heap.size) (w1.heap.size + 1) dg P G L V v := by
  obtain ⟨V, v1, v2, v3, v4⟩ := hV
  have z1 : (w1.alloc ob).heap.size = w1.heap.size + 1 := by simp
  have str := World.rowIs_alloc (w1.alloc ob) #[.pointer (some ⟨dg, 0, none⟩), .int .i64 (P 0), .int .i64 (P 1), .int .i64 (P 2), .int .i64 (P 3), .int .i64 (P 4), .int .i64 (P 5), .int .i64 (P 6), .int .i64 (P 7), .int .i64 (P 8), .int .i64 (P 9), .int .i64 (P 10), .int .i64 (P 11), .int .i64 (L.h.seq : Int), .int .i64 (L.h.tail : Int), .int .i64 (L.h.used : Int), v, .bool false] 94 (rlcell dg P L v) (fun i hi => by
    have h18 : i < 18 := by simpa using hi
    have : i = 0 ∨ i = 1 ∨ i = 2 ∨ i = 3 ∨ i = 4 ∨ i = 5 ∨ i = 6 ∨ i = 7 ∨ i = 8 ∨ i = 9 ∨ i = 10 ∨ i = 11 ∨ i = 12 ∨ i = 13 ∨ i = 14 ∨ i = 15 ∨ i = 16 ∨ i = 17 := by omega
    rcases this with rfl | rfl | rfl | rfl | rfl | rfl | rfl | rfl | rfl | rfl | rfl | rfl | rfl | rfl | rfl | rfl | rfl | rfl <;> first | rfl | (unfold rlcell; rw [hd]; rfl))
  rw [z1] at str
  have b2 : Below w1.heap.size w1 ((w1.alloc ob).alloc (.cells #[.pointer (some ⟨dg, 0, none⟩), .int .i64 (P 0), .int .i64 (P 1), .int .i64 (P 2), .int .i64 (P 3), .int .i64 (P 4), .int .i64 (P 5), .int .i64 (P 6), .int .i64 (P 7), .int .i64 (P 8), .int .i64 (P 9), .int .i64 (P 10), .int .i64 (P 11), .int .i64 (L.h.seq : Int), .int .i64 (L.h.tail : Int), .int .i64 (L.h.used : Int), v, .bool false] 94)) := ((Below.refl _ _).alloc (Nat.le_refl _) _).alloc (by simp) _
  have z2 : ((w1.alloc ob).alloc (.cells #[.pointer (some ⟨dg, 0, none⟩), .int .i64 (P 0), .int .i64 (P 1), .int .i64 (P 2), .int .i64 (P 3), .int .i64 (P 4), .int .i64 (P 5), .int .i64 (P 6), .int .i64 (P 7), .int .i64 (P 8), .int .i64 (P 9), .int .i64 (P 10), .int .i64 (P 11), .int .i64 (L.h.seq : Int), .int .i64 (L.h.tail : Int), .int .i64 (L.h.used : Int), v, .bool false] 94)).heap.size = w1.heap.size + 2 := by simp
  generalize ((w1.alloc ob).alloc (.cells #[.pointer (some ⟨dg, 0, none⟩), .int .i64 (P 0), .int .i64 (P 1), .int .i64 (P 2), .int .i64 (P 3), .int .i64 (P 4), .int .i64 (P 5), .int .i64 (P 6), .int .i64 (P 7), .int .i64 (P 8), .int .i64 (P 9), .int .i64 (P 10), .int .i64 (P 11), .int .i64 (L.h.seq : Int), .int .i64 (L.h.tail : Int), .int .i64 (L.h.used : Int), v, .bool false] 94)) = W at *
  have s1 := hb.size
  have s2 := hb1.size
  have lw := v1.below b2
  refine ⟨V, str, lw.base (Nat.zero_le _), fun k e => ?_, fun j hj => ?_, v3, v4, ⟨by omega, by omega⟩, fun k hk => hk.2, hP, hh⟩
  · obtain ⟨q1, cur, q2⟩ := ownsRow_blk2 lw e
    exact ⟨by omega, (Array.getElem?_eq_some_iff.1 q2).1⟩
  · have hm : wat V j ∈ V := wat_mem hj
    obtain ⟨o, z⟩ := v2 _ hm
    have o2 := o.below b2 (Nat.le_refl _)
    obtain ⟨n1, n2⟩ := v4 _ hm
    have hbk := size_bd hP.ok.size
    obtain ⟨g, eg⟩ : ∃ g, (wat V j).da = some ⟨g, 0, none⟩ := by
      rcases o2.2.2.2 with ⟨_, x, _⟩ | ⟨g, cur, e, _⟩
      · omega
      · exact ⟨g, e⟩
    obtain ⟨l1, l2, _⟩ := o2.lt eg
    exact ⟨g, eg, ⟨by omega, l1⟩, o2.base (Nat.zero_le _), z⟩

/-- In the loop: k blocks are read. -/
def OB (W1 : World) (blk : Nat) (rd : Nat → List Int) (k : Nat) (v : Value) (u : World) : Prop := ∃ Xs, BL W1 u v blk rd Xs ∧ Xs.length = k

theorem OB.bel {W1 : World} {blk : Nat} {rd : Nat → List Int} {k : Nat} {v : Value} {u : World} (h : OB W1 blk rd k v u) : Below W1.heap.size W1 u := by
  obtain ⟨Xs, h, _⟩ := h
  exact h.2.2

set_option maxHeartbeats 4000000 in
theorem ropen_good (P : Nat → Int) (G : Geo) (dg : Nat) (Sd : Nat → Prop) (D : Dev) (w : World) (hP : PG P G) (hD : Rv w Sd dg D) (bd : D.blk = G.blk) (nd : D.n = G.n) (hd : D.dead = false) :
    Calls Tryz.prog 14 #[.pointer (some ⟨dg, 0, none⟩), Pv P] w fun e w' => Hid (ROA P G D dg w w' e) := by
  have K1 : Hid (∀ u, Below w.heap.size w u → Calls Tryz.prog 49 #[.pointer (some ⟨dg, 0, none⟩), Pv P] u fun e w' => e = .returned (.int .i64 0) ∧ Below u.heap.size u w') := fun u hu => fit_good P G dg Sd D u hP (hD.below hu) bd nd
  have K2 : Hid (∀ u i, Below w.heap.size w u → i < G.ib → Calls Tryz.prog 53 #[.pointer (some ⟨dg, 0, none⟩), .int .i64 (i : Nat)] u fun e w' => ∃ a' c', e = .returned (.tuple #[.slice a' G.blk c', .int .i64 0]) ∧ Hid (Own u.heap.size w' a' G.blk c' (D.rd i) ∧ ∀ z ∈ D.rd i, 0 ≤ z ∧ z ≤ 255) ∧ Below u.heap.size u w') := fun u i hu hi => by
    have := rread_own dg i Sd D u (hD.below hu) hd (by have := hP.ok.n1; rw [nd]; unfold Geo.ib at hi; omega)
    rwa [bd] at this
  have K3 : Hid (∀ u kb c X, Bks u kb G.ib G.blk X D.rd → Calls Tryz.prog 54 #[Pv P, .slice (some ⟨kb, 0, none⟩) G.ib c] u (PsA u G D.rd)) := fun u kb c X hB => rparse_any P G hP kb c X D.rd u hB
  have HK := hide (Kp.start w P)
  have HPG := hide hP
  have hib : Hid (0 < G.ib ∧ G.ib ≤ 514 ∧ G.blk ≤ 4096) := ⟨by unfold Geo.ib; omega, by have := hP.ok.l2; unfold Geo.ib; omega, by have := size_bd hP.ok.size; omega⟩
  have HDD := hide hd
  have p5 := hide hP.p5
  clear hP hD bd nd hd
  generalize hni : G.ib = ni at *
  have HNI := hide hni
  clear hni
  go_enter Tryz.func14, Tryz.ntmps14
  go_wp2_with fail
  go_at_call 49
  refine (unhide K1 _ (unhide HK).2).mono ?_
  rintro e W1 ⟨rfl, hb⟩
  replace HK := hide ((unhide HK).call hb)
  clear hb K1
  have J0 : Hid (OB W1 G.blk D.rd 0 (.slice none 0 0) W1) := ⟨[], BL.nil _ _ _, rfl⟩
  have HW1 : Hid (w.heap.size < W1.heap.size) := HK.out.1.lt
  go_upto_region 6 with fail
  go_loopw [7, 8] (fun v i wr => ∃ (k : Nat) (v' : Value), k ≤ ni ∧ v' = v ∧ i = .int .i64 (k : Int) ∧ Hid (OB W1 G.blk D.rd k v' wr)) (fun _ i _ => ni - (intOf i).toNat)
  case atStart => exact ⟨0, _, Nat.zero_le _, rfl, rfl, J0⟩
  case round =>
    obtain ⟨k, v, hk, rfl, rfl, hJ⟩ := hrel
    clear J0
    have f5 := (HK.out.call hJ.out.bel).1.cell 5 (by omega)
    rw [p5.out] at f5
    by_cases hlt : k < ni
    · have j1 : (k : Int) < (ni : Int) := by omega
      have KR := hide (K2.out wr k (HK.out.call hJ.out.bel).2 hlt)
      go_wp2_with fail
      go_at_call 53
      refine (unhide KR).mono ?_
      rintro e w2 ⟨a', c', rfl, HO, hb⟩
      obtain ⟨Xs, hX, hlen⟩ := hJ.out
      obtain ⟨v', w3, r, hX2⟩ := hX.app hb a' c' (by rw [hlen]; exact HO.out.1) (by rw [hlen]; exact HO.out.2) (by have := hib.out; omega)
      have R := hide r
      have Z : Hid (OB W1 G.blk D.rd (k + 1) v' w3) := ⟨Xs ++ [(a', c')], hX2, by simp; omega⟩
      have hib2 := hib.out.2.1
      clear r hX hX2 hlen HO hb KR hJ f5
      go_wp2_with (at_builtin; refine wpList_append_run 80 rfl _ _ rfl _ _ _ rfl rfl (unhide R) ?_; clear R)
      go_roundw
      case rel => exact ⟨k + 1, v', by omega, rfl, by go_num, Z⟩
      case measure => simp [intOf]; omega
    · have j1 : ¬ (k : Int) < (ni : Int) := by omega
      have ek : k = ni := by omega
      obtain ⟨Xs, hX, hlen⟩ := hJ.out
      obtain ⟨kb, c, rfl, hB⟩ := hX.bks (by have := hib.out.1; omega) hib.out.2.2
      rw [hlen, ek] at hB
      have K4 := hide (K3.out wr kb c _ hB)
      have HKr := hide (HK.out.call hJ.out.bel)
      have en : Xs.length = ni := by omega
      rw [en]
      clear hJ hX hlen hB ek hlt hk K2 K3
      go_upto_region 12 with fail
      clear j1 en f5
      obtain ⟨f0, f1, f2, f3, f4, f5, f6, f7, f8, f9, f10, f11⟩ := HKr.out.cells
      go_wp2_with fail
      go_at_call 54
      refine (unhide K4).mono ?_
      rintro e w2 ⟨hb, (⟨hp, rfl⟩ | ⟨L, pv, hp, hdd, hok, rfl, hv⟩)⟩
      · have X : Hid (∀ o e', e' = .returned (.tuple #[.pointer none, .int .i64 9]) → ROA P G D dg w (w2.alloc o) e') := fun o e' he => ⟨((HKr.out.call hb).alloc o).2, .inr (.inl ⟨HDD.out, hp, he⟩)⟩
        clear hp K4 HKr hb f0 f1 f2 f3 f4 f5 f6 f7 f8 f9 f10 f11
        go_wp2_with fail
        go_ret2
        exact X.out _ _ rfl
      · obtain ⟨pa, pn, pc, rfl⟩ : ∃ a n c, pv = .slice a n c := by
          obtain ⟨V, v1, _⟩ := hv.out
          exact lw_slice v1
        have HL := hide (ropen_laid (w := w) (u := wr) (w1 := w2) (dg := dg) (P := P) (G := G) (L := L) (v := .slice pa pn pc) HPG.out HKr.out.2 hb hdd hok hv.out (.cells #[.int .i64 (L.h.seq : Int), .int .i64 (L.h.tail : Int), .int .i64 (L.h.used : Int)] 57))
        have HQ := hide (((HKr.out.call hb).alloc (.cells #[.int .i64 (L.h.seq : Int), .int .i64 (L.h.tail : Int), .int .i64 (L.h.used : Int)] 57)))
        have X : Hid (∀ u, (∃ V, RlM u (fun k => w.heap.size ≤ k ∧ k < u.heap.size) (w2.heap.size + 1) dg P G L V (.slice pa pn pc)) → Below w.heap.size w u → ROA P G D dg w u (.returned (.tuple #[.pointer (some ⟨w2.heap.size + 1, 0, none⟩), .int .i64 0]))) := fun u hV hu => by
          obtain ⟨V, hV⟩ := hV
          exact ⟨hu, .inr (.inr ⟨HDD.out, L, _, V, _, hp, rfl, hV⟩)⟩
        clear hp hdd hok hv K4 HKr hb f0 f1 f2 f3 f4 f5 f6 f7 f8 f9 f10 f11 HPG HDD hib HNI p5 HK HW1
        obtain ⟨f0, f1, f2, f3, f4, f5, f6, f7, f8, f9, f10, f11⟩ := HQ.out.cells
        generalize (L.h.seq : Int) = s0 at *
        generalize (L.h.tail : Int) = s1 at *
        generalize (L.h.used : Int) = s2 at *
        go_wp2_with fail
        go_ret2
        exact X.out _ HL.out (HQ.out.alloc _).2

set_option maxHeartbeats 1000000 in
theorem ropen_dead (P : Nat → Int) (G : Geo) (dg : Nat) (Sd : Nat → Prop) (D : Dev) (w : World) (hP : PG P G) (hD : Rv w Sd dg D) (bd : D.blk = G.blk) (nd : D.n = G.n) (hd : D.dead = true) :
    Calls Tryz.prog 14 #[.pointer (some ⟨dg, 0, none⟩), Pv P] w fun e w' => Hid (ROA P G D dg w w' e) := by
  have K1 : Hid (∀ u, Below w.heap.size w u → Calls Tryz.prog 49 #[.pointer (some ⟨dg, 0, none⟩), Pv P] u fun e w' => e = .returned (.int .i64 0) ∧ Below u.heap.size u w') := fun u hu => fit_good P G dg Sd D u hP (hD.below hu) bd nd
  have K2 : Hid (∀ u i, Below w.heap.size w u → _) := fun u i hu => rread_dead dg i Sd D u (hD.below hu) hd
  have HK := hide (Kp.start w P)
  have i1 : (0 : Int) < (G.ib : Int) := by unfold Geo.ib; omega
  have p5 := hide hP.p5
  have HDD := hide hd
  clear hP hD bd nd hd
  go_enter Tryz.func14, Tryz.ntmps14
  go_wp2_with fail
  go_at_call 49
  refine (unhide K1 _ (unhide HK).2).mono ?_
  rintro e W1 ⟨rfl, hb⟩
  replace HK := hide ((unhide HK).call hb)
  clear hb K1
  have f5 := HK.out.1.cell 5 (by omega)
  rw [p5.out] at f5
  generalize (G.ib : Int) = ni at *
  have K3 := hide (K2.out W1 0 HK.out.2)
  go_upto_region 6 with fail
  go_loopw [7, 8] (fun v i wr => i = .int .i64 0 ∧ W1 = wr) (fun _ _ _ => 0)
  case atStart => exact ⟨rfl, rfl⟩
  case round =>
    obtain ⟨rfl, rfl⟩ := hrel
    go_wp2_with fail
    go_at_call 53
    refine (unhide K3).mono ?_
    rintro e w2 ⟨rfl, rfl⟩
    have X : Hid (ROA P G D dg w W1 (.returned (.tuple #[.pointer none, .int .i64 7]))) := ⟨HK.out.2, .inl ⟨HDD.out, rfl⟩⟩
    clear K3 K2 HK
    go_wp2_with fail
    go_ret2
    exact X

theorem ropen_any (P : Nat → Int) (G : Geo) (dg : Nat) (Sd : Nat → Prop) (D : Dev) (w : World) (hP : PG P G) (hD : Rv w Sd dg D) (bd : D.blk = G.blk) (nd : D.n = G.n) :
    Calls Tryz.prog 14 #[.pointer (some ⟨dg, 0, none⟩), Pv P] w fun e w' => Hid (ROA P G D dg w w' e) := by
  by_cases hd : D.dead = true
  · exact ropen_dead P G dg Sd D w hP hD bd nd hd
  · exact ropen_good P G dg Sd D w hP hD bd nd (by simpa using hd)

end Go.Proofs.YtadnlljknocbbaaGreatDoor

/- A law's device and log: full, small, fresh. -/
namespace Go.Proofs.YtadnlljknocbbaaGreatDoor
open Go.RowKit Go.Shelf Go.Maps
set_option linter.unusedVariables false
set_option maxRecDepth 100000

set_option maxRecDepth 100000 in
theorem full_any (x : Int) (w : World) :
    Calls Tryz.prog 42 #[.int .u8 x] w fun e w' => e = .returned (.slice (some ⟨w.heap.size, 0, none⟩) 64 64) ∧ Block w' w.heap.size (fl x) ∧ Below w.heap.size w w' := by
  have hmk : ∀ w : World, (Instr.makeSlice 50 (.int .i64 64) (.int .i64 64)).run Tryz.prog w = .ok (.slice (some ⟨w.heap.size, 0, none⟩) 64 64) (w.alloc (.cells (madeCells #[.int .u8 0] 64) 5)) := run_make_row' (P := Tryz.prog) 50 5 (.int .u8 0) 1 Tryz.underlying50 info5 rfl .i64 .i64 64 (by omega) (by omega)
  have B0 : Hid (Below w.heap.size w (w.alloc (.cells (madeCells #[.int .u8 0] 64) 5))) := (Below.refl _ w).alloc (Nat.le_refl _) _
  have I0 := hide (show Block (w.alloc (.cells (madeCells #[.int .u8 0] 64) 5)) w.heap.size (List.replicate 0 x ++ List.replicate (64 - 0) 0) by
    unfold Block
    rw [World.alloc_heap_new, ← Array.toArray_toList (xs := madeCells #[.int .u8 0] 64), toList_madeCells_one]
    simp)
  go_enter Tryz.func42, Tryz.ntmps42
  go_upto_region 3 with fail
  change Code.wp _ _ _ _ (w.alloc (.cells (madeCells #[.int .u8 0] 64) 5))
  generalize w.alloc (.cells (madeCells #[.int .u8 0] 64) 5) = w1 at *
  clear hmk
  go_loopw [4] (fun i wr => ∃ k : Nat, k ≤ 64 ∧ i = .int .i64 (k : Int) ∧ Hid (Block wr w.heap.size (List.replicate k x ++ List.replicate (64 - k) 0)) ∧ Hid (Below w.heap.size w wr)) (fun i _ => 64 - (intOf i).toNat)
  case atStart => exact ⟨0, Nat.zero_le _, rfl, I0, B0⟩
  case round =>
    obtain ⟨k, hk, rfl, hI, hX⟩ := hrel
    clear I0 B0
    by_cases hlt : k < 64
    · have c1 := (unhide hI).cell (i := k) (by simp; omega)
      have f1 := (unhide hI).free k
      have I2 := (unhide hI).set k x
      rw [fl_set x k hlt] at I2
      replace I2 := hide I2
      have X2 := hide ((unhide hX).setCell (p := ⟨w.heap.size, k, none⟩) (Nat.le_refl _) (.int .u8 x))
      generalize (List.replicate k x ++ List.replicate (64 - k) 0)[k]?.getD 0 = z at *
      clear hI hX
      generalize w.heap.size = g at *
      go_wp2_with fail
      exact ⟨⟨k + 1, by omega, by go_num, I2, X2⟩, by simp [intOf]; omega⟩
    · obtain rfl : k = 64 := by omega
      go_wp2_with fail
      go_ret
      refine ⟨rfl, ?_, unhide hX⟩
      have := unhide hI
      simpa [fl] using this

/-- A header's block is read as that header. -/
theorem hd_back {G : Geo} (hG : G.Ok) {h : Hd} (hh : h.Ok G) : hdIs (hdB G h) ∧ hdOf (hdB G h) = h := by
  have hf := hdF hG hh
  have hb := hdr_back hf G.blk
  have hl := hdB_len (h := h) hG
  refine ⟨⟨by rw [hl]; exact hG.size, ?_⟩, ?_⟩
  · rw [hl]
    have := hdrH_congr hb
    unfold hdB
    rw [this]
  · simp only [Hv, Value.agg.injEq, Array.mk.injEq, List.cons.injEq, Value.int.injEq, true_and, and_true] at hb
    obtain ⟨h0, h1, h2⟩ := hb
    unfold hdOf hdB
    rw [h0, h1, h2]
    show Hd.mk ((h.seq : Int)).toNat ((h.tail : Int)).toNat ((h.used : Int)).toNat = h
    simp

/-- The plan of the laws. -/
def sP : Nat → Int := makeP 64 60 6 9

def sG : Geo := ⟨64, 60, 9⟩

theorem sG_ok : sG.Ok := ⟨.inl rfl, by decide, by decide, by decide, by decide⟩

theorem sP_make : makeE 64 60 6 9 = 0 := by decide

theorem sPG : PG sP sG := by
  have e : ∀ k, sP k = planOf 64 60 6 9 k := fun k => by unfold sP; rw [makeP_ok sP_make]
  refine ⟨?_, ?_, ?_, ?_, ?_, ?_, sG_ok⟩
  · have e0 : sP 0 = 64 := by rw [e]; rfl
    have e1 : sP 1 = 60 := by rw [e]; rfl
    have e2 : sP 2 = 6 := by rw [e]; rfl
    have e3 : sP 3 = 9 := by rw [e]; rfl
    refine checkE_ok (by rw [e0, e1, e2, e3]; exact sP_make) (fun k hk => by rw [e0, e1, e2, e3]; rfl)
  · rw [e]; rfl
  · rw [e]; rfl
  · rw [e]; rfl
  · rw [e]; rfl
  · rw [e]; rfl

theorem small_any (w : World) : Calls Tryz.prog 10 #[] w fun e w' => e = .returned (Pv sP) ∧ Below w.heap.size w w' := by
  have K : Hid (∀ u, Calls Tryz.prog 47 #[.int .i64 64, .int .i64 60, .int .i64 6, .int .i64 9] u fun e w' => e = .returned (.tuple #[Pv sP, .int .i64 0]) ∧ Below u.heap.size u w') := fun u => by
    have := refMake_any 64 60 6 9 u
    rw [sP_make] at this
    exact this
  have HZ := hide (Bl.new w #[.int .i64 0, .int .i64 0, .int .i64 0, .int .i64 0, .int .i64 0, .int .i64 0, .int .i64 0, .int .i64 0, .int .i64 0, .int .i64 0, .int .i64 0, .int .i64 0] 25)
  have HB := hide ((Below.refl w.heap.size w).alloc (Nat.le_refl _) (.cells #[.int .i64 0, .int .i64 0, .int .i64 0, .int .i64 0, .int .i64 0, .int .i64 0, .int .i64 0, .int .i64 0, .int .i64 0, .int .i64 0, .int .i64 0, .int .i64 0] 25))
  generalize sP = p at *
  go_enter Tryz.func10, Tryz.ntmps10
  go_wp2_with fail
  go_at_call 47
  refine (unhide K _).mono ?_
  rintro e w1 ⟨rfl, hb⟩
  have HZ2 := hide (((unhide HZ).call hb).alloc (.cells (Pc p) 25))
  have HB2 := hide (((unhide HB).trans (hb.mono (unhide HB).size)).alloc ((unhide HB).trans (hb.mono (unhide HB).size)).size (.cells (Pc p) 25))
  have HN := hide (Bl.new w1 (Pc p) 25)
  clear HZ HB hb K
  go_upto_region 2 with fail
  change Code.wp _ _ _ _ (w1.alloc (.cells (Pc p) 25))
  generalize w1.alloc (.cells (Pc p) 25) = w2 at *
  generalize w1.heap.size = g1 at *
  have z0 := (unhide HZ2).cell 0 (.int .i64 0) rfl
  have z1 := (unhide HZ2).cell 1 (.int .i64 0) rfl
  have z2 := (unhide HZ2).cell 2 (.int .i64 0) rfl
  have z3 := (unhide HZ2).cell 3 (.int .i64 0) rfl
  have z4 := (unhide HZ2).cell 4 (.int .i64 0) rfl
  have z5 := (unhide HZ2).cell 5 (.int .i64 0) rfl
  have z6 := (unhide HZ2).cell 6 (.int .i64 0) rfl
  have z7 := (unhide HZ2).cell 7 (.int .i64 0) rfl
  have z8 := (unhide HZ2).cell 8 (.int .i64 0) rfl
  have z9 := (unhide HZ2).cell 9 (.int .i64 0) rfl
  have z10 := (unhide HZ2).cell 10 (.int .i64 0) rfl
  have z11 := (unhide HZ2).cell 11 (.int .i64 0) rfl
  have n0 := (unhide HN).cell 0 (.int .i64 (p 0)) rfl
  have n1 := (unhide HN).cell 1 (.int .i64 (p 1)) rfl
  have n2 := (unhide HN).cell 2 (.int .i64 (p 2)) rfl
  have n3 := (unhide HN).cell 3 (.int .i64 (p 3)) rfl
  have n4 := (unhide HN).cell 4 (.int .i64 (p 4)) rfl
  have n5 := (unhide HN).cell 5 (.int .i64 (p 5)) rfl
  have n6 := (unhide HN).cell 6 (.int .i64 (p 6)) rfl
  have n7 := (unhide HN).cell 7 (.int .i64 (p 7)) rfl
  have n8 := (unhide HN).cell 8 (.int .i64 (p 8)) rfl
  have n9 := (unhide HN).cell 9 (.int .i64 (p 9)) rfl
  have n10 := (unhide HN).cell 10 (.int .i64 (p 10)) rfl
  have n11 := (unhide HN).cell 11 (.int .i64 (p 11)) rfl
  have fz := (unhide HZ2).free
  go_wp2_with fail
  have hW : Below w.heap.size w (setAll w2 w.heap.size 0 [.int .i64 (p 0), .int .i64 (p 1), .int .i64 (p 2), .int .i64 (p 3), .int .i64 (p 4), .int .i64 (p 5), .int .i64 (p 6), .int .i64 (p 7), .int .i64 (p 8), .int .i64 (p 9), .int .i64 (p 10), .int .i64 (p 11)]) := below_setAll (Nat.le_refl _) _ _ _ _ (unhide HB2)
  have hA := setAll_whole [.int .i64 (p 0), .int .i64 (p 1), .int .i64 (p 2), .int .i64 (p 3), .int .i64 (p 4), .int .i64 (p 5), .int .i64 (p 6), .int .i64 (p 7), .int .i64 (p 8), .int .i64 (p 9), .int .i64 (p 10), .int .i64 (p 11)] _ _ (unhide HZ2) rfl
  change bodyPost _ _ _ _ _ (setAll w2 w.heap.size 0 [.int .i64 (p 0), .int .i64 (p 1), .int .i64 (p 2), .int .i64 (p 3), .int .i64 (p 4), .int .i64 (p 5), .int .i64 (p 6), .int .i64 (p 7), .int .i64 (p 8), .int .i64 (p 9), .int .i64 (p 10), .int .i64 (p 11)])
  generalize setAll w2 w.heap.size 0 [.int .i64 (p 0), .int .i64 (p 1), .int .i64 (p 2), .int .i64 (p 3), .int .i64 (p 4), .int .i64 (p 5), .int .i64 (p 6), .int .i64 (p 7), .int .i64 (p 8), .int .i64 (p 9), .int .i64 (p 10), .int .i64 (p 11)] = wf at *
  refine bodyPost_ret (v := Pv p) ?_ rfl ⟨rfl, hW⟩
  simp [results, Tryz.results10, go_sem, hA.cell 0 _ rfl, hA.cell 1 _ rfl, hA.cell 2 _ rfl, hA.cell 3 _ rfl, hA.cell 4 _ rfl, hA.cell 5 _ rfl, hA.cell 6 _ rfl, hA.cell 7 _ rfl, hA.cell 8 _ rfl, hA.cell 9 _ rfl, hA.cell 10 _ rfl, hA.cell 11 _ rfl]

/-- A new log's device, and the log. -/
def sD : Dev := runD (whS sG hd1) (Dev.new 64 60)

def sL : Lg := ⟨hd1, fun _ => none, false⟩

theorem sD_run : runE (whS sG hd1) (Dev.new 64 60) = 0 := by
  unfold whS
  rw [runE_ok (by decide)]
  show runE [.f] ((Dev.new 64 60).wD 1 (hdB sG hd1)) = 0
  have : ((Dev.new 64 60).wD 1 (hdB sG hd1)).wE = 0 := by
    unfold Dev.wD
    rw [if_neg (by decide), if_pos (by show ([] : List (List Int)).length < 400; decide)]
    rfl
  rw [runE_ok this]
  rfl

theorem sD_is : sD = ((Dev.new 64 60).burn.add 1 (hdB sG hd1)).burn.flush := by
  unfold sD whS
  rw [runD_ok (by decide)]
  show runD [.f] ((Dev.new 64 60).wD 1 (hdB sG hd1)) = _
  have e1 : (Dev.new 64 60).wD 1 (hdB sG hd1) = (Dev.new 64 60).burn.add 1 (hdB sG hd1) := by
    unfold Dev.wD
    rw [if_neg (by decide), if_pos (by show ([] : List (List Int)).length < 400; decide)]
  rw [e1]
  have e2 : ((Dev.new 64 60).burn.add 1 (hdB sG hd1)).wE = 0 := rfl
  rw [runD_ok e2]
  show ((Dev.new 64 60).burn.add 1 (hdB sG hd1)).fD = _
  unfold Dev.fD
  rw [if_neg]
  rintro (h | h)
  · exact absurd h (by decide)
  · exact absurd h (by decide)

theorem sD_rd : sD.rd 1 = hdB sG hd1 := by
  rw [sD_is]
  rfl

theorem sD_live : sD.dead = false ∧ sD.blk = 64 ∧ sD.n = 60 ∧ sD.f = -1 ∧ (∀ i, i < 60 → sD.Y i = []) := by
  rw [sD_is]
  refine ⟨rfl, rfl, rfl, rfl, fun i hi => ?_⟩
  show (if i < 60 then [] else _) = []
  rw [if_pos hi]

theorem sD_parse : parse sG sD.rd = some sL := by
  obtain ⟨h1, h2⟩ := hd_back sG_ok (hd1_ok sG_ok)
  rw [parse_ok (by rw [sD_rd, h2]; exact ⟨h1, by decide, by decide⟩), sD_rd, h2]
  have : goP sG sD.rd ((hd1.seq : Nat) : Int) hd1.tail (hd1.tail + hd1.used) 600 hd1.tail ((hd1.seq : Nat) : Int) (fun _ => none) = some (fun _ => none) := by
    rw [goP, if_pos (show hd1.tail = hd1.tail + hd1.used from rfl)]
    simp
  rw [this]
  rfl

/-- A law's log and device; B is where its memory begins. -/
structure WL (B : Nat) (w : World) (g dg : Nat) (L : Lg) (D : Dev) (u : World) (S : Nat → Prop) : Prop where
  lv : Lv u S g dg sP sG L D
  ge : ∀ k, S k → B ≤ k
  bel : Below B w u
  sz : B ≤ w.heap.size

theorem WL.later {B : Nat} {w : World} {g dg : Nat} {L : Lg} {D : Dev} {u u' : World} {S : Nat → Prop} (h : WL B w g dg L D u S) (hb : Below u.heap.size u u') : WL B w g dg L D u' S :=
  ⟨h.lv.below hb, h.ge, h.bel.trans (hb.mono (Nat.le_trans h.sz h.bel.size)), h.sz⟩

theorem WL.nx {B : Nat} {w : World} {g dg : Nat} {L L' : Lg} {D D' : Dev} {u u' : World} {S S' : Nat → Prop} (h : WL B w g dg L D u S) (hl : Lv u' S' g dg sP sG L' D') (hx : Nx S u S' u') : WL B w g dg L' D' u' S' :=
  ⟨hl, hx.base h.ge (Nat.le_trans h.sz h.bel.size), h.bel.trans (hx.below h.ge (Nat.le_trans h.sz h.bel.size)), h.sz⟩

def WD (B : Nat) (w : World) (g dg : Nat) (L : Lg) (D : Dev) (u : World) : Prop := ∃ S, WL B w g dg L D u S

theorem WD.later {B : Nat} {w : World} {g dg : Nat} {L : Lg} {D : Dev} {u u' : World} (h : WD B w g dg L D u) (hb : Below u.heap.size u u') : WD B w g dg L D u' := by
  obtain ⟨S, h⟩ := h
  exact ⟨S, h.later hb⟩

theorem WD.bel {B : Nat} {w : World} {g dg : Nat} {L : Lg} {D : Dev} {u : World} (h : WD B w g dg L D u) : Below B w u := by obtain ⟨S, h⟩ := h; exact h.bel

theorem new_sE : newE 64 60 = 0 := by decide

/-- New, Format and Open behind each other. -/
theorem fresh_chain (w u : World) (hT : Tab w) (hu : Below w.heap.size w u) :
    Calls Tryz.prog 36 #[.int .i64 (sP 0), .int .i64 (sP 1)] u fun e w1 => ∃ dg, e = .returned (.tuple #[.pointer (some ⟨dg, 0, none⟩), .int .i64 0]) ∧ Below u.heap.size u w1 ∧ Hid (∀ u1, Below w1.heap.size w1 u1 →
      Calls Tryz.prog 37 #[.pointer (some ⟨dg, 0, none⟩), Pv sP] u1 fun e w2 => e = .returned (.int .i64 0) ∧ Below u.heap.size u w2 ∧ Hid (∀ u2, Below w2.heap.size w2 u2 →
        Calls Tryz.prog 23 #[.pointer (some ⟨dg, 0, none⟩), Pv sP] u2 fun e w3 => ∃ g, e = .returned (.tuple #[.pointer (some ⟨g, 0, none⟩), .int .i64 0]) ∧ Hid (WD w.heap.size w g dg sL sD w3))) := by
  have e0 : sP 0 = ((64 : Nat) : Int) := sPG.p0
  have e1 : sP 1 = ((60 : Nat) : Int) := sPG.p1
  rw [e0, e1]
  refine (new_ok 64 60 u new_sE).mono ?_
  rintro e w1 ⟨dg, S, rfl, hD, hS, hb1⟩
  refine ⟨dg, rfl, hb1, fun u1 hb2 => ?_⟩
  have hus := hu.size
  have hT0 := hT.lt
  have hb12 : Below u.heap.size u u1 := hb1.trans (hb2.mono hb1.size)
  have bw1 : Below w.heap.size w u1 := hu.trans (hb12.mono hus)
  have h0 : ¬ S 0 := fun h => by have := hS 0 h; omega
  have hf := format_any sP sG dg S (Dev.new 64 60) u1 sPG (hD.below hb2) rfl rfl (hT.kept (bw1.block 0 hT0)) h0
  rw [sD_run] at hf
  refine hf.mono ?_
  rintro e w2 ⟨rfl, S2, d2, n2⟩
  have ge2 : ∀ k, S2 k → u.heap.size ≤ k := n2.base hS hb12.size
  have bu2 : Below u.heap.size u w2 := hb12.trans (n2.below hS hb12.size)
  refine ⟨rfl, bu2, fun u2 hb3 => ?_⟩
  have bu3 : Below u.heap.size u u2 := bu2.trans (hb3.mono bu2.size)
  have bw3 : Below w.heap.size w u2 := hu.trans (bu3.mono hus)
  have h02 : ¬ S2 0 := fun h => by have := ge2 0 h; omega
  refine (open_any sP sG dg S2 sD u2 sPG (Dv.below (show Dv w2 S2 dg sD from d2) hb3) sD_live.2.1 sD_live.2.2.1 (hT.kept (bw3.block 0 hT0)) h02).mono ?_
  intro e w3 X
  obtain ⟨S3, n3, (⟨hx, _⟩ | ⟨_, hx, _⟩ | ⟨_, L, g, hp, he, hl⟩)⟩ := unhide X
  · rw [sD_live.1] at hx; cases hx
  · rw [sD_parse] at hx; cases hx
  · rw [sD_parse] at hp
    cases hp
    have ge3 : ∀ k, S3 k → u.heap.size ≤ k := n3.base ge2 bu3.size
    exact ⟨g, he, S3, hl, fun k hk => Nat.le_trans hus (ge3 k hk), bw3.trans (n3.below (fun k hk => Nat.le_trans hus (ge2 k hk)) bw3.size), Nat.le_refl _⟩

set_option maxHeartbeats 1000000 in
theorem fresh_any (w : World) (hT : Tab w) : Calls Tryz.prog 11 #[Pv sP] w fun e w' => ∃ dg g, e = .returned (.tuple #[.pointer (some ⟨dg, 0, none⟩), .pointer (some ⟨g, 0, none⟩)]) ∧ Hid (WD w.heap.size w g dg sL sD w') := by
  have K : Hid (∀ u, Below w.heap.size w u → _) := fun u hu => fresh_chain w u hT hu
  have HK := hide (Kp.start w sP)
  clear hT
  generalize sP = p at *
  go_enter Tryz.func11, Tryz.ntmps11
  go_wp2_with fail
  go_at_call 36
  refine (unhide K _ (unhide HK).2).mono ?_
  rintro e w1 ⟨dg, rfl, hb1, K2⟩
  have HK1 := hide ((unhide HK).call hb1)
  have KF := hide (unhide K2 _ (Below.refl _ _))
  clear K K2 hb1
  obtain ⟨f0, f1, f2, f3, f4, f5, f6, f7, f8, f9, f10, f11⟩ := (unhide HK1).cells
  go_wp2_with fail
  go_at_call 37
  refine (unhide KF).mono ?_
  rintro e w2 ⟨rfl, hb2, K3⟩
  have HK2 := hide ((unhide HK).call hb2)
  have KO := hide (unhide K3 _ (Below.refl _ _))
  clear KF K3 hb2 HK1 f0 f1 f2 f3 f4 f5 f6 f7 f8 f9 f10 f11
  obtain ⟨f0, f1, f2, f3, f4, f5, f6, f7, f8, f9, f10, f11⟩ := (unhide HK2).cells
  go_wp2_with fail
  go_at_call 23
  refine (unhide KO).mono ?_
  rintro e w3 ⟨g, rfl, X⟩
  clear KO HK HK2 f0 f1 f2 f3 f4 f5 f6 f7 f8 f9 f10 f11
  go_wp2_with fail
  go_ret2
  exact ⟨dg, g, rfl, X⟩

end Go.Proofs.YtadnlljknocbbaaGreatDoor

