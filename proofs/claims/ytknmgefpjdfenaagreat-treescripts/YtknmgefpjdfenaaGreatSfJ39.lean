/- Joined: SStat, SStatB, SAdd, SAddB, SMake, SMakeB, SDropA. -/
import Derived.Test.YtknmgefpjdfenaaGreatSfJ36
import Derived.Test.YtknmgefpjdfenaaGreatSfJ38
import Derived.Deep.RegionLaw
/- The reference's stat. -/
namespace Go.Proofs.YtknmgefpjdfenaaGreat
set_option maxRecDepth 100000
set_option maxHeartbeats 8000000
open Go.RowKit Go.Shelf Go.Maps
set_option linter.unusedVariables false

def statR (s:RTr) (i:Nat) (t:RT):Value:=.agg #[.int .i64 t.k,.int .i64 (i:Int),.int .i64 (if t.k=2 then 1 else (lkR s i:Int)),.int .i64 (if t.k=2 then 16 * (t.ns.length:Int) else (t.d.length:Int))]

theorem rstat_any {w : World} {S : Nat → Prop} {g i : Nat} {s : RTr} {t : RT} (h : SM w S g s) (hs : Rs s) (ht : s.th[i]? = some t) (hlk : lkR s i ≤ 1000000000000000) (hd : t.d.length ≤ 1800000000000) :
    Calls Tryz.prog 87 #[.pointer (some ⟨g, 0, none⟩), .int .i64 (i : Int)] w fun e w' => e = .returned (statR s i t) ∧ Below w.heap.size w w' := by
  have hln := hs.len
  have hi1 : i < s.th.length := (List.getElem?_eq_some_iff.1 ht).1
  have hnl := hs.few i t ht
  have hb0 : Below w.heap.size w (w.alloc (.cells #[.int .i64 0, .int .i64 0, .int .i64 0, .int .i64 0] 46)) := (Below.refl _ w).alloc (Nat.le_refl _) _
  have hlt : w.heap.size < (w.alloc (.cells #[.int .i64 0, .int .i64 0, .int .i64 0, .int .i64 0] 46)).heap.size := by simp
  have hbl := Bl.new w #[.int .i64 0, .int .i64 0, .int .i64 0, .int .i64 0] 46
  have HT := hide (h.below hb0)
  have HX := hide (And.intro hs ht)
  have HB := hide hb0
  have HL := hide hbl
  have HLK := hide hlk
  have hi2 : (i : Int) < (s.th.length : Int) := by omega
  have hi0 : (0 : Int) ≤ (i : Int) := by omega
  clear h hs ht hb0 hbl hln hlk
  go_enter Tryz.func87, Tryz.ntmps87
  go_upto_region 1 with fail
  generalize w.alloc (.cells #[.int .i64 0, .int .i64 0, .int .i64 0, .int .i64 0] 46) = w0 at *
  generalize hm : w.heap.size = m at *
  obtain ⟨rb, era, _, t0, t1, t2, _⟩ := HT.out.row.cell HX.out.2
  have g1 := HT.out.cells.2.1
  rw [era] at g1
  have hb1 : Below w0.heap.size w0 (w0.alloc (.cells #[.int .i64 t.k, .slice t.da t.d.length t.dc, .slice t.na t.ns.length t.nc] 73)) := (Below.refl _ w0).alloc (Nat.le_refl _) _
  have hl1 := Bl.new w0 #[.int .i64 t.k, .slice t.da t.d.length t.dc, .slice t.na t.ns.length t.nc] 73
  go_upto_region 2 with fail
  change Code.wp _ _ _ _ (w0.alloc (.cells #[.int .i64 t.k, .slice t.da t.d.length t.dc, .slice t.na t.ns.length t.nc] 73))
  have HT := hide (HT.out.below hb1)
  have HB := hide (HB.out.trans (hb1.mono (Nat.le_of_lt hlt)))
  have HL := hide (HL.out.call hb1)
  clear hlt hb1 g1 t0 t1 t2
  generalize hw1 : w0.alloc (.cells #[.int .i64 t.k, .slice t.da t.d.length t.dc, .slice t.na t.ns.length t.nc] 73) = w1 at *
  generalize w0.heap.size = m2 at *
  clear hw1
  have x0 := hl1.cell 0 _ rfl
  have x1 := hl1.cell 1 _ rfl
  have x2 := hl1.cell 2 _ rfl
  have l0 := HL.out.cell 0 _ rfl
  have l1 := HL.out.cell 1 _ rfl
  have l2 := HL.out.cell 2 _ rfl
  have l3 := HL.out.cell 3 _ rfl
  have lf := HL.out.free
  have hmb : m2 ≠ m := fun e => by
    subst e
    have h1 := HL.out
    unfold Bl at h1 hl1
    rw [hl1] at h1
    exact absurd (cells_ty h1) (by decide)
  by_cases hk : t.k = 2
  · have HV : Hid (statR s i t = .agg #[.int .i64 t.k, .int .i64 (i : Int), .int .i64 1, .int .i64 (16 * (t.ns.length : Int))]) := by unfold Hid statR; rw [if_pos hk, if_pos hk]
    have d1 : (t.k == 2) = true := by simpa using hk
    have hw : wrap64 (16 * (t.ns.length : Int)) = 16 * (t.ns.length : Int) := by unfold wrap64; omega
    clear hk hl1 HT HX HLK hnl hi1 hd
    generalize t.k = tk at *
    have HF : Hid (Bl ((((w1.setCell ⟨m, 0, none⟩ (.int .i64 tk)).setCell ⟨m, 1, none⟩ (.int .i64 (i : Int))).setCell ⟨m, 2, none⟩ (.int .i64 1)).setCell ⟨m, 3, none⟩ (.int .i64 (16 * (t.ns.length : Int)))) m #[.int .i64 tk, .int .i64 (i : Int), .int .i64 1, .int .i64 (16 * (t.ns.length : Int))] 46 ∧ Below m w ((((w1.setCell ⟨m, 0, none⟩ (.int .i64 tk)).setCell ⟨m, 1, none⟩ (.int .i64 (i : Int))).setCell ⟨m, 2, none⟩ (.int .i64 1)).setCell ⟨m, 3, none⟩ (.int .i64 (16 * (t.ns.length : Int))))) :=
      ⟨setAll_whole [.int .i64 tk, .int .i64 (i : Int), .int .i64 1, .int .i64 (16 * (t.ns.length : Int))] w1 _ (show Bl w1 m _ _ from HL.out) rfl,
       below_setAll (Nat.le_refl m) [.int .i64 tk, .int .i64 (i : Int), .int .i64 1, .int .i64 (16 * (t.ns.length : Int))] w w1 0 HB.out⟩
    go_wp2_with fail
    obtain ⟨hA, hW⟩ := HF.out
    change bodyPost _ _ _ _ _ ((((w1.setCell ⟨m, 0, none⟩ (.int .i64 tk)).setCell ⟨m, 1, none⟩ (.int .i64 (i : Int))).setCell ⟨m, 2, none⟩ (.int .i64 1)).setCell ⟨m, 3, none⟩ (.int .i64 (16 * (t.ns.length : Int))))
    generalize ((((w1.setCell ⟨m, 0, none⟩ (.int .i64 tk)).setCell ⟨m, 1, none⟩ (.int .i64 (i : Int))).setCell ⟨m, 2, none⟩ (.int .i64 1)).setCell ⟨m, 3, none⟩ (.int .i64 (16 * (t.ns.length : Int)))) = wf at *
    refine bodyPost_ret (v := .agg #[.int .i64 tk, .int .i64 (i : Int), .int .i64 1, .int .i64 (16 * (t.ns.length : Int))]) ?_ rfl ⟨by rw [HV.out], by rw [hm]; exact hW⟩
    simp [results, Tryz.results87, go_sem, hA.cell 0 _ rfl, hA.cell 1 _ rfl, hA.cell 2 _ rfl, hA.cell 3 _ rfl]
  · have HV : Hid (statR s i t = .agg #[.int .i64 t.k, .int .i64 (i : Int), .int .i64 (lkR s i : Int), .int .i64 (t.d.length : Int)]) := by unfold Hid statR; rw [if_neg hk, if_neg hk]
    have d1 : (t.k == 2) = false := by simpa using hk
    have KS0 : Hid (Calls Tryz.prog 73 #[.pointer (some ⟨g, 0, none⟩), .int .i64 (i : Int)] w1.drew fun e w' => e = .returned (.int .i64 (lkR s i : Int)) ∧ ∃ q', w' = w1.drewN q') := by
      refine (rlinks_any HT.out.drew HX.out.1 i (by have := HX.out.1.len; omega) HLK.out).mono ?_
      rintro e w' ⟨rfl, rfl⟩
      exact ⟨rfl, 1, rfl⟩
    have b0 : ∀ v : World, v.heap[m2]? = w1.heap[m2]? → Hid True ∧ v.cell? ⟨m2, 0, none⟩ = some (.int .i64 t.k) ∧ v.cell? ⟨m2, 1, none⟩ = some (.slice t.da t.d.length t.dc) := fun v hv => by
      simp only [World.cell?, hv]
      exact ⟨trivial, x0, x1⟩
    clear hk hl1 HT HX HLK hnl hi1 hd x2
    generalize t.k = tk at *
    generalize hlv : (lkR s i : Int) = lk at *
    generalize hdv : t.d.length = dn at *
    have hdl : Hid ((dn : Int) = (dn : Int)) := rfl
    generalize hdi : (dn : Int) = dl at *
    have J := b0 w1.drew rfl
    have J1 : Hid (∀ q, Hid True ∧ (w1.drewN q).cell? ⟨m2, 0, none⟩ = some (.int .i64 tk) ∧ (w1.drewN q).cell? ⟨m2, 1, none⟩ = some (.slice t.da dn t.dc)) := fun q => b0 _ rfl
    have J2 : Hid (∀ q, Hid True ∧ (((((w1.drewN q).setCell ⟨m, 0, none⟩ (.int .i64 tk)).setCell ⟨m, 1, none⟩ (.int .i64 (i : Int))).setCell ⟨m, 2, none⟩ (.int .i64 lk)).setCell ⟨m, 3, none⟩ (.int .i64 dl)).cell? ⟨m2, 0, none⟩ = some (.int .i64 tk) ∧ (((((w1.drewN q).setCell ⟨m, 0, none⟩ (.int .i64 tk)).setCell ⟨m, 1, none⟩ (.int .i64 (i : Int))).setCell ⟨m, 2, none⟩ (.int .i64 lk)).setCell ⟨m, 3, none⟩ (.int .i64 dl)).cell? ⟨m2, 1, none⟩ = some (.slice t.da dn t.dc)) := fun q => b0 _
      ((Below.heap_setCell _ _ _ _ hmb).trans ((Below.heap_setCell _ _ _ _ hmb).trans ((Below.heap_setCell _ _ _ _ hmb).trans (Below.heap_setCell _ _ _ _ hmb))))
    have HF : Hid (∀ q, Bl (((((w1.drewN q).setCell ⟨m, 0, none⟩ (.int .i64 tk)).setCell ⟨m, 1, none⟩ (.int .i64 (i : Int))).setCell ⟨m, 2, none⟩ (.int .i64 lk)).setCell ⟨m, 3, none⟩ (.int .i64 dl)) m #[.int .i64 tk, .int .i64 (i : Int), .int .i64 lk, .int .i64 dl] 46 ∧ Below m w (((((w1.drewN q).setCell ⟨m, 0, none⟩ (.int .i64 tk)).setCell ⟨m, 1, none⟩ (.int .i64 (i : Int))).setCell ⟨m, 2, none⟩ (.int .i64 lk)).setCell ⟨m, 3, none⟩ (.int .i64 dl))) := fun q =>
      ⟨setAll_whole [.int .i64 tk, .int .i64 (i : Int), .int .i64 lk, .int .i64 dl] (w1.drewN q) _ (show Bl (w1.drewN q) m _ _ from HL.out) rfl,
       below_setAll (Nat.le_refl m) [.int .i64 tk, .int .i64 (i : Int), .int .i64 lk, .int .i64 dl] w (w1.drewN q) 0 ⟨HB.out.os, HB.out.tape, HB.out.output, HB.out.size, HB.out.block⟩⟩
    clear b0 hdl
    have HDI := hide hdi
    go_upto_region 4 with fail
    go_region_held3 (fun v => Hid True ∧ v.cell? ⟨m2, 0, none⟩ = some (.int .i64 tk) ∧ v.cell? ⟨m2, 1, none⟩ = some (.slice t.da dn t.dc))
      (with_reducible (first | exact J | exact unhide J1 _ | exact unhide J2 _))
      (first | (go_at_call 73; refine (unhide KS0).mono ?_; rintro e w' ⟨rfl, q, rfl⟩))
    all_goals
      go_wp2_with fail
      obtain ⟨hA, hW⟩ := HF.out q
      change bodyPost _ _ _ _ _ (((((w1.drewN q).setCell ⟨m, 0, none⟩ (.int .i64 tk)).setCell ⟨m, 1, none⟩ (.int .i64 (i : Int))).setCell ⟨m, 2, none⟩ (.int .i64 lk)).setCell ⟨m, 3, none⟩ (.int .i64 dl))
      generalize (((((w1.drewN q).setCell ⟨m, 0, none⟩ (.int .i64 tk)).setCell ⟨m, 1, none⟩ (.int .i64 (i : Int))).setCell ⟨m, 2, none⟩ (.int .i64 lk)).setCell ⟨m, 3, none⟩ (.int .i64 dl)) = wf at *
      refine bodyPost_ret (v := .agg #[.int .i64 tk, .int .i64 (i : Int), .int .i64 lk, .int .i64 dl]) ?_ rfl ⟨by rw [HV.out], by rw [hm]; exact hW⟩
      simp [results, Tryz.results87, go_sem, hA.cell 0 _ rfl, hA.cell 1 _ rfl, hA.cell 2 _ rfl, hA.cell 3 _ rfl]

end Go.Proofs.YtknmgefpjdfenaaGreat

/- The reference's Stat. -/
namespace Go.Proofs.YtknmgefpjdfenaaGreat
set_option maxRecDepth 100000
set_option maxHeartbeats 8000000
open Go.RowKit Go.Shelf Go.Maps
set_option linter.unusedVariables false

def stR (s:RTr) (p:List UInt8):Value × Int:=if (fdR s p).1 ≠ 0 then (zst,(fdR s p).1) else match s.th[(fdR s p).2]? with
 | some t=>(statR s (fdR s p).2 t,0)
 | none=>(zst,0)

theorem rStat_any {w : World} {S : Nat → Prop} {g : Nat} {s : RTr} (h : SM w S g s) (hs : Rs s) {p : List UInt8} (hp : p.length ≤ 9223372036854775807) (hlk : ∀ i, lkR s i ≤ 1000000000000000) (hd : ∀ (i : Nat) (t : RT), s.th[i]? = some t → t.d.length ≤ 1800000000000) :
    Calls Tryz.prog 33 #[.pointer (some ⟨g, 0, none⟩), .string (St p)] w fun e w' => e = .returned (.tuple #[(stR s p).1, .int .i64 (stR s p).2]) ∧ Below w.heap.size w w' := by
  have hb0 : Below w.heap.size w (w.alloc (.cells #[.int .i64 0, .int .i64 0, .int .i64 0, .int .i64 0] 46)) := (Below.refl _ w).alloc (Nat.le_refl _) _
  have hlt : w.heap.size < (w.alloc (.cells #[.int .i64 0, .int .i64 0, .int .i64 0, .int .i64 0] 46)).heap.size := by simp
  have hbl := Bl.new w #[.int .i64 0, .int .i64 0, .int .i64 0, .int .i64 0] 46
  have K := rfind_any (p := p) (h.below hb0) hs hp
  have HZ : Hid ((w.alloc (.cells #[.int .i64 0, .int .i64 0, .int .i64 0, .int .i64 0] 46)).heap.size = w.heap.size + 1) := by unfold Hid; simp
  have hsz : (w.alloc (.cells #[.int .i64 0, .int .i64 0, .int .i64 0, .int .i64 0] 46)).heap.size = w.heap.size + 1 := by simp
  rw [hsz] at K
  have K := hide K
  have HT := hide (h.below hb0)
  have HB := hide hb0
  have HL := hide hbl
  unfold stR
  rcases fdR_ends hs p with ⟨q1, t, q2⟩ | ⟨q1, q2⟩
  · rw [if_neg (by omega), q2]
    rw [q1] at K
    have KS : Hid (∀ u, SM u S g s → Calls Tryz.prog 87 #[.pointer (some ⟨g, 0, none⟩), .int .i64 ((fdR s p).2 : Int)] u fun e w' => e = .returned (.agg #[.int .i64 t.k, .int .i64 ((fdR s p).2 : Int), .int .i64 (if t.k = 2 then 1 else (lkR s (fdR s p).2 : Int)), .int .i64 (if t.k = 2 then 16 * (t.ns.length : Int) else (t.d.length : Int))]) ∧ Below u.heap.size u w') := fun u hu => rstat_any hu hs q2 (hlk _) (hd _ t q2)
    have HV : Hid (statR s (fdR s p).2 t = .agg #[.int .i64 t.k, .int .i64 ((fdR s p).2 : Int), .int .i64 (if t.k = 2 then 1 else (lkR s (fdR s p).2 : Int)), .int .i64 (if t.k = 2 then 16 * (t.ns.length : Int) else (t.d.length : Int))]) := rfl
    clear h hs q1 q2 hp hb0 hbl hsz hlk hd
    generalize ((fdR s p).2 : Int) = iv at *
    generalize (if t.k = 2 then 1 else (lkR s (fdR s p).2 : Int)) = c2 at *
    generalize (if t.k = 2 then 16 * (t.ns.length : Int) else (t.d.length : Int)) = c3 at *
    generalize t.k = tk at *
    generalize St p = sp at *
    go_enter Tryz.func33, Tryz.ntmps33
    go_wp2_with fail
    generalize w.alloc (.cells #[.int .i64 0, .int .i64 0, .int .i64 0, .int .i64 0] 46) = w0 at *
    generalize hm : w.heap.size = m at *
    refine (unhide K).mono ?_
    rintro e w1 ⟨rfl, hb⟩
    rw [← HZ.out] at hb
    have HT := hide (HT.out.below hb)
    have HB := hide (HB.out.trans (hb.mono (Nat.le_of_lt hlt)))
    have HL := hide (HL.out.call hb)
    have KS := hide (KS.out w1 HT.out)
    clear K hb hlt HZ
    go_wp2_with fail
    refine (unhide KS).mono ?_
    rintro e w2 ⟨rfl, hb⟩
    have HB := hide (HB.out.trans (hb.mono (Nat.le_of_lt HL.out.lt)))
    have HL := hide (HL.out.call hb)
    clear KS hb HT
    have l0 := HL.out.cell 0 _ rfl
    have l1 := HL.out.cell 1 _ rfl
    have l2 := HL.out.cell 2 _ rfl
    have l3 := HL.out.cell 3 _ rfl
    have lf := HL.out.free
    have HF : Hid (Bl ((((w2.setCell ⟨m, 0, none⟩ (.int .i64 tk)).setCell ⟨m, 1, none⟩ (.int .i64 iv)).setCell ⟨m, 2, none⟩ (.int .i64 c2)).setCell ⟨m, 3, none⟩ (.int .i64 c3)) m #[.int .i64 tk, .int .i64 iv, .int .i64 c2, .int .i64 c3] 46 ∧ Below m w ((((w2.setCell ⟨m, 0, none⟩ (.int .i64 tk)).setCell ⟨m, 1, none⟩ (.int .i64 iv)).setCell ⟨m, 2, none⟩ (.int .i64 c2)).setCell ⟨m, 3, none⟩ (.int .i64 c3))) :=
      ⟨setAll_whole [.int .i64 tk, .int .i64 iv, .int .i64 c2, .int .i64 c3] w2 _ (show Bl w2 m _ _ from HL.out) rfl,
       below_setAll (Nat.le_refl m) [.int .i64 tk, .int .i64 iv, .int .i64 c2, .int .i64 c3] w w2 0 HB.out⟩
    go_wp2_with fail
    obtain ⟨hA, hW⟩ := HF.out
    change bodyPost _ _ _ _ _ ((((w2.setCell ⟨m, 0, none⟩ (.int .i64 tk)).setCell ⟨m, 1, none⟩ (.int .i64 iv)).setCell ⟨m, 2, none⟩ (.int .i64 c2)).setCell ⟨m, 3, none⟩ (.int .i64 c3))
    generalize ((((w2.setCell ⟨m, 0, none⟩ (.int .i64 tk)).setCell ⟨m, 1, none⟩ (.int .i64 iv)).setCell ⟨m, 2, none⟩ (.int .i64 c2)).setCell ⟨m, 3, none⟩ (.int .i64 c3)) = wf at *
    refine bodyPost_ret (v := .tuple #[.agg #[.int .i64 tk, .int .i64 iv, .int .i64 c2, .int .i64 c3], .int .i64 0]) ?_ rfl ⟨?_, by rw [hm]; exact hW⟩
    · simp [results, Tryz.results33, go_sem, hA.cell 0 _ rfl, hA.cell 1 _ rfl, hA.cell 2 _ rfl, hA.cell 3 _ rfl]
    · show _ = Ending.returned (Value.tuple #[statR s (fdR s p).2 t, .int .i64 0])
      rw [HV.out]
  · have hne : (fdR s p).1 ≠ 0 := by omega
    rw [if_pos hne, ]
    rw [q2] at K
    have d1 : ((fdR s p).1 == 0) = false := by simpa using hne
    have HV : Hid (zst = .agg #[.int .i64 0, .int .i64 0, .int .i64 0, .int .i64 0]) := rfl
    clear h hs q1 q2 hp hne hb0 hbl hsz hlk hd
    generalize (fdR s p).1 = E at *
    generalize St p = sp at *
    go_enter Tryz.func33, Tryz.ntmps33
    go_wp2_with fail
    generalize w.alloc (.cells #[.int .i64 0, .int .i64 0, .int .i64 0, .int .i64 0] 46) = w0 at *
    generalize hm : w.heap.size = m at *
    refine (unhide K).mono ?_
    rintro e w1 ⟨rfl, hb⟩
    rw [← HZ.out] at hb
    have HB := hide (HB.out.trans (hb.mono (Nat.le_of_lt hlt)))
    have HL := hide (HL.out.call hb)
    clear K hb hlt HZ HT
    have l0 := HL.out.cell 0 _ rfl
    have l1 := HL.out.cell 1 _ rfl
    have l2 := HL.out.cell 2 _ rfl
    have l3 := HL.out.cell 3 _ rfl
    have lf := HL.out.free
    have HF : Hid (Bl ((((w1.setCell ⟨m, 0, none⟩ (.int .i64 0)).setCell ⟨m, 1, none⟩ (.int .i64 0)).setCell ⟨m, 2, none⟩ (.int .i64 0)).setCell ⟨m, 3, none⟩ (.int .i64 0)) m #[.int .i64 0, .int .i64 0, .int .i64 0, .int .i64 0] 46 ∧ Below m w ((((w1.setCell ⟨m, 0, none⟩ (.int .i64 0)).setCell ⟨m, 1, none⟩ (.int .i64 0)).setCell ⟨m, 2, none⟩ (.int .i64 0)).setCell ⟨m, 3, none⟩ (.int .i64 0))) :=
      ⟨setAll_whole [.int .i64 0, .int .i64 0, .int .i64 0, .int .i64 0] w1 _ (show Bl w1 m _ _ from HL.out) rfl,
       below_setAll (Nat.le_refl m) [.int .i64 0, .int .i64 0, .int .i64 0, .int .i64 0] w w1 0 HB.out⟩
    go_wp2_with fail
    obtain ⟨hA, hW⟩ := HF.out
    change bodyPost _ _ _ _ _ ((((w1.setCell ⟨m, 0, none⟩ (.int .i64 0)).setCell ⟨m, 1, none⟩ (.int .i64 0)).setCell ⟨m, 2, none⟩ (.int .i64 0)).setCell ⟨m, 3, none⟩ (.int .i64 0))
    generalize ((((w1.setCell ⟨m, 0, none⟩ (.int .i64 0)).setCell ⟨m, 1, none⟩ (.int .i64 0)).setCell ⟨m, 2, none⟩ (.int .i64 0)).setCell ⟨m, 3, none⟩ (.int .i64 0)) = wf at *
    refine bodyPost_ret (v := .tuple #[.agg #[.int .i64 0, .int .i64 0, .int .i64 0, .int .i64 0], .int .i64 E]) ?_ rfl ⟨by rw [HV.out], by rw [hm]; exact hW⟩
    simp [results, Tryz.results33, go_sem, hA.cell 0 _ rfl, hA.cell 1 _ rfl, hA.cell 2 _ rfl, hA.cell 3 _ rfl]

end Go.Proofs.YtknmgefpjdfenaaGreat

/- The reference's add. -/
namespace Go.Proofs.YtknmgefpjdfenaaGreat
set_option maxRecDepth 100000
set_option maxHeartbeats 8000000
open Go.RowKit Go.Shelf Go.Maps
set_option linter.unusedVariables false

theorem step_app_run {w w':World} {ops:Array Oper} {o:Oper} {a:Act} {K':Act→World→Prop} {Q:Exit→Act→World→Prop} {E:Prop} (hw:Region.wanted o (yielded ops a.tmps)=true) (d s:Operand) (t:TypeId)
  (ho:o.op=.call { callee:=.builtin .append,args:=#[d,s],argTypes:=#[t,t] }) (v x v':Value) (hd:a.eval d=v) (hs:a.eval s=x)
  (hrun:∀ ty,(Builtin.append_ #[t,t] ty #[v,x]).run Tryz.prog w=.ok v' w')
  (h:K' (a.put o.dst v') w'):if Region.wanted o (yielded ops a.tmps)=true then Oper.wp Tryz.prog o a w K' Q else E:=by
 rw [if_pos hw]
 have hr:=hrun o.type
 unfold Oper.wp
 simp [execOp,ho,resolve,invoke,builtin,hd,hs,hr,Result.andThen]
 exact h

theorem SM.more {w:World} {S:Nat→Prop} {g d j:Nat} {s:RTr} {t:RT} {z:List UInt8} (h:SM w S g s) (ht:s.th[d]?=some t) (hn:t.ns.length ≤ 1800000000000) {rb:Nat} (hrb:s.ta=some ⟨rb,0,none⟩) :
  ∃ (x c':Nat) (w':World),(∀ ty,(Builtin.append_ #[71,71] ty #[.slice t.na t.ns.length t.nc,.slice (some ⟨w.heap.size,0,none⟩) 1 1]).run Tryz.prog (w.alloc (.cells #[.int .i64 (j:Int),.string (St z)] 120))=.ok (.slice (some ⟨x,0,none⟩) (t.ns.length + 1) c') w') ∧
   w'.cell? ⟨g,1,none⟩=some (.slice (some ⟨rb,0,none⟩) s.th.length s.tc)∧w'.cell? ⟨rb,d * 3 + 2,none⟩=some (.slice t.na t.ns.length t.nc)∧(∀ k,w'.frozen? ⟨rb,k,none⟩=false) ∧
   SM (w'.setCell ⟨rb,d * 3 + 2,none⟩ (.slice (some ⟨x,0,none⟩) (t.ns.length + 1) c')) (Up S w.heap.size (w'.setCell ⟨rb,d * 3 + 2,none⟩ (.slice (some ⟨x,0,none⟩) (t.ns.length + 1) c')).heap.size) g (s.put d { t with ns:=t.ns ++ [(z,j)],na:=some ⟨x,0,none⟩,nc:=c' }) ∧
   Kp S w (w'.setCell ⟨rb,d * 3 + 2,none⟩ (.slice (some ⟨x,0,none⟩) (t.ns.length + 1) c')):=by
 obtain ⟨x,c',w',r,o,b,hk,hx,hlt⟩:=(h.nam d t ht).app (Nat.zero_le _) (z,j) hn
 have hz:(w'.setCell ⟨rb,d * 3 + 2,none⟩ (.slice (some ⟨x,0,none⟩) (t.ns.length + 1) c')).heap.size=w'.heap.size:=by simp [World.setCell]
 have hrow:=h.row
 rw [hrb] at hrow
 obtain ⟨hrl,_,rcur,hrc⟩:=hrow.at rfl
 have kr:w'.heap[rb]?=w.heap[rb]?:=hk rb hrl (fun y ey e=>by
  subst e
  obtain ⟨_,_,cur,hcu⟩:=(h.nam d t ht).at ey
  rw [hcu] at hrc
  exact absurd (cells_ty hrc) (by decide))
 obtain ⟨strc,hstrc,hsn⟩:=h.str
 have kg:w'.heap[g]?=w.heap[g]?:=hk g (h.lt g h.sg) (fun y ey e=>by
  subst e
  obtain ⟨_,_,cur,hcu⟩:=(h.nam d t ht).at ey
  rw [hcu] at hstrc
  exact absurd (cells_ty hstrc) (by decide))
 have hrow':OwnX 0 w' (some ⟨rb,0,none⟩) s.tc s.th:=hrow.kept (fun y ey=>by cases ey; exact kr)
 obtain ⟨rb',e1,_,_,_,c2,fz⟩:=hrow'.cell ht
 cases e1
 have g1:=(h.str.of_block kg).cell (i:=1) (by omega)
 refine ⟨x,c',w',r,?_,c2,fz,?_,?_⟩
 ·rw [g1]; unfold scell; rw [if_neg (by omega),if_pos rfl,hrb]
 ·have:=SM.setN (S':=Up S w.heap.size w'.heap.size) (w':=w') (ns':=t.ns ++ [(z,j)]) (a':=some ⟨x,0,none⟩) (c':=c') h ht hrb o hk b.size (fun k q=>.inl q) (fun k q=>q.elim (fun e=>Nat.lt_of_lt_of_le (h.lt k e) b.size) (fun e=>e.2)) (fun y ey=>by
   cases ey
   refine ⟨?_,hx⟩
   rcases hx with hx | hx
   ·exact .inl (h.sn d t x ht hx)
   ·exact .inr ⟨hx,hlt⟩)
  rw [hz]
  rw [List.length_append,List.length_singleton] at this
  exact this
 ·have hkp:Kp S w w':=⟨b.os,b.tape,b.output,b.size,fun k hkl hs=>hk k hkl (fun y ey e=>hs (by rw [e]; exact h.sn d t y ht ey))⟩
  exact hkp.setCell (p:=⟨rb,d * 3 + 2,none⟩) (.inl (h.sr rb hrb)) _

end Go.Proofs.YtknmgefpjdfenaaGreat

/- The reference's add: all ways. -/
namespace Go.Proofs.YtknmgefpjdfenaaGreat
set_option maxRecDepth 100000
set_option maxHeartbeats 8000000
open Go.RowKit Go.Shelf Go.Maps
set_option linter.unusedVariables false

def AdNo (s:RTr) (p:List UInt8) (E:Int):Prop:=(spl p=none∧E=16) ∨ (spl p=some []∧E=12) ∨ ∃ ms z,spl p=some (ms ++ [z])∧(((paR s ms).1=E∧E ≠ 0) ∨ ((paR s ms).1=0∧E=12∧∃ t c,s.th[(paR s ms).2]?=some t∧t.ns.lookup z=some c))

theorem radd_no {w:World} {S:Nat→Prop} {g:Nat} {s:RTr} (h:SM w S g s) (hs:Rs s) {p:List UInt8} (hp:p.length ≤ 9223372036854775807) (i:Int) {E:Int} (he:AdNo s p E) :
  Calls Tryz.prog 74 #[.pointer (some ⟨g,0,none⟩),.string (St p),.int .i64 i] w fun e w'=>e=.returned (.int .i64 E)∧Below w.heap.size w w':=by
 rcases he with ⟨hsp,rfl⟩ | ⟨hsp,rfl⟩ | ⟨ms,z,hsp,he⟩
 ·have K:=hide (rsplit_no w hp hsp)
  clear h hs hsp hp
  generalize St p=sp at *
  go_enter Tryz.func74,Tryz.ntmps74
  go_wp2_with fail
  refine (unhide K).mono ?_
  rintro e w1 ⟨⟨a,c,rfl⟩,hb⟩
  have HB:=hide hb
  clear K hb
  go_wp2_with fail
  go_ret
  exact ⟨rfl,HB.out⟩
 ·have K:=hide (rsplit_yes w hsp)
  clear h hs hsp hp
  generalize St p=sp at *
  go_enter Tryz.func74,Tryz.ntmps74
  go_wp2_with fail
  refine (unhide K).mono ?_
  rintro e w1 ⟨a,c,rfl,_,hb⟩
  have HB:=hide hb
  clear K hb
  go_wp2_with fail
  go_ret
  exact ⟨rfl,HB.out⟩
 ·have K:=hide (rsplit_yes w hsp)
  have hok:=(spl_some hsp).1
  obtain ⟨h16,h200⟩:=okN_short hok
  have KP:Hid (∀ u a c,SM u S g s→OwnS w.heap.size u a (ms ++ [z]).length c (ms ++ [z])→Calls Tryz.prog 77 #[.pointer (some ⟨g,0,none⟩),.slice a (ms ++ [z]).length c] u fun e w'=>e=.returned (.tuple #[.int .i64 ((paR s ms).2:Int),.int .i64 (paR s ms).1])∧w'=u):=fun u a c hu ho=>rparent18_any hu hs ho.has ho.2.1 hok
  have HT:=hide h
  have hl:(ms ++ [z]).length=ms.length + 1:=by simp
  have hn16:ms.length ≤ 16:=by simp at h16; omega
  have hz200:z.length ≤ 200:=h200 z (by simp)
  have d0:((((ms ++ [z]).length:Nat):Int) == 0)=false:=by rw [hl]; simp; omega
  rcases he with ⟨hE,hne⟩ | ⟨hE,rfl,t,c,ht,hx⟩
  ·rw [hE] at KP
   have d1:(E == 0)=false:=by simpa using hne
   clear h hs hsp hp hok h16 h200 hl hne hE
   generalize ((paR s ms).2:Int)=iv at *
   generalize hml:ms ++ [z]=xs at *
   generalize hnl:xs.length=nl at *
   clear hml hnl
   generalize St p=sp at *
   go_enter Tryz.func74,Tryz.ntmps74
   go_wp2_with fail
   refine (unhide K).mono ?_
   rintro e w1 ⟨a,c,rfl,ho,hb⟩
   have HB:=hide hb
   have KP:=hide (KP.out w1 a c (HT.out.below hb) ho)
   clear K hb HT ho
   go_wp2_with fail
   refine (unhide KP).mono ?_
   rintro e w2 ⟨rfl,rfl⟩
   clear KP
   go_wp2_with fail
   go_ret
   exact ⟨rfl,HB.out⟩
  ·rw [hE] at KP
   have hdl:(paR s ms).2 < s.th.length:=(List.getElem?_eq_some_iff.1 ht).1
   have hln:=hs.len
   have KL:Hid (∀ u,SM u S g s→Calls Tryz.prog 78 #[.pointer (some ⟨g,0,none⟩),.int .i64 ((paR s ms).2:Int),.string (St z)] u fun e w'=>(∃ r:Int,e=.returned (.int .i64 r)∧0 ≤ r)∧w'=u):=fun u hu=>by
    refine (rplace_any hu ht z (by omega) (hs.few _ t ht) (by omega)).mono ?_
    rintro e w' ⟨⟨r,rfl,hr⟩,rfl⟩
    refine ⟨⟨r,rfl,?_⟩,rfl⟩
    rcases plK_look hr (hs.ap _ t ht) with ⟨_,q⟩ | ⟨k,c',rfl,_⟩
    ·rw [q] at hx; cases hx
    ·omega
   clear h hs hsp hp hok h16 h200 hE ht hx hdl hln
   generalize ((paR s ms).2:Int)=iv at *
   have HO:Hid (∀ u a c,OwnS w.heap.size u a (ms ++ [z]).length c (ms ++ [z])→∃ b o,a=some ⟨b,o,none⟩∧u.cell? ⟨b,o + ms.length,none⟩=some (.string (St z))):=fun u a c ho=>by
    obtain ⟨b,o,e,_,hc⟩:=ho.has.2 (by rw [hl]; omega)
    refine ⟨b,o,e,?_⟩
    have:=hc ms.length (by rw [hl]; omega)
    rw [this]
    simp [sv]
   rw [hl] at K KP d0 HO
   have hw:IntKind.i64.wrap (((ms.length + 1:Nat):Int) - 1)=(ms.length:Int):=by rw [IntKind.wrap_i64]; omega
   have e1:((ms.length + 1:Nat):Int) - 1=(ms.length:Int):=by omega
   have l0:(0:Int) ≤ (ms.length:Int):=by omega
   have l1:(ms.length:Int) < ((ms.length + 1:Nat):Int):=by omega
   generalize ms ++ [z]=xs at *
   generalize ms.length=nl at *
   generalize St p=sp at *
   generalize St z=sz at *
   clear hl
   go_enter Tryz.func74,Tryz.ntmps74
   go_wp2_with fail
   refine (unhide K).mono ?_
   rintro e w1 ⟨a,c,rfl,ho,hb⟩
   obtain ⟨b,o,rfl,cz⟩:=HO.out w1 a c ho
   have HB:=hide hb
   have HT:=hide (HT.out.below hb)
   have KP:=hide (KP.out w1 _ c HT.out ho)
   have KL:=hide (KL.out w1 HT.out)
   clear K hb ho HO HT
   go_wp2_with fail
   refine (unhide KP).mono ?_
   rintro e w2 ⟨rfl,rfl⟩
   clear KP
   go_wp2_with fail
   refine (unhide KL).mono ?_
   rintro e w3 ⟨⟨r,rfl,hr⟩,rfl⟩
   have d3:decide (r ≥ 0)=true:=by simpa using hr
   clear KL
   go_wp2_with fail
   go_ret
   exact ⟨rfl,HB.out⟩

theorem radd_ok {w:World} {S:Nat→Prop} {g d j:Nat} {s:RTr} {t:RT} (h:SM w S g s) (hs:Rs s) {p:List UInt8} {ms:List (List UInt8)} {z:List UInt8} (hsp:spl p=some (ms ++ [z])) (hpa:paR s ms=(0,d)) (ht:s.th[d]?=some t) (hx:t.ns.lookup z=none) :
  Calls Tryz.prog 74 #[.pointer (some ⟨g,0,none⟩),.string (St p),.int .i64 (j:Int)] w fun e w'=>∃ a' c',e=.returned (.int .i64 0)∧SM w' (Up S w.heap.size w'.heap.size) g (s.put d { t with ns:=t.ns ++ [(z,j)],na:=a',nc:=c' })∧Kp S w w':=by
 have K:=hide (rsplit_yes w hsp)
 have hok:=(spl_some hsp).1
 obtain ⟨h16,h200⟩:=okN_short hok
 have KP:Hid (∀ u a c,SM u S g s→OwnS w.heap.size u a (ms ++ [z]).length c (ms ++ [z])→Calls Tryz.prog 77 #[.pointer (some ⟨g,0,none⟩),.slice a (ms ++ [z]).length c] u fun e w'=>e=.returned (.tuple #[.int .i64 (d:Int),.int .i64 0])∧w'=u):=fun u a c hu ho=>by
  have:=rparent18_any hu hs ho.has ho.2.1 hok
  rw [hpa] at this
  exact this
 have HT:=hide h
 have hl:(ms ++ [z]).length=ms.length + 1:=by simp
 have hn16:ms.length ≤ 16:=by simp at h16; omega
 have hz200:z.length ≤ 200:=h200 z (by simp)
 have d0:((((ms ++ [z]).length:Nat):Int) == 0)=false:=by rw [hl]; simp; omega
 have hdl:d < s.th.length:=(List.getElem?_eq_some_iff.1 ht).1
 have hln:=hs.len
 have KL:Hid (∀ u,SM u S g s→Calls Tryz.prog 78 #[.pointer (some ⟨g,0,none⟩),.int .i64 (d:Int),.string (St z)] u fun e w'=>e=.returned (.int .i64 (-1))∧w'=u):=fun u hu=>by
  refine (rplace_any hu ht z (by omega) (hs.few _ t ht) (by omega)).mono ?_
  rintro e w' ⟨⟨r,rfl,hr⟩,rfl⟩
  rcases plK_look hr (hs.ap _ t ht) with ⟨rfl,q⟩ | ⟨k,c',rfl,_,q⟩
  ·exact ⟨rfl,rfl⟩
  ·rw [q] at hx; cases hx
 obtain ⟨rb,hrb,_,_⟩:=h.row.cell ht
 have KM:Hid (∀ u,SM u S g s→_):=fun u hu=>SM.more (z:=z) (j:=j) hu ht (hs.few _ t ht) hrb
 have HG:Hid (∀ u,SM u S g s→u.cell? ⟨g,1,none⟩=some (.slice (some ⟨rb,0,none⟩) s.th.length s.tc)∧u.cell? ⟨rb,d * 3 + 2,none⟩=some (.slice t.na t.ns.length t.nc)):=fun u hu=>by
  obtain ⟨rb',e1,_,_,_,c2,_⟩:=hu.row.cell ht
  rw [hrb] at e1
  cases e1
  have:=hu.cells.2.1
  rw [hrb] at this
  exact ⟨this,c2⟩
 have hd2:(d:Int) < (s.th.length:Int):=by omega
 have hd0:(0:Int) ≤ (d:Int):=by omega
 have HO:Hid (∀ u a c,OwnS w.heap.size u a (ms ++ [z]).length c (ms ++ [z])→∃ b o,a=some ⟨b,o,none⟩∧u.cell? ⟨b,o + ms.length,none⟩=some (.string (St z))):=fun u a c ho=>by
  obtain ⟨b,o,e,_,hc⟩:=ho.has.2 (by rw [hl]; omega)
  refine ⟨b,o,e,?_⟩
  have:=hc ms.length (by rw [hl]; omega)
  rw [this]
  simp [sv]
 rw [hl] at K KP d0 HO
 have hw:IntKind.i64.wrap (((ms.length + 1:Nat):Int) - 1)=(ms.length:Int):=by rw [IntKind.wrap_i64]; omega
 have e1:((ms.length + 1:Nat):Int) - 1=(ms.length:Int):=by omega
 have l0:(0:Int) ≤ (ms.length:Int):=by omega
 have l1:(ms.length:Int) < ((ms.length + 1:Nat):Int):=by omega
 clear h hs hsp hok h16 h200 hdl hln ht hx hpa hrb
 generalize ms ++ [z]=xs at *
 generalize ms.length=nl at *
 generalize St p=sp at *
 clear hl
 go_enter Tryz.func74,Tryz.ntmps74
 go_wp2_with fail
 refine (unhide K).mono ?_
 rintro e w1 ⟨a,c,rfl,ho,hb⟩
 obtain ⟨b,o,rfl,cz⟩:=HO.out w1 a c ho
 have HB:=hide hb
 have HT:=hide (HT.out.below hb)
 have KP:=hide (KP.out w1 _ c HT.out ho)
 have KL:=hide (KL.out w1 HT.out)
 clear K hb ho HO
 go_wp2_with fail
 refine (unhide KP).mono ?_
 rintro e w2 ⟨rfl,rfl⟩
 clear KP
 go_wp2_with fail
 refine (unhide KL).mono ?_
 rintro e w3 ⟨rfl,rfl⟩
 clear KL
 go_upto_region 12 with fail
 obtain ⟨x,c',w4,r,y1,y2,yf,hM,hkp⟩:=KM.out w3.drew HT.out.drew
 have R:=hide r
 obtain ⟨g1,t1⟩:=HG.out w3 HT.out
 have g1a:∀ ob,(w3.alloc ob).cell? ⟨g,1,none⟩=some (.slice (some ⟨rb,0,none⟩) s.th.length s.tc):=fun ob=>(((Below.refl w3.heap.size w3).alloc (Nat.le_refl _) ob).cell (p:=⟨g,1,none⟩) (cell_block_lt g1)).trans g1
 have t1a:∀ ob,(w3.alloc ob).cell? ⟨rb,d * 3 + 2,none⟩=some (.slice t.na t.ns.length t.nc):=fun ob=>(((Below.refl w3.heap.size w3).alloc (Nat.le_refl _) ob).cell (p:=⟨rb,d * 3 + 2,none⟩) (cell_block_lt t1)).trans t1
 have HF:Hid (SM (w4.setCell ⟨rb,d * 3 + 2,none⟩ (.slice (some ⟨x,0,none⟩) (t.ns.length + 1) c')) (Up S w.heap.size (w4.setCell ⟨rb,d * 3 + 2,none⟩ (.slice (some ⟨x,0,none⟩) (t.ns.length + 1) c')).heap.size) g (s.put d { t with ns:=t.ns ++ [(z,j)],na:=some ⟨x,0,none⟩,nc:=c' })∧Kp S w (w4.setCell ⟨rb,d * 3 + 2,none⟩ (.slice (some ⟨x,0,none⟩) (t.ns.length + 1) c'))):=by
  have hsz:=HB.out.size
  refine ⟨hM.kept (fun _ _=>rfl) (fun k q=>q.imp id (fun e=>⟨Nat.le_trans hsz e.1,e.2⟩)) (fun k q=>q.elim (fun e=>hM.lt k (.inl e)) (fun e=>e.2)),?_⟩
  have hk0:Kp S w w3.drew:=(Kp.of HB.out).drew
  exact hk0.trans hkp (fun k q=>.inl q)
 clear hM hkp r HT HB KM HG
 generalize t.ns.length=tl at *
 generalize s.th.length=sl at *
 generalize St z=sz at *
 go_cut [] (fun wx=>Hid (∃ a' c',SM wx (Up S w.heap.size wx.heap.size) g (s.put d { t with ns:=t.ns ++ [(z,j)],na:=a',nc:=c' })∧Kp S w wx))
 case first =>
  go_region_law (refine step_app_run (by rfl) _ _ _ (by rfl) _ _ _ (by rfl) (by rfl) (unhide R) ?_; clear R)
  all_goals
   go_wp2_with fail
   go_meet
   exact ⟨some ⟨x,0,none⟩,c',HF.out⟩
 case rest =>
  clear R HF g1 t1 g1a t1a y1 y2 yf
  go_wp2_with fail
  go_ret
  obtain ⟨a',c',h1,h2⟩:=hcut.out
  exact ⟨a',c',rfl,h1,h2⟩

end Go.Proofs.YtknmgefpjdfenaaGreat

/- The reference's make: a thing more, a thing anew. -/
namespace Go.Proofs.YtknmgefpjdfenaaGreat
set_option maxRecDepth 100000
set_option maxHeartbeats 8000000
open Go.RowKit Go.Shelf Go.Maps
set_option linter.unusedVariables false

theorem SM.grow {w:World} {S:Nat→Prop} {g:Nat} {s:RTr} (h:SM w S g s) (hn:s.th.length ≤ 1800000000000) :
  ∃ (x c':Nat) (w':World),(∀ ty,(Builtin.append_ #[74,74] ty #[.slice s.ta s.th.length s.tc,.slice (some ⟨w.heap.size,0,none⟩) 1 1]).run Tryz.prog (w.alloc (.cells #[.int .i64 0,.slice none 0 0,.slice none 0 0] 73))=.ok (.slice (some ⟨x,0,none⟩) (s.th.length + 1) c') w') ∧
   w'.cell? ⟨g,1,none⟩=some (.slice s.ta s.th.length s.tc)∧(∀ k,w'.frozen? ⟨g,k,none⟩=false) ∧
   SM (w'.setCell ⟨g,1,none⟩ (.slice (some ⟨x,0,none⟩) (s.th.length + 1) c')) (Up S w.heap.size (w'.setCell ⟨g,1,none⟩ (.slice (some ⟨x,0,none⟩) (s.th.length + 1) c')).heap.size) g { s with th:=s.th ++ [RT.none],ta:=some ⟨x,0,none⟩,tc:=c' } ∧
   Kp S w (w'.setCell ⟨g,1,none⟩ (.slice (some ⟨x,0,none⟩) (s.th.length + 1) c')):=by
 obtain ⟨x,c',w',r,o,b,hk,hx,hlt⟩:=h.row.app (Nat.zero_le _) hn
 have hz:(w'.setCell ⟨g,1,none⟩ (.slice (some ⟨x,0,none⟩) (s.th.length + 1) c')).heap.size=w'.heap.size:=by simp [World.setCell]
 obtain ⟨strc,hstrc,hsn⟩:=h.str
 have kg:w'.heap[g]?=w.heap[g]?:=hk g (h.lt g h.sg) (fun y ey e=>by
  subst e
  obtain ⟨_,_,cur,hcu⟩:=h.row.at ey
  rw [hcu] at hstrc
  exact absurd (cells_ty hstrc) (by decide))
 have hs':=h.str.of_block kg
 have hxg:x ≠ g:=fun e=>by
  subst e
  obtain ⟨_,_,cur,hcu⟩:=o.at rfl
  exact row_neT hs' hcu (by decide) rfl
 have g1:=hs'.cell (i:=1) (by omega)
 have cs':∀ (i:Nat) (y:RT),(s.th ++ [RT.none])[i]?=some y→s.th[i]?=some y ∨ y=RT.none:=fun i y e=>by
  by_cases hi:i < s.th.length
  ·rw [List.getElem?_append_left hi] at e; exact .inl e
  ·rw [List.getElem?_append_right (by omega)] at e
   right
   have hi2:=(List.getElem?_eq_some_iff.1 e).1
   simp at hi2
   have:i - s.th.length=0:=by omega
   rw [this] at e
   cases e
   rfl
 refine ⟨x,c',w',r,?_,fun k=>hs'.frozen k,?_,?_⟩
 ·rw [g1]; unfold scell; rw [if_neg (by omega),if_pos rfl]
 ·rw [hz]
  refine h.rows ((hs'.set 1 _).congr (fun j hj=>?_)) ?_ (fun k q1 q2 q3=>?_) (fun i y e=>?_) (fun i y e=>?_) (fun k q=>.inl q) (fun y e=>?_) (fun k q=>?_)
  ·unfold scell
   by_cases h1:j=1
   ·subst h1
    simp
   ·rw [if_neg h1]
    by_cases h0:j=0
    ·rw [if_pos h0,if_pos h0]
    ·rw [if_neg h0,if_neg h1,if_neg h0,if_neg h1]
  ·exact o.kept (fun y ey=>by cases ey; exact Below.heap_setCell _ _ _ _ hxg)
  ·exact (Below.heap_setCell _ _ _ _ q2).trans (hk k (h.lt k q1) q3)
  ·rcases cs' i y e with e' | rfl
   ·exact .inl ⟨y,e',rfl,rfl,rfl⟩
   ·exact .inr ⟨Own.nil _ _,fun b eb=>by cases eb⟩
  ·rcases cs' i y e with e' | rfl
   ·exact .inl ⟨y,e',rfl,rfl,rfl⟩
   ·exact .inr ⟨rfl,rfl,rfl⟩
  ·cases e
   rcases hx with hx | hx
   ·exact .inl (h.sr x hx)
   ·exact .inr ⟨hx,hlt⟩
  ·rw [hz]
   exact q.elim (fun e=>Nat.lt_of_lt_of_le (h.lt k e) b.size) (fun e=>e.2)
 ·have hkp:Kp S w w':=⟨b.os,b.tape,b.output,b.size,fun k hkl hs=>hk k hkl (fun y ey e=>hs (by rw [e]; exact h.sr y ey))⟩
  exact hkp.setCell (p:=⟨g,1,none⟩) (.inl h.sg) _

theorem SM.anew {u:World} {S:Nat→Prop} {g i rb:Nat} {s:RTr} {t:RT} (h:SM u S g s) (ht:s.th[i]?=some t) (hrb:s.ta=some ⟨rb,0,none⟩) (k:Int) :
  SM (((u.setCell ⟨rb,i * 3,none⟩ (.int .i64 k)).setCell ⟨rb,i * 3 + 1,none⟩ (.slice none 0 0)).setCell ⟨rb,i * 3 + 2,none⟩ (.slice none 0 0)) S g (s.put i { RT.none with k:=k }) ∧
   Kp S u (((u.setCell ⟨rb,i * 3,none⟩ (.int .i64 k)).setCell ⟨rb,i * 3 + 1,none⟩ (.slice none 0 0)).setCell ⟨rb,i * 3 + 2,none⟩ (.slice none 0 0)):=by
 have hrow:=h.row
 rw [hrb] at hrow
 obtain ⟨hlt,_,rcur,hrc⟩:=hrow.at rfl
 have hlen:i < s.th.length:=(List.getElem?_eq_some_iff.1 ht).1
 have hrS:=h.sr rb hrb
 have o1:=OwnX.setj (i:=i) (j:=0) (x:=t) (x':={ t with k:=k }) (v:=.int .i64 k) hrow ht (by omega) rfl
 have o2:=OwnX.setj (i:=i) (j:=1) (x:={ t with k:=k }) (x':={ t with k:=k,d:=[],da:=none,dc:=0 }) (v:=.slice none 0 0) o1 (List.getElem?_set_self hlen) (by omega) rfl
 have o3:=OwnX.setj (i:=i) (j:=2) (x:={ t with k:=k,d:=[],da:=none,dc:=0 }) (x':={ RT.none with k:=k }) (v:=.slice none 0 0) o2 (List.getElem?_set_self (by simpa using hlen)) (by omega) rfl
 rw [List.set_set,List.set_set] at o3
 have hz:(((u.setCell ⟨rb,i * 3,none⟩ (.int .i64 k)).setCell ⟨rb,i * 3 + 1,none⟩ (.slice none 0 0)).setCell ⟨rb,i * 3 + 2,none⟩ (.slice none 0 0)).heap.size=u.heap.size:=by simp [World.setCell]
 have ko:∀ b,b ≠ rb→(((u.setCell ⟨rb,i * 3,none⟩ (.int .i64 k)).setCell ⟨rb,i * 3 + 1,none⟩ (.slice none 0 0)).setCell ⟨rb,i * 3 + 2,none⟩ (.slice none 0 0)).heap[b]?=u.heap[b]?:=fun b hb=>(Below.heap_setCell _ _ _ _ hb).trans ((Below.heap_setCell _ _ _ _ hb).trans (Below.heap_setCell _ _ _ _ hb))
 have hgr:g ≠ rb:=(row_neT h.str hrc (by decide)).symm
 have cs':∀ (j:Nat) (x:RT),(s.th.set i { RT.none with k:=k })[j]?=some x→(j=i∧x={ RT.none with k:=k }) ∨ (j ≠ i∧s.th[j]?=some x):=fun j x e=>by
  by_cases hj:j=i
  ·subst hj
   rw [List.getElem?_set_self hlen] at e
   cases e
   exact .inl ⟨rfl,rfl⟩
  ·rw [List.getElem?_set_ne (fun q=>hj q.symm)] at e
   exact .inr ⟨hj,e⟩
 refine ⟨h.rows ((h.str.of_block (ko g hgr)).congr (fun j hj=>?_)) ?_ (fun b q1 q2 q3=>ko b (q3 rb hrb)) (fun j x e=>?_) (fun j x e=>?_) (fun b q=>q) (fun b e=>h.sr b e) (fun b q=>by rw [hz]; exact h.lt b q),?_⟩
 ·unfold scell RTr.put
  simp
 ·show OwnX 0 _ s.ta s.tc (s.th.set i _)
  rw [hrb]
  exact o3
 ·rcases cs' j x e with ⟨rfl,rfl⟩ | ⟨_,e'⟩
  ·exact .inr ⟨Own.nil _ _,fun b eb=>by cases eb⟩
  ·exact .inl ⟨x,e',rfl,rfl,rfl⟩
 ·rcases cs' j x e with ⟨rfl,rfl⟩ | ⟨_,e'⟩
  ·exact .inr ⟨rfl,rfl,rfl⟩
  ·exact .inl ⟨x,e',rfl,rfl,rfl⟩
 ·exact (((Kp.of (Below.refl _ u)).setCell (p:=⟨rb,i * 3,none⟩) (.inl hrS) _).setCell (p:=⟨rb,i * 3 + 1,none⟩) (.inl hrS) _).setCell (p:=⟨rb,i * 3 + 2,none⟩) (.inl hrS) _

end Go.Proofs.YtknmgefpjdfenaaGreat

/- The reference's make: all ways. -/
namespace Go.Proofs.YtknmgefpjdfenaaGreat
set_option maxRecDepth 100000
set_option maxHeartbeats 8000000
open Go.RowKit Go.Shelf Go.Maps
set_option linter.unusedVariables false

theorem rmake_no {w:World} {S:Nat→Prop} {g:Nat} {s:RTr} (h:SM w S g s) (hs:Rs s) (h2:2 ≤ s.th.length) {p:List UInt8} (hp:p.length ≤ 9223372036854775807) (k:Int) {E:Int} (he:AdNo s p E) (hE:E ≠ 0) :
  Calls Tryz.prog 69 #[.pointer (some ⟨g,0,none⟩),.string (St p),.int .i64 k] w fun e w'=>e=.returned (.int .i64 E)∧Below w.heap.size w w':=by
 have K1:=hide (rfresh_any h hs h2)
 have K2:Hid (∀ f:Nat,Calls Tryz.prog 74 #[.pointer (some ⟨g,0,none⟩),.string (St p),.int .i64 (f:Int)] w fun e w'=>e=.returned (.int .i64 E)∧Below w.heap.size w w'):=fun f=>radd_no h hs hp (f:Int) he
 have d1:(E == 0)=false:=by simpa using hE
 clear h hs h2 hp he hE
 generalize St p=sp at *
 go_enter Tryz.func69,Tryz.ntmps69
 go_wp2_with fail
 refine (unhide K1).mono ?_
 rintro e w1 ⟨⟨f,rfl,_⟩,rfl⟩
 have K2:=hide (K2.out f)
 clear K1
 go_wp2_with fail
 refine (unhide K2).mono ?_
 rintro e w2 ⟨rfl,hb⟩
 have HB:=hide hb
 clear K2 hb
 go_wp2_with fail
 go_ret
 exact ⟨rfl,HB.out⟩

def mkR (s:RTr) (d:Nat) (t:RT) (z:List UInt8) (f:Nat) (k:Int) (a:Option Addr) (c:Nat) (ta:Option Addr) (tc:Nat):RTr :=
 { s with th:=(if f=s.th.length then s.th.set d { t with ns:=t.ns ++ [(z,f)],na:=a,nc:=c } ++ [RT.none] else s.th.set d { t with ns:=t.ns ++ [(z,f)],na:=a,nc:=c }).set f { RT.none with k:=k },ta:=ta,tc:=tc }

theorem SM.upup {w1:World} {S:Nat→Prop} {g n m:Nat} {s:RTr} (h:SM w1 (Up (Up S n m) m w1.heap.size) g s) (hn:n ≤ m) (hm:m ≤ w1.heap.size):SM w1 (Up S n w1.heap.size) g s :=
 h.kept (fun _ _=>rfl) (fun k q=>by
  rcases q with (q | q) | q
  ·exact .inl q
  ·exact .inr ⟨q.1,by omega⟩
  ·exact .inr ⟨by omega,q.2⟩) (fun k q=>by
  rcases q with q | q
  ·exact h.lt k (.inl (.inl q))
  ·exact q.2)

theorem rmake_ok {w:World} {S:Nat→Prop} {g d:Nat} {s:RTr} {t:RT} (h:SM w S g s) (hs:Rs s) (h2:2 ≤ s.th.length) {p:List UInt8} {ms:List (List UInt8)} {z:List UInt8} (hsp:spl p=some (ms ++ [z])) (hpa:paR s ms=(0,d)) (ht:s.th[d]?=some t) (hx:t.ns.lookup z=none) (k:Int) :
  Calls Tryz.prog 69 #[.pointer (some ⟨g,0,none⟩),.string (St p),.int .i64 k] w fun e w'=>∃ f a c ta tc,e=.returned (.int .i64 0)∧FrR s f∧SM w' (Up S w.heap.size w'.heap.size) g (mkR s d t z f k a c ta tc)∧Kp S w w':=by
 have K1:=hide (rfresh_any h hs h2)
 have K2:Hid (∀ f:Nat,Calls Tryz.prog 74 #[.pointer (some ⟨g,0,none⟩),.string (St p),.int .i64 (f:Int)] w fun e w'=>∃ a' c',e=.returned (.int .i64 0)∧SM w' (Up S w.heap.size w'.heap.size) g (s.put d { t with ns:=t.ns ++ [(z,f)],na:=a',nc:=c' })∧Kp S w w'):=fun f=>radd_ok (j:=f) h hs hsp hpa ht hx
 have hln:=hs.len
 have HX:Hid (∀ f a c,(s.put d { t with ns:=t.ns ++ [(z,f)],na:=a,nc:=c }).th.length=s.th.length):=fun f a c=>by simp [RTr.put]
 clear h hs h2 hsp hpa ht hx
 generalize St p=sp at *
 go_enter Tryz.func69,Tryz.ntmps69
 go_wp2_with fail
 refine (unhide K1).mono ?_
 rintro e w1 ⟨⟨f,rfl,hf⟩,rfl⟩
 have K2:=hide (K2.out f)
 have HFr:=hide hf
 have hfl:=hf.2.1
 clear K1 hf
 go_wp2_with fail
 refine (unhide K2).mono ?_
 rintro e w2 ⟨a,c,rfl,hT,hkp⟩
 have hl1:=HX.out f a c
 have g1:=hT.cells.2.1
 rw [hl1] at g1
 have HG:=hide g1
 by_cases hfe:f=s.th.length
 ·have d1:((f:Int) == (s.th.length:Int))=true:=by simp [hfe]
  have HFE:=hide hfe
  clear hfe
  obtain ⟨x,c',w3,r,y1,yf,hT2,hkp2⟩:=hT.grow (by rw [hl1]; exact hln)
  rw [hl1] at r y1 hT2 hkp2
  have R:=hide r
  have hth:∃ t',(s.th.set d { t with ns:=t.ns ++ [(z,f)],na:=a,nc:=c } ++ [RT.none])[f]?=some t':=⟨_,List.getElem?_eq_getElem (by simp; omega)⟩
  obtain ⟨t',ht'⟩:=hth
  have hkp1:Kp S w1 (w3.setCell ⟨g,1,none⟩ (.slice (some ⟨x,0,none⟩) (s.th.length + 1) c')):=hkp.trans hkp2 (fun k q=>q.imp id (fun e=>e.1))
  have hs1:=hkp.size
  have hs2:=hkp2.size
  clear hkp hkp2 hT g1 hl1
  have g1:w2.cell? ⟨g,1,none⟩=some (.slice s.ta s.th.length s.tc):=by
   have:=HG.out
   exact this
  clear HG
  go_upto_region 7 with (at_builtin; refine wpList_append_run 74 rfl _ _ rfl _ _ _ rfl rfl (unhide R) ?_; clear R)
  change Code.wp _ _ _ _ (w3.setCell ⟨g,1,none⟩ (.slice (some ⟨x,0,none⟩) (s.th.length + 1) c'))
  generalize (w3.setCell ⟨g,1,none⟩ (.slice (some ⟨x,0,none⟩) (s.th.length + 1) c'))=u at *
  have hA:=hT2.anew (i:=f) (rb:=x) ht' rfl k
  obtain ⟨rb',e1,_,z0,z1,z2,zf⟩:=hT2.row.cell ht'
  cases e1
  have zg:=hT2.cells.2.1
  have hzl:((s.put d { t with ns:=t.ns ++ [(z,f)],na:=a,nc:=c }).th ++ [RT.none]).length=s.th.length + 1:=by rw [List.length_append,HX.out]; rfl
  simp only [hzl] at zg
  have hfl2:(f:Int) < ((s.th.length + 1:Nat):Int):=by omega
  have hf0:(0:Int) ≤ (f:Int):=by omega
  have HR:Hid (SM (((u.setCell ⟨x,f * 3,none⟩ (.int .i64 k)).setCell ⟨x,f * 3 + 1,none⟩ (.slice none 0 0)).setCell ⟨x,f * 3 + 2,none⟩ (.slice none 0 0)) (Up S w1.heap.size (((u.setCell ⟨x,f * 3,none⟩ (.int .i64 k)).setCell ⟨x,f * 3 + 1,none⟩ (.slice none 0 0)).setCell ⟨x,f * 3 + 2,none⟩ (.slice none 0 0)).heap.size) g (mkR s d t z f k a c (some ⟨x,0,none⟩) c') ∧
    Kp S w1 (((u.setCell ⟨x,f * 3,none⟩ (.int .i64 k)).setCell ⟨x,f * 3 + 1,none⟩ (.slice none 0 0)).setCell ⟨x,f * 3 + 2,none⟩ (.slice none 0 0))):=by
   have hz:(((u.setCell ⟨x,f * 3,none⟩ (.int .i64 k)).setCell ⟨x,f * 3 + 1,none⟩ (.slice none 0 0)).setCell ⟨x,f * 3 + 2,none⟩ (.slice none 0 0)).heap.size=u.heap.size:=by simp [World.setCell]
   refine ⟨?_,hkp1.trans hA.2 (fun k q=>?_)⟩
   ·have h3:=hA.1
    rw [← hz] at h3
    have h4:=h3.upup hs1 (by rw [hz]; exact hs2)
    have e:mkR s d t z f k a c (some ⟨x,0,none⟩) c'=RTr.put { s.put d { t with ns:=t.ns ++ [(z,f)],na:=a,nc:=c } with th:=(s.put d { t with ns:=t.ns ++ [(z,f)],na:=a,nc:=c }).th ++ [RT.none],ta:=some ⟨x,0,none⟩,tc:=c' } f { RT.none with k:=k }:=by
     unfold mkR RTr.put
     rw [if_pos HFE.out]
    rw [e]
    exact h4
   ·rcases q with (q | q) | q
    ·exact .inl q
    ·exact .inr q.1
    ·exact .inr (by omega)
  clear hT2 hA hkp1 ht' hzl HX g1 y1 yf
  go_wp2_with fail
  go_ret
  exact ⟨f,a,c,some ⟨x,0,none⟩,c',rfl,HFr.out,HR.out⟩
 ·have d1:((f:Int) == (s.th.length:Int))=false:=by simp; omega
  have hth:∃ t',(s.th.set d { t with ns:=t.ns ++ [(z,f)],na:=a,nc:=c })[f]?=some t':=⟨_,List.getElem?_eq_getElem (by simp; omega)⟩
  obtain ⟨t',ht'⟩:=hth
  obtain ⟨x,hxx,_,z0,z1,z2,zf⟩:=hT.row.cell ht'
  have hA:=hT.anew (i:=f) (rb:=x) ht' hxx k
  rw [show (s.put d { t with ns:=t.ns ++ [(z,f)],na:=a,nc:=c }).ta=some ⟨x,0,none⟩ from hxx] at g1
  have hfl2:(f:Int) < (s.th.length:Int):=by omega
  have hf0:(0:Int) ≤ (f:Int):=by omega
  have HR:Hid (SM (((w2.setCell ⟨x,f * 3,none⟩ (.int .i64 k)).setCell ⟨x,f * 3 + 1,none⟩ (.slice none 0 0)).setCell ⟨x,f * 3 + 2,none⟩ (.slice none 0 0)) (Up S w1.heap.size (((w2.setCell ⟨x,f * 3,none⟩ (.int .i64 k)).setCell ⟨x,f * 3 + 1,none⟩ (.slice none 0 0)).setCell ⟨x,f * 3 + 2,none⟩ (.slice none 0 0)).heap.size) g (mkR s d t z f k a c s.ta s.tc) ∧
    Kp S w1 (((w2.setCell ⟨x,f * 3,none⟩ (.int .i64 k)).setCell ⟨x,f * 3 + 1,none⟩ (.slice none 0 0)).setCell ⟨x,f * 3 + 2,none⟩ (.slice none 0 0))):=by
   have hz:(((w2.setCell ⟨x,f * 3,none⟩ (.int .i64 k)).setCell ⟨x,f * 3 + 1,none⟩ (.slice none 0 0)).setCell ⟨x,f * 3 + 2,none⟩ (.slice none 0 0)).heap.size=w2.heap.size:=by simp [World.setCell]
   refine ⟨?_,hkp.trans hA.2 (fun k q=>q.imp id (fun e=>e.1))⟩
   have h3:=hA.1
   rw [← hz] at h3
   have e:mkR s d t z f k a c s.ta s.tc=(s.put d { t with ns:=t.ns ++ [(z,f)],na:=a,nc:=c }).put f { RT.none with k:=k }:=by
    unfold mkR RTr.put
    rw [if_neg hfe]
   rw [e]
   exact h3
  clear hT hA hkp ht' HX hl1
  go_wp2_with fail
  go_ret
  exact ⟨f,a,c,s.ta,s.tc,rfl,HFr.out,HR.out⟩

end Go.Proofs.YtknmgefpjdfenaaGreat

/- Slices of a row of names. -/
namespace Go.Proofs.YtknmgefpjdfenaaGreat
set_option maxRecDepth 100000
set_option maxHeartbeats 8000000
open Go.RowKit Go.Shelf Go.Maps
set_option linter.unusedVariables false

theorem elemD:Tryz.prog.underlying 71=some (.slice (Tryz.prog.elem 71)):=by kernel_rfl

theorem elemDv:Tryz.prog.elem 71=120:=by kernel_rfl

theorem sizeOfD (w:World):(sizeOf (Tryz.prog.elem 71)).run Tryz.prog w=.ok 2 w:=by
 rw [elemDv]
 obtain ⟨i0,hi,hz0,hz1,hz2⟩:=info_parts infoD
 simp [sizeOf,typeInfo,hi,hz1]

theorem dcut_h (nb n cap k:Nat) (hk:k ≤ cap) (w:World) :
  (Instr.slice 71 (.slice (some ⟨nb,0,none⟩) n cap) none (some (.int .i64 (k:Int))) none).run Tryz.prog w=.ok (.slice (some ⟨nb,0,none⟩) k cap) w:=by
 rw [run_slice_h (P:=Tryz.prog) (w:=w) 71 (some ⟨nb,0,none⟩) n cap elemD .i64 k (by omega) (by omega),sizeOfD]
 simp only [Result.andThen,sliced]
 have e1:(k:Int).toNat=k:=by omega
 rw [e1]
 simp [Addr.add]

theorem dcut_l (nb n cap k:Nat) (hk:k ≤ n) (w:World) :
  (Instr.slice 71 (.slice (some ⟨nb,0,none⟩) n cap) (some (.int .i64 (k:Int))) none none).run Tryz.prog w=.ok (.slice (some (if cap=k then ⟨nb,0,none⟩ else ⟨nb,k * 2,none⟩)) (n - k) (cap - k)) w:=by
 rw [run_slice_l (P:=Tryz.prog) (w:=w) 71 (some ⟨nb,0,none⟩) n cap elemD .i64 k (by omega) (by omega),sizeOfD]
 simp only [Result.andThen,sliced]
 have e1:(k:Int).toNat=k:=by omega
 rw [e1]
 split
 ·rfl
 ·simp [Addr.add]
  omega

theorem OwnN.appL {B:Nat} {w:World} {x c:Nat} {ns:NL} (h:OwnN B w (some ⟨x,0,none⟩) c ns) (hB:B ≤ w.heap.size) (ad:Addr) (c2:Nat) (ms:NL) (hms:∀ j u,(ncells ms)[j]?=some u→w.cell? (ad.add j)=some u) (hn:ns.length + ms.length ≤ 1800000000000) :
  ∃ (x' c':Nat) (w':World),(∀ ty,(Builtin.append_ #[71,71] ty #[.slice (some ⟨x,0,none⟩) ns.length c,.slice (some ad) ms.length c2]).run Tryz.prog w=.ok (.slice (some ⟨x',0,none⟩) (ns.length + ms.length) c') w')∧OwnN B w' (some ⟨x',0,none⟩) c' (ns ++ ms)∧Below B w w'∧x' < w'.heap.size:=by
 obtain ⟨i0,hi,hz0,hz1,hz2⟩:=info_parts infoD
 have e1:ncells (ns ++ ms)=ncells ns ++ ncells ms:=by simp [ncells]
 have hl:(ns ++ ms).length=ns.length + ms.length:=by simp
 obtain ⟨v',w',hr,ho2,hg,hiff⟩:=run_append_own (P:=Tryz.prog) w B 71 0 120 i0 _ 2 24 undD hi hz0 hz1 hz2 rfl (by decide) (.slice (some ⟨x,0,none⟩) ns.length c) ns.length _ h ad ms.length c2 (ncells ms) (ncells_len ms) hms
  (fun z hz=>by
   unfold ncells at hz
   rw [List.mem_flatMap] at hz
   obtain ⟨e,_,he⟩:=hz
   simp [ncs2] at he
   rcases he with rfl | rfl <;> rfl) (by unfold maxLen; omega) (by omega) hB
 obtain ⟨x',c',rfl⟩:∃ x' c',v'=.slice (some ⟨x',0,none⟩) (ns.length + ms.length) c':=by
  rcases ho2.2 with ⟨rfl,_⟩ | ⟨g,cap,cur,rfl,_⟩
  ·have:=hiff.1 rfl
   cases this.1
  ·exact ⟨_,_,rfl⟩
 have ho3:OwnN B w' (some ⟨x',0,none⟩) c' (ns ++ ms):=by unfold OwnN; rw [e1,hl]; exact ho2
 refine ⟨x',c',w',fun ty=>hr,ho3,?_,(ho3.at rfl).1⟩
 refine (Below.refl B w).grown hg hB (fun k ek=>?_)
 simp [Value.ownBlock] at ek
 rw [← ek]
 exact (h.at rfl).2.1

end Go.Proofs.YtknmgefpjdfenaaGreat

