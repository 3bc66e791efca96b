/- size, Stat, New. -/
import Derived.Test.YtknmgefpjdfenaaTMake
import Derived.Test.YtknmgefpjdfenaaCCell
import Derived.Deep.RegionHeld3
namespace Go.Proofs.Ytknmgefpjdfenaa
open Go.RowKit Go.Shelf Go.Maps
set_option linter.unusedVariables false
set_option maxRecDepth 100000

/-- The bytes of a file, or sixteen for each name. -/
def sizeT (t : Th) : Int := (t.d.length : Int) + 16 * (t.ns.length : Int)

/-- Of so many bytes and names nothing overflows. -/
def Small (t : Th) : Prop := t.d.length ≤ 1000000 ∧ t.ns.length ≤ 1000000 ∧ (t.k = 2 ∨ t.ns = [])

theorem size_any {w : World} {S : Nat → Prop} {g b : Nat} {s : Tr} {t : Th} (h : TM w S g s) (ht : s.T b = some t) (hs : Small t) :
    Calls Try.prog 30 #[.pointer (some ⟨b, 0, none⟩)] w fun e w' => e = .returned (.int .i64 (sizeT t)) ∧ ∃ q, w' = w.drewN q := by
  obtain ⟨_, _, _, c3, c4, _⟩ := h.thing_cells ht
  have hl : ∀ q ty, (Builtin.len_ #[57] ty #[if t.k = 2 then .map (some t.mp) else .map none]).run Try.prog (w.drewN q) = .ok (.int .i64 (t.ns.length : Int)) (w.drewN q) := by
    intro q ty
    by_cases h2 : t.k = 2
    · rw [if_pos h2]
      exact MapS.len (u := w.drewN q) ((h.map b t ht h2).kept rfl) ty
    · rw [if_neg h2]
      have : t.ns = [] := hs.2.2.resolve_left h2
      rw [this]
      exact Maps.len_nil undM ty
  obtain ⟨s1, s2, _⟩ := hs
  unfold sizeT
  clear h ht
  generalize (if t.k = 2 then Value.map (some t.mp) else Value.map none) = mv at *
  generalize t.d.length = n at *
  generalize t.ns.length = m at *
  have e1 : wrap64 (16 * (m : Int)) = 16 * (m : Int) := by unfold wrap64; omega
  have e2 : wrap64 ((n : Int) + 16 * (m : Int)) = (n : Int) + 16 * (m : Int) := by unfold wrap64; omega
  go_enter Try.func30, Try.ntmps30
  go_wp2_with fail
  go_quiet (fail)
  go_wp2_with fail
  go_ret
  exact ⟨by first | rfl | (congr 2) , _, rfl⟩

def statV (t : Th) : Value := .agg #[.int .i64 t.k, .int .i64 (t.n : Int), .int .i64 t.l, .int .i64 (sizeT t)]

set_option maxHeartbeats 4000000 in
theorem stat_ok {w : World} {S : Nat → Prop} {g r b : Nat} {s : Tr} {t : Th} (h : TM w S g s) (hk : Ok s r) {p : List UInt8} {ns : List (List UInt8)} (hp : spl p = some ns) (hg : go s ns r = (0, some b)) (ht : s.T b = some t) (hs : Small t) :
    Calls Try.prog 17 #[.pointer (some ⟨g, 0, none⟩), .string (St p)] w fun e w' => e = .returned (.tuple #[statV t, .int .i64 0]) ∧ Below w.heap.size w w' := by
  have hb0 : Below w.heap.size w (w.alloc (.cells #[.int .i64 0, .int .i64 0, .int .i64 0, .int .i64 0] 49)) := (Below.refl _ w).alloc (Nat.le_refl _) _
  have hlt : w.heap.size < (w.alloc (.cells #[.int .i64 0, .int .i64 0, .int .i64 0, .int .i64 0] 49)).heap.size := by simp
  have hbl := Bl.new w #[.int .i64 0, .int .i64 0, .int .i64 0, .int .i64 0] 49
  have K := refuses_one (p := p) (h.below hb0) hk.row_ne (by have := spl_len hp; omega) (Below.refl _ _)
  rw [splE_of hp] at K
  have KR : Hid (Calls Try.prog 19 #[.pointer (some ⟨g, 0, none⟩), .slice (some ⟨w.heap.size + 1, 0, none⟩) 1 1] ((w.alloc (.cells #[.int .i64 0, .int .i64 0, .int .i64 0, .int .i64 0] 49)).alloc (.cells #[.string (St p)] 9)) fun e w' => e = .returned (.int .i64 0) ∧ Below (w.alloc (.cells #[.int .i64 0, .int .i64 0, .int .i64 0, .int .i64 0] 49)).heap.size (w.alloc (.cells #[.int .i64 0, .int .i64 0, .int .i64 0, .int .i64 0] 49)) w') := by
    rw [show w.heap.size + 1 = (w.alloc (.cells #[.int .i64 0, .int .i64 0, .int .i64 0, .int .i64 0] 49)).heap.size by simp]
    exact K
  have KF : Hid (∀ u, TM u S g s → Calls Try.prog 22 #[.pointer (some ⟨g, 0, none⟩), .string (St p)] u fun e w' => e = .returned (.tuple #[.pointer (some ⟨b, 0, none⟩), .int .i64 0]) ∧ Below u.heap.size u w') := fun u hu => by
    have := find_any hu hk hp
    rw [hg] at this
    exact this
  have KS : Hid (∀ u, TM u S g s → Calls Try.prog 30 #[.pointer (some ⟨b, 0, none⟩)] u fun e w' => e = .returned (.int .i64 (sizeT t)) ∧ ∃ q, w' = u.drewN q) := fun u hu => size_any hu ht hs
  have HT := hide (h.below hb0)
  have HX := hide ht
  have HB := hide hb0
  have HL := hide hbl
  clear h hk hp hg ht hs K hb0 hbl
  generalize St p = sp at *
  go_enter Try.func17, Try.ntmps17
  go_wp2_with fail
  generalize w.alloc (.cells #[.int .i64 0, .int .i64 0, .int .i64 0, .int .i64 0] 49) = w0 at *
  generalize hm : w.heap.size = m at *
  refine (unhide KR).mono ?_
  rintro e w1 ⟨rfl, hb⟩
  have HT := hide (HT.out.below hb)
  have HB := hide (HB.out.trans (hb.mono (Nat.le_of_lt hlt)))
  have HL := hide (HL.out.call hb)
  have KF := hide (KF.out w1 HT.out)
  clear KR hb hlt
  go_wp2_with fail
  refine (unhide KF).mono ?_
  rintro e w2 ⟨rfl, hb⟩
  have HT := hide (HT.out.below hb)
  have HB := hide (HB.out.trans (hb.mono (Nat.le_of_lt HL.out.lt)))
  have HL := hide (HL.out.call hb)
  clear KF hb
  obtain ⟨t0, t1, t2, _, _, tf⟩ := HT.out.thing_cells HX.out
  have l0 := HL.out.cell 0 _ rfl
  have l1 := HL.out.cell 1 _ rfl
  have l2 := HL.out.cell 2 _ rfl
  have l3 := HL.out.cell 3 _ rfl
  have lf := HL.out.free
  have hmb : b ≠ m := fun e => by
    have h1 := HT.out.thg b t HX.out
    rw [e] at h1
    exact row_neT h1 HL.out (by decide) rfl
  have KS : Hid (∀ q, Calls Try.prog 30 #[.pointer (some ⟨b, 0, none⟩)] (w2.drewN q) fun e w' => e = .returned (.int .i64 (sizeT t)) ∧ ∃ q', w' = (w2.drewN q).drewN q') := fun q => KS.out _ (HT.out.kept (fun _ _ => rfl) (fun _ h => h) HT.out.lt)
  have KS0 : Hid (Calls Try.prog 30 #[.pointer (some ⟨b, 0, none⟩)] w2.drew fun e w' => e = .returned (.int .i64 (sizeT t)) ∧ ∃ q', w' = w2.drewN q') := by
    refine (KS.out 1).mono ?_
    rintro e w' ⟨rfl, q', rfl⟩
    exact ⟨rfl, 1 + q', (World.drewN_drewN _ _ _)⟩
  clear HT HX KS
  have HV : Hid (statV t = .agg #[.int .i64 t.k, .int .i64 (t.n : Int), .int .i64 t.l, .int .i64 (sizeT t)]) := rfl
  generalize sizeT t = sz at *
  generalize t.k = tk at *
  generalize t.n = tn at *
  generalize t.l = tl at *
  have b0 : ∀ v : World, v.heap[b]? = w2.heap[b]? → Hid True ∧ v.cell? ⟨b, 0, none⟩ = some (.int .i64 tk) ∧ v.cell? ⟨b, 1, none⟩ = some (.int .i64 (tn : Int)) ∧ v.cell? ⟨b, 2, none⟩ = some (.int .i64 tl) := fun v hv => by
    simp only [World.cell?, hv]
    exact ⟨trivial, t0, t1, t2⟩
  have J := b0 w2.drew rfl
  have J1 : Hid (∀ q, Hid True ∧ (w2.drewN q).cell? ⟨b, 0, none⟩ = some (.int .i64 tk) ∧ (w2.drewN q).cell? ⟨b, 1, none⟩ = some (.int .i64 (tn : Int)) ∧ (w2.drewN q).cell? ⟨b, 2, none⟩ = some (.int .i64 tl)) := fun q => b0 _ rfl
  have J2 : Hid (∀ q, Hid True ∧ (((((w2.drewN q).setCell ⟨m, 0, none⟩ (.int .i64 tk)).setCell ⟨m, 1, none⟩ (.int .i64 (tn : Int))).setCell ⟨m, 2, none⟩ (.int .i64 tl)).setCell ⟨m, 3, none⟩ (.int .i64 sz)).cell? ⟨b, 0, none⟩ = some (.int .i64 tk) ∧ (((((w2.drewN q).setCell ⟨m, 0, none⟩ (.int .i64 tk)).setCell ⟨m, 1, none⟩ (.int .i64 (tn : Int))).setCell ⟨m, 2, none⟩ (.int .i64 tl)).setCell ⟨m, 3, none⟩ (.int .i64 sz)).cell? ⟨b, 1, none⟩ = some (.int .i64 (tn : Int)) ∧ (((((w2.drewN q).setCell ⟨m, 0, none⟩ (.int .i64 tk)).setCell ⟨m, 1, none⟩ (.int .i64 (tn : Int))).setCell ⟨m, 2, none⟩ (.int .i64 tl)).setCell ⟨m, 3, none⟩ (.int .i64 sz)).cell? ⟨b, 2, none⟩ = some (.int .i64 tl)) := fun q => b0 _
    ((Below.heap_setCell _ _ _ _ hmb).trans ((Below.heap_setCell _ _ _ _ hmb).trans ((Below.heap_setCell _ _ _ _ hmb).trans (Below.heap_setCell _ _ _ _ hmb))))
  have HF : Hid (∀ q, Bl (((((w2.drewN q).setCell ⟨m, 0, none⟩ (.int .i64 tk)).setCell ⟨m, 1, none⟩ (.int .i64 (tn : Int))).setCell ⟨m, 2, none⟩ (.int .i64 tl)).setCell ⟨m, 3, none⟩ (.int .i64 sz)) m #[.int .i64 tk, .int .i64 (tn : Int), .int .i64 tl, .int .i64 sz] 49 ∧ Below m w (((((w2.drewN q).setCell ⟨m, 0, none⟩ (.int .i64 tk)).setCell ⟨m, 1, none⟩ (.int .i64 (tn : Int))).setCell ⟨m, 2, none⟩ (.int .i64 tl)).setCell ⟨m, 3, none⟩ (.int .i64 sz))) := fun q =>
    ⟨setAll_whole [.int .i64 tk, .int .i64 (tn : Int), .int .i64 tl, .int .i64 sz] (w2.drewN q) _ (show Bl (w2.drewN q) m _ _ from HL.out) rfl,
     below_setAll (Nat.le_refl m) [.int .i64 tk, .int .i64 (tn : Int), .int .i64 tl, .int .i64 sz] w (w2.drewN q) 0 ⟨HB.out.os, HB.out.tape, HB.out.output, HB.out.size, HB.out.block⟩⟩
  clear b0
  go_upto_region 7 with fail
  go_region_held3 (fun v => Hid True ∧ v.cell? ⟨b, 0, none⟩ = some (.int .i64 tk) ∧ v.cell? ⟨b, 1, none⟩ = some (.int .i64 (tn : Int)) ∧ v.cell? ⟨b, 2, none⟩ = some (.int .i64 tl))
    (with_reducible (first | exact J | exact unhide J1 _ | exact unhide J2 _))
    (first | (go_at_call 30; refine (unhide KS0).mono ?_; rintro e w' ⟨rfl, q, rfl⟩))
  all_goals
    go_wp2_with fail
    obtain ⟨hA, hW⟩ := HF.out q
    change bodyPost _ _ _ _ _ (((((w2.drewN q).setCell ⟨m, 0, none⟩ (.int .i64 tk)).setCell ⟨m, 1, none⟩ (.int .i64 (tn : Int))).setCell ⟨m, 2, none⟩ (.int .i64 tl)).setCell ⟨m, 3, none⟩ (.int .i64 sz))
    generalize ((((w2.drewN q).setCell ⟨m, 0, none⟩ (.int .i64 tk)).setCell ⟨m, 1, none⟩ (.int .i64 (tn : Int))).setCell ⟨m, 2, none⟩ (.int .i64 tl)).setCell ⟨m, 3, none⟩ (.int .i64 sz) = wf at *
    refine bodyPost_ret (v := .tuple #[.agg #[.int .i64 tk, .int .i64 (tn : Int), .int .i64 tl, .int .i64 sz], .int .i64 0]) ?_ rfl ⟨by rw [HV.out], ?_⟩
    · simp [results, Try.results17, go_sem, hA.cell 0 _ rfl, hA.cell 1 _ rfl, hA.cell 2 _ rfl, hA.cell 3 _ rfl]
    · rw [hm]; exact hW

end Go.Proofs.Ytknmgefpjdfenaa
