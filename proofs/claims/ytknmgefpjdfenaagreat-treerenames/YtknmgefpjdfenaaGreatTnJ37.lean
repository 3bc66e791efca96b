/- Joined: TStat, TNew. -/
import Derived.Test.YtknmgefpjdfenaaGreatTnJ36
import Derived.Test.YtknmgefpjdfenaaGreatTnJ33
import Derived.Deep.RegionHeld3
/- size, Stat, New. -/
namespace Go.Proofs.YtknmgefpjdfenaaGreat
open Go.RowKit Go.Shelf Go.Maps
set_option linter.unusedVariables false
set_option maxRecDepth 100000

/-- The bytes of a file, or sixteen for each name. -/
def sizeT (t : Th) : Int := (t.d.length : Int) + 16 * (t.ns.length : Int)

/-- Of so many bytes and names nothing overflows. -/
def Small (t : Th) : Prop := t.d.length ≤ 1000000 ∧ t.ns.length ≤ 1000000 ∧ (t.k = 2 ∨ t.ns = [])

theorem size_any {w : World} {S : Nat → Prop} {g b : Nat} {s : Tr} {t : Th} (h : TM w S g s) (ht : s.T b = some t) (hs : Small t) :
    Calls Tryz.prog 49 #[.pointer (some ⟨b, 0, none⟩)] w fun e w' => e = .returned (.int .i64 (sizeT t)) ∧ ∃ q, w' = w.drewN q := by
  obtain ⟨_, _, _, c3, c4, _⟩ := h.thing_cells ht
  have hl : ∀ q ty, (Builtin.len_ #[67] ty #[if t.k = 2 then .map (some t.mp) else .map none]).run Tryz.prog (w.drewN q) = .ok (.int .i64 (t.ns.length : Int)) (w.drewN q) := by
    intro q ty
    by_cases h2 : t.k = 2
    · rw [if_pos h2]
      exact MapS.len (u := w.drewN q) ((h.map b t ht h2).kept rfl) ty
    · rw [if_neg h2]
      have : t.ns = [] := hs.2.2.resolve_left h2
      rw [this]
      exact Maps.len_nil undM ty
  obtain ⟨s1, s2, _⟩ := hs
  unfold sizeT
  clear h ht
  generalize (if t.k = 2 then Value.map (some t.mp) else Value.map none) = mv at *
  generalize t.d.length = n at *
  generalize t.ns.length = m at *
  have e1 : wrap64 (16 * (m : Int)) = 16 * (m : Int) := by unfold wrap64; omega
  have e2 : wrap64 ((n : Int) + 16 * (m : Int)) = (n : Int) + 16 * (m : Int) := by unfold wrap64; omega
  go_enter Tryz.func49, Tryz.ntmps49
  go_wp2_with fail
  go_quiet (fail)
  go_wp2_with fail
  go_ret
  exact ⟨by first | rfl | (congr 2) , _, rfl⟩

def statV (t : Th) : Value := .agg #[.int .i64 t.k, .int .i64 (t.n : Int), .int .i64 t.l, .int .i64 (sizeT t)]

set_option maxHeartbeats 4000000 in
theorem stat_ok {w : World} {S : Nat → Prop} {g r b : Nat} {s : Tr} {t : Th} (h : TM w S g s) (hk : Ok s r) {p : List UInt8} {ns : List (List UInt8)} (hp : spl p = some ns) (hg : go s ns r = (0, some b)) (ht : s.T b = some t) (hs : Small t) :
    Calls Tryz.prog 15 #[.pointer (some ⟨g, 0, none⟩), .string (St p)] w fun e w' => e = .returned (.tuple #[statV t, .int .i64 0]) ∧ Below w.heap.size w w' := by
  have hb0 : Below w.heap.size w (w.alloc (.cells #[.int .i64 0, .int .i64 0, .int .i64 0, .int .i64 0] 46)) := (Below.refl _ w).alloc (Nat.le_refl _) _
  have hlt : w.heap.size < (w.alloc (.cells #[.int .i64 0, .int .i64 0, .int .i64 0, .int .i64 0] 46)).heap.size := by simp
  have hbl := Bl.new w #[.int .i64 0, .int .i64 0, .int .i64 0, .int .i64 0] 46
  have K := refuses_one (p := p) (h.below hb0) hk.row_ne (by have := spl_len hp; omega) (Below.refl _ _)
  rw [splE_of hp] at K
  have KR : Hid (Calls Tryz.prog 52 #[.pointer (some ⟨g, 0, none⟩), .slice (some ⟨w.heap.size + 1, 0, none⟩) 1 1] ((w.alloc (.cells #[.int .i64 0, .int .i64 0, .int .i64 0, .int .i64 0] 46)).alloc (.cells #[.string (St p)] 9)) fun e w' => e = .returned (.int .i64 0) ∧ Below (w.alloc (.cells #[.int .i64 0, .int .i64 0, .int .i64 0, .int .i64 0] 46)).heap.size (w.alloc (.cells #[.int .i64 0, .int .i64 0, .int .i64 0, .int .i64 0] 46)) w') := by
    rw [show w.heap.size + 1 = (w.alloc (.cells #[.int .i64 0, .int .i64 0, .int .i64 0, .int .i64 0] 46)).heap.size by simp]
    exact K
  have KF : Hid (∀ u, TM u S g s → Calls Tryz.prog 53 #[.pointer (some ⟨g, 0, none⟩), .string (St p)] u fun e w' => e = .returned (.tuple #[.pointer (some ⟨b, 0, none⟩), .int .i64 0]) ∧ Below u.heap.size u w') := fun u hu => by
    have := find_any hu hk hp
    rw [hg] at this
    exact this
  have KS : Hid (∀ u, TM u S g s → Calls Tryz.prog 49 #[.pointer (some ⟨b, 0, none⟩)] u fun e w' => e = .returned (.int .i64 (sizeT t)) ∧ ∃ q, w' = u.drewN q) := fun u hu => size_any hu ht hs
  have HT := hide (h.below hb0)
  have HX := hide ht
  have HB := hide hb0
  have HL := hide hbl
  clear h hk hp hg ht hs K hb0 hbl
  generalize St p = sp at *
  go_enter Tryz.func15, Tryz.ntmps15
  go_wp2_with fail
  generalize w.alloc (.cells #[.int .i64 0, .int .i64 0, .int .i64 0, .int .i64 0] 46) = w0 at *
  generalize hm : w.heap.size = m at *
  refine (unhide KR).mono ?_
  rintro e w1 ⟨rfl, hb⟩
  have HT := hide (HT.out.below hb)
  have HB := hide (HB.out.trans (hb.mono (Nat.le_of_lt hlt)))
  have HL := hide (HL.out.call hb)
  have KF := hide (KF.out w1 HT.out)
  clear KR hb hlt
  go_wp2_with fail
  refine (unhide KF).mono ?_
  rintro e w2 ⟨rfl, hb⟩
  have HT := hide (HT.out.below hb)
  have HB := hide (HB.out.trans (hb.mono (Nat.le_of_lt HL.out.lt)))
  have HL := hide (HL.out.call hb)
  clear KF hb
  obtain ⟨t0, t1, t2, _, _, tf⟩ := HT.out.thing_cells HX.out
  have l0 := HL.out.cell 0 _ rfl
  have l1 := HL.out.cell 1 _ rfl
  have l2 := HL.out.cell 2 _ rfl
  have l3 := HL.out.cell 3 _ rfl
  have lf := HL.out.free
  have hmb : b ≠ m := fun e => by
    have h1 := HT.out.thg b t HX.out
    rw [e] at h1
    exact row_neT h1 HL.out (by decide) rfl
  have KS : Hid (∀ q, Calls Tryz.prog 49 #[.pointer (some ⟨b, 0, none⟩)] (w2.drewN q) fun e w' => e = .returned (.int .i64 (sizeT t)) ∧ ∃ q', w' = (w2.drewN q).drewN q') := fun q => KS.out _ (HT.out.kept (fun _ _ => rfl) (fun _ h => h) HT.out.lt)
  have KS0 : Hid (Calls Tryz.prog 49 #[.pointer (some ⟨b, 0, none⟩)] w2.drew fun e w' => e = .returned (.int .i64 (sizeT t)) ∧ ∃ q', w' = w2.drewN q') := by
    refine (KS.out 1).mono ?_
    rintro e w' ⟨rfl, q', rfl⟩
    exact ⟨rfl, 1 + q', (World.drewN_drewN _ _ _)⟩
  clear HT HX KS
  have HV : Hid (statV t = .agg #[.int .i64 t.k, .int .i64 (t.n : Int), .int .i64 t.l, .int .i64 (sizeT t)]) := rfl
  generalize sizeT t = sz at *
  generalize t.k = tk at *
  generalize t.n = tn at *
  generalize t.l = tl at *
  have b0 : ∀ v : World, v.heap[b]? = w2.heap[b]? → Hid True ∧ v.cell? ⟨b, 0, none⟩ = some (.int .i64 tk) ∧ v.cell? ⟨b, 1, none⟩ = some (.int .i64 (tn : Int)) ∧ v.cell? ⟨b, 2, none⟩ = some (.int .i64 tl) := fun v hv => by
    simp only [World.cell?, hv]
    exact ⟨trivial, t0, t1, t2⟩
  have J := b0 w2.drew rfl
  have J1 : Hid (∀ q, Hid True ∧ (w2.drewN q).cell? ⟨b, 0, none⟩ = some (.int .i64 tk) ∧ (w2.drewN q).cell? ⟨b, 1, none⟩ = some (.int .i64 (tn : Int)) ∧ (w2.drewN q).cell? ⟨b, 2, none⟩ = some (.int .i64 tl)) := fun q => b0 _ rfl
  have J2 : Hid (∀ q, Hid True ∧ (((((w2.drewN q).setCell ⟨m, 0, none⟩ (.int .i64 tk)).setCell ⟨m, 1, none⟩ (.int .i64 (tn : Int))).setCell ⟨m, 2, none⟩ (.int .i64 tl)).setCell ⟨m, 3, none⟩ (.int .i64 sz)).cell? ⟨b, 0, none⟩ = some (.int .i64 tk) ∧ (((((w2.drewN q).setCell ⟨m, 0, none⟩ (.int .i64 tk)).setCell ⟨m, 1, none⟩ (.int .i64 (tn : Int))).setCell ⟨m, 2, none⟩ (.int .i64 tl)).setCell ⟨m, 3, none⟩ (.int .i64 sz)).cell? ⟨b, 1, none⟩ = some (.int .i64 (tn : Int)) ∧ (((((w2.drewN q).setCell ⟨m, 0, none⟩ (.int .i64 tk)).setCell ⟨m, 1, none⟩ (.int .i64 (tn : Int))).setCell ⟨m, 2, none⟩ (.int .i64 tl)).setCell ⟨m, 3, none⟩ (.int .i64 sz)).cell? ⟨b, 2, none⟩ = some (.int .i64 tl)) := fun q => b0 _
    ((Below.heap_setCell _ _ _ _ hmb).trans ((Below.heap_setCell _ _ _ _ hmb).trans ((Below.heap_setCell _ _ _ _ hmb).trans (Below.heap_setCell _ _ _ _ hmb))))
  have HF : Hid (∀ q, Bl (((((w2.drewN q).setCell ⟨m, 0, none⟩ (.int .i64 tk)).setCell ⟨m, 1, none⟩ (.int .i64 (tn : Int))).setCell ⟨m, 2, none⟩ (.int .i64 tl)).setCell ⟨m, 3, none⟩ (.int .i64 sz)) m #[.int .i64 tk, .int .i64 (tn : Int), .int .i64 tl, .int .i64 sz] 46 ∧ Below m w (((((w2.drewN q).setCell ⟨m, 0, none⟩ (.int .i64 tk)).setCell ⟨m, 1, none⟩ (.int .i64 (tn : Int))).setCell ⟨m, 2, none⟩ (.int .i64 tl)).setCell ⟨m, 3, none⟩ (.int .i64 sz))) := fun q =>
    ⟨setAll_whole [.int .i64 tk, .int .i64 (tn : Int), .int .i64 tl, .int .i64 sz] (w2.drewN q) _ (show Bl (w2.drewN q) m _ _ from HL.out) rfl,
     below_setAll (Nat.le_refl m) [.int .i64 tk, .int .i64 (tn : Int), .int .i64 tl, .int .i64 sz] w (w2.drewN q) 0 ⟨HB.out.os, HB.out.tape, HB.out.output, HB.out.size, HB.out.block⟩⟩
  clear b0
  go_upto_region 7 with fail
  go_region_held3 (fun v => Hid True ∧ v.cell? ⟨b, 0, none⟩ = some (.int .i64 tk) ∧ v.cell? ⟨b, 1, none⟩ = some (.int .i64 (tn : Int)) ∧ v.cell? ⟨b, 2, none⟩ = some (.int .i64 tl))
    (with_reducible (first | exact J | exact unhide J1 _ | exact unhide J2 _))
    (first | (go_at_call 49; refine (unhide KS0).mono ?_; rintro e w' ⟨rfl, q, rfl⟩))
  all_goals
    go_wp2_with fail
    obtain ⟨hA, hW⟩ := HF.out q
    change bodyPost _ _ _ _ _ (((((w2.drewN q).setCell ⟨m, 0, none⟩ (.int .i64 tk)).setCell ⟨m, 1, none⟩ (.int .i64 (tn : Int))).setCell ⟨m, 2, none⟩ (.int .i64 tl)).setCell ⟨m, 3, none⟩ (.int .i64 sz))
    generalize ((((w2.drewN q).setCell ⟨m, 0, none⟩ (.int .i64 tk)).setCell ⟨m, 1, none⟩ (.int .i64 (tn : Int))).setCell ⟨m, 2, none⟩ (.int .i64 tl)).setCell ⟨m, 3, none⟩ (.int .i64 sz) = wf at *
    refine bodyPost_ret (v := .tuple #[.agg #[.int .i64 tk, .int .i64 (tn : Int), .int .i64 tl, .int .i64 sz], .int .i64 0]) ?_ rfl ⟨by rw [HV.out], ?_⟩
    · simp [results, Tryz.results15, go_sem, hA.cell 0 _ rfl, hA.cell 1 _ rfl, hA.cell 2 _ rfl, hA.cell 3 _ rfl]
    · rw [hm]; exact hW

end Go.Proofs.YtknmgefpjdfenaaGreat

/- New. -/
namespace Go.Proofs.YtknmgefpjdfenaaGreat
open Go.RowKit Go.Shelf Go.Maps
set_option linter.unusedVariables false
set_option maxRecDepth 100000

theorem new_bad {n : Int} (hn : n < 1 ∨ 524288 < n) (w : World) : Calls Tryz.prog 8 #[.int .i64 n] w fun e w' => e = .returned (.tuple #[.pointer none, .int .i64 1]) ∧ w' = w := by
  by_cases h1 : n < 1
  · clear hn
    go_enter Tryz.func8, Tryz.ntmps8
    go_wp2_with fail
    go_ret2
    exact ⟨rfl, rfl⟩
  · have h2 : 524288 < n := hn.resolve_left h1
    clear hn
    go_enter Tryz.func8, Tryz.ntmps8
    go_wp2_with fail
    go_ret2
    exact ⟨rfl, rfl⟩

/-- The root. -/
def rootT (mp : Nat) : Th := { k := 2, n := 1, l := 1, d := [], da := none, dc := 0, mp := mp, ns := [] }

/-- A tree that has the root alone. -/
def Tr0 (n : Int) (b mp : Nat) (ra : Option Addr) (rc : Nat) : Tr :=
  { most := n, row := [none, some b], ra := ra, rc := rc, least := 1, opn := fun _ => none, T := fun k => if k = b then some (rootT mp) else none }

/-- Before the root comes. -/
def TrN (n : Int) : Tr := { most := n, row := [], ra := none, rc := 0, least := 1, opn := fun _ => none, T := fun _ => none }

def tcs (n : Int) : Array Value := #[.int .i64 n, .slice none 0 0, .int .i64 1, .pointer none, .pointer none, .pointer none, .pointer none, .pointer none, .pointer none, .pointer none, .pointer none, .pointer none, .pointer none, .pointer none, .pointer none, .pointer none, .pointer none, .pointer none, .pointer none]

theorem tm_new (n : Int) (w : World) : TM (w.alloc (.cells (tcs n) 66)) (fun k => k = w.heap.size) w.heap.size (TrN n) := by
  refine ⟨World.rowIs_alloc w (tcs n) _ _ (fun i hi => ?_), OwnP.nil _ _, fun b t e => (by cases e), fun b t e => (by cases e), fun b t e => (by cases e), fun b b' t t' e => (by cases e), fun b b' t t' x e => (by cases e), rfl, fun x e => (by cases e), fun b t e => (by cases e), fun b t e => (by cases e), fun b t x e => (by cases e), fun k hk => by rw [hk]; simp⟩
  have hi' : i < 19 := hi
  clear hi
  match i, hi' with
  | 0, _ => rfl
  | 1, _ => rfl
  | 2, _ => rfl
  | 3, _ => rfl
  | 4, _ => rfl
  | 5, _ => rfl
  | 6, _ => rfl
  | 7, _ => rfl
  | 8, _ => rfl
  | 9, _ => rfl
  | 10, _ => rfl
  | 11, _ => rfl
  | 12, _ => rfl
  | 13, _ => rfl
  | 14, _ => rfl
  | 15, _ => rfl
  | 16, _ => rfl
  | 17, _ => rfl
  | 18, _ => rfl
  | k + 19, h => exact absurd h (by omega)

theorem Tr0_eq (n : Int) (b mp : Nat) (ra : Option Addr) (rc : Nat) : (({ TrN n with row := (pad (TrN n).row 1).set 1 (some b), ra := ra, rc := rc, least := 1 } : Tr).upd b { newT 2 1 mp with l := 1 }) = Tr0 n b mp ra rc := rfl

theorem ok_root (n : Int) (b mp : Nat) (ra : Option Addr) (rc : Nat) : Ok (Tr0 n b mp ra rc) b := by
  have hT : ∀ c t, (Tr0 n b mp ra rc).T c = some t → c = b ∧ t = rootT mp := fun c t e => by
    unfold Tr0 at e
    simp only at e
    by_cases h : c = b
    · rw [if_pos h] at e; cases e; exact ⟨h, rfl⟩
    · rw [if_neg h] at e; cases e
  refine ⟨rfl, ⟨rootT mp, if_pos rfl, rfl⟩, fun c t e => ?_, fun c t x d e hx => ?_⟩
  · rw [(hT c t e).2]; exact .inr rfl
  · rw [(hT c t e).2] at hx; cases hx

set_option maxHeartbeats 4000000 in
theorem new_ok {n : Int} (h1 : 1 ≤ n) (h2 : n ≤ 524288) (w : World) : Calls Tryz.prog 8 #[.int .i64 n] w fun e w' => ∃ g b mp ra rc S, e = .returned (.tuple #[.pointer (some ⟨g, 0, none⟩), .int .i64 0]) ∧ TM w' S g (Tr0 n b mp ra rc) ∧ (∀ k, S k → w.heap.size ≤ k) ∧ Below w.heap.size w w' := by
  have hb0 : Below w.heap.size w (w.alloc (.cells (tcs n) 66)) := (Below.refl _ w).alloc (Nat.le_refl _) _
  have ht := tm_new n w
  have K : Hid (Calls Tryz.prog 23 #[.pointer (some ⟨w.heap.size, 0, none⟩), .int .i64 2] (w.alloc (.cells (tcs n) 66)) fun e w' => BornP (w.alloc (.cells (tcs n) 66)) (fun k => k = w.heap.size) w.heap.size 1 (TrN n) 2 e w') :=
    born_any ht ⟨Nat.le_refl _, fun i h1 h2 => by have h1' : 1 ≤ i := h1; omega, .inl rfl⟩ (.inr rfl) (by omega) (by show 0 ≤ 1000000; omega)
  have HB := hide hb0
  have d1 : decide (n < 1) = false := by simp; omega
  have d2 : decide (n > 524288) = false := by simp; omega
  clear hb0 ht h1 h2
  go_enter Tryz.func8, Tryz.ntmps8
  go_upto_region 4 with fail
  change Code.wp _ _ _ _ (w.alloc (.cells (tcs n) 66))
  generalize w.alloc (.cells (tcs n) 66) = w0 at *
  go_wp2_with fail
  refine (unhide K).mono ?_
  rintro e w1 ⟨b, mp, ra, rc, rfl, hb1, hb2, htm, hkp⟩
  have hb0 : (({ TrN n with row := (pad (TrN n).row 1).set 1 (some b), ra := ra, rc := rc, least := 1 } : Tr).upd b (newT 2 1 mp)).T b = some (newT 2 1 mp) := by rw [Tr.upd_T, if_pos rfl]
  have t2 : w1.cell? ⟨b, 2, none⟩ = some (.int .i64 0) := (htm.thing_cells hb0).2.2.1
  have tf := (htm.thing_cells hb0).2.2.2.2.2
  have h5 := htm.setH hb0 1
  rw [Tr.upd_upd] at h5
  have hsz := HB.out.size
  have HR : Hid (TM (w1.setCell ⟨b, 2, none⟩ (.int .i64 1)) (Up (fun k => k = w.heap.size) w0.heap.size w1.heap.size) w.heap.size (Tr0 n b mp ra rc) ∧ (∀ k, (Up (fun k => k = w.heap.size) w0.heap.size w1.heap.size) k → w.heap.size ≤ k) ∧ Below w.heap.size w (w1.setCell ⟨b, 2, none⟩ (.int .i64 1))) := by
    refine ⟨h5, fun k hk => ?_, ?_⟩
    · rcases hk with q | q
      · exact Nat.le_of_eq q.symm
      · omega
    · have hk1 : Below w.heap.size w0 w1 := hkp.below hsz (fun k hk => Nat.le_of_eq hk.symm)
      exact (HB.out.trans hk1).setCell (p := ⟨b, 2, none⟩) (by show w.heap.size ≤ b; omega) _
  clear K htm hkp h5 hb0 hb1 hb2 hsz HB
  go_wp2_with fail
  go_ret2
  exact ⟨w.heap.size, b, mp, ra, rc, _, rfl, HR.out⟩

end Go.Proofs.YtknmgefpjdfenaaGreat

