/- Dump's visitor: one Node more. -/
import Derived.Test.YtknmgefpjdfenaaTKeys
import Derived.Test.YtknmgefpjdfenaaTRead
import Derived.Test.YtknmgefpjdfenaaTStat
import Derived.Deep.RegionHeld3
namespace Go.Proofs.Ytknmgefpjdfenaa
open Go.RowKit Go.Shelf Go.Maps
set_option linter.unusedVariables false
set_option maxRecDepth 100000

/-- A Node that was made: what it tells, and where its bytes lie. -/
structure Nd where
  p : List UInt8
  t : Th
  da : Option Addr
  dc : Nat

def ncs (x : Nd) : Array Value := #[.string (St x.p), .int .i64 x.t.k, .int .i64 (x.t.n : Int), .int .i64 x.t.l, .int .i64 (sizeT x.t), .slice x.da x.t.d.length x.dc]

theorem infoN : (Try.prog.info? 39).map (fun i => (i.zero, i.size, i.bytes)) = some (some (.agg #[.string ⟨#[]⟩, .int .i64 0, .int .i64 0, .int .i64 0, .int .i64 0, .slice none 0 0]), 6, 72) := by kernel_rfl

theorem undN : Try.prog.underlying 36 = some (.slice 39) := by kernel_rfl

def dcells (xs : List Nd) : List Value := xs.flatMap (fun x => (ncs x).toList)

theorem dcells_len (xs : List Nd) : (dcells xs).length = xs.length * 6 := by
  induction xs with
  | nil => rfl
  | cons x r ih =>
    have : dcells (x :: r) = (ncs x).toList ++ dcells r := by simp [dcells]
    rw [this, List.length_append, ih]
    simp [ncs]
    omega

/-- A list of Nodes in memory made since B. -/
def DL (B : Nat) (w : World) (v : Value) (xs : List Nd) : Prop := w.ownsRow B 39 6 v xs.length (dcells xs) ∧ ∀ x ∈ xs, Own B w x.da x.t.d.length x.dc x.t.d

theorem DL.nil (B : Nat) (w : World) : DL B w (.slice none 0 0) [] := ⟨World.ownsRow_nil _ _ _ _, fun x hx => absurd hx (by simp)⟩

theorem DL.kept {B : Nat} {w w' : World} {v : Value} {xs : List Nd} (h : DL B w v xs) (hk : ∀ k cs t, B ≤ k → w.heap[k]? = some (Obj.cells cs t (0, 0)) → (t = 39 ∨ t = 5) → w'.heap[k]? = w.heap[k]?) : DL B w' v xs := by
  refine ⟨ownsRow_block h.1 (fun g cur hg hh => hk g cur _ hg hh (.inl rfl)), fun x hx => ?_⟩
  have ho := h.2 x hx
  exact ho.kept (fun g e => by obtain ⟨_, hg, cur, hc⟩ := ho.lt e; exact hk g cur _ hg hc (.inr rfl))

theorem DL.shape {B : Nat} {w : World} {v : Value} {xs : List Nd} (h : DL B w v xs) : ∃ a c, v = .slice a xs.length c := by
  rcases h.1.2 with ⟨rfl, hn⟩ | ⟨g, cap, cur, rfl, _⟩
  · exact ⟨none, 0, by rw [hn]⟩
  · exact ⟨_, _, rfl⟩

theorem DL.below {B n : Nat} {w w' : World} {v : Value} {xs : List Nd} (h : DL B w v xs) (hb : Below n w w') (hn : w.heap.size ≤ n) : DL B w' v xs :=
  h.kept (fun k cs t _ hh _ => hb.block k (by have := (Array.getElem?_eq_some_iff.1 hh).1; omega))

/-- append(list, a Node). -/
theorem DL.app {B : Nat} {w : World} {v : Value} {xs : List Nd} (h : DL B w v xs) (hB : B ≤ w.heap.size) (x : Nd) (ho : Own B w x.da x.t.d.length x.dc x.t.d) (hn : xs.length ≤ 1000000) :
    ∃ (v' : Value) (w' : World), (∀ ty, (Builtin.append_ #[36, 36] ty #[v, .slice (some ⟨w.heap.size, 0, none⟩) 1 1]).run Try.prog (w.alloc (.cells (ncs x) 39)) = .ok v' w') ∧ DL B w' v' (xs ++ [x]) ∧ Below B w w' ∧
      (∀ (k : Nat) cs t, w.heap[k]? = some (Obj.cells cs t (0, 0)) → t ≠ 39 → w'.heap[k]? = w.heap[k]?) := by
  obtain ⟨i0, hi, hz0, hz1, hz2⟩ := info_parts infoN
  have hb0 : Below w.heap.size w (w.alloc (.cells (ncs x) 39)) := (Below.refl _ w).alloc (Nat.le_refl _) _
  have h1 := h.below hb0 (Nat.le_refl _)
  have hbl := Bl.new w (ncs x) 39
  obtain ⟨v', w', hr, ho2, hg, _⟩ := run_append_own (P := Try.prog) (w.alloc (.cells (ncs x) 39)) B 36 0 39 i0 _ 6 72 undN hi hz0 hz1 hz2 rfl (by decide) v xs.length _ h1.1 ⟨w.heap.size, 0, none⟩ 1 1 (ncs x).toList rfl
    (fun j u hj => by rw [World.add_zero_spot, Nat.zero_add]; exact hbl.cell j u (by simpa using hj)) (by intro z hz; simp [ncs] at hz; rcases hz with rfl | rfl | rfl | rfl | rfl | rfl <;> rfl) (by unfold maxLen; omega) (by omega) (Nat.le_trans hB hb0.size)
  have hkk : ∀ k cs t, w.heap[k]? = some (Obj.cells cs t (0, 0)) → t ≠ 39 → w'.heap[k]? = w.heap[k]? := fun k cs t hh ht => by
    have hlt := (Array.getElem?_eq_some_iff.1 hh).1
    refine (hg.block k (Nat.lt_of_lt_of_le hlt hb0.size) (fun e => ?_)).trans (hb0.block k hlt)
    rcases h.1.2 with ⟨rfl, _⟩ | ⟨g, cap, cur, rfl, _, hgc, _⟩
    · simp [Value.ownBlock] at e
    · simp [Value.ownBlock] at e
      subst e
      rw [hgc] at hh
      exact ht (cells_ty hh).symm
  refine ⟨v', w', fun ty => hr, ⟨?_, fun y hy => ?_⟩, ?_, hkk⟩
  · have e : dcells (xs ++ [x]) = dcells xs ++ (ncs x).toList := by simp [dcells]
    rw [e, List.length_append]
    exact ho2
  · rcases List.mem_append.1 hy with hy | hy
    · have o := h.2 y hy
      exact o.kept (fun g e => by obtain ⟨_, _, cur, hc⟩ := o.lt e; exact hkk g cur _ hc (by decide))
    · simp at hy
      subst hy
      exact ho.kept (fun g e => by obtain ⟨_, _, cur, hc⟩ := ho.lt e; exact hkk g cur _ hc (by decide))
  · refine (hb0.mono hB).grown hg (Nat.le_trans hB hb0.size) (fun k e => ?_)
    rcases h.1.2 with ⟨rfl, _⟩ | ⟨g, cap, cur, rfl, hgB, _⟩
    · simp [Value.ownBlock] at e
    · simp [Value.ownBlock] at e
      omega

/-- No row has turned but lists of Nodes, and the block m. -/
def Fx (m : Nat) (u w : World) : Prop := ∀ (k : Nat) cs t, u.heap[k]? = some (Obj.cells cs t (0, 0)) → t ≠ 39 → k ≠ m → w.heap[k]? = u.heap[k]?

theorem Fx.trans {m : Nat} {u v w : World} (h : Fx m u v) (h' : Fx m v w) : Fx m u w := fun k cs t hh ht hm => by
  have h1 := h k cs t hh ht hm
  exact (h' k cs t (h1.trans hh) ht hm).trans h1

theorem Fx.of {m n : Nat} {u w : World} (h : Below n u w) (hn : u.heap.size ≤ n) : Fx m u w := fun k cs t hh _ _ => h.block k (by have := (Array.getElem?_eq_some_iff.1 hh).1; omega)

theorem bal {n : Nat} {u v : World} (h : Below n u v) (hn : n ≤ u.heap.size) (o : Obj) : Below n u (v.alloc o) := h.alloc (Nat.le_trans hn h.size) o

theorem bdr {n : Nat} {u v : World} (h : Below n u v) (q : Nat) : Below n u (v.drewN q) := ⟨h.os, h.tape, h.output, h.size, h.block⟩

theorem bd1 {n : Nat} {u v : World} (h : Below n u v) : Below n u v.drew := bdr h 1

theorem b6 {n k : Nat} {u v : World} (h : Below n u v) (hk : n ≤ k) (x0 x1 x2 x3 x4 x5 : Value) : Below n u ((((((v.setCell ⟨k, 0, none⟩ x0).setCell ⟨k, 1, none⟩ x1).setCell ⟨k, 2, none⟩ x2).setCell ⟨k, 3, none⟩ x3).setCell ⟨k, 4, none⟩ x4).setCell ⟨k, 5, none⟩ x5) :=
  (((((h.setCell (p := ⟨k, 0, none⟩) hk x0).setCell (p := ⟨k, 1, none⟩) hk x1).setCell (p := ⟨k, 2, none⟩) hk x2).setCell (p := ⟨k, 3, none⟩) hk x3).setCell (p := ⟨k, 4, none⟩) hk x4).setCell (p := ⟨k, 5, none⟩) hk x5

theorem vis_new {n B' l c : Nat} {u w2 : World} {a : Option Addr} {d : List Int} (hB : Below n u w2) (hn : n ≤ u.heap.size) (ho : Own B' w2 a l c d) (hb : n ≤ B') (cs : Array Value) :
    Bl (w2.alloc (.cells cs 39)) w2.heap.size cs 39 ∧ Below n u (w2.alloc (.cells cs 39)) ∧ Own n (w2.alloc (.cells cs 39)) a l c d ∧ n ≤ w2.heap.size :=
  ⟨Bl.new _ _ _, bal hB hn _, (ho.below ((Below.refl _ w2).alloc (Nat.le_refl _) _) (Nat.le_refl _)).base hb, Nat.le_trans hn hB.size⟩

theorem vis_set {n B' k l c : Nat} {u w2 : World} {a : Option Addr} {d : List Int} {z : Array Value} (hN : Bl w2 k z 39) (hz : z.size = 6) (hB : Below n u w2) (hk : n ≤ k) (ho : Own B' w2 a l c d) (hb : n ≤ B') (x0 x1 x2 x3 x4 x5 : Value) :
    Bl ((((((w2.setCell ⟨k, 0, none⟩ x0).setCell ⟨k, 1, none⟩ x1).setCell ⟨k, 2, none⟩ x2).setCell ⟨k, 3, none⟩ x3).setCell ⟨k, 4, none⟩ x4).setCell ⟨k, 5, none⟩ x5) k #[x0, x1, x2, x3, x4, x5] 39 ∧
      Below n u ((((((w2.setCell ⟨k, 0, none⟩ x0).setCell ⟨k, 1, none⟩ x1).setCell ⟨k, 2, none⟩ x2).setCell ⟨k, 3, none⟩ x3).setCell ⟨k, 4, none⟩ x4).setCell ⟨k, 5, none⟩ x5) ∧
      Own n ((((((w2.setCell ⟨k, 0, none⟩ x0).setCell ⟨k, 1, none⟩ x1).setCell ⟨k, 2, none⟩ x2).setCell ⟨k, 3, none⟩ x3).setCell ⟨k, 4, none⟩ x4).setCell ⟨k, 5, none⟩ x5) a l c d ∧ n ≤ k := by
  refine ⟨setAll_whole [x0, x1, x2, x3, x4, x5] w2 z hN hz.symm, b6 hB hk _ _ _ _ _ _, (ho.kept (fun g e => ?_)).base hb, hk⟩
  obtain ⟨_, _, cur, hc⟩ := ho.lt e
  have hne : g ≠ k := fun e' => by
    subst e'
    have h2 : w2.heap[g]? = _ := hN
    rw [hc] at h2
    exact absurd (cells_ty h2) (by decide)
  rw [Below.heap_setCell _ _ _ _ hne, Below.heap_setCell _ _ _ _ hne, Below.heap_setCell _ _ _ _ hne, Below.heap_setCell _ _ _ _ hne, Below.heap_setCell _ _ _ _ hne, Below.heap_setCell _ _ _ _ hne]

set_option maxHeartbeats 8000000 in
theorem visit_any {u : World} {S : Nat → Prop} {g b m B : Nat} {s : Tr} {t : Th} {v : Value} {xs : List Nd} (h : TM u S g s) (ht : s.T b = some t) (hs : Small t) (hS : ∀ k, S k → k < B) (hm : B ≤ m) (hv : Bl u m #[v] 36) (hD : DL B u v xs) (hB : B ≤ u.heap.size) (hn : xs.length ≤ 1000000) (p : List UInt8) :
    Calls Try.prog 29 #[.string (St p), .pointer (some ⟨b, 0, none⟩), .pointer (some ⟨m, 0, none⟩)] u fun e w' => e = .returned (.bool true) ∧ ∃ v' a c, Bl w' m #[v'] 36 ∧ DL B w' v' (xs ++ [⟨p, t, a, c⟩]) ∧ Below B u w' ∧ Fx m u w' := by
  obtain ⟨t0, t1, t2, t3, _, _⟩ := h.thing_cells ht
  have hbl : b < u.heap.size := (h.thg b t ht).lt
  have KB : Hid (∀ w, Below u.heap.size u w → Hid (Below u.heap.size u w) ∧ w.cell? ⟨b, 0, none⟩ = some (.int .i64 t.k) ∧ w.cell? ⟨b, 1, none⟩ = some (.int .i64 (t.n : Int)) ∧ w.cell? ⟨b, 2, none⟩ = some (.int .i64 t.l) ∧ w.cell? ⟨b, 3, none⟩ = some (.slice t.da t.d.length t.dc)) := fun w hw =>
    ⟨hw, (hw.cell (p := ⟨b, 0, none⟩) hbl).trans t0, (hw.cell (p := ⟨b, 1, none⟩) hbl).trans t1, (hw.cell (p := ⟨b, 2, none⟩) hbl).trans t2, (hw.cell (p := ⟨b, 3, none⟩) hbl).trans t3⟩
  have KS : Hid (∀ w, Below u.heap.size u w → Calls Try.prog 30 #[.pointer (some ⟨b, 0, none⟩)] w fun e w' => e = .returned (.int .i64 (sizeT t)) ∧ Below w.heap.size w w') := fun w hw => by
    refine (size_any (h.below hw) ht hs).mono ?_
    rintro e w' ⟨rfl, q, rfl⟩
    exact ⟨rfl, bdr (Below.refl _ _) q⟩
  have hO := h.dat b t ht
  have KC : Hid (∀ w, Below u.heap.size u w → Calls Try.prog 26 #[.slice t.da t.d.length t.dc] w fun e w' => ∃ a' c', e = .returned (.slice a' t.d.length c') ∧ Own w.heap.size w' a' t.d.length c' t.d ∧ Below w.heap.size w w') := fun w hw => bclone_all t.da t.d.length t.dc t.d w (hO.below hw (Nat.le_refl _)).has (by have := hs.1; omega)
  have B0 : Hid (Below u.heap.size u u.drew) := bdr (Below.refl _ _) 1
  have A0 : Hid (∀ o, Below u.heap.size u (u.alloc o).drew) := fun o => bd1 (bal (Below.refl _ _) (Nat.le_refl _) o)
  have HV := hide (And.intro hv (And.intro hD (And.intro hm (And.intro hB hS))))
  have hmu := hv.lt
  clear h ht hs hv hD hm hB hS hO hbl
  generalize hsp : St p = sp at *
  have J := unhide KB _ (unhide B0)
  have HU := hide (And.intro t0 (And.intro t1 (And.intro t2 t3)))
  go_enter Try.func29, Try.ntmps29
  go_upto_region 1 with fail
  clear t0 t1 t2 t3
  go_region_held3 (fun w => Hid (Below u.heap.size u w) ∧ w.cell? ⟨b, 0, none⟩ = some (.int .i64 t.k) ∧ w.cell? ⟨b, 1, none⟩ = some (.int .i64 (t.n : Int)) ∧ w.cell? ⟨b, 2, none⟩ = some (.int .i64 t.l) ∧ w.cell? ⟨b, 3, none⟩ = some (.slice t.da t.d.length t.dc))
    (with_reducible (first | exact J | exact unhide KB _ (unhide B2) | exact unhide KB _ (unhide B1) | exact unhide KB _ (unhide A0 _) | exact unhide KB _ (bal (unhide B2) (Nat.le_refl _) _) | exact unhide KB _ (bal (unhide B1) (Nat.le_refl _) _) | exact unhide KB _ (b6 (unhide B2) (Nat.le_refl _) _ _ _ _ _ _) | exact unhide KB _ (b6 (unhide B2) (unhide B1).size _ _ _ _ _ _)))
    (first
      | (go_at_call 30; refine (unhide KS _ (by with_reducible (first | exact unhide B0 | exact unhide A0 _))).mono ?_; rintro e w1 ⟨rfl, hb⟩
         have B1 := hide (show Below u.heap.size u w1 from by with_reducible (first | exact (unhide B0).trans (hb.mono (unhide B0).size) | exact (unhide A0 _).trans (hb.mono (unhide A0 _).size)))
         try (with_reducible have N1 := hide (Bl.call (Bl.drew (Bl.new _ _ _)) hb))
         clear hb)
      | (go_at_call 26; refine (unhide KC _ (by with_reducible (first | exact unhide B1 | exact bal (unhide B1) (Nat.le_refl _) _))).mono ?_; rintro e w2 ⟨a9, c9, rfl, ho, hb⟩
         have B2 := hide (show Below u.heap.size u w2 from by with_reducible (first | exact (unhide B1).trans (hb.mono (unhide B1).size) | exact (bal (unhide B1) (Nat.le_refl _) _).trans (hb.mono (bal (unhide B1) (Nat.le_refl _) _).size)))
         try (with_reducible have N2 := hide (Bl.call (Bl.new _ _ _) hb))
         try (with_reducible have N2 := hide (Bl.call (unhide N1) hb))
         try (have n20 := (unhide N2).cell 0 _ rfl; have n21 := (unhide N2).cell 1 _ rfl; have n22 := (unhide N2).cell 2 _ rfl; have n23 := (unhide N2).cell 3 _ rfl; have n24 := (unhide N2).cell 4 _ rfl; have n25 := (unhide N2).cell 5 _ rfl; have n2f := (unhide N2).free)
         have HO := hide (And.intro ho hb)
         clear ho hb))
  · have HX := hide (vis_new (unhide B2) (Nat.le_refl _) (unhide HO).1 (unhide B1).size #[.string sp, .int .i64 t.k, .int .i64 (t.n : Int), .int .i64 t.l, .int .i64 (sizeT t), .slice a9 t.d.length c9])
    clear J A0 KB KS KC B0 B2 HO HU
    generalize w2.alloc (.cells #[.string sp, .int .i64 t.k, .int .i64 (t.n : Int), .int .i64 t.l, .int .i64 (sizeT t), .slice a9 t.d.length c9] 39) = wx at *
    try clear N2 n20 n21 n22 n23 n24 n25 n2f
    try clear N1
    try clear B1
    generalize w2.heap.size = nb at *
    obtain ⟨hbl, hbx, hox, hnb⟩ := unhide HX
    obtain ⟨hv, hD, hm, hB, hS⟩ := unhide HV
    have y0 := hbl.cell 0 _ rfl
    have y1 := hbl.cell 1 _ rfl
    have y2 := hbl.cell 2 _ rfl
    have y3 := hbl.cell 3 _ rfl
    have y4 := hbl.cell 4 _ rfl
    have y5 := hbl.cell 5 _ rfl
    have hvx := hv.call hbx
    have z0 := hvx.cell 0 _ rfl
    obtain ⟨v', w', R, hD', hb', hk'⟩ := (hD.below hbx (Nat.le_refl _)).app (Nat.le_trans hB hbx.size) ⟨p, t, a9, c9⟩ (hox.base hB) hn
    obtain ⟨av, nv, cv, rfl⟩ : ∃ a n c, v' = Value.slice a n c := by obtain ⟨a, c, e⟩ := hD'.shape; exact ⟨a, _, c, e⟩
    have hvw : Bl w' m #[v] 36 := (hk' m _ _ hvx (by decide)).trans hvx
    have q0 := hvw.cell 0 _ rfl
    have qf := hvw.free 0
    have R : Hid (∀ ty, (Builtin.append_ #[36, 36] ty #[v, .slice (some ⟨wx.heap.size, 0, none⟩) 1 1]).run Try.prog (wx.alloc (.cells #[.string sp, .int .i64 t.k, .int .i64 (t.n : Int), .int .i64 t.l, .int .i64 (sizeT t), .slice a9 t.d.length c9] 39)) = .ok (.slice av nv cv) w') := by rw [← hsp]; exact R
    have HR : Hid (∃ v'' a c, Bl (w'.setCell ⟨m, 0, none⟩ (.slice av nv cv)) m #[v''] 36 ∧ DL B (w'.setCell ⟨m, 0, none⟩ (.slice av nv cv)) v'' (xs ++ [⟨p, t, a, c⟩]) ∧ Below B u (w'.setCell ⟨m, 0, none⟩ (.slice av nv cv)) ∧ Fx m u (w'.setCell ⟨m, 0, none⟩ (.slice av nv cv))) := by
      have hoth : ∀ k, k ≠ m → (w'.setCell ⟨m, 0, none⟩ (.slice av nv cv)).heap[k]? = w'.heap[k]? := fun k hk => Below.heap_setCell _ _ _ _ hk
      refine ⟨.slice av nv cv, a9, c9, hvw.set 0 _, hD'.kept (fun k cs ty _ hh hty => hoth k (fun e => ?_)), ((hbx.mono hB).trans hb').setCell (p := ⟨m, 0, none⟩) hm _, (Fx.of hbx (Nat.le_refl _)).trans (fun k cs ty hh ht hkm => (hoth k hkm).trans (hk' k cs ty hh ht))⟩
      subst e
      have h2 : w'.heap[k]? = _ := hvw
      rw [hh] at h2
      have := cells_ty h2
      rcases hty with e | e <;> rw [e] at this <;> exact absurd this (by decide)
    clear hbl hbx hox hnb hv hD hm hB hS hvx hD' hb' hk' hvw HX HV
    go_wp2_with (at_builtin; refine wpList_append_run 36 rfl _ _ rfl _ _ _ rfl rfl (unhide R) ?_; clear R)
    go_ret
    exact ⟨rfl, HR.out⟩
  · have HX := hide (vis_set (unhide N2) rfl (unhide B2) (unhide B1).size (unhide HO).1 (by simp; exact Nat.le_succ_of_le (unhide B1).size) (.string sp) (.int .i64 t.k) (.int .i64 (t.n : Int)) (.int .i64 t.l) (.int .i64 (sizeT t)) (.slice a9 t.d.length c9))
    clear J A0 KB KS KC B0 B2 HO HU
    generalize ((((((w2.setCell ⟨w1.heap.size, 0, none⟩ (.string sp)).setCell ⟨w1.heap.size, 1, none⟩ (.int .i64 t.k)).setCell ⟨w1.heap.size, 2, none⟩ (.int .i64 (t.n : Int))).setCell ⟨w1.heap.size, 3, none⟩ (.int .i64 t.l)).setCell ⟨w1.heap.size, 4, none⟩ (.int .i64 (sizeT t))).setCell ⟨w1.heap.size, 5, none⟩ (.slice a9 t.d.length c9)) = wx at *
    try clear N2 n20 n21 n22 n23 n24 n25 n2f
    try clear N1
    try clear B1
    generalize w1.heap.size = nb at *
    obtain ⟨hbl, hbx, hox, hnb⟩ := unhide HX
    obtain ⟨hv, hD, hm, hB, hS⟩ := unhide HV
    have y0 := hbl.cell 0 _ rfl
    have y1 := hbl.cell 1 _ rfl
    have y2 := hbl.cell 2 _ rfl
    have y3 := hbl.cell 3 _ rfl
    have y4 := hbl.cell 4 _ rfl
    have y5 := hbl.cell 5 _ rfl
    have hvx := hv.call hbx
    have z0 := hvx.cell 0 _ rfl
    obtain ⟨v', w', R, hD', hb', hk'⟩ := (hD.below hbx (Nat.le_refl _)).app (Nat.le_trans hB hbx.size) ⟨p, t, a9, c9⟩ (hox.base hB) hn
    obtain ⟨av, nv, cv, rfl⟩ : ∃ a n c, v' = Value.slice a n c := by obtain ⟨a, c, e⟩ := hD'.shape; exact ⟨a, _, c, e⟩
    have hvw : Bl w' m #[v] 36 := (hk' m _ _ hvx (by decide)).trans hvx
    have q0 := hvw.cell 0 _ rfl
    have qf := hvw.free 0
    have R : Hid (∀ ty, (Builtin.append_ #[36, 36] ty #[v, .slice (some ⟨wx.heap.size, 0, none⟩) 1 1]).run Try.prog (wx.alloc (.cells #[.string sp, .int .i64 t.k, .int .i64 (t.n : Int), .int .i64 t.l, .int .i64 (sizeT t), .slice a9 t.d.length c9] 39)) = .ok (.slice av nv cv) w') := by rw [← hsp]; exact R
    have HR : Hid (∃ v'' a c, Bl (w'.setCell ⟨m, 0, none⟩ (.slice av nv cv)) m #[v''] 36 ∧ DL B (w'.setCell ⟨m, 0, none⟩ (.slice av nv cv)) v'' (xs ++ [⟨p, t, a, c⟩]) ∧ Below B u (w'.setCell ⟨m, 0, none⟩ (.slice av nv cv)) ∧ Fx m u (w'.setCell ⟨m, 0, none⟩ (.slice av nv cv))) := by
      have hoth : ∀ k, k ≠ m → (w'.setCell ⟨m, 0, none⟩ (.slice av nv cv)).heap[k]? = w'.heap[k]? := fun k hk => Below.heap_setCell _ _ _ _ hk
      refine ⟨.slice av nv cv, a9, c9, hvw.set 0 _, hD'.kept (fun k cs ty _ hh hty => hoth k (fun e => ?_)), ((hbx.mono hB).trans hb').setCell (p := ⟨m, 0, none⟩) hm _, (Fx.of hbx (Nat.le_refl _)).trans (fun k cs ty hh ht hkm => (hoth k hkm).trans (hk' k cs ty hh ht))⟩
      subst e
      have h2 : w'.heap[k]? = _ := hvw
      rw [hh] at h2
      have := cells_ty h2
      rcases hty with e | e <;> rw [e] at this <;> exact absurd this (by decide)
    clear hbl hbx hox hnb hv hD hm hB hS hvx hD' hb' hk' hvw HX HV
    go_wp2_with (at_builtin; refine wpList_append_run 36 rfl _ _ rfl _ _ _ rfl rfl (unhide R) ?_; clear R)
    go_ret
    exact ⟨rfl, HR.out⟩
  · have HX := hide (vis_set (unhide N2) rfl (unhide B2) (Nat.le_refl _) (unhide HO).1 (unhide B1).size (.string sp) (.int .i64 t.k) (.int .i64 (t.n : Int)) (.int .i64 t.l) (.int .i64 (sizeT t)) (.slice a9 t.d.length c9))
    clear J A0 KB KS KC B0 B2 HO HU
    generalize ((((((w2.setCell ⟨u.heap.size, 0, none⟩ (.string sp)).setCell ⟨u.heap.size, 1, none⟩ (.int .i64 t.k)).setCell ⟨u.heap.size, 2, none⟩ (.int .i64 (t.n : Int))).setCell ⟨u.heap.size, 3, none⟩ (.int .i64 t.l)).setCell ⟨u.heap.size, 4, none⟩ (.int .i64 (sizeT t))).setCell ⟨u.heap.size, 5, none⟩ (.slice a9 t.d.length c9)) = wx at *
    try clear N2 n20 n21 n22 n23 n24 n25 n2f
    try clear N1
    try clear B1
    obtain ⟨hbl, hbx, hox, hnb⟩ := unhide HX
    obtain ⟨hv, hD, hm, hB, hS⟩ := unhide HV
    have y0 := hbl.cell 0 _ rfl
    have y1 := hbl.cell 1 _ rfl
    have y2 := hbl.cell 2 _ rfl
    have y3 := hbl.cell 3 _ rfl
    have y4 := hbl.cell 4 _ rfl
    have y5 := hbl.cell 5 _ rfl
    have hvx := hv.call hbx
    have z0 := hvx.cell 0 _ rfl
    obtain ⟨v', w', R, hD', hb', hk'⟩ := (hD.below hbx (Nat.le_refl _)).app (Nat.le_trans hB hbx.size) ⟨p, t, a9, c9⟩ (hox.base hB) hn
    obtain ⟨av, nv, cv, rfl⟩ : ∃ a n c, v' = Value.slice a n c := by obtain ⟨a, c, e⟩ := hD'.shape; exact ⟨a, _, c, e⟩
    have hvw : Bl w' m #[v] 36 := (hk' m _ _ hvx (by decide)).trans hvx
    have q0 := hvw.cell 0 _ rfl
    have qf := hvw.free 0
    have R : Hid (∀ ty, (Builtin.append_ #[36, 36] ty #[v, .slice (some ⟨wx.heap.size, 0, none⟩) 1 1]).run Try.prog (wx.alloc (.cells #[.string sp, .int .i64 t.k, .int .i64 (t.n : Int), .int .i64 t.l, .int .i64 (sizeT t), .slice a9 t.d.length c9] 39)) = .ok (.slice av nv cv) w') := by rw [← hsp]; exact R
    have HR : Hid (∃ v'' a c, Bl (w'.setCell ⟨m, 0, none⟩ (.slice av nv cv)) m #[v''] 36 ∧ DL B (w'.setCell ⟨m, 0, none⟩ (.slice av nv cv)) v'' (xs ++ [⟨p, t, a, c⟩]) ∧ Below B u (w'.setCell ⟨m, 0, none⟩ (.slice av nv cv)) ∧ Fx m u (w'.setCell ⟨m, 0, none⟩ (.slice av nv cv))) := by
      have hoth : ∀ k, k ≠ m → (w'.setCell ⟨m, 0, none⟩ (.slice av nv cv)).heap[k]? = w'.heap[k]? := fun k hk => Below.heap_setCell _ _ _ _ hk
      refine ⟨.slice av nv cv, a9, c9, hvw.set 0 _, hD'.kept (fun k cs ty _ hh hty => hoth k (fun e => ?_)), ((hbx.mono hB).trans hb').setCell (p := ⟨m, 0, none⟩) hm _, (Fx.of hbx (Nat.le_refl _)).trans (fun k cs ty hh ht hkm => (hoth k hkm).trans (hk' k cs ty hh ht))⟩
      subst e
      have h2 : w'.heap[k]? = _ := hvw
      rw [hh] at h2
      have := cells_ty h2
      rcases hty with e | e <;> rw [e] at this <;> exact absurd this (by decide)
    clear hbl hbx hox hnb hv hD hm hB hS hvx hD' hb' hk' hvw HX HV
    go_wp2_with (at_builtin; refine wpList_append_run 36 rfl _ _ rfl _ _ _ rfl rfl (unhide R) ?_; clear R)
    go_ret
    exact ⟨rfl, HR.out⟩

end Go.Proofs.Ytknmgefpjdfenaa
