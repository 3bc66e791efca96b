/- Joined: TDump1, TEach. -/
import Derived.Test.YtknmgefpjdfenaaGreatTnTKeys
import Derived.Test.YtknmgefpjdfenaaGreatTnJ39
import Derived.Test.YtknmgefpjdfenaaGreatTnJ37
import Derived.Deep.RegionHeld3
import Derived.Shelf.Lay
import Derived.Shelf.Strings.Prefix
/- Dump's visitor: one Node more. -/
namespace Go.Proofs.YtknmgefpjdfenaaGreat
open Go.RowKit Go.Shelf Go.Maps
set_option linter.unusedVariables false
set_option maxRecDepth 100000

/-- A Node that was made: what it tells, and where its bytes lie. -/
structure Nd where
  p : List UInt8
  t : Th
  da : Option Addr
  dc : Nat

def ncs (x : Nd) : Array Value := #[.string (St x.p), .int .i64 x.t.k, .int .i64 (x.t.n : Int), .int .i64 x.t.l, .int .i64 (sizeT x.t), .slice x.da x.t.d.length x.dc]

theorem infoN : (Tryz.prog.info? 43).map (fun i => (i.zero, i.size, i.bytes)) = some (some (.agg #[.string ⟨#[]⟩, .int .i64 0, .int .i64 0, .int .i64 0, .int .i64 0, .slice none 0 0]), 6, 72) := by kernel_rfl

theorem undN : Tryz.prog.underlying 38 = some (.slice 43) := by kernel_rfl

def dcells (xs : List Nd) : List Value := xs.flatMap (fun x => (ncs x).toList)

theorem dcells_len (xs : List Nd) : (dcells xs).length = xs.length * 6 := by
  induction xs with
  | nil => rfl
  | cons x r ih =>
    have : dcells (x :: r) = (ncs x).toList ++ dcells r := by simp [dcells]
    rw [this, List.length_append, ih]
    simp [ncs]
    omega

/-- A list of Nodes in memory made since B. -/
def DL (B : Nat) (w : World) (v : Value) (xs : List Nd) : Prop := w.ownsRow B 43 6 v xs.length (dcells xs) ∧ ∀ x ∈ xs, Own B w x.da x.t.d.length x.dc x.t.d

theorem DL.nil (B : Nat) (w : World) : DL B w (.slice none 0 0) [] := ⟨World.ownsRow_nil _ _ _ _, fun x hx => absurd hx (by simp)⟩

theorem DL.kept {B : Nat} {w w' : World} {v : Value} {xs : List Nd} (h : DL B w v xs) (hk : ∀ k cs t, B ≤ k → w.heap[k]? = some (Obj.cells cs t (0, 0)) → (t = 43 ∨ t = 5) → w'.heap[k]? = w.heap[k]?) : DL B w' v xs := by
  refine ⟨ownsRow_block h.1 (fun g cur hg hh => hk g cur _ hg hh (.inl rfl)), fun x hx => ?_⟩
  have ho := h.2 x hx
  exact ho.kept (fun g e => by obtain ⟨_, hg, cur, hc⟩ := ho.lt e; exact hk g cur _ hg hc (.inr rfl))

theorem DL.shape {B : Nat} {w : World} {v : Value} {xs : List Nd} (h : DL B w v xs) : ∃ a c, v = .slice a xs.length c := by
  rcases h.1.2 with ⟨rfl, hn⟩ | ⟨g, cap, cur, rfl, _⟩
  · exact ⟨none, 0, by rw [hn]⟩
  · exact ⟨_, _, rfl⟩

theorem DL.below {B n : Nat} {w w' : World} {v : Value} {xs : List Nd} (h : DL B w v xs) (hb : Below n w w') (hn : w.heap.size ≤ n) : DL B w' v xs :=
  h.kept (fun k cs t _ hh _ => hb.block k (by have := (Array.getElem?_eq_some_iff.1 hh).1; omega))

/-- append(list, a Node). -/
theorem DL.app {B : Nat} {w : World} {v : Value} {xs : List Nd} (h : DL B w v xs) (hB : B ≤ w.heap.size) (x : Nd) (ho : Own B w x.da x.t.d.length x.dc x.t.d) (hn : xs.length ≤ 1000000) :
    ∃ (v' : Value) (w' : World), (∀ ty, (Builtin.append_ #[38, 38] ty #[v, .slice (some ⟨w.heap.size, 0, none⟩) 1 1]).run Tryz.prog (w.alloc (.cells (ncs x) 43)) = .ok v' w') ∧ DL B w' v' (xs ++ [x]) ∧ Below B w w' ∧
      (∀ (k : Nat) cs t, w.heap[k]? = some (Obj.cells cs t (0, 0)) → t ≠ 43 → w'.heap[k]? = w.heap[k]?) := by
  obtain ⟨i0, hi, hz0, hz1, hz2⟩ := info_parts infoN
  have hb0 : Below w.heap.size w (w.alloc (.cells (ncs x) 43)) := (Below.refl _ w).alloc (Nat.le_refl _) _
  have h1 := h.below hb0 (Nat.le_refl _)
  have hbl := Bl.new w (ncs x) 43
  obtain ⟨v', w', hr, ho2, hg, _⟩ := run_append_own (P := Tryz.prog) (w.alloc (.cells (ncs x) 43)) B 38 0 43 i0 _ 6 72 undN hi hz0 hz1 hz2 rfl (by decide) v xs.length _ h1.1 ⟨w.heap.size, 0, none⟩ 1 1 (ncs x).toList rfl
    (fun j u hj => by rw [World.add_zero_spot, Nat.zero_add]; exact hbl.cell j u (by simpa using hj)) (by intro z hz; simp [ncs] at hz; rcases hz with rfl | rfl | rfl | rfl | rfl | rfl <;> rfl) (by unfold maxLen; omega) (by omega) (Nat.le_trans hB hb0.size)
  have hkk : ∀ k cs t, w.heap[k]? = some (Obj.cells cs t (0, 0)) → t ≠ 43 → w'.heap[k]? = w.heap[k]? := fun k cs t hh ht => by
    have hlt := (Array.getElem?_eq_some_iff.1 hh).1
    refine (hg.block k (Nat.lt_of_lt_of_le hlt hb0.size) (fun e => ?_)).trans (hb0.block k hlt)
    rcases h.1.2 with ⟨rfl, _⟩ | ⟨g, cap, cur, rfl, _, hgc, _⟩
    · simp [Value.ownBlock] at e
    · simp [Value.ownBlock] at e
      subst e
      rw [hgc] at hh
      exact ht (cells_ty hh).symm
  refine ⟨v', w', fun ty => hr, ⟨?_, fun y hy => ?_⟩, ?_, hkk⟩
  · have e : dcells (xs ++ [x]) = dcells xs ++ (ncs x).toList := by simp [dcells]
    rw [e, List.length_append]
    exact ho2
  · rcases List.mem_append.1 hy with hy | hy
    · have o := h.2 y hy
      exact o.kept (fun g e => by obtain ⟨_, _, cur, hc⟩ := o.lt e; exact hkk g cur _ hc (by decide))
    · simp at hy
      subst hy
      exact ho.kept (fun g e => by obtain ⟨_, _, cur, hc⟩ := ho.lt e; exact hkk g cur _ hc (by decide))
  · refine (hb0.mono hB).grown hg (Nat.le_trans hB hb0.size) (fun k e => ?_)
    rcases h.1.2 with ⟨rfl, _⟩ | ⟨g, cap, cur, rfl, hgB, _⟩
    · simp [Value.ownBlock] at e
    · simp [Value.ownBlock] at e
      omega

/-- No row has turned but lists of Nodes, and the block m. -/
def Fx (m : Nat) (u w : World) : Prop := ∀ (k : Nat) cs t, u.heap[k]? = some (Obj.cells cs t (0, 0)) → t ≠ 43 → k ≠ m → w.heap[k]? = u.heap[k]?

theorem Fx.trans {m : Nat} {u v w : World} (h : Fx m u v) (h' : Fx m v w) : Fx m u w := fun k cs t hh ht hm => by
  have h1 := h k cs t hh ht hm
  exact (h' k cs t (h1.trans hh) ht hm).trans h1

theorem Fx.of {m n : Nat} {u w : World} (h : Below n u w) (hn : u.heap.size ≤ n) : Fx m u w := fun k cs t hh _ _ => h.block k (by have := (Array.getElem?_eq_some_iff.1 hh).1; omega)

theorem bal {n : Nat} {u v : World} (h : Below n u v) (hn : n ≤ u.heap.size) (o : Obj) : Below n u (v.alloc o) := h.alloc (Nat.le_trans hn h.size) o

theorem bdr {n : Nat} {u v : World} (h : Below n u v) (q : Nat) : Below n u (v.drewN q) := ⟨h.os, h.tape, h.output, h.size, h.block⟩

theorem bd1 {n : Nat} {u v : World} (h : Below n u v) : Below n u v.drew := bdr h 1

theorem b6 {n k : Nat} {u v : World} (h : Below n u v) (hk : n ≤ k) (x0 x1 x2 x3 x4 x5 : Value) : Below n u ((((((v.setCell ⟨k, 0, none⟩ x0).setCell ⟨k, 1, none⟩ x1).setCell ⟨k, 2, none⟩ x2).setCell ⟨k, 3, none⟩ x3).setCell ⟨k, 4, none⟩ x4).setCell ⟨k, 5, none⟩ x5) :=
  (((((h.setCell (p := ⟨k, 0, none⟩) hk x0).setCell (p := ⟨k, 1, none⟩) hk x1).setCell (p := ⟨k, 2, none⟩) hk x2).setCell (p := ⟨k, 3, none⟩) hk x3).setCell (p := ⟨k, 4, none⟩) hk x4).setCell (p := ⟨k, 5, none⟩) hk x5

theorem vis_new {n B' l c : Nat} {u w2 : World} {a : Option Addr} {d : List Int} (hB : Below n u w2) (hn : n ≤ u.heap.size) (ho : Own B' w2 a l c d) (hb : n ≤ B') (cs : Array Value) :
    Bl (w2.alloc (.cells cs 43)) w2.heap.size cs 43 ∧ Below n u (w2.alloc (.cells cs 43)) ∧ Own n (w2.alloc (.cells cs 43)) a l c d ∧ n ≤ w2.heap.size :=
  ⟨Bl.new _ _ _, bal hB hn _, (ho.below ((Below.refl _ w2).alloc (Nat.le_refl _) _) (Nat.le_refl _)).base hb, Nat.le_trans hn hB.size⟩

theorem vis_set {n B' k l c : Nat} {u w2 : World} {a : Option Addr} {d : List Int} {z : Array Value} (hN : Bl w2 k z 43) (hz : z.size = 6) (hB : Below n u w2) (hk : n ≤ k) (ho : Own B' w2 a l c d) (hb : n ≤ B') (x0 x1 x2 x3 x4 x5 : Value) :
    Bl ((((((w2.setCell ⟨k, 0, none⟩ x0).setCell ⟨k, 1, none⟩ x1).setCell ⟨k, 2, none⟩ x2).setCell ⟨k, 3, none⟩ x3).setCell ⟨k, 4, none⟩ x4).setCell ⟨k, 5, none⟩ x5) k #[x0, x1, x2, x3, x4, x5] 43 ∧
      Below n u ((((((w2.setCell ⟨k, 0, none⟩ x0).setCell ⟨k, 1, none⟩ x1).setCell ⟨k, 2, none⟩ x2).setCell ⟨k, 3, none⟩ x3).setCell ⟨k, 4, none⟩ x4).setCell ⟨k, 5, none⟩ x5) ∧
      Own n ((((((w2.setCell ⟨k, 0, none⟩ x0).setCell ⟨k, 1, none⟩ x1).setCell ⟨k, 2, none⟩ x2).setCell ⟨k, 3, none⟩ x3).setCell ⟨k, 4, none⟩ x4).setCell ⟨k, 5, none⟩ x5) a l c d ∧ n ≤ k := by
  refine ⟨setAll_whole [x0, x1, x2, x3, x4, x5] w2 z hN hz.symm, b6 hB hk _ _ _ _ _ _, (ho.kept (fun g e => ?_)).base hb, hk⟩
  obtain ⟨_, _, cur, hc⟩ := ho.lt e
  have hne : g ≠ k := fun e' => by
    subst e'
    have h2 : w2.heap[g]? = _ := hN
    rw [hc] at h2
    exact absurd (cells_ty h2) (by decide)
  rw [Below.heap_setCell _ _ _ _ hne, Below.heap_setCell _ _ _ _ hne, Below.heap_setCell _ _ _ _ hne, Below.heap_setCell _ _ _ _ hne, Below.heap_setCell _ _ _ _ hne, Below.heap_setCell _ _ _ _ hne]

set_option maxHeartbeats 8000000 in
theorem visit_any {u : World} {S : Nat → Prop} {g b m B : Nat} {s : Tr} {t : Th} {v : Value} {xs : List Nd} (h : TM u S g s) (ht : s.T b = some t) (hs : Small t) (hS : ∀ k, S k → k < B) (hm : B ≤ m) (hv : Bl u m #[v] 38) (hD : DL B u v xs) (hB : B ≤ u.heap.size) (hn : xs.length ≤ 1000000) (p : List UInt8) :
    Calls Tryz.prog 48 #[.string (St p), .pointer (some ⟨b, 0, none⟩), .pointer (some ⟨m, 0, none⟩)] u fun e w' => e = .returned (.bool true) ∧ ∃ v' a c, Bl w' m #[v'] 38 ∧ DL B w' v' (xs ++ [⟨p, t, a, c⟩]) ∧ Below B u w' ∧ Fx m u w' := by
  obtain ⟨t0, t1, t2, t3, _, _⟩ := h.thing_cells ht
  have hbl : b < u.heap.size := (h.thg b t ht).lt
  have KB : Hid (∀ w, Below u.heap.size u w → Hid (Below u.heap.size u w) ∧ w.cell? ⟨b, 0, none⟩ = some (.int .i64 t.k) ∧ w.cell? ⟨b, 1, none⟩ = some (.int .i64 (t.n : Int)) ∧ w.cell? ⟨b, 2, none⟩ = some (.int .i64 t.l) ∧ w.cell? ⟨b, 3, none⟩ = some (.slice t.da t.d.length t.dc)) := fun w hw =>
    ⟨hw, (hw.cell (p := ⟨b, 0, none⟩) hbl).trans t0, (hw.cell (p := ⟨b, 1, none⟩) hbl).trans t1, (hw.cell (p := ⟨b, 2, none⟩) hbl).trans t2, (hw.cell (p := ⟨b, 3, none⟩) hbl).trans t3⟩
  have KS : Hid (∀ w, Below u.heap.size u w → Calls Tryz.prog 49 #[.pointer (some ⟨b, 0, none⟩)] w fun e w' => e = .returned (.int .i64 (sizeT t)) ∧ Below w.heap.size w w') := fun w hw => by
    refine (size_any (h.below hw) ht hs).mono ?_
    rintro e w' ⟨rfl, q, rfl⟩
    exact ⟨rfl, bdr (Below.refl _ _) q⟩
  have hO := h.dat b t ht
  have KC : Hid (∀ w, Below u.heap.size u w → Calls Tryz.prog 50 #[.slice t.da t.d.length t.dc] w fun e w' => ∃ a' c', e = .returned (.slice a' t.d.length c') ∧ Own w.heap.size w' a' t.d.length c' t.d ∧ Below w.heap.size w w') := fun w hw => bclone_all t.da t.d.length t.dc t.d w (hO.below hw (Nat.le_refl _)).has (by have := hs.1; omega)
  have B0 : Hid (Below u.heap.size u u.drew) := bdr (Below.refl _ _) 1
  have A0 : Hid (∀ o, Below u.heap.size u (u.alloc o).drew) := fun o => bd1 (bal (Below.refl _ _) (Nat.le_refl _) o)
  have HV := hide (And.intro hv (And.intro hD (And.intro hm (And.intro hB hS))))
  have hmu := hv.lt
  clear h ht hs hv hD hm hB hS hO hbl
  generalize hsp : St p = sp at *
  have J := unhide KB _ (unhide B0)
  have HU := hide (And.intro t0 (And.intro t1 (And.intro t2 t3)))
  go_enter Tryz.func48, Tryz.ntmps48
  go_upto_region 1 with fail
  clear t0 t1 t2 t3
  go_region_held3 (fun w => Hid (Below u.heap.size u w) ∧ w.cell? ⟨b, 0, none⟩ = some (.int .i64 t.k) ∧ w.cell? ⟨b, 1, none⟩ = some (.int .i64 (t.n : Int)) ∧ w.cell? ⟨b, 2, none⟩ = some (.int .i64 t.l) ∧ w.cell? ⟨b, 3, none⟩ = some (.slice t.da t.d.length t.dc))
    (with_reducible (first | exact J | exact unhide KB _ (unhide B2) | exact unhide KB _ (unhide B1) | exact unhide KB _ (unhide A0 _) | exact unhide KB _ (bal (unhide B2) (Nat.le_refl _) _) | exact unhide KB _ (bal (unhide B1) (Nat.le_refl _) _) | exact unhide KB _ (b6 (unhide B2) (Nat.le_refl _) _ _ _ _ _ _) | exact unhide KB _ (b6 (unhide B2) (unhide B1).size _ _ _ _ _ _)))
    (first
      | (go_at_call 49; refine (unhide KS _ (by with_reducible (first | exact unhide B0 | exact unhide A0 _))).mono ?_; rintro e w1 ⟨rfl, hb⟩
         have B1 := hide (show Below u.heap.size u w1 from by with_reducible (first | exact (unhide B0).trans (hb.mono (unhide B0).size) | exact (unhide A0 _).trans (hb.mono (unhide A0 _).size)))
         try (with_reducible have N1 := hide (Bl.call (Bl.drew (Bl.new _ _ _)) hb))
         clear hb)
      | (go_at_call 50; refine (unhide KC _ (by with_reducible (first | exact unhide B1 | exact bal (unhide B1) (Nat.le_refl _) _))).mono ?_; rintro e w2 ⟨a9, c9, rfl, ho, hb⟩
         have B2 := hide (show Below u.heap.size u w2 from by with_reducible (first | exact (unhide B1).trans (hb.mono (unhide B1).size) | exact (bal (unhide B1) (Nat.le_refl _) _).trans (hb.mono (bal (unhide B1) (Nat.le_refl _) _).size)))
         try (with_reducible have N2 := hide (Bl.call (Bl.new _ _ _) hb))
         try (with_reducible have N2 := hide (Bl.call (unhide N1) hb))
         try (have n20 := (unhide N2).cell 0 _ rfl; have n21 := (unhide N2).cell 1 _ rfl; have n22 := (unhide N2).cell 2 _ rfl; have n23 := (unhide N2).cell 3 _ rfl; have n24 := (unhide N2).cell 4 _ rfl; have n25 := (unhide N2).cell 5 _ rfl; have n2f := (unhide N2).free)
         have HO := hide (And.intro ho hb)
         clear ho hb))
  · have HX := hide (vis_new (unhide B2) (Nat.le_refl _) (unhide HO).1 (unhide B1).size #[.string sp, .int .i64 t.k, .int .i64 (t.n : Int), .int .i64 t.l, .int .i64 (sizeT t), .slice a9 t.d.length c9])
    clear J A0 KB KS KC B0 B2 HO HU
    generalize w2.alloc (.cells #[.string sp, .int .i64 t.k, .int .i64 (t.n : Int), .int .i64 t.l, .int .i64 (sizeT t), .slice a9 t.d.length c9] 43) = wx at *
    try clear N2 n20 n21 n22 n23 n24 n25 n2f
    try clear N1
    try clear B1
    generalize w2.heap.size = nb at *
    obtain ⟨hbl, hbx, hox, hnb⟩ := unhide HX
    obtain ⟨hv, hD, hm, hB, hS⟩ := unhide HV
    have y0 := hbl.cell 0 _ rfl
    have y1 := hbl.cell 1 _ rfl
    have y2 := hbl.cell 2 _ rfl
    have y3 := hbl.cell 3 _ rfl
    have y4 := hbl.cell 4 _ rfl
    have y5 := hbl.cell 5 _ rfl
    have hvx := hv.call hbx
    have z0 := hvx.cell 0 _ rfl
    obtain ⟨v', w', R, hD', hb', hk'⟩ := (hD.below hbx (Nat.le_refl _)).app (Nat.le_trans hB hbx.size) ⟨p, t, a9, c9⟩ (hox.base hB) hn
    obtain ⟨av, nv, cv, rfl⟩ : ∃ a n c, v' = Value.slice a n c := by obtain ⟨a, c, e⟩ := hD'.shape; exact ⟨a, _, c, e⟩
    have hvw : Bl w' m #[v] 38 := (hk' m _ _ hvx (by decide)).trans hvx
    have q0 := hvw.cell 0 _ rfl
    have qf := hvw.free 0
    have R : Hid (∀ ty, (Builtin.append_ #[38, 38] ty #[v, .slice (some ⟨wx.heap.size, 0, none⟩) 1 1]).run Tryz.prog (wx.alloc (.cells #[.string sp, .int .i64 t.k, .int .i64 (t.n : Int), .int .i64 t.l, .int .i64 (sizeT t), .slice a9 t.d.length c9] 43)) = .ok (.slice av nv cv) w') := by rw [← hsp]; exact R
    have HR : Hid (∃ v'' a c, Bl (w'.setCell ⟨m, 0, none⟩ (.slice av nv cv)) m #[v''] 38 ∧ DL B (w'.setCell ⟨m, 0, none⟩ (.slice av nv cv)) v'' (xs ++ [⟨p, t, a, c⟩]) ∧ Below B u (w'.setCell ⟨m, 0, none⟩ (.slice av nv cv)) ∧ Fx m u (w'.setCell ⟨m, 0, none⟩ (.slice av nv cv))) := by
      have hoth : ∀ k, k ≠ m → (w'.setCell ⟨m, 0, none⟩ (.slice av nv cv)).heap[k]? = w'.heap[k]? := fun k hk => Below.heap_setCell _ _ _ _ hk
      refine ⟨.slice av nv cv, a9, c9, hvw.set 0 _, hD'.kept (fun k cs ty _ hh hty => hoth k (fun e => ?_)), ((hbx.mono hB).trans hb').setCell (p := ⟨m, 0, none⟩) hm _, (Fx.of hbx (Nat.le_refl _)).trans (fun k cs ty hh ht hkm => (hoth k hkm).trans (hk' k cs ty hh ht))⟩
      subst e
      have h2 : w'.heap[k]? = _ := hvw
      rw [hh] at h2
      have := cells_ty h2
      rcases hty with e | e <;> rw [e] at this <;> exact absurd this (by decide)
    clear hbl hbx hox hnb hv hD hm hB hS hvx hD' hb' hk' hvw HX HV
    go_wp2_with (at_builtin; refine wpList_append_run 38 rfl _ _ rfl _ _ _ rfl rfl (unhide R) ?_; clear R)
    go_ret
    exact ⟨rfl, HR.out⟩
  · have HX := hide (vis_set (unhide N2) rfl (unhide B2) (unhide B1).size (unhide HO).1 (by simp; exact Nat.le_succ_of_le (unhide B1).size) (.string sp) (.int .i64 t.k) (.int .i64 (t.n : Int)) (.int .i64 t.l) (.int .i64 (sizeT t)) (.slice a9 t.d.length c9))
    clear J A0 KB KS KC B0 B2 HO HU
    generalize ((((((w2.setCell ⟨w1.heap.size, 0, none⟩ (.string sp)).setCell ⟨w1.heap.size, 1, none⟩ (.int .i64 t.k)).setCell ⟨w1.heap.size, 2, none⟩ (.int .i64 (t.n : Int))).setCell ⟨w1.heap.size, 3, none⟩ (.int .i64 t.l)).setCell ⟨w1.heap.size, 4, none⟩ (.int .i64 (sizeT t))).setCell ⟨w1.heap.size, 5, none⟩ (.slice a9 t.d.length c9)) = wx at *
    try clear N2 n20 n21 n22 n23 n24 n25 n2f
    try clear N1
    try clear B1
    generalize w1.heap.size = nb at *
    obtain ⟨hbl, hbx, hox, hnb⟩ := unhide HX
    obtain ⟨hv, hD, hm, hB, hS⟩ := unhide HV
    have y0 := hbl.cell 0 _ rfl
    have y1 := hbl.cell 1 _ rfl
    have y2 := hbl.cell 2 _ rfl
    have y3 := hbl.cell 3 _ rfl
    have y4 := hbl.cell 4 _ rfl
    have y5 := hbl.cell 5 _ rfl
    have hvx := hv.call hbx
    have z0 := hvx.cell 0 _ rfl
    obtain ⟨v', w', R, hD', hb', hk'⟩ := (hD.below hbx (Nat.le_refl _)).app (Nat.le_trans hB hbx.size) ⟨p, t, a9, c9⟩ (hox.base hB) hn
    obtain ⟨av, nv, cv, rfl⟩ : ∃ a n c, v' = Value.slice a n c := by obtain ⟨a, c, e⟩ := hD'.shape; exact ⟨a, _, c, e⟩
    have hvw : Bl w' m #[v] 38 := (hk' m _ _ hvx (by decide)).trans hvx
    have q0 := hvw.cell 0 _ rfl
    have qf := hvw.free 0
    have R : Hid (∀ ty, (Builtin.append_ #[38, 38] ty #[v, .slice (some ⟨wx.heap.size, 0, none⟩) 1 1]).run Tryz.prog (wx.alloc (.cells #[.string sp, .int .i64 t.k, .int .i64 (t.n : Int), .int .i64 t.l, .int .i64 (sizeT t), .slice a9 t.d.length c9] 43)) = .ok (.slice av nv cv) w') := by rw [← hsp]; exact R
    have HR : Hid (∃ v'' a c, Bl (w'.setCell ⟨m, 0, none⟩ (.slice av nv cv)) m #[v''] 38 ∧ DL B (w'.setCell ⟨m, 0, none⟩ (.slice av nv cv)) v'' (xs ++ [⟨p, t, a, c⟩]) ∧ Below B u (w'.setCell ⟨m, 0, none⟩ (.slice av nv cv)) ∧ Fx m u (w'.setCell ⟨m, 0, none⟩ (.slice av nv cv))) := by
      have hoth : ∀ k, k ≠ m → (w'.setCell ⟨m, 0, none⟩ (.slice av nv cv)).heap[k]? = w'.heap[k]? := fun k hk => Below.heap_setCell _ _ _ _ hk
      refine ⟨.slice av nv cv, a9, c9, hvw.set 0 _, hD'.kept (fun k cs ty _ hh hty => hoth k (fun e => ?_)), ((hbx.mono hB).trans hb').setCell (p := ⟨m, 0, none⟩) hm _, (Fx.of hbx (Nat.le_refl _)).trans (fun k cs ty hh ht hkm => (hoth k hkm).trans (hk' k cs ty hh ht))⟩
      subst e
      have h2 : w'.heap[k]? = _ := hvw
      rw [hh] at h2
      have := cells_ty h2
      rcases hty with e | e <;> rw [e] at this <;> exact absurd this (by decide)
    clear hbl hbx hox hnb hv hD hm hB hS hvx hD' hb' hk' hvw HX HV
    go_wp2_with (at_builtin; refine wpList_append_run 38 rfl _ _ rfl _ _ _ rfl rfl (unhide R) ?_; clear R)
    go_ret
    exact ⟨rfl, HR.out⟩
  · have HX := hide (vis_set (unhide N2) rfl (unhide B2) (Nat.le_refl _) (unhide HO).1 (unhide B1).size (.string sp) (.int .i64 t.k) (.int .i64 (t.n : Int)) (.int .i64 t.l) (.int .i64 (sizeT t)) (.slice a9 t.d.length c9))
    clear J A0 KB KS KC B0 B2 HO HU
    generalize ((((((w2.setCell ⟨u.heap.size, 0, none⟩ (.string sp)).setCell ⟨u.heap.size, 1, none⟩ (.int .i64 t.k)).setCell ⟨u.heap.size, 2, none⟩ (.int .i64 (t.n : Int))).setCell ⟨u.heap.size, 3, none⟩ (.int .i64 t.l)).setCell ⟨u.heap.size, 4, none⟩ (.int .i64 (sizeT t))).setCell ⟨u.heap.size, 5, none⟩ (.slice a9 t.d.length c9)) = wx at *
    try clear N2 n20 n21 n22 n23 n24 n25 n2f
    try clear N1
    try clear B1
    obtain ⟨hbl, hbx, hox, hnb⟩ := unhide HX
    obtain ⟨hv, hD, hm, hB, hS⟩ := unhide HV
    have y0 := hbl.cell 0 _ rfl
    have y1 := hbl.cell 1 _ rfl
    have y2 := hbl.cell 2 _ rfl
    have y3 := hbl.cell 3 _ rfl
    have y4 := hbl.cell 4 _ rfl
    have y5 := hbl.cell 5 _ rfl
    have hvx := hv.call hbx
    have z0 := hvx.cell 0 _ rfl
    obtain ⟨v', w', R, hD', hb', hk'⟩ := (hD.below hbx (Nat.le_refl _)).app (Nat.le_trans hB hbx.size) ⟨p, t, a9, c9⟩ (hox.base hB) hn
    obtain ⟨av, nv, cv, rfl⟩ : ∃ a n c, v' = Value.slice a n c := by obtain ⟨a, c, e⟩ := hD'.shape; exact ⟨a, _, c, e⟩
    have hvw : Bl w' m #[v] 38 := (hk' m _ _ hvx (by decide)).trans hvx
    have q0 := hvw.cell 0 _ rfl
    have qf := hvw.free 0
    have R : Hid (∀ ty, (Builtin.append_ #[38, 38] ty #[v, .slice (some ⟨wx.heap.size, 0, none⟩) 1 1]).run Tryz.prog (wx.alloc (.cells #[.string sp, .int .i64 t.k, .int .i64 (t.n : Int), .int .i64 t.l, .int .i64 (sizeT t), .slice a9 t.d.length c9] 43)) = .ok (.slice av nv cv) w') := by rw [← hsp]; exact R
    have HR : Hid (∃ v'' a c, Bl (w'.setCell ⟨m, 0, none⟩ (.slice av nv cv)) m #[v''] 38 ∧ DL B (w'.setCell ⟨m, 0, none⟩ (.slice av nv cv)) v'' (xs ++ [⟨p, t, a, c⟩]) ∧ Below B u (w'.setCell ⟨m, 0, none⟩ (.slice av nv cv)) ∧ Fx m u (w'.setCell ⟨m, 0, none⟩ (.slice av nv cv))) := by
      have hoth : ∀ k, k ≠ m → (w'.setCell ⟨m, 0, none⟩ (.slice av nv cv)).heap[k]? = w'.heap[k]? := fun k hk => Below.heap_setCell _ _ _ _ hk
      refine ⟨.slice av nv cv, a9, c9, hvw.set 0 _, hD'.kept (fun k cs ty _ hh hty => hoth k (fun e => ?_)), ((hbx.mono hB).trans hb').setCell (p := ⟨m, 0, none⟩) hm _, (Fx.of hbx (Nat.le_refl _)).trans (fun k cs ty hh ht hkm => (hoth k hkm).trans (hk' k cs ty hh ht))⟩
      subst e
      have h2 : w'.heap[k]? = _ := hvw
      rw [hh] at h2
      have := cells_ty h2
      rcases hty with e | e <;> rw [e] at this <;> exact absurd this (by decide)
    clear hbl hbx hox hnb hv hD hm hB hS hvx hD' hb' hk' hvw HX HV
    go_wp2_with (at_builtin; refine wpList_append_run 38 rfl _ _ rfl _ _ _ rfl rfl (unhide R) ?_; clear R)
    go_ret
    exact ⟨rfl, HR.out⟩

end Go.Proofs.YtknmgefpjdfenaaGreat

/- each with Dump's visitor, and Dump. -/
namespace Go.Proofs.YtknmgefpjdfenaaGreat
open Go.RowKit Go.Shelf Go.Maps
set_option linter.unusedVariables false
set_option maxRecDepth 100000

shelf_lay Lays.n102 Nm 102 at Tryz as Tryz.trimSL

theorem trims_any (p : List UInt8) (w : World) (hp : p.length ≤ 9223372036854775807) :
    Calls Tryz.prog 92 #[.string (St p), .string ⟨#[47]⟩] w fun e w' => e = .returned (.string (St (Lib.trimSuffix p [47]))) ∧ w' = w := by
  have h := Any.strings_TrimSuffix Tryz.trimSL (St p) ⟨#[47]⟩ w (by rw [St_size]; exact hp)
  rw [data_St] at h
  exact h

/-- The path of a name below a path. -/
def subP (p x : List UInt8) : List UInt8 := Lib.trimSuffix p [47] ++ [47] ++ x

theorem trims_len (p : List UInt8) : (Lib.trimSuffix p [47]).length ≤ p.length := by
  unfold Lib.trimSuffix
  split
  · simp
  · exact Nat.le_refl _

/-- What Dump tells, level by level. -/
def dumpL (s : Tr) : Nat → List UInt8 → Nat → List (List UInt8 × Th)
  | 0, _, _ => []
  | n + 1, p, b => match s.T b with
    | none => []
    | some t => (p, t) :: t.ns.flatMap (fun e => dumpL s n (subP p e.1) e.2)

theorem dumpL_some {s : Tr} {b : Nat} {t : Th} (h : s.T b = some t) (n : Nat) (p : List UInt8) : dumpL s (n + 1) p b = (p, t) :: t.ns.flatMap (fun e => dumpL s n (subP p e.1) e.2) := by
  conv => lhs; unfold dumpL
  rw [h]

/-- Names lead down. -/
structure Deep (s : Tr) (rk : Nat → Nat) : Prop where
  live : ∀ b t, s.T b = some t → ∀ e ∈ t.ns, (∃ t', s.T e.2 = some t') ∧ e.1.length ≤ 200 ∧ rk e.2 < rk b
  small : ∀ b t, s.T b = some t → Small t

theorem TM.low {u v : World} {S : Nat → Prop} {g B : Nat} {s : Tr} (h : TM u S g s) (hS : ∀ k, S k → k < B) (hb : Below B u v) : TM v S g s :=
  h.kept (fun k hk => hb.block k (hS k hk)) (fun _ hk => hk) (fun k hk => Nat.lt_of_lt_of_le (h.lt k hk) hb.size)

/-- What each leaves behind with Dump's visitor. -/
def EP (B m : Nat) (s : Tr) (n : Nat) (p : List UInt8) (b : Nat) (xs : List Nd) (u w : World) : Prop :=
  ∃ v ys, Bl w m #[v] 38 ∧ DL B w v (xs ++ ys) ∧ ys.map (fun x => (x.p, x.t)) = dumpL s n p b ∧ Below B u w ∧ Fx m u w

theorem St_app (a b : List UInt8) : St a ++ St b = St (a ++ b) := by
  apply ByteArray.ext
  simp [St]

theorem St_app47 (a : List UInt8) : St a ++ (⟨#[47]⟩ : ByteArray) = St (a ++ [47]) := St_app a [47]

set_option maxHeartbeats 8000000 in
theorem each_dump {S : Nat → Prop} {g m B : Nat} {s : Tr} {rk : Nat → Nat} (hS : ∀ k, S k → k < B) (hm : B ≤ m) (hdp : Deep s rk) (n : Nat) : ∀ (b : Nat) (p : List UInt8) (u : World) (v : Value) (xs : List Nd) (t : Th), s.T b = some t → rk b < n → TM u S g s → Bl u m #[v] 38 → DL B u v xs → B ≤ u.heap.size →
    xs.length + (dumpL s n p b).length ≤ 1000000 → p.length + 300 * n ≤ 1000000000 →
    Calls Tryz.prog 47 #[.pointer (some ⟨b, 0, none⟩), .string (St p), .func (.func 48) #[] #[.pointer (some ⟨m, 0, none⟩)]] u fun e w' => e = .returned (.bool true) ∧ EP B m s n p b xs u w' := by
  induction n with
  | zero => intro b p u v xs t _ h; omega
  | succ n IH =>
    intro b p u v xs t ht hrk h hv hD hB hlen hpl
    have hsm := hdp.small b t ht
    have hdl := dumpL_some ht n p
    rw [hdl, List.length_cons] at hlen
    have KV := hide (visit_any h ht hsm hS hm hv hD hB (by omega) p)
    have hmu : m < u.heap.size := hv.lt
    have KR : Hid (∀ w, Below B u w → Calls Tryz.prog 61 #[.pointer (some ⟨b, 0, none⟩)] w fun e w' => ∃ a c, e = .returned (.slice a t.ns.length c) ∧ OwnS w.heap.size w' a t.ns.length c (t.ns.map (·.1)) ∧ Below w.heap.size w w') := fun w hw => by
      by_cases h2 : t.k = 2
      · exact rising_dir (h.low hS hw) ht h2 hsm.2.1
      · have h0 : t.ns = [] := hsm.2.2.resolve_left h2
        rw [h0]
        exact rising_file (h.low hS hw) ht h2
    have HT := hide (And.intro h (And.intro ht (And.intro hrk (And.intro hB (And.intro hlen (And.intro hpl hdl))))))
    have HDP := hide (And.intro hS (And.intro hm hdp))
    have IH := hide IH
    have hnn := hsm.2.1
    clear h ht hrk hv hD hB hlen hpl hdl hsm hS hm hdp
    generalize hsp : St p = sp at *
    go_enter Tryz.func47, Tryz.ntmps47
    go_wp2_with fail
    refine (unhide KV).mono ?_
    rintro e w1 ⟨rfl, v1, a1, c1, hbl, hDL, hbw, hfx⟩
    have HE : Hid (Bl w1 m #[v1] 38 ∧ DL B w1 v1 (xs ++ [⟨p, t, a1, c1⟩]) ∧ Below B u w1 ∧ Fx m u w1) := ⟨hbl, hDL, hbw, hfx⟩
    have KR := hide (KR.out w1 hbw)
    clear KV hbl hDL hbw hfx
    go_wp2_with fail
    refine (unhide KR).mono ?_
    rintro e w2 ⟨an, cn, rfl, ho, hb⟩
    have HI : Hid (∃ v ys, Bl w2 m #[v] 38 ∧ DL B w2 v (xs ++ ys) ∧ ys.map (fun x => (x.p, x.t)) = (p, t) :: (t.ns.take 0).flatMap (fun e => dumpL s n (subP p e.1) e.2) ∧ Below B u w2 ∧ Fx m u w2 ∧ OwnS w1.heap.size w2 an t.ns.length cn (t.ns.map (·.1))) := by
      obtain ⟨e1, e2, e3, e4⟩ := HE.out
      exact ⟨v1, [⟨p, t, a1, c1⟩], e1.call hb, e2.below hb (Nat.le_refl _), rfl, e3.trans (hb.mono (Nat.le_trans HT.out.2.2.2.1 e3.size)), e4.trans (Fx.of hb (Nat.le_refl _)), ho⟩
    have hm1 : m < w1.heap.size := Nat.lt_of_lt_of_le hmu HE.out.2.2.1.size
    clear KR ho hb HE
    generalize hnl : t.ns.length = nl at *
    go_wp2_with fail
    go_loopw [17] (fun iv wr => ∃ k : Nat, k ≤ nl ∧ iv = .int .i64 (k : Int) ∧ Hid (∃ v ys, Bl wr m #[v] 38 ∧ DL B wr v (xs ++ ys) ∧ ys.map (fun x => (x.p, x.t)) = (p, t) :: (t.ns.take k).flatMap (fun e => dumpL s n (subP p e.1) e.2) ∧ Below B u wr ∧ Fx m u wr ∧ OwnS w1.heap.size wr an nl cn (t.ns.map (·.1)))) (fun iv _ => (nl : Int).toNat - (intOf iv).toNat)
    case atStart => exact ⟨0, Nat.zero_le _, rfl, HI⟩
    case round =>
      obtain ⟨k, hk, rfl, hJ⟩ := hrel
      clear HI
      by_cases hlt : k < nl
      · have HQ : Hid (∃ (an0 : Nat) (off : Nat) (mp c : Nat) (x : List UInt8) (v2 : Value) (ys : List Nd), an = some ⟨an0, off, none⟩ ∧ wr.cell? ⟨an0, off + k, none⟩ = some (.string (St x)) ∧
            (∀ w, Below B u w → Hid (Below B u w) ∧ w.cell? ⟨b, 4, none⟩ = some (.map (some mp)) ∧ (Instr.lookup 67 (.map (some mp)) (.string (St x)) false).run Tryz.prog w = .ok (.pointer (some ⟨c, 0, none⟩)) w) ∧
            (Calls Tryz.prog 47 #[.pointer (some ⟨c, 0, none⟩), .string (St (subP p x)), .func (.func 48) #[] #[.pointer (some ⟨m, 0, none⟩)]] wr.drew fun e w' => e = .returned (.bool true) ∧ EP B m s n (subP p x) c (xs ++ ys) wr.drew w') ∧
            x.length ≤ 200 ∧ p.length ≤ 1000000000 ∧ Below B u wr ∧
            (∀ w', EP B m s n (subP p x) c (xs ++ ys) wr.drew w' → Below B u w' ∧ ∃ v ys, Bl w' m #[v] 38 ∧ DL B w' v (xs ++ ys) ∧ ys.map (fun x => (x.p, x.t)) = (p, t) :: (t.ns.take (k + 1)).flatMap (fun e => dumpL s n (subP p e.1) e.2) ∧ Below B u w' ∧ Fx m u w' ∧ OwnS w1.heap.size w' an nl cn (t.ns.map (·.1)))) := by
          obtain ⟨h, ht, hrk, hB, hlen, hpl, hdl⟩ := HT.out
          obtain ⟨hS, hm, hdp⟩ := HDP.out
          obtain ⟨v2, ys, q1, q2, q3, q4, q5, q6⟩ := hJ.out
          have hkn : k < t.ns.length := by omega
          have hmem : t.ns[k] ∈ t.ns := List.getElem_mem hkn
          obtain ⟨⟨t', ht'⟩, hx, hrc⟩ := hdp.live b t ht _ hmem
          have h2 : t.k = 2 := (hdp.small b t ht).2.2.resolve_right (fun e => by rw [e] at hkn; simp at hkn)
          obtain ⟨an0, off, ean, hcl⟩ := q6.has.cell hlt
          have hname : (t.ns.map (·.1))[k]?.getD [] = t.ns[k].1 := by rw [List.getElem?_map, List.getElem?_eq_getElem hkn]; rfl
          rw [hname] at hcl
          have htot : t.ns.flatMap (fun e => dumpL s n (subP p e.1) e.2) = (t.ns.take k).flatMap (fun e => dumpL s n (subP p e.1) e.2) ++ (dumpL s n (subP p t.ns[k].1) t.ns[k].2 ++ (t.ns.drop (k + 1)).flatMap (fun e => dumpL s n (subP p e.1) e.2)) := by
            conv => lhs; rw [← List.take_append_drop k t.ns, List.drop_eq_getElem_cons hkn]
            rw [List.flatMap_append, List.flatMap_cons]
          have hyl : ys.length = ((t.ns.take k).flatMap (fun e => dumpL s n (subP p e.1) e.2)).length + 1 := by
            have := congrArg List.length q3
            simpa using this
          have hsl : (subP p t.ns[k].1).length ≤ p.length + 201 := by
            unfold subP
            have := trims_len p
            simp; omega
          have hbd : Below B u wr.drew := bd1 q4
          refine ⟨an0, off, t.mp, t.ns[k].2, t.ns[k].1, v2, ys, ean, hcl, fun w hw => ?_, ?_, hx, by omega, q4, fun w' hE => ?_⟩
          · have hM := h.low hS hw
            refine ⟨hw, hM.dir_map ht h2, ?_⟩
            have := (hM.map b t ht h2).look hx
            rw [look_mem (hM.map b t ht h2).2 hmem] at this
            exact this
          · refine IH t.ns[k].2 (subP p t.ns[k].1) wr.drew v2 (xs ++ ys) t' ht' (by omega) (h.low hS hbd) q1 (q2.kept (fun _ _ _ _ _ _ => rfl)) (Nat.le_trans hB q4.size) ?_ (by omega)
            have h3 := congrArg List.length htot
            rw [List.length_append, List.length_append] at h3
            rw [List.length_append]
            omega
          · obtain ⟨v3, ys3, r1, r2, r3, r4, r5⟩ := hE
            have hbw : Below B u w' := q4.trans ⟨r4.os, r4.tape, r4.output, r4.size, r4.block⟩
            refine ⟨hbw, v3, ys ++ ys3, r1, by rw [← List.append_assoc]; exact r2, ?_, hbw, q5.trans r5, q6.kept (fun g e => ?_)⟩
            · rw [List.map_append, q3, r3, List.take_add_one, List.getElem?_eq_getElem hkn, List.flatMap_append]
              simp
            · obtain ⟨hlt1, hlo⟩ := q6.lt e
              obtain ⟨_, _, _, q64⟩ := q6
              rcases q64 with ⟨e0, _⟩ | ⟨g', cur, e', _, hh, _⟩
              · rw [e0] at e; cases e
              · rw [e] at e'
                cases e'
                exact r5 g cur 9 hh (by decide) (by omega)
        obtain ⟨an0, off, mp, c, x, v2, ys, rfl, hcl, hKB, hKE, hx, hpl, hbu, hfin⟩ := HQ.out
        have KB := hide hKB
        have KE := hide hKE
        have KT : Hid (∀ w, Calls Tryz.prog 92 #[.string sp, .string ⟨#[47]⟩] w fun e w' => e = .returned (.string (St (Lib.trimSuffix p [47]))) ∧ w' = w) := fun w => by rw [← hsp]; exact trims_any p w (by omega)
        have ha1 := St_app47 (Lib.trimSuffix p [47])
        have hz1 : ¬ 9223372036854775807 < (St (Lib.trimSuffix p [47])).size + 1 := by rw [St_size]; have := trims_len p; omega
        have ha2 : St (Lib.trimSuffix p [47] ++ [47]) ++ St x = St (subP p x) := St_app _ _
        have hz2 : ¬ 9223372036854775807 < (St (Lib.trimSuffix p [47] ++ [47])).size + (St x).size := by rw [St_size, St_size]; have := trims_len p; simp; omega
        have J := hKB wr.drew (bd1 hbu)
        have HF := hide hfin
        have hlt' : (k : Int) < (nl : Int) := by omega
        clear hKB hKE hfin hbu HQ hJ HT HDP IH
        generalize subP p x = pq at *
        generalize St (Lib.trimSuffix p [47]) = st at *
        generalize St (Lib.trimSuffix p [47] ++ [47]) = s1 at *
        generalize St pq = sq at *
        generalize St x = sx at *
        go_upto_region 6 with fail
        go_region_held3 (fun w => Hid (Below B u w) ∧ w.cell? ⟨b, 4, none⟩ = some (.map (some mp)) ∧ (Instr.lookup 67 (.map (some mp)) (.string sx) false).run Tryz.prog w = .ok (.pointer (some ⟨c, 0, none⟩)) w)
          (with_reducible (first | exact J | exact unhide KB _ (unhide B1)))
          (first
            | (go_at_call 92; refine (unhide KT _).mono ?_; rintro e w' ⟨rfl, rfl⟩)
            | (go_at_call 47; refine (unhide KE).mono ?_; rintro e w3 ⟨rfl, hE⟩
               have HG := hide (unhide HF w3 hE)
               have B1 := hide (unhide HF w3 hE).1
               clear hE))
        all_goals
          clear J KB KE KT HF B1
          go_wp2_with fail
          go_roundw
          case rel => exact ⟨k + 1, by omega, by go_num, HG.out.2⟩
          case measure => simp [intOf]; omega
      · obtain rfl : k = nl := by omega
        have HR : Hid (EP B m s (n + 1) p b xs u wr) := by
          obtain ⟨v2, ys, q1, q2, q3, q4, q5, _⟩ := hJ.out
          rw [List.take_of_length_le (by omega)] at q3
          exact ⟨v2, ys, q1, q2, by rw [q3, HT.out.2.2.2.2.2.2], q4, q5⟩
        clear hJ HT HDP IH
        go_wp2_with fail
        go_ret
        exact ⟨rfl, HR.out⟩

end Go.Proofs.YtknmgefpjdfenaaGreat

