/- Joined: TPlayV, TRefM. -/
import Derived.Test.YtknmgefpjdfenaaGreatTnJ50
import Derived.Test.YtknmgefpjdfenaaGreatTnJ43
import Derived.Test.YtknmgefpjdfenaaGreatTnJ37
/- play, in a tree where all ways are paths. -/
namespace Go.Proofs.YtknmgefpjdfenaaGreat
open Go.RowKit Go.Shelf Go.Maps
set_option linter.unusedVariables false
set_option maxRecDepth 100000

/-- A tree that has come about by calls: all its ways are paths. -/
structure Wv (s : Tr) (r n : Nat) : Prop where
  wo : Wo s r n
  pv : Pv s r

theorem Wv.mono {s : Tr} {r n m : Nat} (h : Wv s r n) (hm : n ≤ m) : Wv s r m := ⟨h.wo.mono hm, h.pv⟩

theorem MadeP.wv {s s' : Tr} {r n : Nat} {p : List UInt8} {k : Int} (h : Wv s r n) (hk : k = 1 ∨ k = 2) (hm : MadeP s r p k s') : Wv s' r (n + 1) := by
  refine ⟨hm.wo h.wo hk, ?_⟩
  obtain ⟨ms, z, d, t, f, b, mp, ra, rc, hp, e1, ht, h2, hc, hf, hb, rfl⟩ := hm
  have hdb : d ≠ b := fun e => by subst e; rw [ht] at hb; cases hb
  obtain ⟨q1, q2⟩ := made_edge (f := f) (k := k) (mp := mp) (ra := ra) (rc := rc) (z := z) ht h2 hdb
  exact h.pv.more h.wo.wf (spl_some hp).1 (plc_go h.wo.wf.ok e1) ht h2 q1 q2

theorem LinkP.wv {s s' : Tr} {r n : Nat} {p q : List UInt8} (h : Wv s r n) (hm : LinkP s r p q s') : Wv s' r (n + 1) := by
  refine ⟨hm.wo h.wo, ?_⟩
  obtain ⟨ps, x, tx, ms, z, d, t, hp, hg, hx, hk, hq, e1, ht, h2, hc, rfl⟩ := hm
  have hdx : d ≠ x := fun e => by subst e; rw [ht] at hx; cases hx; omega
  obtain ⟨q1, q2⟩ := linked_edge (z := z) ht hx hk hdx
  exact h.pv.more h.wo.wf (spl_some hq).1 (plc_go h.wo.wf.ok e1) ht h2 q1 q2

theorem GoneP.pv {s s' : Tr} {r n : Nat} {ms : List (List UInt8)} {z : List UInt8} {EF : Nat → Th → Int} (h : Pv s r) (hw : Wf s r n) (hn : n ≤ 900000) (hm : GoneP s r ms z EF s') : Pv s' r := by
  obtain ⟨d, t, x, tx, e1, ht, h2, hc, hx, h0, rfl⟩ := hm
  obtain ⟨q1, _⟩ := hw.dropable (by omega) ht hc hx
  exact h.sub (gone_edges ht hx q1)

theorem go_sub {s s' : Tr} (he : ∀ b y c, Edge s' b y c → Edge s b y c) : ∀ (L : List (List UInt8)) (b c : Nat), go s' L b = (0, some c) → go s L b = (0, some c)
  | [], b, c, hg => by cases go_nil hg; rfl
  | y :: L, b, c, hg => by
    obtain ⟨m, hm, h1⟩ := go_cons.1 hg
    exact go_cons.2 ⟨m, he b y m hm, go_sub he L m c h1⟩

theorem Pv.moved {s : Tr} {r n d d2 x : Nat} {t t2 : Th} {z z2 : List UInt8} {ms2 : List (List UInt8)} (h : Pv s r) (hw : Wf s r n) (ht : s.T d = some t) (h2 : t.k = 2) (hc : t.ns.lookup z = some x) (ht2 : s.T d2 = some t2) (h22 : t2.k = 2) (hc2 : t2.ns.lookup z2 = none) (hdn : ¬ Dn s x d2)
    (hd2 : go s ms2 r = (0, some d2)) (hf : ∀ ys c, go s ys x = (0, some c) → okN (ms2 ++ [z2] ++ ys) = true) : Pv (s.moved d z d2 z2 x) r := by
  intro L c hg
  rcases moved_ways ht ht2 L r hg with q | ⟨A, ys, rfl, qA, qy⟩
  · exact h L c q
  · rw [hw.path A.length A ms2 d2 t2 (Nat.le_refl _) ht2 h22 qA hd2]
    have := hf ys c ((moved_down ht ht2 hc2 (hw.up ht hc) hdn ys x Dn.refl).2 qy)
    rwa [List.append_assoc] at this

/-- What fits at a path. -/
theorem Wv.fits {s : Tr} {r n d x m : Nat} {t tx : Th} {z z2 q : List UInt8} {ms ms2 : List (List UInt8)} {rk : Nat → Nat} (h : Wv s r n) (hd : go s ms r = (0, some d)) (ht : s.T d = some t) (h2 : t.k = 2) (hc : t.ns.lookup z = some x) (hx : s.T x = some tx) (hq : spl q = some (ms2 ++ [z2])) (hdp : Deep s rk) (hr : rk x < m) (hf : fitsB s m q x = true) :
    ∀ ys c, go s ys x = (0, some c) → okN (ms2 ++ [z2] ++ ys) = true := by
  rw [(spl_some hq).2.1] at hf
  refine fits_paths h.wo.wf hdp m (ms2 ++ [z2]) x ⟨tx, hx⟩ hr (spl_some hq).1 (fun ys c hg y hy => ?_) hf
  have hgx := go_cat ht h2 hc ms r hd
  have := h.pv _ c (go_join hg (ms ++ [z]) r hgx)
  exact ((okN_iff _).1 this).2.1 y (List.mem_append_right _ hy)

theorem RenP.wv {s s' : Tr} {r n : Nat} {p q : List UInt8} (h : Wv s r n) (hn : n ≤ 900000) (hm : RenP s r p q s') : Wv s' r (n + 1) := by
  refine ⟨hm.wo h.wo hn, ?_⟩
  obtain ⟨ms, z, d, t, x, tx, ms2, z2, d2, t2, hp, hq, e1, ht, h2, hc, hx, e2, ht2, h22, hcase⟩ := hm
  have hw := h.wo.wf
  rcases hcase with ⟨_, rfl⟩ | ⟨hab, hne, ⟨n2, rk, hdp, hr, hf⟩, hcase⟩
  · exact h.pv
  · have g1 := plc_go hw.ok e1
    have g2 := plc_go hw.ok e2
    have hdn := hw.not_below g1 ht h2 hc g2 ht2 h22 hab
    have hfit := h.fits g1 ht h2 hc hx hq hdp hr hf
    rcases hcase with ⟨hc2, rfl⟩ | ⟨y, ty, hc2, hy, hE, rfl⟩
    · exact h.pv.moved hw ht h2 hc ht2 h22 hc2 hdn g2 hfit
    · have hxd : x ≠ d2 := fun e => by subst e; exact hdn Dn.refl
      have hxy : y ≠ x := fun e => by subst e; exact hne hc2
      obtain ⟨hw1, t1, t3, a1, a2, a3, a4, a5, a6, a7⟩ := hw.over hn ht h2 hc hx ht2 h22 hc2 hy hxy hE h.wo.h16 hxd
      obtain ⟨q1, _⟩ := hw.dropable (by omega) ht2 hc2 hy
      have hed := gone_edges (z := z2) ht2 hy q1
      refine (h.pv.sub hed).moved hw1 a1 a2 a3 a4 a5 a6 (fun q => hdn (dn_gone ht2 hy q1 q)) ?_ (fun ys c hg => hfit ys c (go_sub hed ys x c hg))
      exact gone_go ht2 hy q1 hc2 (yE_zero hE).1 q1 ms2 r g2

theorem DataP.wv {w w' : World} {S : Nat → Prop} {g r n : Nat} {s : Tr} {e : Ending} (h : Wv s r n) (hd : DataP w S g s e w') : CallP w S g s (fun s' => Wv s' r (n + 1)) e w' := by
  obtain ⟨E, s', he, h1, h2, h3⟩ := hd
  refine ⟨E, s', he, h1, h2, h3.imp id (fun q => ⟨q.1, ?_⟩)⟩
  rcases q.2 with rfl | ⟨b, t, d, a, c, ht, hk, hl, rfl⟩
  · exact h.mono (by omega)
  · refine ⟨⟨(h.wo.wf.data ht hk hl a c).mono (by omega), h.wo.h16⟩, h.pv.sub ?_⟩
    rintro b' y c' ⟨u, hu, hk', hlu⟩
    rw [Tr.upd_T] at hu
    by_cases hb : b' = b
    · rw [if_pos hb] at hu
      cases hu
      exact ⟨t, by rw [hb]; exact ht, hk', hlu⟩
    · rw [if_neg hb] at hu
      exact ⟨u, hu, hk', hlu⟩

theorem unlink_wv {w : World} {S : Nat → Prop} {g r n : Nat} {s : Tr} (h : TM w S g s) (hw : Wv s r n) (hn : n ≤ 900000) {p : List UInt8} (hpl : p.length ≤ 9223372036854775807) :
    Calls Tryz.prog 29 #[.pointer (some ⟨g, 0, none⟩), .string (St p)] w fun e w' => CallP w S g s (fun s' => Wv s' r (n + 1)) e w' :=
  (unlink_any h hw.wo.wf (by omega) hpl).mono fun e w' hc => hc.to (fun s' ⟨ms, z, _, hg⟩ => ⟨hg.wo hw.wo hn (fun x t hx h0 => by
    obtain ⟨q1, q2⟩ := unE_zero h0
    refine ⟨hw.wo.wf.fil x t hx ((hw.wo.wf.ok.kind x t hx).resolve_right q1), fun hl f ho => q2 hl f (hw.wo.h16 f x ho) ho⟩), hg.pv hw.pv hw.wo.wf hn⟩)

theorem rmdir_wv {w : World} {S : Nat → Prop} {g r n : Nat} {s : Tr} (h : TM w S g s) (hw : Wv s r n) (hn : n ≤ 900000) {p : List UInt8} (hpl : p.length ≤ 9223372036854775807) :
    Calls Tryz.prog 31 #[.pointer (some ⟨g, 0, none⟩), .string (St p)] w fun e w' => CallP w S g s (fun s' => Wv s' r (n + 1)) e w' :=
  (rmdir_any h hw.wo.wf (by omega) hpl).mono fun e w' hc => hc.to (fun s' ⟨ms, z, _, hg⟩ => ⟨hg.wo hw.wo hn (fun x t hx h0 => by
    obtain ⟨q1, q2⟩ := rmE_zero h0
    refine ⟨q2, fun hl f ho => ?_⟩
    obtain ⟨t', ht', hk⟩ := hw.wo.wf.opn f x ho
    rw [hx] at ht'
    cases ht'
    exact q1 hk), hg.pv hw.pv hw.wo.wf hn⟩)

theorem close_wv {w : World} {S : Nat → Prop} {g r n : Nat} {s : Tr} (h : TM w S g s) (hw : Wv s r n) (f : Int) :
    Calls Tryz.prog 37 #[.pointer (some ⟨g, 0, none⟩), .int .i64 f] w fun e w' => CallP w S g s (fun s' => Wv s' r (n + 1)) e w' := by
  cases hf : s.hnd f with
  | none =>
    refine (close_bad h hw.wo.wf.ok.row_ne f hf).mono ?_
    rintro e w' ⟨rfl, rfl⟩
    exact CallP.no h (by decide) (Below.refl _ _)
  | some b =>
    obtain ⟨k, rfl, hk, ho⟩ := hnd_nat hf
    refine (close_ok h hk ho hw.wo.wf.ok.row_ne).mono ?_
    rintro e w' ⟨rfl, htm, hkp⟩
    refine ⟨0, _, rfl, htm.kept (fun _ _ => rfl) (fun _ q => .inl q) (fun j q => q.elim (fun e => htm.lt j e) (fun e => e.2)), hkp, .inr ⟨rfl, ⟨(hw.wo.wf.opened k (fun b q => by cases q)).mono (by omega), fun i b' e => ?_⟩, hw.pv.sub (fun _ _ _ h => h)⟩⟩
    have e' : (if i = k then none else s.opn i) = some b' := e
    by_cases hi : i = k
    · rw [if_pos hi] at e'; cases e'
    · rw [if_neg hi] at e'; exact hw.wo.h16 i b' e'

theorem open_wv {w : World} {S : Nat → Prop} {g r n : Nat} {s : Tr} (h : TM w S g s) (hw : Wv s r n) {p : List UInt8} (hpl : p.length ≤ 9223372036854775807) :
    Calls Tryz.prog 18 #[.pointer (some ⟨g, 0, none⟩), .string (St p)] w fun e w' => ∃ f E, e = .returned (.tuple #[.int .i64 f, .int .i64 E]) ∧ CallP w S g s (fun s' => Wv s' r (n + 1)) (.returned (.int .i64 E)) w' := by
  refine (open_any h hw.wo.wf hpl).mono ?_
  rintro e w' ⟨f, E, s', rfl, h1, h2, h3⟩
  refine ⟨f, E, rfl, E, s', rfl, h1, h2, h3.imp id ?_⟩
  rintro ⟨rfl, k, ns, b, t, rfl, hf, hp, hg, ht, hk, rfl⟩
  refine ⟨rfl, ⟨(hw.wo.wf.opened k (fun b' q => by cases q; exact ⟨t, ht, hk⟩)).mono (by omega), fun i b' e => ?_⟩, hw.pv.sub (fun _ _ _ h => h)⟩
  have e' : (if i = k then some b else s.opn i) = some b' := e
  by_cases hi : i = k
  · rw [hi]; exact hf.lt
  · rw [if_neg hi] at e'; exact hw.wo.h16 i b' e'

set_option maxHeartbeats 4000000 in
theorem play_v {w : World} {S : Nat → Prop} {g r n : Nat} {s : Tr} (h : TM w S g s) (hwv : Wv s r n) (hn : n ≤ 900000) (o : OpD) (ha : o.a.length ≤ 9223372036854775807) (hb : o.b.length ≤ 9223372036854775807) (hd : Has w o.da o.dl o.data) (hdl : o.dl ≤ 140737488351232) (hS : 0 < o.dl → ∀ x, o.da = some x → ¬ S x.block ∧ x.block < w.heap.size) :
    Calls Tryz.prog 14 #[.pointer (some ⟨g, 0, none⟩), .agg o.v] w fun e w' => CallP w S g s (fun s' => Wv s' r (n + 1)) e w' := by
  have hw := hwv.wo
  have hb0 : Below w.heap.size w (w.alloc (.cells o.v 36)) := (Below.refl _ w).alloc (Nat.le_refl _) _
  have h0 := h.below hb0
  have hSw := h.lt
  have HB := hide hb0
  have hbl := Bl.new w o.v 36
  have c0 := hbl.cell 0 _ rfl
  have c1 := hbl.cell 1 _ rfl
  have c2 := hbl.cell 2 _ rfl
  have c3 := hbl.cell 3 _ rfl
  have c4 := hbl.cell 4 _ rfl
  have c5 := hbl.cell 5 _ rfl
  have c6 := hbl.cell 6 _ rfl
  have KNone : Hid (∀ w' : World, Below w.heap.size w w' → CallP w S g s (fun s' => Wv s' r (n + 1)) (.returned (.int .i64 0)) w') := fun w' hb' => ⟨0, s, rfl, h.up (Nat.le_refl _) hb', Kp.of hb', .inr ⟨rfl, hwv.mono (by omega)⟩⟩
  have K1 := hide ((create_any h0 hw.wf hn ha).mono fun e w' hc => hc.to (fun s' q => q.wv hwv (.inl rfl)))
  have K2 := hide ((mkdir_any h0 hw.wf hn ha).mono fun e w' hc => hc.to (fun s' q => q.wv hwv (.inr rfl)))
  have K3 := hide ((link_any h0 hw.wf hn ha hb).mono fun e w' hc => hc.to (fun s' q => q.wv hwv))
  have K4 := hide ((rename_any h0 hw.wf hn hw.h16 ha hb).mono fun e w' hc => hc.to (fun s' q => q.wv hwv hn))
  have K5 := hide (unlink_wv h0 hwv hn ha)
  have K6 := hide (rmdir_wv h0 hwv hn ha)
  have K9 := hide (open_wv h0 hwv ha)
  have K10 := hide (close_wv h0 hwv o.f)
  have K12 := hide ((write_any h0 hw.wf o.f o.n o.da o.dl o.dc o.data (by by_cases h0 : 0 < o.dl; exact hd.keptW (fun x hx => hb0.block _ (hS h0 x hx).2); exact ⟨hd.1, fun q => absurd q h0⟩) hdl (fun h0 x hx => ⟨(hS h0 x hx).1, Nat.lt_of_lt_of_le (hS h0 x hx).2 hb0.size⟩)).mono fun e w' hc => hc.wv hwv)
  have K13 := hide ((truncate_any h0 hw.wf o.f o.n).mono fun e w' hc => hc.wv hwv)
  clear h h0 hw hwv ha hb hd hS hb0 hbl hdl
  obtain ⟨kind, oa, ob, of, on, om, da, dl, dc, data⟩ := o
  unfold OpD.v at *
  simp only at *
  generalize St oa = sa at *
  generalize St ob = sb at *
  by_cases k1 : kind = 1
  · subst k1
    clear K2 K3 K4 K5 K6 K9 K10 K12 K13 KNone
    go_enter Tryz.func14, Tryz.ntmps14
    go_wp2_with fail
    generalize w.alloc (.cells #[.int .i64 1, .string sa, .string sb, .int .i64 of, .int .i64 on, .int .i64 om, .slice da dl dc] 36) = w0 at *
    refine (unhide K1).mono ?_
    rintro e w1 hR
    obtain ⟨E, s', rfl, q1, q2, q3⟩ := CallP.later hSw HB.out hR
    have HR := hide (And.intro q1 (And.intro q2 q3))
    clear q1 q2 q3 hR c0 c1 c2 c3 c4 c5 c6 K1
    go_wp2_with fail
    go_ret
    exact ⟨E, s', rfl, HR.out⟩
  have d1 : (kind == 1) = false := by simpa using k1
  by_cases k2 : kind = 2
  · subst k2
    clear K1 K3 K4 K5 K6 K9 K10 K12 K13 KNone
    go_enter Tryz.func14, Tryz.ntmps14
    go_wp2_with fail
    generalize w.alloc (.cells #[.int .i64 2, .string sa, .string sb, .int .i64 of, .int .i64 on, .int .i64 om, .slice da dl dc] 36) = w0 at *
    refine (unhide K2).mono ?_
    rintro e w1 hR
    obtain ⟨E, s', rfl, q1, q2, q3⟩ := CallP.later hSw HB.out hR
    have HR := hide (And.intro q1 (And.intro q2 q3))
    clear q1 q2 q3 hR c0 c1 c2 c3 c4 c5 c6 K2
    go_wp2_with fail
    go_ret
    exact ⟨E, s', rfl, HR.out⟩
  have d2 : (kind == 2) = false := by simpa using k2
  by_cases k3 : kind = 3
  · subst k3
    clear K1 K2 K4 K5 K6 K9 K10 K12 K13 KNone
    go_enter Tryz.func14, Tryz.ntmps14
    go_wp2_with fail
    generalize w.alloc (.cells #[.int .i64 3, .string sa, .string sb, .int .i64 of, .int .i64 on, .int .i64 om, .slice da dl dc] 36) = w0 at *
    refine (unhide K3).mono ?_
    rintro e w1 hR
    obtain ⟨E, s', rfl, q1, q2, q3⟩ := CallP.later hSw HB.out hR
    have HR := hide (And.intro q1 (And.intro q2 q3))
    clear q1 q2 q3 hR c0 c1 c2 c3 c4 c5 c6 K3
    go_wp2_with fail
    go_ret
    exact ⟨E, s', rfl, HR.out⟩
  have d3 : (kind == 3) = false := by simpa using k3
  by_cases k4 : kind = 4
  · subst k4
    clear K1 K2 K3 K5 K6 K9 K10 K12 K13 KNone
    go_enter Tryz.func14, Tryz.ntmps14
    go_wp2_with fail
    generalize w.alloc (.cells #[.int .i64 4, .string sa, .string sb, .int .i64 of, .int .i64 on, .int .i64 om, .slice da dl dc] 36) = w0 at *
    refine (unhide K4).mono ?_
    rintro e w1 hR
    obtain ⟨E, s', rfl, q1, q2, q3⟩ := CallP.later hSw HB.out hR
    have HR := hide (And.intro q1 (And.intro q2 q3))
    clear q1 q2 q3 hR c0 c1 c2 c3 c4 c5 c6 K4
    go_wp2_with fail
    go_ret
    exact ⟨E, s', rfl, HR.out⟩
  have d4 : (kind == 4) = false := by simpa using k4
  by_cases k5 : kind = 5
  · subst k5
    clear K1 K2 K3 K4 K6 K9 K10 K12 K13 KNone
    go_enter Tryz.func14, Tryz.ntmps14
    go_wp2_with fail
    generalize w.alloc (.cells #[.int .i64 5, .string sa, .string sb, .int .i64 of, .int .i64 on, .int .i64 om, .slice da dl dc] 36) = w0 at *
    refine (unhide K5).mono ?_
    rintro e w1 hR
    obtain ⟨E, s', rfl, q1, q2, q3⟩ := CallP.later hSw HB.out hR
    have HR := hide (And.intro q1 (And.intro q2 q3))
    clear q1 q2 q3 hR c0 c1 c2 c3 c4 c5 c6 K5
    go_wp2_with fail
    go_ret
    exact ⟨E, s', rfl, HR.out⟩
  have d5 : (kind == 5) = false := by simpa using k5
  by_cases k6 : kind = 6
  · subst k6
    clear K1 K2 K3 K4 K5 K9 K10 K12 K13 KNone
    go_enter Tryz.func14, Tryz.ntmps14
    go_wp2_with fail
    generalize w.alloc (.cells #[.int .i64 6, .string sa, .string sb, .int .i64 of, .int .i64 on, .int .i64 om, .slice da dl dc] 36) = w0 at *
    refine (unhide K6).mono ?_
    rintro e w1 hR
    obtain ⟨E, s', rfl, q1, q2, q3⟩ := CallP.later hSw HB.out hR
    have HR := hide (And.intro q1 (And.intro q2 q3))
    clear q1 q2 q3 hR c0 c1 c2 c3 c4 c5 c6 K6
    go_wp2_with fail
    go_ret
    exact ⟨E, s', rfl, HR.out⟩
  have d6 : (kind == 6) = false := by simpa using k6
  by_cases k9 : kind = 9
  · subst k9
    clear K1 K2 K3 K4 K5 K6 K10 K12 K13 KNone
    go_enter Tryz.func14, Tryz.ntmps14
    go_wp2_with fail
    generalize w.alloc (.cells #[.int .i64 9, .string sa, .string sb, .int .i64 of, .int .i64 on, .int .i64 om, .slice da dl dc] 36) = w0 at *
    refine (unhide K9).mono ?_
    rintro e w1 ⟨f, E, rfl, hR⟩
    obtain ⟨E', s', e1, q1, q2, q3⟩ := CallP.later hSw HB.out hR
    cases e1
    have HR := hide (And.intro q1 (And.intro q2 q3))
    clear q1 q2 q3 hR c0 c1 c2 c3 c4 c5 c6 K9
    go_wp2_with fail
    go_ret
    exact ⟨E, s', rfl, HR.out⟩
  have d9 : (kind == 9) = false := by simpa using k9
  by_cases k10 : kind = 10
  · subst k10
    clear K1 K2 K3 K4 K5 K6 K9 K12 K13 KNone
    go_enter Tryz.func14, Tryz.ntmps14
    go_wp2_with fail
    generalize w.alloc (.cells #[.int .i64 10, .string sa, .string sb, .int .i64 of, .int .i64 on, .int .i64 om, .slice da dl dc] 36) = w0 at *
    refine (unhide K10).mono ?_
    rintro e w1 hR
    obtain ⟨E, s', rfl, q1, q2, q3⟩ := CallP.later hSw HB.out hR
    have HR := hide (And.intro q1 (And.intro q2 q3))
    clear q1 q2 q3 hR c0 c1 c2 c3 c4 c5 c6 K10
    go_wp2_with fail
    go_ret
    exact ⟨E, s', rfl, HR.out⟩
  have d10 : (kind == 10) = false := by simpa using k10
  by_cases k12 : kind = 12
  · subst k12
    clear K1 K2 K3 K4 K5 K6 K9 K10 K13 KNone
    go_enter Tryz.func14, Tryz.ntmps14
    go_wp2_with fail
    generalize w.alloc (.cells #[.int .i64 12, .string sa, .string sb, .int .i64 of, .int .i64 on, .int .i64 om, .slice da dl dc] 36) = w0 at *
    refine (unhide K12).mono ?_
    rintro e w1 hR
    obtain ⟨E, s', rfl, q1, q2, q3⟩ := CallP.later hSw HB.out hR
    have HR := hide (And.intro q1 (And.intro q2 q3))
    clear q1 q2 q3 hR c0 c1 c2 c3 c4 c5 c6 K12
    go_wp2_with fail
    go_ret
    exact ⟨E, s', rfl, HR.out⟩
  have d12 : (kind == 12) = false := by simpa using k12
  by_cases k13 : kind = 13
  · subst k13
    clear K1 K2 K3 K4 K5 K6 K9 K10 K12 KNone
    go_enter Tryz.func14, Tryz.ntmps14
    go_wp2_with fail
    generalize w.alloc (.cells #[.int .i64 13, .string sa, .string sb, .int .i64 of, .int .i64 on, .int .i64 om, .slice da dl dc] 36) = w0 at *
    refine (unhide K13).mono ?_
    rintro e w1 hR
    obtain ⟨E, s', rfl, q1, q2, q3⟩ := CallP.later hSw HB.out hR
    have HR := hide (And.intro q1 (And.intro q2 q3))
    clear q1 q2 q3 hR c0 c1 c2 c3 c4 c5 c6 K13
    go_wp2_with fail
    go_ret
    exact ⟨E, s', rfl, HR.out⟩
  have d13 : (kind == 13) = false := by simpa using k13
  clear K1 K2 K3 K4 K5 K6 K9 K10 K12 K13
  go_enter Tryz.func14, Tryz.ntmps14
  go_wp2_with fail
  go_ret
  exact KNone.out _ HB.out

end Go.Proofs.YtknmgefpjdfenaaGreat

/- What Dump tells of a sound tree. -/
namespace Go.Proofs.YtknmgefpjdfenaaGreat
open Go.RowKit Go.Shelf Go.Maps
set_option linter.unusedVariables false
set_option maxRecDepth 100000

/-- How many of these Nodes have a number. -/
def nmN (ys : List Nd) (i : Nat) : Nat := (ys.map (fun y => if y.t.n = i then 1 else 0)).sum

theorem nmN_le (ys : List Nd) (i : Nat) : nmN ys i ≤ ys.length := by
  induction ys with
  | nil => exact Nat.le_refl _
  | cons a r ih =>
    unfold nmN at ih ⊢
    rw [List.map_cons, List.sum_cons, List.length_cons]
    split <;> omega

theorem nmN_step {ys : List Nd} {k : Nat} {y : Nd} (h : ys[k]? = some y) (i : Nat) : nmN (ys.take (k + 1)) i = nmN (ys.take k) i + (if y.t.n = i then 1 else 0) := by
  unfold nmN
  rw [List.take_add_one, h, List.map_append, List.sum_append]
  simp

theorem fm_get {T : Nat → Option Th} : ∀ (L : List Nat), (∀ c ∈ L, ∃ t, T c = some t) → ∀ j : Nat, (L.filterMap T)[j]? = (L[j]?).bind T
  | [], _, j => by simp
  | a :: r, h, j => by
    obtain ⟨t, ht⟩ := h a List.mem_cons_self
    rw [List.filterMap_cons, ht]
    cases j with
    | zero => simp [ht]
    | succ j =>
      simp only [List.getElem?_cons_succ]
      exact fm_get r (fun c hc => h c (List.mem_cons_of_mem _ hc)) j

theorem fm_count {s : Tr} {b : Nat} {t : Th} (hb : s.T b = some t) (hone : ∀ c u, s.T c = some u → u.n = t.n → c = b) : ∀ (L : List Nat), (∀ c ∈ L, ∃ u, s.T c = some u) → ((L.filterMap s.T).map (fun u => if u.n = t.n then 1 else 0)).sum = L.count b
  | [], _ => rfl
  | a :: r, h => by
    obtain ⟨u, hu⟩ := h a List.mem_cons_self
    have ih := fm_count hb hone r (fun c hc => h c (List.mem_cons_of_mem _ hc))
    rw [List.filterMap_cons, hu, List.map_cons, List.sum_cons, ih]
    by_cases e : a = b
    · subst e
      rw [hu] at hb
      cases hb
      rw [if_pos rfl, List.count_cons_self]
      omega
    · rw [if_neg (fun q => e (hone a u hu q)), List.count_cons_of_ne e, Nat.zero_add]

theorem Wf.byn {s : Tr} {r n b c : Nat} {t u : Th} (h : Wf s r n) (hb : s.T b = some t) (hc : s.T c = some u) (e : u.n = t.n) : c = b := by
  have h1 := h.num b t hb
  have h2 := h.num c u hc
  rw [e, h1] at h2
  cases h2
  rfl

theorem Wf.told {s : Tr} {r n : Nat} (h : Wf s r n) {rk : Nat → Nat} (hd : Deep s rk) {m : Nat} (hm : rk r < m) {ys : List Nd} (hy : ys.map (fun x => (x.p, x.t)) = dumpL s m [47] r) :
    ys.length = 1 + s.all ∧ (∃ y, ys[0]? = some y ∧ y.p = [47] ∧ y.t.n = 1 ∧ y.t.k = 2) ∧
      ∀ (k : Nat) (y : Nd), 1 ≤ k → ys[k]? = some y → y.t.l = (nmN ys y.t.n : Int) ∧ (∀ y' ∈ ys, y'.t.n = y.t.n → y'.t.k = y.t.k) ∧ (y.t.k = 1 → sizeT y.t = (y.t.d.length : Int)) := by
  obtain ⟨tr, htr, hkr, hnr⟩ := h.root
  have hlen : ys.length = 1 + s.all := by
    have := congrArg List.length hy
    rw [List.length_map, h.dump_len hd hm] at this
    exact this
  have hth : ys.map (·.t) = (dumpB s m r).filterMap s.T := by
    rw [← dumpL_things s m [47] r, ← hy, List.map_map]
    rfl
  have hlive := fun c => dumpB_live s m r c
  have hget : ∀ (j : Nat) (y : Nd), ys[j]? = some y → ∃ b, (dumpB s m r)[j]? = some b ∧ s.T b = some y.t := fun j y hj => by
    have h1 : (ys.map (·.t))[j]? = some y.t := by rw [List.getElem?_map, hj]; rfl
    rw [hth, fm_get _ hlive] at h1
    cases hb : (dumpB s m r)[j]? with
    | none => rw [hb] at h1; cases h1
    | some b => rw [hb] at h1; exact ⟨b, rfl, h1⟩
  obtain ⟨m', rfl⟩ : ∃ m', m = m' + 1 := ⟨m - 1, by omega⟩
  refine ⟨hlen, ?_, fun k y hk hyk => ?_⟩
  · obtain ⟨y, hy0⟩ : ∃ y, ys[0]? = some y := ⟨_, List.getElem?_eq_getElem (by omega)⟩
    have h1 := congrArg (fun l => l[0]?) hy
    simp only [List.getElem?_map, hy0, dumpL_some htr, List.getElem?_cons_zero, Option.map_some] at h1
    injection h1 with h1
    obtain ⟨q1, q2⟩ := Prod.mk.inj h1
    exact ⟨y, hy0, q1, by rw [q2]; exact hnr, by rw [q2]; exact hkr⟩
  · obtain ⟨b, hb, hT⟩ := hget k y hyk
    have hbr : b ≠ r := fun e => by
      subst e
      have h1 := h.count_root hd hm
      rw [dumpB_some htr] at h1 hb
      rw [List.count_cons_self] at h1
      obtain ⟨k', rfl⟩ : ∃ k', k = k' + 1 := ⟨k - 1, by omega⟩
      rw [List.getElem?_cons_succ] at hb
      have h2 := List.count_pos_iff.2 (List.mem_of_getElem? hb)
      omega
    refine ⟨?_, fun y' hy' e => ?_, fun h1 => ?_⟩
    · have h1 := (h.lnk b y.t hT hbr).1
      rw [h1]
      have h2 := h.count_cnt hd hm hbr
      have h3 : nmN ys y.t.n = (dumpB s (m' + 1) r).count b := by
        have h4 := fm_count hT (fun c u hu e => h.byn hT hu e) (dumpB s (m' + 1) r) hlive
        rw [← hth, List.map_map] at h4
        exact h4
      rw [h3, h2]
    · obtain ⟨j, hj⟩ := List.getElem?_of_mem hy'
      obtain ⟨c, hc, hT'⟩ := hget j y' hj
      have := h.byn hT hT' e
      subst this
      rw [hT] at hT'
      injection hT' with hT'
      rw [hT']
    · unfold sizeT
      rw [h.fil b y.t hT h1]
      simp

theorem wo_new (mp r : Nat) (ra : Option Addr) (rc : Nat) : Wo (Tr0 5000 r mp ra rc) r 0 := by
  have hT : ∀ c t, (Tr0 5000 r mp ra rc).T c = some t → c = r ∧ t = rootT mp := fun c t e => by
    have e' : (if c = r then some (rootT mp) else none) = some t := e
    by_cases hc : c = r
    · rw [if_pos hc] at e'; cases e'; exact ⟨hc, rfl⟩
    · rw [if_neg hc] at e'; cases e'
  have hr : (Tr0 5000 r mp ra rc).T r = some (rootT mp) := if_pos rfl
  have hns : ∀ c, (Tr0 5000 r mp ra rc).nsOf c = [] := fun c => by
    cases h : (Tr0 5000 r mp ra rc).T c with
    | none => exact nsOf_none h
    | some t => rw [nsOf_some h, (hT c t h).2]; rfl
  have hc : ∀ b, (Tr0 5000 r mp ra rc).cnt b = 0 := fun b => sumR_zero _ (fun i c _ => by rw [hns]; rfl)
  have ha : (Tr0 5000 r mp ra rc).all = 0 := sumR_zero _ (fun i c _ => by rw [hns]; rfl)
  refine ⟨⟨ok_root 5000 r mp ra rc, ⟨fun _ => 0, fun b t e a he => ?_⟩, fun b t e a he => ?_, fun b t e => ?_, fun b t e => ?_, fun i b e => ?_, fun b t e hne => ?_, hc r, fun b t e hk => ?_, fun b t e hk => ?_, fun f b e => ?_, fun b t e => ?_, ⟨by show (0 : Int) ≤ 5000; decide, by show (5000 : Int) ≤ 524288; decide⟩, by rw [ha]; exact Nat.le_refl _, Nat.le_refl _, by show 1 ≤ 2; decide⟩, fun f b e => ?_⟩
  · obtain ⟨_, rfl⟩ := hT b t e; cases he
  · obtain ⟨_, rfl⟩ := hT b t e; cases he
  · obtain ⟨_, rfl⟩ := hT b t e; exact List.Pairwise.nil
  · obtain ⟨rfl, rfl⟩ := hT b t e; rfl
  · have e' : ([none, some r] : List (Option Nat))[i]? = some (some b) := e
    match i, e' with
    | 1, e' =>
      simp at e'
      subst e'
      exact ⟨_, hr, rfl⟩
  · exact absurd (hT b t e).1 hne
  · obtain ⟨_, rfl⟩ := hT b t e; exact ⟨rfl, by rw [hc]; omega⟩
  · obtain ⟨_, rfl⟩ := hT b t e; cases hk
  · cases e
  · obtain ⟨_, rfl⟩ := hT b t e; show (0 : Int) ≤ 5000; decide
  · cases e

end Go.Proofs.YtknmgefpjdfenaaGreat

