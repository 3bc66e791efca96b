/- play: one call, whatever it be. -/
import Derived.Test.YtknmgefpjdfenaaGreatTrJ51
import Derived.Test.YtknmgefpjdfenaaGreatTrTOpenO
namespace Go.Proofs.YtknmgefpjdfenaaGreat
open Go.RowKit Go.Shelf Go.Maps
set_option linter.unusedVariables false
set_option maxRecDepth 100000

/-- A tree that has come about by calls, and its handles. -/
structure Wo (s : Tr) (r n : Nat) : Prop where
  wf : Wf s r n
  h16 : ∀ f b, s.opn f = some b → f < 16

theorem Wf.mono {s : Tr} {r n m : Nat} (h : Wf s r n) (hm : n ≤ m) : Wf s r m :=
  ⟨h.ok, h.rk, h.liv, h.ris, h.num, h.row, h.lnk, h.top, h.dir, h.fil, h.opn, h.siz, h.mst, Nat.le_trans h.few hm, by have := h.len; omega, h.lst⟩

theorem Wo.mono {s : Tr} {r n m : Nat} (h : Wo s r n) (hm : n ≤ m) : Wo s r m := ⟨h.wf.mono hm, h.h16⟩

theorem MadeP.wo {s s' : Tr} {r n : Nat} {p : List UInt8} {k : Int} (h : Wo s r n) (hk : k = 1 ∨ k = 2) (hm : MadeP s r p k s') : Wo s' r (n + 1) := by
  obtain ⟨ms, z, d, t, f, b, mp, ra, rc, hp, e1, ht, h2, hc, hf, hb, rfl⟩ := hm
  have hfl : f ≤ s.row.length := by
    by_cases hle : f ≤ s.row.length
    · exact hle
    · have := hf.lt (i := s.row.length) h.wf.lst (by omega)
      omega
  exact ⟨h.wf.made hf hfl ht h2 (name_len hp) hc hb hk, h.h16⟩

theorem LinkP.wo {s s' : Tr} {r n : Nat} {p q : List UInt8} (h : Wo s r n) (hm : LinkP s r p q s') : Wo s' r (n + 1) := by
  obtain ⟨ps, x, tx, ms, z, d, t, hp, hg, hx, hk, hq, e1, ht, h2, hc, rfl⟩ := hm
  exact ⟨h.wf.linked ht h2 (name_len hq) hc hx hk, h.h16⟩

theorem moved_opn {s : Tr} {d d2 x : Nat} {z z2 : List UInt8} : (s.moved d z d2 z2 x).opn = s.opn := by
  unfold Tr.moved Tr.edit
  cases h : s.T d with
  | none =>
    simp only
    cases s.T d2 <;> rfl
  | some t =>
    simp only
    cases (s.upd d { t with ns := delN z t.ns }).T d2 <;> rfl

theorem RenP.wo {s s' : Tr} {r n : Nat} {p q : List UInt8} (h : Wo s r n) (hn : n ≤ 900000) (hm : RenP s r p q s') : Wo s' r (n + 1) := by
  refine ⟨(hm.wf h.wf hn h.h16).mono (by omega), ?_⟩
  obtain ⟨ms, z, d, t, x, tx, ms2, z2, d2, t2, _, _, _, _, _, _, _, _, _, _, hcase⟩ := hm
  rcases hcase with ⟨_, rfl⟩ | ⟨_, _, _, ⟨_, rfl⟩ | ⟨y, ty, _, _, _, rfl⟩⟩
  · exact h.h16
  · rw [moved_opn]; exact h.h16
  · rw [moved_opn, gone_opn]; exact h.h16

theorem unE_zero {s : Tr} {x : Nat} {t : Th} (h : unE s x t = 0) : t.k ≠ 2 ∧ (t.l = 1 → ∀ f, f < 16 → s.opn f ≠ some x) := by
  unfold unE at h
  split at h
  · cases h
  · rename_i hk
    refine ⟨hk, fun hl f hf ho => ?_⟩
    rw [if_pos] at h
    · cases h
    · unfold Tr.keeps
      rw [hl, (held_iff s x).2 ⟨f, hf, ho⟩]
      rfl

theorem rmE_zero {t : Th} (h : rmE t = 0) : t.k ≠ 1 ∧ t.ns = [] := by
  unfold rmE at h
  split at h
  · cases h
  · rename_i hk
    split at h
    · exact ⟨hk, by assumption⟩
    · cases h

theorem GoneP.wo {s s' : Tr} {r n : Nat} {ms : List (List UInt8)} {z : List UInt8} {EF : Nat → Th → Int} (h : Wo s r n) (hn : n ≤ 900000) (hm : GoneP s r ms z EF s') (hE : ∀ x t, s.T x = some t → EF x t = 0 → t.ns = [] ∧ (t.l = 1 → ∀ f, s.opn f ≠ some x)) : Wo s' r (n + 1) := by
  obtain ⟨d, t, x, tx, e1, ht, h2, hc, hx, h0, rfl⟩ := hm
  obtain ⟨q1, q2⟩ := hE x tx hx h0
  exact ⟨(h.wf.gone (by omega) ht h2 hc hx q1 q2).mono (by omega), by rw [gone_opn]; exact h.h16⟩

theorem DataP.wo {w w' : World} {S : Nat → Prop} {g r n : Nat} {s : Tr} {e : Ending} (h : Wo s r n) (hd : DataP w S g s e w') : CallP w S g s (fun s' => Wo s' r (n + 1)) e w' := by
  obtain ⟨E, s', he, h1, h2, h3⟩ := hd
  refine ⟨E, s', he, h1, h2, h3.imp id (fun q => ⟨q.1, ?_⟩)⟩
  rcases q.2 with rfl | ⟨b, t, d, a, c, ht, hk, hl, rfl⟩
  · exact h.mono (by omega)
  · exact ⟨(h.wf.data ht hk hl a c).mono (by omega), h.h16⟩

theorem CallP.to {w w' : World} {S : Nat → Prop} {g : Nat} {s : Tr} {Q Q' : Tr → Prop} {e : Ending} (h : CallP w S g s Q e w') (hq : ∀ s', Q s' → Q' s') : CallP w S g s Q' e w' := by
  obtain ⟨E, s', he, h1, h2, h3⟩ := h
  exact ⟨E, s', he, h1, h2, h3.imp id (fun q => ⟨q.1, hq s' q.2⟩)⟩

theorem unlink_wo {w : World} {S : Nat → Prop} {g r n : Nat} {s : Tr} (h : TM w S g s) (hw : Wo s r n) (hn : n ≤ 900000) {p : List UInt8} (hpl : p.length ≤ 9223372036854775807) :
    Calls Tryz.prog 29 #[.pointer (some ⟨g, 0, none⟩), .string (St p)] w fun e w' => CallP w S g s (fun s' => Wo s' r (n + 1)) e w' :=
  (unlink_any h hw.wf (by omega) hpl).mono fun e w' hc => hc.to (fun s' ⟨ms, z, _, hg⟩ => hg.wo hw hn (fun x t hx h0 => by
    obtain ⟨q1, q2⟩ := unE_zero h0
    refine ⟨hw.wf.fil x t hx ((hw.wf.ok.kind x t hx).resolve_right q1), fun hl f ho => q2 hl f (hw.h16 f x ho) ho⟩))

theorem rmdir_wo {w : World} {S : Nat → Prop} {g r n : Nat} {s : Tr} (h : TM w S g s) (hw : Wo s r n) (hn : n ≤ 900000) {p : List UInt8} (hpl : p.length ≤ 9223372036854775807) :
    Calls Tryz.prog 31 #[.pointer (some ⟨g, 0, none⟩), .string (St p)] w fun e w' => CallP w S g s (fun s' => Wo s' r (n + 1)) e w' :=
  (rmdir_any h hw.wf (by omega) hpl).mono fun e w' hc => hc.to (fun s' ⟨ms, z, _, hg⟩ => hg.wo hw hn (fun x t hx h0 => by
    obtain ⟨q1, q2⟩ := rmE_zero h0
    refine ⟨q2, fun hl f ho => ?_⟩
    obtain ⟨t', ht', hk⟩ := hw.wf.opn f x ho
    rw [hx] at ht'
    cases ht'
    exact q1 hk))

theorem close_wo {w : World} {S : Nat → Prop} {g r n : Nat} {s : Tr} (h : TM w S g s) (hw : Wo s r n) (f : Int) :
    Calls Tryz.prog 37 #[.pointer (some ⟨g, 0, none⟩), .int .i64 f] w fun e w' => CallP w S g s (fun s' => Wo s' r (n + 1)) e w' := by
  cases hf : s.hnd f with
  | none =>
    refine (close_bad h hw.wf.ok.row_ne f hf).mono ?_
    rintro e w' ⟨rfl, rfl⟩
    exact CallP.no h (by decide) (Below.refl _ _)
  | some b =>
    obtain ⟨k, rfl, hk, ho⟩ := hnd_nat hf
    refine (close_ok h hk ho hw.wf.ok.row_ne).mono ?_
    rintro e w' ⟨rfl, htm, hkp⟩
    refine ⟨0, _, rfl, htm.kept (fun _ _ => rfl) (fun _ q => .inl q) (fun j q => q.elim (fun e => htm.lt j e) (fun e => e.2)), hkp, .inr ⟨rfl, (hw.wf.opened k (fun b q => by cases q)).mono (by omega), fun i b' e => ?_⟩⟩
    have e' : (if i = k then none else s.opn i) = some b' := e
    by_cases hi : i = k
    · rw [if_pos hi] at e'; cases e'
    · rw [if_neg hi] at e'; exact hw.h16 i b' e'

theorem open_wo {w : World} {S : Nat → Prop} {g r n : Nat} {s : Tr} (h : TM w S g s) (hw : Wo s r n) {p : List UInt8} (hpl : p.length ≤ 9223372036854775807) :
    Calls Tryz.prog 18 #[.pointer (some ⟨g, 0, none⟩), .string (St p)] w fun e w' => ∃ f E, e = .returned (.tuple #[.int .i64 f, .int .i64 E]) ∧ CallP w S g s (fun s' => Wo s' r (n + 1)) (.returned (.int .i64 E)) w' := by
  refine (open_any h hw.wf hpl).mono ?_
  rintro e w' ⟨f, E, s', rfl, h1, h2, h3⟩
  refine ⟨f, E, rfl, E, s', rfl, h1, h2, h3.imp id ?_⟩
  rintro ⟨rfl, k, ns, b, t, rfl, hf, hp, hg, ht, hk, rfl⟩
  refine ⟨rfl, (hw.wf.opened k (fun b' q => by cases q; exact ⟨t, ht, hk⟩)).mono (by omega), fun i b' e => ?_⟩
  have e' : (if i = k then some b else s.opn i) = some b' := e
  by_cases hi : i = k
  · rw [hi]; exact hf.lt
  · rw [if_neg hi] at e'; exact hw.h16 i b' e'

set_option maxHeartbeats 4000000 in
theorem play_any {w : World} {S : Nat → Prop} {g r n : Nat} {s : Tr} (h : TM w S g s) (hw : Wo s r n) (hn : n ≤ 900000) (o : OpD) (ha : o.a.length ≤ 9223372036854775807) (hb : o.b.length ≤ 9223372036854775807) (hd : Has w o.da o.dl o.data) (hdl : o.dl ≤ 140737488351232) (hS : 0 < o.dl → ∀ x, o.da = some x → ¬ S x.block ∧ x.block < w.heap.size) :
    Calls Tryz.prog 14 #[.pointer (some ⟨g, 0, none⟩), .agg o.v] w fun e w' => CallP w S g s (fun s' => Wo s' r (n + 1)) e w' := by
  have hb0 : Below w.heap.size w (w.alloc (.cells o.v 36)) := (Below.refl _ w).alloc (Nat.le_refl _) _
  have h0 := h.below hb0
  have hSw := h.lt
  have HB := hide hb0
  have hbl := Bl.new w o.v 36
  have c0 := hbl.cell 0 _ rfl
  have c1 := hbl.cell 1 _ rfl
  have c2 := hbl.cell 2 _ rfl
  have c3 := hbl.cell 3 _ rfl
  have c4 := hbl.cell 4 _ rfl
  have c5 := hbl.cell 5 _ rfl
  have c6 := hbl.cell 6 _ rfl
  have KNone : Hid (∀ w' : World, Below w.heap.size w w' → CallP w S g s (fun s' => Wo s' r (n + 1)) (.returned (.int .i64 0)) w') := fun w' hb' => ⟨0, s, rfl, h.up (Nat.le_refl _) hb', Kp.of hb', .inr ⟨rfl, hw.mono (by omega)⟩⟩
  have K1 := hide ((create_any h0 hw.wf hn ha).mono fun e w' hc => hc.to (fun s' q => q.wo hw (.inl rfl)))
  have K2 := hide ((mkdir_any h0 hw.wf hn ha).mono fun e w' hc => hc.to (fun s' q => q.wo hw (.inr rfl)))
  have K3 := hide ((link_any h0 hw.wf hn ha hb).mono fun e w' hc => hc.to (fun s' q => q.wo hw))
  have K4 := hide ((rename_any h0 hw.wf hn hw.h16 ha hb).mono fun e w' hc => hc.to (fun s' q => q.wo hw hn))
  have K5 := hide (unlink_wo h0 hw hn ha)
  have K6 := hide (rmdir_wo h0 hw hn ha)
  have K9 := hide (open_wo h0 hw ha)
  have K10 := hide (close_wo h0 hw o.f)
  have K12 := hide ((write_any h0 hw.wf o.f o.n o.da o.dl o.dc o.data (by by_cases h0 : 0 < o.dl; exact hd.keptW (fun x hx => hb0.block _ (hS h0 x hx).2); exact ⟨hd.1, fun q => absurd q h0⟩) hdl (fun h0 x hx => ⟨(hS h0 x hx).1, Nat.lt_of_lt_of_le (hS h0 x hx).2 hb0.size⟩)).mono fun e w' hc => hc.wo hw)
  have K13 := hide ((truncate_any h0 hw.wf o.f o.n).mono fun e w' hc => hc.wo hw)
  clear h h0 hw ha hb hd hS hb0 hbl hdl
  obtain ⟨kind, oa, ob, of, on, om, da, dl, dc, data⟩ := o
  unfold OpD.v at *
  simp only at *
  generalize St oa = sa at *
  generalize St ob = sb at *
  by_cases k1 : kind = 1
  · subst k1
    clear K2 K3 K4 K5 K6 K9 K10 K12 K13 KNone
    go_enter Tryz.func14, Tryz.ntmps14
    go_wp2_with fail
    generalize w.alloc (.cells #[.int .i64 1, .string sa, .string sb, .int .i64 of, .int .i64 on, .int .i64 om, .slice da dl dc] 36) = w0 at *
    refine (unhide K1).mono ?_
    rintro e w1 hR
    obtain ⟨E, s', rfl, q1, q2, q3⟩ := CallP.later hSw HB.out hR
    have HR := hide (And.intro q1 (And.intro q2 q3))
    clear q1 q2 q3 hR c0 c1 c2 c3 c4 c5 c6 K1
    go_wp2_with fail
    go_ret
    exact ⟨E, s', rfl, HR.out⟩
  have d1 : (kind == 1) = false := by simpa using k1
  by_cases k2 : kind = 2
  · subst k2
    clear K1 K3 K4 K5 K6 K9 K10 K12 K13 KNone
    go_enter Tryz.func14, Tryz.ntmps14
    go_wp2_with fail
    generalize w.alloc (.cells #[.int .i64 2, .string sa, .string sb, .int .i64 of, .int .i64 on, .int .i64 om, .slice da dl dc] 36) = w0 at *
    refine (unhide K2).mono ?_
    rintro e w1 hR
    obtain ⟨E, s', rfl, q1, q2, q3⟩ := CallP.later hSw HB.out hR
    have HR := hide (And.intro q1 (And.intro q2 q3))
    clear q1 q2 q3 hR c0 c1 c2 c3 c4 c5 c6 K2
    go_wp2_with fail
    go_ret
    exact ⟨E, s', rfl, HR.out⟩
  have d2 : (kind == 2) = false := by simpa using k2
  by_cases k3 : kind = 3
  · subst k3
    clear K1 K2 K4 K5 K6 K9 K10 K12 K13 KNone
    go_enter Tryz.func14, Tryz.ntmps14
    go_wp2_with fail
    generalize w.alloc (.cells #[.int .i64 3, .string sa, .string sb, .int .i64 of, .int .i64 on, .int .i64 om, .slice da dl dc] 36) = w0 at *
    refine (unhide K3).mono ?_
    rintro e w1 hR
    obtain ⟨E, s', rfl, q1, q2, q3⟩ := CallP.later hSw HB.out hR
    have HR := hide (And.intro q1 (And.intro q2 q3))
    clear q1 q2 q3 hR c0 c1 c2 c3 c4 c5 c6 K3
    go_wp2_with fail
    go_ret
    exact ⟨E, s', rfl, HR.out⟩
  have d3 : (kind == 3) = false := by simpa using k3
  by_cases k4 : kind = 4
  · subst k4
    clear K1 K2 K3 K5 K6 K9 K10 K12 K13 KNone
    go_enter Tryz.func14, Tryz.ntmps14
    go_wp2_with fail
    generalize w.alloc (.cells #[.int .i64 4, .string sa, .string sb, .int .i64 of, .int .i64 on, .int .i64 om, .slice da dl dc] 36) = w0 at *
    refine (unhide K4).mono ?_
    rintro e w1 hR
    obtain ⟨E, s', rfl, q1, q2, q3⟩ := CallP.later hSw HB.out hR
    have HR := hide (And.intro q1 (And.intro q2 q3))
    clear q1 q2 q3 hR c0 c1 c2 c3 c4 c5 c6 K4
    go_wp2_with fail
    go_ret
    exact ⟨E, s', rfl, HR.out⟩
  have d4 : (kind == 4) = false := by simpa using k4
  by_cases k5 : kind = 5
  · subst k5
    clear K1 K2 K3 K4 K6 K9 K10 K12 K13 KNone
    go_enter Tryz.func14, Tryz.ntmps14
    go_wp2_with fail
    generalize w.alloc (.cells #[.int .i64 5, .string sa, .string sb, .int .i64 of, .int .i64 on, .int .i64 om, .slice da dl dc] 36) = w0 at *
    refine (unhide K5).mono ?_
    rintro e w1 hR
    obtain ⟨E, s', rfl, q1, q2, q3⟩ := CallP.later hSw HB.out hR
    have HR := hide (And.intro q1 (And.intro q2 q3))
    clear q1 q2 q3 hR c0 c1 c2 c3 c4 c5 c6 K5
    go_wp2_with fail
    go_ret
    exact ⟨E, s', rfl, HR.out⟩
  have d5 : (kind == 5) = false := by simpa using k5
  by_cases k6 : kind = 6
  · subst k6
    clear K1 K2 K3 K4 K5 K9 K10 K12 K13 KNone
    go_enter Tryz.func14, Tryz.ntmps14
    go_wp2_with fail
    generalize w.alloc (.cells #[.int .i64 6, .string sa, .string sb, .int .i64 of, .int .i64 on, .int .i64 om, .slice da dl dc] 36) = w0 at *
    refine (unhide K6).mono ?_
    rintro e w1 hR
    obtain ⟨E, s', rfl, q1, q2, q3⟩ := CallP.later hSw HB.out hR
    have HR := hide (And.intro q1 (And.intro q2 q3))
    clear q1 q2 q3 hR c0 c1 c2 c3 c4 c5 c6 K6
    go_wp2_with fail
    go_ret
    exact ⟨E, s', rfl, HR.out⟩
  have d6 : (kind == 6) = false := by simpa using k6
  by_cases k9 : kind = 9
  · subst k9
    clear K1 K2 K3 K4 K5 K6 K10 K12 K13 KNone
    go_enter Tryz.func14, Tryz.ntmps14
    go_wp2_with fail
    generalize w.alloc (.cells #[.int .i64 9, .string sa, .string sb, .int .i64 of, .int .i64 on, .int .i64 om, .slice da dl dc] 36) = w0 at *
    refine (unhide K9).mono ?_
    rintro e w1 ⟨f, E, rfl, hR⟩
    obtain ⟨E', s', e1, q1, q2, q3⟩ := CallP.later hSw HB.out hR
    cases e1
    have HR := hide (And.intro q1 (And.intro q2 q3))
    clear q1 q2 q3 hR c0 c1 c2 c3 c4 c5 c6 K9
    go_wp2_with fail
    go_ret
    exact ⟨E, s', rfl, HR.out⟩
  have d9 : (kind == 9) = false := by simpa using k9
  by_cases k10 : kind = 10
  · subst k10
    clear K1 K2 K3 K4 K5 K6 K9 K12 K13 KNone
    go_enter Tryz.func14, Tryz.ntmps14
    go_wp2_with fail
    generalize w.alloc (.cells #[.int .i64 10, .string sa, .string sb, .int .i64 of, .int .i64 on, .int .i64 om, .slice da dl dc] 36) = w0 at *
    refine (unhide K10).mono ?_
    rintro e w1 hR
    obtain ⟨E, s', rfl, q1, q2, q3⟩ := CallP.later hSw HB.out hR
    have HR := hide (And.intro q1 (And.intro q2 q3))
    clear q1 q2 q3 hR c0 c1 c2 c3 c4 c5 c6 K10
    go_wp2_with fail
    go_ret
    exact ⟨E, s', rfl, HR.out⟩
  have d10 : (kind == 10) = false := by simpa using k10
  by_cases k12 : kind = 12
  · subst k12
    clear K1 K2 K3 K4 K5 K6 K9 K10 K13 KNone
    go_enter Tryz.func14, Tryz.ntmps14
    go_wp2_with fail
    generalize w.alloc (.cells #[.int .i64 12, .string sa, .string sb, .int .i64 of, .int .i64 on, .int .i64 om, .slice da dl dc] 36) = w0 at *
    refine (unhide K12).mono ?_
    rintro e w1 hR
    obtain ⟨E, s', rfl, q1, q2, q3⟩ := CallP.later hSw HB.out hR
    have HR := hide (And.intro q1 (And.intro q2 q3))
    clear q1 q2 q3 hR c0 c1 c2 c3 c4 c5 c6 K12
    go_wp2_with fail
    go_ret
    exact ⟨E, s', rfl, HR.out⟩
  have d12 : (kind == 12) = false := by simpa using k12
  by_cases k13 : kind = 13
  · subst k13
    clear K1 K2 K3 K4 K5 K6 K9 K10 K12 KNone
    go_enter Tryz.func14, Tryz.ntmps14
    go_wp2_with fail
    generalize w.alloc (.cells #[.int .i64 13, .string sa, .string sb, .int .i64 of, .int .i64 on, .int .i64 om, .slice da dl dc] 36) = w0 at *
    refine (unhide K13).mono ?_
    rintro e w1 hR
    obtain ⟨E, s', rfl, q1, q2, q3⟩ := CallP.later hSw HB.out hR
    have HR := hide (And.intro q1 (And.intro q2 q3))
    clear q1 q2 q3 hR c0 c1 c2 c3 c4 c5 c6 K13
    go_wp2_with fail
    go_ret
    exact ⟨E, s', rfl, HR.out⟩
  have d13 : (kind == 13) = false := by simpa using k13
  clear K1 K2 K3 K4 K5 K6 K9 K10 K12 K13
  go_enter Tryz.func14, Tryz.ntmps14
  go_wp2_with fail
  go_ret
  exact KNone.out _ HB.out

end Go.Proofs.YtknmgefpjdfenaaGreat
