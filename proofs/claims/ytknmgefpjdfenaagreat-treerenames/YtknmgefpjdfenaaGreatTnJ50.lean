/- Joined: TPlay, TPv. -/
import Derived.Test.YtknmgefpjdfenaaGreatTnJ49
import Derived.Test.YtknmgefpjdfenaaGreatTnTOpenO
/- play: one call, whatever it be. -/
namespace Go.Proofs.YtknmgefpjdfenaaGreat
open Go.RowKit Go.Shelf Go.Maps
set_option linter.unusedVariables false
set_option maxRecDepth 100000

/-- A tree that has come about by calls, and its handles. -/
structure Wo (s : Tr) (r n : Nat) : Prop where
  wf : Wf s r n
  h16 : ∀ f b, s.opn f = some b → f < 16

theorem Wf.mono {s : Tr} {r n m : Nat} (h : Wf s r n) (hm : n ≤ m) : Wf s r m :=
  ⟨h.ok, h.rk, h.liv, h.ris, h.num, h.row, h.lnk, h.top, h.dir, h.fil, h.opn, h.siz, h.mst, Nat.le_trans h.few hm, by have := h.len; omega, h.lst⟩

theorem Wo.mono {s : Tr} {r n m : Nat} (h : Wo s r n) (hm : n ≤ m) : Wo s r m := ⟨h.wf.mono hm, h.h16⟩

theorem MadeP.wo {s s' : Tr} {r n : Nat} {p : List UInt8} {k : Int} (h : Wo s r n) (hk : k = 1 ∨ k = 2) (hm : MadeP s r p k s') : Wo s' r (n + 1) := by
  obtain ⟨ms, z, d, t, f, b, mp, ra, rc, hp, e1, ht, h2, hc, hf, hb, rfl⟩ := hm
  have hfl : f ≤ s.row.length := by
    by_cases hle : f ≤ s.row.length
    · exact hle
    · have := hf.lt (i := s.row.length) h.wf.lst (by omega)
      omega
  exact ⟨h.wf.made hf hfl ht h2 (name_len hp) hc hb hk, h.h16⟩

theorem LinkP.wo {s s' : Tr} {r n : Nat} {p q : List UInt8} (h : Wo s r n) (hm : LinkP s r p q s') : Wo s' r (n + 1) := by
  obtain ⟨ps, x, tx, ms, z, d, t, hp, hg, hx, hk, hq, e1, ht, h2, hc, rfl⟩ := hm
  exact ⟨h.wf.linked ht h2 (name_len hq) hc hx hk, h.h16⟩

theorem moved_opn {s : Tr} {d d2 x : Nat} {z z2 : List UInt8} : (s.moved d z d2 z2 x).opn = s.opn := by
  unfold Tr.moved Tr.edit
  cases h : s.T d with
  | none =>
    simp only
    cases s.T d2 <;> rfl
  | some t =>
    simp only
    cases (s.upd d { t with ns := delN z t.ns }).T d2 <;> rfl

theorem RenP.wo {s s' : Tr} {r n : Nat} {p q : List UInt8} (h : Wo s r n) (hn : n ≤ 900000) (hm : RenP s r p q s') : Wo s' r (n + 1) := by
  refine ⟨(hm.wf h.wf hn h.h16).mono (by omega), ?_⟩
  obtain ⟨ms, z, d, t, x, tx, ms2, z2, d2, t2, _, _, _, _, _, _, _, _, _, _, hcase⟩ := hm
  rcases hcase with ⟨_, rfl⟩ | ⟨_, _, _, ⟨_, rfl⟩ | ⟨y, ty, _, _, _, rfl⟩⟩
  · exact h.h16
  · rw [moved_opn]; exact h.h16
  · rw [moved_opn, gone_opn]; exact h.h16

theorem unE_zero {s : Tr} {x : Nat} {t : Th} (h : unE s x t = 0) : t.k ≠ 2 ∧ (t.l = 1 → ∀ f, f < 16 → s.opn f ≠ some x) := by
  unfold unE at h
  split at h
  · cases h
  · rename_i hk
    refine ⟨hk, fun hl f hf ho => ?_⟩
    rw [if_pos] at h
    · cases h
    · unfold Tr.keeps
      rw [hl, (held_iff s x).2 ⟨f, hf, ho⟩]
      rfl

theorem rmE_zero {t : Th} (h : rmE t = 0) : t.k ≠ 1 ∧ t.ns = [] := by
  unfold rmE at h
  split at h
  · cases h
  · rename_i hk
    split at h
    · exact ⟨hk, by assumption⟩
    · cases h

theorem GoneP.wo {s s' : Tr} {r n : Nat} {ms : List (List UInt8)} {z : List UInt8} {EF : Nat → Th → Int} (h : Wo s r n) (hn : n ≤ 900000) (hm : GoneP s r ms z EF s') (hE : ∀ x t, s.T x = some t → EF x t = 0 → t.ns = [] ∧ (t.l = 1 → ∀ f, s.opn f ≠ some x)) : Wo s' r (n + 1) := by
  obtain ⟨d, t, x, tx, e1, ht, h2, hc, hx, h0, rfl⟩ := hm
  obtain ⟨q1, q2⟩ := hE x tx hx h0
  exact ⟨(h.wf.gone (by omega) ht h2 hc hx q1 q2).mono (by omega), by rw [gone_opn]; exact h.h16⟩

theorem DataP.wo {w w' : World} {S : Nat → Prop} {g r n : Nat} {s : Tr} {e : Ending} (h : Wo s r n) (hd : DataP w S g s e w') : CallP w S g s (fun s' => Wo s' r (n + 1)) e w' := by
  obtain ⟨E, s', he, h1, h2, h3⟩ := hd
  refine ⟨E, s', he, h1, h2, h3.imp id (fun q => ⟨q.1, ?_⟩)⟩
  rcases q.2 with rfl | ⟨b, t, d, a, c, ht, hk, hl, rfl⟩
  · exact h.mono (by omega)
  · exact ⟨(h.wf.data ht hk hl a c).mono (by omega), h.h16⟩

theorem CallP.to {w w' : World} {S : Nat → Prop} {g : Nat} {s : Tr} {Q Q' : Tr → Prop} {e : Ending} (h : CallP w S g s Q e w') (hq : ∀ s', Q s' → Q' s') : CallP w S g s Q' e w' := by
  obtain ⟨E, s', he, h1, h2, h3⟩ := h
  exact ⟨E, s', he, h1, h2, h3.imp id (fun q => ⟨q.1, hq s' q.2⟩)⟩

theorem unlink_wo {w : World} {S : Nat → Prop} {g r n : Nat} {s : Tr} (h : TM w S g s) (hw : Wo s r n) (hn : n ≤ 900000) {p : List UInt8} (hpl : p.length ≤ 9223372036854775807) :
    Calls Tryz.prog 29 #[.pointer (some ⟨g, 0, none⟩), .string (St p)] w fun e w' => CallP w S g s (fun s' => Wo s' r (n + 1)) e w' :=
  (unlink_any h hw.wf (by omega) hpl).mono fun e w' hc => hc.to (fun s' ⟨ms, z, _, hg⟩ => hg.wo hw hn (fun x t hx h0 => by
    obtain ⟨q1, q2⟩ := unE_zero h0
    refine ⟨hw.wf.fil x t hx ((hw.wf.ok.kind x t hx).resolve_right q1), fun hl f ho => q2 hl f (hw.h16 f x ho) ho⟩))

theorem rmdir_wo {w : World} {S : Nat → Prop} {g r n : Nat} {s : Tr} (h : TM w S g s) (hw : Wo s r n) (hn : n ≤ 900000) {p : List UInt8} (hpl : p.length ≤ 9223372036854775807) :
    Calls Tryz.prog 31 #[.pointer (some ⟨g, 0, none⟩), .string (St p)] w fun e w' => CallP w S g s (fun s' => Wo s' r (n + 1)) e w' :=
  (rmdir_any h hw.wf (by omega) hpl).mono fun e w' hc => hc.to (fun s' ⟨ms, z, _, hg⟩ => hg.wo hw hn (fun x t hx h0 => by
    obtain ⟨q1, q2⟩ := rmE_zero h0
    refine ⟨q2, fun hl f ho => ?_⟩
    obtain ⟨t', ht', hk⟩ := hw.wf.opn f x ho
    rw [hx] at ht'
    cases ht'
    exact q1 hk))

theorem close_wo {w : World} {S : Nat → Prop} {g r n : Nat} {s : Tr} (h : TM w S g s) (hw : Wo s r n) (f : Int) :
    Calls Tryz.prog 37 #[.pointer (some ⟨g, 0, none⟩), .int .i64 f] w fun e w' => CallP w S g s (fun s' => Wo s' r (n + 1)) e w' := by
  cases hf : s.hnd f with
  | none =>
    refine (close_bad h hw.wf.ok.row_ne f hf).mono ?_
    rintro e w' ⟨rfl, rfl⟩
    exact CallP.no h (by decide) (Below.refl _ _)
  | some b =>
    obtain ⟨k, rfl, hk, ho⟩ := hnd_nat hf
    refine (close_ok h hk ho hw.wf.ok.row_ne).mono ?_
    rintro e w' ⟨rfl, htm, hkp⟩
    refine ⟨0, _, rfl, htm.kept (fun _ _ => rfl) (fun _ q => .inl q) (fun j q => q.elim (fun e => htm.lt j e) (fun e => e.2)), hkp, .inr ⟨rfl, (hw.wf.opened k (fun b q => by cases q)).mono (by omega), fun i b' e => ?_⟩⟩
    have e' : (if i = k then none else s.opn i) = some b' := e
    by_cases hi : i = k
    · rw [if_pos hi] at e'; cases e'
    · rw [if_neg hi] at e'; exact hw.h16 i b' e'

theorem open_wo {w : World} {S : Nat → Prop} {g r n : Nat} {s : Tr} (h : TM w S g s) (hw : Wo s r n) {p : List UInt8} (hpl : p.length ≤ 9223372036854775807) :
    Calls Tryz.prog 18 #[.pointer (some ⟨g, 0, none⟩), .string (St p)] w fun e w' => ∃ f E, e = .returned (.tuple #[.int .i64 f, .int .i64 E]) ∧ CallP w S g s (fun s' => Wo s' r (n + 1)) (.returned (.int .i64 E)) w' := by
  refine (open_any h hw.wf hpl).mono ?_
  rintro e w' ⟨f, E, s', rfl, h1, h2, h3⟩
  refine ⟨f, E, rfl, E, s', rfl, h1, h2, h3.imp id ?_⟩
  rintro ⟨rfl, k, ns, b, t, rfl, hf, hp, hg, ht, hk, rfl⟩
  refine ⟨rfl, (hw.wf.opened k (fun b' q => by cases q; exact ⟨t, ht, hk⟩)).mono (by omega), fun i b' e => ?_⟩
  have e' : (if i = k then some b else s.opn i) = some b' := e
  by_cases hi : i = k
  · rw [hi]; exact hf.lt
  · rw [if_neg hi] at e'; exact hw.h16 i b' e'

set_option maxHeartbeats 4000000 in
theorem play_any {w : World} {S : Nat → Prop} {g r n : Nat} {s : Tr} (h : TM w S g s) (hw : Wo s r n) (hn : n ≤ 900000) (o : OpD) (ha : o.a.length ≤ 9223372036854775807) (hb : o.b.length ≤ 9223372036854775807) (hd : Has w o.da o.dl o.data) (hdl : o.dl ≤ 140737488351232) (hS : 0 < o.dl → ∀ x, o.da = some x → ¬ S x.block ∧ x.block < w.heap.size) :
    Calls Tryz.prog 14 #[.pointer (some ⟨g, 0, none⟩), .agg o.v] w fun e w' => CallP w S g s (fun s' => Wo s' r (n + 1)) e w' := by
  have hb0 : Below w.heap.size w (w.alloc (.cells o.v 36)) := (Below.refl _ w).alloc (Nat.le_refl _) _
  have h0 := h.below hb0
  have hSw := h.lt
  have HB := hide hb0
  have hbl := Bl.new w o.v 36
  have c0 := hbl.cell 0 _ rfl
  have c1 := hbl.cell 1 _ rfl
  have c2 := hbl.cell 2 _ rfl
  have c3 := hbl.cell 3 _ rfl
  have c4 := hbl.cell 4 _ rfl
  have c5 := hbl.cell 5 _ rfl
  have c6 := hbl.cell 6 _ rfl
  have KNone : Hid (∀ w' : World, Below w.heap.size w w' → CallP w S g s (fun s' => Wo s' r (n + 1)) (.returned (.int .i64 0)) w') := fun w' hb' => ⟨0, s, rfl, h.up (Nat.le_refl _) hb', Kp.of hb', .inr ⟨rfl, hw.mono (by omega)⟩⟩
  have K1 := hide ((create_any h0 hw.wf hn ha).mono fun e w' hc => hc.to (fun s' q => q.wo hw (.inl rfl)))
  have K2 := hide ((mkdir_any h0 hw.wf hn ha).mono fun e w' hc => hc.to (fun s' q => q.wo hw (.inr rfl)))
  have K3 := hide ((link_any h0 hw.wf hn ha hb).mono fun e w' hc => hc.to (fun s' q => q.wo hw))
  have K4 := hide ((rename_any h0 hw.wf hn hw.h16 ha hb).mono fun e w' hc => hc.to (fun s' q => q.wo hw hn))
  have K5 := hide (unlink_wo h0 hw hn ha)
  have K6 := hide (rmdir_wo h0 hw hn ha)
  have K9 := hide (open_wo h0 hw ha)
  have K10 := hide (close_wo h0 hw o.f)
  have K12 := hide ((write_any h0 hw.wf o.f o.n o.da o.dl o.dc o.data (by by_cases h0 : 0 < o.dl; exact hd.keptW (fun x hx => hb0.block _ (hS h0 x hx).2); exact ⟨hd.1, fun q => absurd q h0⟩) hdl (fun h0 x hx => ⟨(hS h0 x hx).1, Nat.lt_of_lt_of_le (hS h0 x hx).2 hb0.size⟩)).mono fun e w' hc => hc.wo hw)
  have K13 := hide ((truncate_any h0 hw.wf o.f o.n).mono fun e w' hc => hc.wo hw)
  clear h h0 hw ha hb hd hS hb0 hbl hdl
  obtain ⟨kind, oa, ob, of, on, om, da, dl, dc, data⟩ := o
  unfold OpD.v at *
  simp only at *
  generalize St oa = sa at *
  generalize St ob = sb at *
  by_cases k1 : kind = 1
  · subst k1
    clear K2 K3 K4 K5 K6 K9 K10 K12 K13 KNone
    go_enter Tryz.func14, Tryz.ntmps14
    go_wp2_with fail
    generalize w.alloc (.cells #[.int .i64 1, .string sa, .string sb, .int .i64 of, .int .i64 on, .int .i64 om, .slice da dl dc] 36) = w0 at *
    refine (unhide K1).mono ?_
    rintro e w1 hR
    obtain ⟨E, s', rfl, q1, q2, q3⟩ := CallP.later hSw HB.out hR
    have HR := hide (And.intro q1 (And.intro q2 q3))
    clear q1 q2 q3 hR c0 c1 c2 c3 c4 c5 c6 K1
    go_wp2_with fail
    go_ret
    exact ⟨E, s', rfl, HR.out⟩
  have d1 : (kind == 1) = false := by simpa using k1
  by_cases k2 : kind = 2
  · subst k2
    clear K1 K3 K4 K5 K6 K9 K10 K12 K13 KNone
    go_enter Tryz.func14, Tryz.ntmps14
    go_wp2_with fail
    generalize w.alloc (.cells #[.int .i64 2, .string sa, .string sb, .int .i64 of, .int .i64 on, .int .i64 om, .slice da dl dc] 36) = w0 at *
    refine (unhide K2).mono ?_
    rintro e w1 hR
    obtain ⟨E, s', rfl, q1, q2, q3⟩ := CallP.later hSw HB.out hR
    have HR := hide (And.intro q1 (And.intro q2 q3))
    clear q1 q2 q3 hR c0 c1 c2 c3 c4 c5 c6 K2
    go_wp2_with fail
    go_ret
    exact ⟨E, s', rfl, HR.out⟩
  have d2 : (kind == 2) = false := by simpa using k2
  by_cases k3 : kind = 3
  · subst k3
    clear K1 K2 K4 K5 K6 K9 K10 K12 K13 KNone
    go_enter Tryz.func14, Tryz.ntmps14
    go_wp2_with fail
    generalize w.alloc (.cells #[.int .i64 3, .string sa, .string sb, .int .i64 of, .int .i64 on, .int .i64 om, .slice da dl dc] 36) = w0 at *
    refine (unhide K3).mono ?_
    rintro e w1 hR
    obtain ⟨E, s', rfl, q1, q2, q3⟩ := CallP.later hSw HB.out hR
    have HR := hide (And.intro q1 (And.intro q2 q3))
    clear q1 q2 q3 hR c0 c1 c2 c3 c4 c5 c6 K3
    go_wp2_with fail
    go_ret
    exact ⟨E, s', rfl, HR.out⟩
  have d3 : (kind == 3) = false := by simpa using k3
  by_cases k4 : kind = 4
  · subst k4
    clear K1 K2 K3 K5 K6 K9 K10 K12 K13 KNone
    go_enter Tryz.func14, Tryz.ntmps14
    go_wp2_with fail
    generalize w.alloc (.cells #[.int .i64 4, .string sa, .string sb, .int .i64 of, .int .i64 on, .int .i64 om, .slice da dl dc] 36) = w0 at *
    refine (unhide K4).mono ?_
    rintro e w1 hR
    obtain ⟨E, s', rfl, q1, q2, q3⟩ := CallP.later hSw HB.out hR
    have HR := hide (And.intro q1 (And.intro q2 q3))
    clear q1 q2 q3 hR c0 c1 c2 c3 c4 c5 c6 K4
    go_wp2_with fail
    go_ret
    exact ⟨E, s', rfl, HR.out⟩
  have d4 : (kind == 4) = false := by simpa using k4
  by_cases k5 : kind = 5
  · subst k5
    clear K1 K2 K3 K4 K6 K9 K10 K12 K13 KNone
    go_enter Tryz.func14, Tryz.ntmps14
    go_wp2_with fail
    generalize w.alloc (.cells #[.int .i64 5, .string sa, .string sb, .int .i64 of, .int .i64 on, .int .i64 om, .slice da dl dc] 36) = w0 at *
    refine (unhide K5).mono ?_
    rintro e w1 hR
    obtain ⟨E, s', rfl, q1, q2, q3⟩ := CallP.later hSw HB.out hR
    have HR := hide (And.intro q1 (And.intro q2 q3))
    clear q1 q2 q3 hR c0 c1 c2 c3 c4 c5 c6 K5
    go_wp2_with fail
    go_ret
    exact ⟨E, s', rfl, HR.out⟩
  have d5 : (kind == 5) = false := by simpa using k5
  by_cases k6 : kind = 6
  · subst k6
    clear K1 K2 K3 K4 K5 K9 K10 K12 K13 KNone
    go_enter Tryz.func14, Tryz.ntmps14
    go_wp2_with fail
    generalize w.alloc (.cells #[.int .i64 6, .string sa, .string sb, .int .i64 of, .int .i64 on, .int .i64 om, .slice da dl dc] 36) = w0 at *
    refine (unhide K6).mono ?_
    rintro e w1 hR
    obtain ⟨E, s', rfl, q1, q2, q3⟩ := CallP.later hSw HB.out hR
    have HR := hide (And.intro q1 (And.intro q2 q3))
    clear q1 q2 q3 hR c0 c1 c2 c3 c4 c5 c6 K6
    go_wp2_with fail
    go_ret
    exact ⟨E, s', rfl, HR.out⟩
  have d6 : (kind == 6) = false := by simpa using k6
  by_cases k9 : kind = 9
  · subst k9
    clear K1 K2 K3 K4 K5 K6 K10 K12 K13 KNone
    go_enter Tryz.func14, Tryz.ntmps14
    go_wp2_with fail
    generalize w.alloc (.cells #[.int .i64 9, .string sa, .string sb, .int .i64 of, .int .i64 on, .int .i64 om, .slice da dl dc] 36) = w0 at *
    refine (unhide K9).mono ?_
    rintro e w1 ⟨f, E, rfl, hR⟩
    obtain ⟨E', s', e1, q1, q2, q3⟩ := CallP.later hSw HB.out hR
    cases e1
    have HR := hide (And.intro q1 (And.intro q2 q3))
    clear q1 q2 q3 hR c0 c1 c2 c3 c4 c5 c6 K9
    go_wp2_with fail
    go_ret
    exact ⟨E, s', rfl, HR.out⟩
  have d9 : (kind == 9) = false := by simpa using k9
  by_cases k10 : kind = 10
  · subst k10
    clear K1 K2 K3 K4 K5 K6 K9 K12 K13 KNone
    go_enter Tryz.func14, Tryz.ntmps14
    go_wp2_with fail
    generalize w.alloc (.cells #[.int .i64 10, .string sa, .string sb, .int .i64 of, .int .i64 on, .int .i64 om, .slice da dl dc] 36) = w0 at *
    refine (unhide K10).mono ?_
    rintro e w1 hR
    obtain ⟨E, s', rfl, q1, q2, q3⟩ := CallP.later hSw HB.out hR
    have HR := hide (And.intro q1 (And.intro q2 q3))
    clear q1 q2 q3 hR c0 c1 c2 c3 c4 c5 c6 K10
    go_wp2_with fail
    go_ret
    exact ⟨E, s', rfl, HR.out⟩
  have d10 : (kind == 10) = false := by simpa using k10
  by_cases k12 : kind = 12
  · subst k12
    clear K1 K2 K3 K4 K5 K6 K9 K10 K13 KNone
    go_enter Tryz.func14, Tryz.ntmps14
    go_wp2_with fail
    generalize w.alloc (.cells #[.int .i64 12, .string sa, .string sb, .int .i64 of, .int .i64 on, .int .i64 om, .slice da dl dc] 36) = w0 at *
    refine (unhide K12).mono ?_
    rintro e w1 hR
    obtain ⟨E, s', rfl, q1, q2, q3⟩ := CallP.later hSw HB.out hR
    have HR := hide (And.intro q1 (And.intro q2 q3))
    clear q1 q2 q3 hR c0 c1 c2 c3 c4 c5 c6 K12
    go_wp2_with fail
    go_ret
    exact ⟨E, s', rfl, HR.out⟩
  have d12 : (kind == 12) = false := by simpa using k12
  by_cases k13 : kind = 13
  · subst k13
    clear K1 K2 K3 K4 K5 K6 K9 K10 K12 KNone
    go_enter Tryz.func14, Tryz.ntmps14
    go_wp2_with fail
    generalize w.alloc (.cells #[.int .i64 13, .string sa, .string sb, .int .i64 of, .int .i64 on, .int .i64 om, .slice da dl dc] 36) = w0 at *
    refine (unhide K13).mono ?_
    rintro e w1 hR
    obtain ⟨E, s', rfl, q1, q2, q3⟩ := CallP.later hSw HB.out hR
    have HR := hide (And.intro q1 (And.intro q2 q3))
    clear q1 q2 q3 hR c0 c1 c2 c3 c4 c5 c6 K13
    go_wp2_with fail
    go_ret
    exact ⟨E, s', rfl, HR.out⟩
  have d13 : (kind == 13) = false := by simpa using k13
  clear K1 K2 K3 K4 K5 K6 K9 K10 K12 K13
  go_enter Tryz.func14, Tryz.ntmps14
  go_wp2_with fail
  go_ret
  exact KNone.out _ HB.out

end Go.Proofs.YtknmgefpjdfenaaGreat

/- All ways in a tree are paths. -/
namespace Go.Proofs.YtknmgefpjdfenaaGreat
open Go.RowKit Go.Shelf Go.Maps
set_option linter.unusedVariables false
set_option maxRecDepth 100000

/-- A name leads from a block to another. -/
def Edge (s : Tr) (b : Nat) (y : List UInt8) (c : Nat) : Prop := ∃ t, s.T b = some t ∧ t.k ≠ 1 ∧ t.ns.lookup y = some c

theorem go_nil {s : Tr} {b c : Nat} (h : go s [] b = (0, some c)) : b = c := by
  unfold go at h
  cases h
  rfl

theorem go_cons {s : Tr} {b c : Nat} {y : List UInt8} {L : List (List UInt8)} : go s (y :: L) b = (0, some c) ↔ ∃ m, Edge s b y m ∧ go s L m = (0, some c) := by
  constructor
  · intro h
    unfold go at h
    cases ht : s.T b with
    | none => simp [ht] at h
    | some t =>
      simp only [ht] at h
      by_cases hk : t.k = 1
      · rw [if_pos hk] at h; cases h
      · rw [if_neg hk] at h
        cases hl : t.ns.lookup y with
        | none => rw [hl] at h; cases h
        | some m => rw [hl] at h; exact ⟨m, ⟨t, ht, hk, hl⟩, h⟩
  · rintro ⟨m, ⟨t, ht, hk, hl⟩, h⟩
    unfold go
    simp only [ht, if_neg hk, hl]
    exact h

theorem go_cut {s : Tr} {c : Nat} {B : List (List UInt8)} : ∀ (A : List (List UInt8)) (b : Nat), go s (A ++ B) b = (0, some c) → ∃ m, go s A b = (0, some m) ∧ go s B m = (0, some c)
  | [], b, h => ⟨b, rfl, h⟩
  | y :: A, b, h => by
    rw [List.cons_append] at h
    obtain ⟨m, he, h1⟩ := go_cons.1 h
    obtain ⟨m', h2, h3⟩ := go_cut A m h1
    exact ⟨m', go_cons.2 ⟨m, he, h2⟩, h3⟩

theorem go_join {s : Tr} {c m : Nat} {B : List (List UInt8)} (h2 : go s B m = (0, some c)) : ∀ (A : List (List UInt8)) (b : Nat), go s A b = (0, some m) → go s (A ++ B) b = (0, some c)
  | [], b, h => by cases go_nil h; exact h2
  | y :: A, b, h => by
    obtain ⟨m', he, h1⟩ := go_cons.1 h
    rw [List.cons_append]
    exact go_cons.2 ⟨m', he, go_join h2 A m' h1⟩

theorem Dn.trans {s : Tr} {x y z : Nat} (h : Dn s x y) (h2 : Dn s y z) : Dn s x z := by
  induction h2 with
  | refl => exact h
  | step _ ht he ih => exact Dn.step ih ht he

theorem go_dn {s : Tr} {c : Nat} : ∀ (L : List (List UInt8)) (b : Nat), go s L b = (0, some c) → Dn s b c
  | [], b, h => by cases go_nil h; exact Dn.refl
  | y :: L, b, h => by
    obtain ⟨m, ⟨t, ht, _, hl⟩, h1⟩ := go_cons.1 h
    exact (Dn.step (e := (y, m)) Dn.refl ht (mem_look hl)).trans (go_dn L m h1)

theorem Wf.dn_rk {s : Tr} {r n : Nat} (h : Wf s r n) : ∃ rk : Nat → Nat, (∀ b t, s.T b = some t → ∀ e ∈ t.ns, rk e.2 < rk b) ∧ ∀ x c, Dn s x c → rk c ≤ rk x := by
  obtain ⟨rk, hrk⟩ := h.rk
  refine ⟨rk, hrk, fun x c hd => ?_⟩
  induction hd with
  | refl => exact Nat.le_refl _
  | step _ ht he ih => have := hrk _ _ ht _ he; omega

/-- What names a thing is not below it. -/
theorem Wf.up {s : Tr} {r n d x : Nat} {t : Th} {z : List UInt8} (h : Wf s r n) (ht : s.T d = some t) (hc : t.ns.lookup z = some x) : ¬ Dn s x d := fun hd => by
  obtain ⟨rk, h1, h2⟩ := h.dn_rk
  have := h1 d t ht _ (mem_look hc)
  have := h2 x d hd
  simp only at *
  omega

/-- All ways are paths. -/
def Pv (s : Tr) (r : Nat) : Prop := ∀ (L : List (List UInt8)) (c : Nat), go s L r = (0, some c) → okN L = true

theorem Pv.sub {s s' : Tr} {r : Nat} (h : Pv s r) (he : ∀ b y c, Edge s' b y c → Edge s b y c) : Pv s' r := by
  have key : ∀ (L : List (List UInt8)) (b c : Nat), go s' L b = (0, some c) → go s L b = (0, some c) := by
    intro L
    induction L with
    | nil => intro b c hg; cases go_nil hg; rfl
    | cons y L ih =>
      intro b c hg
      obtain ⟨m, hm, h1⟩ := go_cons.1 hg
      exact go_cons.2 ⟨m, he b y m hm, ih m c h1⟩
  exact fun L c hg => h L c (key L r c hg)

/-- One way more, that ends. -/
theorem Pv.more {s s' : Tr} {r n d x : Nat} {t : Th} {z : List UInt8} {ms : List (List UInt8)} (h : Pv s r) (hw : Wf s r n) (hok : okN (ms ++ [z]) = true) (hd : go s ms r = (0, some d)) (ht : s.T d = some t) (h2 : t.k = 2) (hx : ∀ y c, ¬ Edge s' x y c)
    (he : ∀ b y c, Edge s' b y c → Edge s b y c ∨ (b = d ∧ y = z ∧ c = x)) : Pv s' r := by
  have key : ∀ (L : List (List UInt8)) (b c : Nat), go s' L b = (0, some c) → go s L b = (0, some c) ∨ ∃ A, L = A ++ [z] ∧ go s A b = (0, some d) := by
    intro L
    induction L with
    | nil => intro b c hg; cases go_nil hg; exact .inl rfl
    | cons y L ih =>
      intro b c hg
      obtain ⟨m, hm, h1⟩ := go_cons.1 hg
      rcases he b y m hm with q | ⟨rfl, rfl, rfl⟩
      · rcases ih m c h1 with q' | ⟨A, e, q'⟩
        · exact .inl (go_cons.2 ⟨m, q, q'⟩)
        · exact .inr ⟨y :: A, by rw [e]; rfl, go_cons.2 ⟨m, q, q'⟩⟩
      · right
        cases L with
        | nil => exact ⟨[], rfl, rfl⟩
        | cons y' L =>
          obtain ⟨m', hm', _⟩ := go_cons.1 h1
          exact absurd hm' (hx y' m')
  intro L c hg
  rcases key L r c hg with q | ⟨A, rfl, q⟩
  · exact h L c q
  · rw [hw.path A.length A ms d t (Nat.le_refl _) ht h2 q hd]
    exact hok

theorem made_edge {s : Tr} {f d b mp : Nat} {k : Int} {t : Th} {z : List UInt8} {ra : Option Addr} {rc : Nat} (ht : s.T d = some t) (h2 : t.k = 2) (hdb : d ≠ b) : (∀ y c, ¬ Edge (s.made f k d t z b mp ra rc) b y c) ∧ ∀ a y c, Edge (s.made f k d t z b mp ra rc) a y c → Edge s a y c ∨ (a = d ∧ y = z ∧ c = b) := by
  have hT : ∀ y, (s.made f k d t z b mp ra rc).T y = if y = d then some { t with ns := putN z b t.ns } else if y = b then some { newT k f mp with l := 1 } else s.T y := fun y => rfl
  have hb : ∀ y c, ¬ Edge (s.made f k d t z b mp ra rc) b y c := by
    rintro y c ⟨u, hu, _, hl⟩
    rw [hT, if_neg (fun e => hdb e.symm), if_pos rfl] at hu
    cases hu
    cases hl
  refine ⟨hb, fun a y c he => ?_⟩
  obtain ⟨u, hu, hk, hl⟩ := he
  by_cases h1 : a = d
  · subst h1
    rw [hT, if_pos rfl] at hu
    cases hu
    have hl' : (putN z b t.ns).lookup y = some c := hl
    rw [look_put] at hl'
    by_cases hy : y = z
    · rw [if_pos hy] at hl'
      cases hl'
      exact .inr ⟨rfl, hy, rfl⟩
    · rw [if_neg hy] at hl'
      exact .inl ⟨t, ht, hk, hl'⟩
  · by_cases h3 : a = b
    · subst h3
      exact absurd ⟨u, hu, hk, hl⟩ (hb y c)
    · rw [hT, if_neg h1, if_neg h3] at hu
      exact .inl ⟨u, hu, hk, hl⟩

theorem linked_edge {s : Tr} {d x : Nat} {t tx : Th} {z : List UInt8} (ht : s.T d = some t) (hx : s.T x = some tx) (hk : tx.k = 1) (hdx : d ≠ x) : (∀ y c, ¬ Edge (s.linked d t z x tx) x y c) ∧ ∀ a y c, Edge (s.linked d t z x tx) a y c → Edge s a y c ∨ (a = d ∧ y = z ∧ c = x) := by
  have hT : ∀ k, (s.linked d t z x tx).T k = if k = d then some { t with ns := putN z x t.ns } else if k = x then some { tx with l := tx.l + 1 } else s.T k := fun k => rfl
  have hb : ∀ y c, ¬ Edge (s.linked d t z x tx) x y c := by
    rintro y c ⟨u, hu, hk', hl⟩
    rw [hT, if_neg (fun e => hdx e.symm), if_pos rfl] at hu
    cases hu
    exact hk' hk
  refine ⟨hb, fun a y c he => ?_⟩
  obtain ⟨u, hu, hk', hl⟩ := he
  by_cases h1 : a = d
  · subst h1
    rw [hT, if_pos rfl] at hu
    cases hu
    have hl' : (putN z x t.ns).lookup y = some c := hl
    rw [look_put] at hl'
    by_cases hy : y = z
    · rw [if_pos hy] at hl'
      cases hl'
      exact .inr ⟨rfl, hy, rfl⟩
    · rw [if_neg hy] at hl'
      exact .inl ⟨t, ht, hk', hl'⟩
  · by_cases h3 : a = x
    · subst h3
      exact absurd ⟨u, hu, hk', hl⟩ (hb y c)
    · rw [hT, if_neg h1, if_neg h3] at hu
      exact .inl ⟨u, hu, hk', hl⟩

theorem gone_edges {s : Tr} {d x : Nat} {t tx : Th} {z : List UInt8} (ht : s.T d = some t) (hx : s.T x = some tx) (hdx : d ≠ x) : ∀ a y c, Edge (s.gone d t z x tx) a y c → Edge s a y c := by
  rintro a y c ⟨u, hu, hk, hl⟩
  obtain ⟨g1, g2⟩ := gone_T (s := s) (t := t) (z := z) (tx := tx) hdx
  by_cases h1 : a = d
  · subst h1
    rw [g1] at hu
    cases hu
    have hl' : (delN z t.ns).lookup y = some c := hl
    rw [look_del] at hl'
    by_cases hy : y = z
    · rw [if_pos hy] at hl'; cases hl'
    · rw [if_neg hy] at hl'
      exact ⟨t, ht, hk, hl'⟩
  · by_cases h3 : a = x
    · subst h3
      unfold Tr.gone at hu
      by_cases hl1 : tx.l = 1
      · rw [if_pos hl1] at hu
        have h' : (if a = a then none else _) = some u := hu
        rw [if_pos rfl] at h'
        cases h'
      · rw [if_neg hl1] at hu
        have h' : (if a = a then some { tx with l := tx.l - 1 } else _) = some u := hu
        rw [if_pos rfl] at h'
        cases h'
        exact ⟨tx, hx, hk, hl⟩
    · rw [g2 a h1 h3] at hu
      exact ⟨u, hu, hk, hl⟩

/-- What leads not to x's end leads there still. -/
theorem gone_go {s : Tr} {d x : Nat} {t tx : Th} {z : List UInt8} (ht : s.T d = some t) (hx : s.T x = some tx) (hdx : d ≠ x) (hc : t.ns.lookup z = some x) (hxe : tx.ns = []) {c : Nat} (hcx : c ≠ x) : ∀ (L : List (List UInt8)) (b : Nat), go s L b = (0, some c) → go (s.gone d t z x tx) L b = (0, some c)
  | [], b, h => by cases go_nil h; rfl
  | y :: L, b, h => by
    obtain ⟨m, ⟨u, hu, hk, hl⟩, h1⟩ := go_cons.1 h
    obtain ⟨g1, g2⟩ := gone_T (s := s) (t := t) (z := z) (tx := tx) hdx
    have hbx : b ≠ x := fun e => by
      subst e
      rw [hx] at hu
      cases hu
      rw [hxe] at hl
      cases hl
    refine go_cons.2 ⟨m, ?_, gone_go ht hx hdx hc hxe hcx L m h1⟩
    by_cases hbd : b = d
    · subst hbd
      rw [ht] at hu
      cases hu
      refine ⟨_, g1, hk, ?_⟩
      show (delN z t.ns).lookup y = some m
      rw [look_del]
      by_cases hy : y = z
      · exfalso
        subst hy
        rw [hc] at hl
        cases hl
        cases L with
        | nil => exact hcx (go_nil h1).symm
        | cons y' L =>
          obtain ⟨m', ⟨v, hv, _, hl'⟩, _⟩ := go_cons.1 h1
          rw [hx] at hv
          cases hv
          rw [hxe] at hl'
          cases hl'
      · rw [if_neg hy]
        exact hl
    · exact ⟨u, by rw [g2 b hbd hbx]; exact hu, hk, hl⟩

section
variable {s : Tr} {r n d d2 x : Nat} {t t2 tx : Th} {z z2 : List UInt8}

theorem moved_edge (ht : s.T d = some t) (ht2 : s.T d2 = some t2) {a : Nat} {y : List UInt8} {c : Nat} : Edge (s.moved d z d2 z2 x) a y c → (a = d2 ∧ y = z2 ∧ c = x) ∨ (¬ (a = d ∧ y = z) ∧ Edge s a y c) := by
  rintro ⟨u, hu, hk, hl⟩
  rw [moved_T ht ht2] at hu
  obtain ⟨v, hv, rfl⟩ := Option.map_eq_some_iff.1 hu
  have hl' : (mvN d z d2 z2 x a v.ns).lookup y = some c := hl
  rw [mvN_look] at hl'
  by_cases h1 : a = d2 ∧ y = z2
  · rw [if_pos h1] at hl'
    cases hl'
    exact .inl ⟨h1.1, h1.2, rfl⟩
  · rw [if_neg h1] at hl'
    by_cases h3 : a = d ∧ y = z
    · rw [if_pos h3] at hl'; cases hl'
    · rw [if_neg h3] at hl'
      exact .inr ⟨h3, v, hv, hk, hl'⟩

theorem edge_moved (ht : s.T d = some t) (ht2 : s.T d2 = some t2) (hc2 : t2.ns.lookup z2 = none) {a : Nat} {y : List UInt8} {c : Nat} (h : Edge s a y c) (hn : ¬ (a = d ∧ y = z)) : Edge (s.moved d z d2 z2 x) a y c := by
  obtain ⟨u, hu, hk, hl⟩ := h
  refine ⟨{ u with ns := mvN d z d2 z2 x a u.ns }, by rw [moved_T ht ht2, hu]; rfl, hk, ?_⟩
  show (mvN d z d2 z2 x a u.ns).lookup y = some c
  rw [mvN_look]
  by_cases h1 : a = d2 ∧ y = z2
  · exfalso
    obtain ⟨rfl, rfl⟩ := h1
    rw [ht2] at hu
    cases hu
    rw [hc2] at hl
    cases hl
  · rw [if_neg h1, if_neg hn]
    exact hl

/-- A way that leads not below x stays. -/
theorem moved_stay (ht : s.T d = some t) (hc : t.ns.lookup z = some x) (ht2 : s.T d2 = some t2) (hc2 : t2.ns.lookup z2 = none) {c : Nat} (hn : ¬ Dn s x c) : ∀ (L : List (List UInt8)) (b : Nat), go s L b = (0, some c) → go (s.moved d z d2 z2 x) L b = (0, some c)
  | [], b, h => by cases go_nil h; rfl
  | y :: L, b, h => by
    obtain ⟨m, he, h1⟩ := go_cons.1 h
    refine go_cons.2 ⟨m, edge_moved ht ht2 hc2 he (fun q => ?_), moved_stay ht hc ht2 hc2 hn L m h1⟩
    obtain ⟨rfl, rfl⟩ := q
    obtain ⟨u, hu, _, hl⟩ := he
    rw [ht] at hu
    cases hu
    rw [hc] at hl
    cases hl
    exact hn (go_dn L _ h1)

/-- Below x nothing has turned. -/
theorem moved_down (ht : s.T d = some t) (ht2 : s.T d2 = some t2) (hc2 : t2.ns.lookup z2 = none) (hd : ¬ Dn s x d) (hd2 : ¬ Dn s x d2) {c : Nat} : ∀ (L : List (List UInt8)) (b : Nat), Dn s x b → (go s L b = (0, some c) ↔ go (s.moved d z d2 z2 x) L b = (0, some c))
  | [], b, hb => by constructor <;> intro h <;> cases go_nil h <;> rfl
  | y :: L, b, hb => by
    constructor
    · intro h
      obtain ⟨m, he, h1⟩ := go_cons.1 h
      have hm : Dn s x m := by obtain ⟨u, hu, _, hl⟩ := he; exact Dn.step (e := (y, m)) hb hu (mem_look hl)
      exact go_cons.2 ⟨m, edge_moved ht ht2 hc2 he (fun q => hd (q.1 ▸ hb)), (moved_down ht ht2 hc2 hd hd2 L m hm).1 h1⟩
    · intro h
      obtain ⟨m, he, h1⟩ := go_cons.1 h
      rcases moved_edge ht ht2 he with ⟨q, _, _⟩ | ⟨_, q⟩
      · exact absurd (q ▸ hb) hd2
      · have hm : Dn s x m := by obtain ⟨u, hu, _, hl⟩ := q; exact Dn.step (e := (y, m)) hb hu (mem_look hl)
        exact go_cons.2 ⟨m, q, (moved_down ht ht2 hc2 hd hd2 L m hm).2 h1⟩

/-- A way behind a move is an old one, or goes by the new name. -/
theorem moved_ways (ht : s.T d = some t) (ht2 : s.T d2 = some t2) {c : Nat} : ∀ (L : List (List UInt8)) (b : Nat), go (s.moved d z d2 z2 x) L b = (0, some c) → go s L b = (0, some c) ∨ ∃ A ys, L = A ++ z2 :: ys ∧ go s A b = (0, some d2) ∧ go (s.moved d z d2 z2 x) ys x = (0, some c)
  | [], b, h => by cases go_nil h; exact .inl rfl
  | y :: L, b, h => by
    obtain ⟨m, he, h1⟩ := go_cons.1 h
    rcases moved_edge ht ht2 he with ⟨rfl, rfl, rfl⟩ | ⟨_, q⟩
    · exact .inr ⟨[], L, rfl, rfl, h1⟩
    · rcases moved_ways ht ht2 L m h1 with q' | ⟨A, ys, e, q1, q2⟩
      · exact .inl (go_cons.2 ⟨m, q, q'⟩)
      · exact .inr ⟨y :: A, ys, by rw [e]; rfl, go_cons.2 ⟨m, q, q1⟩, q2⟩

end

/-- A path of names that is no root does not end with a slash. -/
theorem trim_jn {L : List (List UInt8)} (h : okN L = true) : Lib.trimSuffix (jn L) [47] = if L = [] then [] else jn L := by
  rcases List.eq_nil_or_concat L with rfl | ⟨L', y, rfl⟩
  · rfl
  · rw [List.concat_eq_append] at h ⊢
    have hne : L' ++ [y] ≠ [] := by simp
    rw [if_neg hne]
    have hy := ((okN_iff _).1 h).2.1 y (by simp)
    have h47 := nmB_no hy
    have hl1 := (nmB_len hy).1
    unfold Lib.trimSuffix
    rw [if_neg]
    intro hs
    have hs' : [47] <:+ jn (L' ++ [y]) := List.isSuffixOf_iff_suffix.1 hs
    obtain ⟨w, hw⟩ := hs'
    unfold jn at hw
    rw [if_neg hne, flat_append] at hw
    have hfy : flat [y] = 47 :: y := by simp [flat]
    rw [hfy] at hw
    have h3 := congrArg List.getLast? hw
    rw [List.getLast?_append, List.getLast?_append] at h3
    obtain ⟨y', a, rfl⟩ : ∃ y' a, y = y' ++ [a] := by
      rcases List.eq_nil_or_concat y with rfl | ⟨y', a, rfl⟩
      · simp at hl1
      · exact ⟨y', a, by rw [List.concat_eq_append]⟩
    have e : (47 : UInt8) :: (y' ++ [a]) = (47 :: y') ++ [a] := rfl
    rw [e, List.getLast?_append] at h3
    simp at h3
    exact h47 (by rw [h3]; simp)

theorem sub_jn {L : List (List UInt8)} {y : List UInt8} (h : okN L = true) : subP (jn L) y = jn (L ++ [y]) := by
  unfold subP
  rw [trim_jn h]
  have hne : L ++ [y] ≠ [] := by simp
  unfold jn
  rw [if_neg hne, flat_append]
  have hfy : flat [y] = 47 :: y := by simp [flat]
  rw [hfy]
  by_cases hL : L = []
  · subst hL; simp [flat]
  · rw [if_neg hL, if_neg hL]; simp

/-- What each meets, it meets at a path. -/
theorem dump_paths {s : Tr} {r n : Nat} (hw : Wf s r n) : ∀ (m : Nat) (L : List (List UInt8)) (b : Nat), (∀ ys c, go s ys b = (0, some c) → okN (L ++ ys) = true) → ∀ e ∈ dumpL s m (jn L) b, (spl e.1).isSome = true
  | 0, L, b, _, e, he => by cases he
  | m + 1, L, b, hok, e, he => by
    have h0 : okN L = true := by have := hok [] b rfl; rwa [List.append_nil] at this
    cases ht : s.T b with
    | none => unfold dumpL at he; rw [ht] at he; cases he
    | some t =>
      rw [dumpL_some ht] at he
      rcases List.mem_cons.1 he with rfl | he
      · show (spl (jn L)).isSome = true
        rw [spl_jn h0]; rfl
      · obtain ⟨a, ha, he⟩ := List.mem_flatMap.1 he
        rw [sub_jn h0] at he
        have hk : t.k ≠ 1 := fun q => by have := hw.kind2 ht ha; omega
        refine dump_paths hw m (L ++ [a.1]) a.2 (fun ys c hg => ?_) e he
        have := hok (a.1 :: ys) c (go_cons.2 ⟨a.2, ⟨t, ht, hk, look_mem (hw.ris b t ht) ha⟩, hg⟩)
        rwa [List.append_assoc]

/-- What fits has told. -/
theorem fits_paths {s : Tr} {r n : Nat} (hw : Wf s r n) {rk : Nat → Nat} (hdp : Deep s rk) : ∀ (m : Nat) (L : List (List UInt8)) (b : Nat), (∃ t, s.T b = some t) → rk b < m → okN L = true → (∀ ys c, go s ys b = (0, some c) → ∀ y ∈ ys, nmB y = true) → fitsB s m (jn L) b = true → ∀ ys c, go s ys b = (0, some c) → okN (L ++ ys) = true
  | 0, L, b, _, hr, _, _, _, _, _, _ => by omega
  | m + 1, L, b, ⟨t, ht⟩, hr, h0, hnm, hf, ys, c, hg => by
    rw [fitsB_some ht] at hf
    obtain ⟨_, hall⟩ := Bool.and_eq_true_iff.1 hf
    cases ys with
    | nil => rw [List.append_nil]; exact h0
    | cons y ys =>
      obtain ⟨m', ⟨u, hu, hk, hl⟩, h1⟩ := go_cons.1 hg
      rw [ht] at hu
      cases hu
      have hmem := mem_look hl
      have hfa := List.all_eq_true.1 hall _ hmem
      rw [sub_jn h0] at hfa
      obtain ⟨hlv, _, hr'⟩ := hdp.live b t ht _ hmem
      have hok1 : okN (L ++ [y]) = true := by
        obtain ⟨m2, rfl⟩ : ∃ m2, m = m2 + 1 := ⟨m - 1, by omega⟩
        obtain ⟨t', ht'⟩ := hlv
        rw [fitsB_some ht'] at hfa
        obtain ⟨q, _⟩ := Bool.and_eq_true_iff.1 hfa
        obtain ⟨ns, hns⟩ := Option.isSome_iff_exists.1 q
        obtain ⟨q1, q2, q3⟩ := spl_some hns
        have hall' : ∀ w ∈ L ++ [y], nmB w = true := fun w hw' => by
          rcases List.mem_append.1 hw' with q | q
          · exact ((okN_iff _).1 h0).2.1 w q
          · simp at q
            subst q
            exact hnm (w :: ys) c hg w List.mem_cons_self
        have e := nms_jn hall'
        rw [q3] at e
        rw [← e]
        exact q1
      have hr2 : rk m' < rk b := hr'
      have := fits_paths hw hdp m (L ++ [y]) m' hlv (by omega) hok1 (fun ys' c' hg' w hw' => hnm (y :: ys') c' (go_cons.2 ⟨m', ⟨t, ht, hk, hl⟩, hg'⟩) w (List.mem_cons_of_mem _ hw')) hfa ys c h1
      rwa [List.append_assoc] at this

end Go.Proofs.YtknmgefpjdfenaaGreat

