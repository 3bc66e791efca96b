/- Joined: TLink, TOpenA. -/
import Derived.Test.YtknmgefpjdfenaaGreatTnJ45
/- Create, Mkdir, Open, Link: all ways. -/
namespace Go.Proofs.YtknmgefpjdfenaaGreat
open Go.RowKit Go.Shelf Go.Maps
set_option linter.unusedVariables false
set_option maxRecDepth 100000

theorem free_ex (s : Tr) : ∀ (k i : Nat), s.row.length ≤ i + k → s.least ≤ i → (∀ j, s.least ≤ j → j < i → ∃ b, s.row[j]? = some (some b)) → ∃ f, Free s f ∧ f ≤ max i s.row.length
  | 0, i, h, h1, h2 => ⟨i, ⟨h1, h2, .inl (List.getElem?_eq_none (by omega))⟩, by omega⟩
  | k + 1, i, h, h1, h2 => by
    cases hr : s.row[i]? with
    | none => exact ⟨i, ⟨h1, h2, .inl hr⟩, by omega⟩
    | some o =>
      cases o with
      | none => exact ⟨i, ⟨h1, h2, .inr hr⟩, by omega⟩
      | some b =>
        have hi := (List.getElem?_eq_some_iff.1 hr).1
        obtain ⟨f, hf, hl⟩ := free_ex s k (i + 1) (by omega) (by omega) (fun j q1 q2 => by
          by_cases e : j = i
          · subst e; exact ⟨b, hr⟩
          · exact h2 j q1 (by omega))
        exact ⟨f, hf, by omega⟩

theorem Wf.free {s : Tr} {r n : Nat} (h : Wf s r n) : ∃ f, Free s f ∧ f ≤ s.row.length := by
  obtain ⟨f, hf, hl⟩ := free_ex s s.row.length s.least (by omega) (Nat.le_refl _) (fun j q1 q2 => by omega)
  have := h.lst
  exact ⟨f, hf, by omega⟩

/-- Behind a call that made a thing. -/
def MadeP (s : Tr) (r : Nat) (p : List UInt8) (k : Int) (s' : Tr) : Prop :=
  ∃ ms z d t f b mp ra rc, spl p = some (ms ++ [z]) ∧ plc s ms r = (0, some d) ∧ s.T d = some t ∧ t.k = 2 ∧ t.ns.lookup z = none ∧ Free s f ∧ s.T b = none ∧ s' = s.made f k d t z b mp ra rc

theorem TM.fresh {w : World} {S : Nat → Prop} {g b : Nat} {s : Tr} (h : TM w S g s) (hb : w.heap.size ≤ b) : s.T b = none := by
  cases ht : s.T b with
  | none => rfl
  | some t =>
    have := h.lt b (h.sb b t ht)
    omega

theorem mkdir_any {w : World} {S : Nat → Prop} {g r n : Nat} {s : Tr} (h : TM w S g s) (hw : Wf s r n) (hn : n ≤ 900000) {p : List UInt8} (hpl : p.length ≤ 9223372036854775807) :
    Calls Tryz.prog 21 #[.pointer (some ⟨g, 0, none⟩), .string (St p)] w fun e w' => CallP w S g s (MadeP s r p 2) e w' := by
  cases hs : spl p with
  | none =>
    refine (mkdir_bad h hw.ok.row_ne hpl hs).mono ?_
    rintro e w' ⟨rfl, hb⟩
    exact CallP.no h (by decide) hb
  | some ns =>
    rcases List.eq_nil_or_concat ns with rfl | ⟨ms, z, rfl⟩
    · have hp1 : p = [47] := by have := (spl_some hs).2.1; rw [this]; rfl
      refine (mkdir_ref h hw.ok.row_ne hs (E := 12) (fun u fn hu => ?_)).mono ?_
      · subst hp1
        refine (enter_root u (.pointer (some ⟨g, 0, none⟩)) fn).mono ?_
        rintro e w' ⟨rfl, rfl⟩
        exact ⟨rfl, Below.refl _ _⟩
      · rintro e w' ⟨rfl, hb⟩
        exact CallP.no h (by decide) hb
    · rw [List.concat_eq_append] at hs
      rcases plc_cases hw.ok ms with ⟨e1, e2⟩ | ⟨d, t, e1, ht, h2⟩
      · refine (mkdir_ref h hw.ok.row_ne hs (E := (plc s ms r).1) (fun u fn hu => enter_err hu hw.ok hs fn ⟨e1, e2⟩)).mono ?_
        rintro e w' ⟨rfl, hb⟩
        exact CallP.no h (by omega) hb
      · cases hc : t.ns.lookup z with
        | some c =>
          refine (mkdir_ref h hw.ok.row_ne hs (E := 12) (fun u fn hu => enter_has hu hw.ok hs fn e1 ht h2 hc)).mono ?_
          rintro e w' ⟨rfl, hb⟩
          exact CallP.no h (by decide) hb
        | none =>
          obtain ⟨f, hf, hfl⟩ := hw.free
          have hl := hw.len
          refine (mkdir_new h hw.ok hs e1 ht h2 hc (by have := hw.ns_le ht; omega) hf (by omega) (by omega)).mono ?_
          rintro e w' ⟨b, mp, ra, rc, rfl, hb, htm, hkp⟩
          exact ⟨0, _, rfl, htm, hkp, .inr ⟨rfl, ms, z, d, t, f, b, mp, ra, rc, hs, e1, ht, h2, hc, hf, h.fresh hb, rfl⟩⟩

theorem create_any {w : World} {S : Nat → Prop} {g r n : Nat} {s : Tr} (h : TM w S g s) (hw : Wf s r n) (hn : n ≤ 900000) {p : List UInt8} (hpl : p.length ≤ 9223372036854775807) :
    Calls Tryz.prog 22 #[.pointer (some ⟨g, 0, none⟩), .string (St p)] w fun e w' => CallP w S g s (MadeP s r p 1) e w' := by
  cases hs : spl p with
  | none =>
    refine (create_bad h hw.ok.row_ne hpl hs).mono ?_
    rintro e w' ⟨rfl, hb⟩
    exact CallP.no h (by decide) hb
  | some ns =>
    rcases List.eq_nil_or_concat ns with rfl | ⟨ms, z, rfl⟩
    · have hp1 : p = [47] := by have := (spl_some hs).2.1; rw [this]; rfl
      refine (create_ref h hw.ok.row_ne hs (E := 12) (fun u fn hu => ?_)).mono ?_
      · subst hp1
        refine (enter_root u (.pointer (some ⟨g, 0, none⟩)) fn).mono ?_
        rintro e w' ⟨rfl, rfl⟩
        exact ⟨rfl, Below.refl _ _⟩
      · rintro e w' ⟨rfl, hb⟩
        exact CallP.no h (by decide) hb
    · rw [List.concat_eq_append] at hs
      rcases plc_cases hw.ok ms with ⟨e1, e2⟩ | ⟨d, t, e1, ht, h2⟩
      · refine (create_ref h hw.ok.row_ne hs (E := (plc s ms r).1) (fun u fn hu => enter_err hu hw.ok hs fn ⟨e1, e2⟩)).mono ?_
        rintro e w' ⟨rfl, hb⟩
        exact CallP.no h (by omega) hb
      · cases hc : t.ns.lookup z with
        | some c =>
          refine (create_ref h hw.ok.row_ne hs (E := 12) (fun u fn hu => enter_has hu hw.ok hs fn e1 ht h2 hc)).mono ?_
          rintro e w' ⟨rfl, hb⟩
          exact CallP.no h (by decide) hb
        | none =>
          obtain ⟨f, hf, hfl⟩ := hw.free
          have hl := hw.len
          refine (create_new h hw.ok hs e1 ht h2 hc (by have := hw.ns_le ht; omega) hf (by omega) (by omega)).mono ?_
          rintro e w' ⟨b, mp, ra, rc, rfl, hb, htm, hkp⟩
          exact ⟨0, _, rfl, htm, hkp, .inr ⟨rfl, ms, z, d, t, f, b, mp, ra, rc, hs, e1, ht, h2, hc, hf, h.fresh hb, rfl⟩⟩

/-- refuses of two paths. -/
theorem refuses_two {w : World} {S : Nat → Prop} {g : Nat} {s : Tr} (h : TM w S g s) (hr : s.row ≠ []) {p q : List UInt8} (hp : p.length ≤ 9223372036854775807) (hq : q.length ≤ 9223372036854775807) :
    Calls Tryz.prog 52 #[.pointer (some ⟨g, 0, none⟩), .slice (some ⟨w.heap.size, 0, none⟩) 2 2] (w.alloc (.cells #[.string (St p), .string (St q)] 9)) fun e w' => e = .returned (.int .i64 (refE [p, q])) ∧ Below w.heap.size w w' := by
  have hb : Below w.heap.size w (w.alloc (.cells #[.string (St p), .string (St q)] 9)) := (Below.refl _ w).alloc (Nat.le_refl _) _
  have hh : HasS (w.alloc (.cells #[.string (St p), .string (St q)] 9)) (some ⟨w.heap.size, 0, none⟩) 2 [p, q] := by
    refine ⟨rfl, fun _ => ⟨w.heap.size, 0, rfl, by simp, fun j hj => ?_⟩⟩
    simp only [World.cell?, World.alloc_heap_new]
    match j, hj with
    | 0, _ => rfl
    | 1, _ => rfl
  have := refuses_any (h.below hb) hr _ 2 2 [p, q] hh (by omega) (fun j => by
    match j with
    | 0 => simpa using hp
    | 1 => simpa using hq
    | j + 2 => simp)
  refine this.mono ?_
  rintro e w' ⟨rfl, h2⟩
  exact ⟨rfl, hb.trans (h2.mono hb.size)⟩

theorem refE_two (p q : List UInt8) : (refE [p, q] = 0 ∧ ∃ ps qs, spl p = some ps ∧ spl q = some qs) ∨ (refE [p, q] = 16 ∧ (spl p = none ∨ spl q = none)) := by
  unfold refE
  cases hp : spl p with
  | none => right; simp [hp]
  | some ps =>
    cases hq : spl q with
    | none => right; simp [hp, hq]
    | some qs => left; simp [hp, hq]

theorem link1_any (w : World) (m x : Nat) (hm : w.cell? ⟨m, 0, none⟩ = some (.pointer (some ⟨x, 0, none⟩))) :
    Calls Tryz.prog 70 #[.pointer (some ⟨m, 0, none⟩)] w fun e w' => e = .returned (.pointer (some ⟨x, 0, none⟩)) ∧ w' = w := by
  go_enter Tryz.func70, Tryz.ntmps70
  go_wp2_with fail
  go_ret
  exact ⟨rfl, rfl⟩

/-- The tree with one name more of a file. -/
def Tr.linked (s : Tr) (d : Nat) (t : Th) (z : List UInt8) (x : Nat) (tx : Th) : Tr := (s.upd x { tx with l := tx.l + 1 }).upd d { t with ns := putN z x t.ns }

set_option maxHeartbeats 4000000 in
theorem enter_ln {w : World} {S : Nat → Prop} {g r d x m : Nat} {s : Tr} {t tx : Th} (h : TM w S g s) (hk : Ok s r) {p z : List UInt8} {ms : List (List UInt8)} (hp : spl p = some (ms ++ [z])) (he : plc s ms r = (0, some d)) (ht : s.T d = some t) (h2 : t.k = 2) (hc : t.ns.lookup z = none)
    (hns : t.ns.length < 1000000000) (hx : s.T x = some tx) (hxk : tx.k = 1) (hl : 0 ≤ tx.l ∧ tx.l ≤ 1000000) (hm : w.cell? ⟨m, 0, none⟩ = some (.pointer (some ⟨x, 0, none⟩)) ∧ m < w.heap.size) :
    Calls Tryz.prog 66 #[.pointer (some ⟨g, 0, none⟩), .string (St p), .func (.func 70) #[] #[.pointer (some ⟨m, 0, none⟩)]] w fun e w' => e = .returned (.int .i64 0) ∧ TM w' (Up S w.heap.size w'.heap.size) g (s.linked d t z x tx) ∧ Kp S w w' := by
  have K := place_any h hk hp
  rw [plA_some z he] at K
  have K := hide K
  have dne := not_root hp
  have hz := name_len hp
  have hdx : d ≠ x := fun e => by subst e; rw [ht] at hx; cases hx; omega
  have KN : Hid (∀ u, TM u S g s → Calls Tryz.prog 57 #[.agg #[.pointer (some ⟨d, 0, none⟩), .string (St z)]] u fun e w' => e = .returned (.pointer none) ∧ Below u.heap.size u w') := fun u hu => by
    have := named_any hu ht h2 hz
    rw [hc] at this
    exact this
  have HT := hide h
  have HT0 := hide h
  have HM := hide hm
  have HD := hide (And.intro ht (And.intro h2 (And.intro hz (And.intro hns (And.intro hdx (And.intro hx hl))))))
  clear h hk hp he ht h2 hc hz hns hdx hx hl hm
  generalize St p = sp at *
  generalize hsz : St z = sz at *
  go_enter Tryz.func66, Tryz.ntmps66
  go_wp2_with fail
  refine (unhide K).mono ?_
  rintro e w1 ⟨rfl, hb⟩
  have hb1 : Below w.heap.size w (w1.alloc (.cells #[.pointer (some ⟨d, 0, none⟩), .string sz] 92)) := hb.alloc hb.size _
  have HB := hide hb1
  have HT := hide (HT.out.below hb1)
  have KN := hide (KN.out _ HT.out)
  have hC := C2.new w1 (.pointer (some ⟨d, 0, none⟩)) (.string sz)
  have HC := hide hC
  have k0 := hC.c0
  have k1 := hC.c1
  have hm2 : w.heap.size ≤ w1.heap.size := hb.size
  clear K hb hb1 hC
  go_wp2_with fail
  generalize w1.alloc (.cells #[.pointer (some ⟨d, 0, none⟩), .string sz] 92) = w2 at *
  generalize w1.heap.size = m2 at *
  refine (unhide KN).mono ?_
  rintro e w3 ⟨rfl, hb⟩
  have HB := hide (HB.out.trans (hb.mono HB.out.size))
  have HT := hide (HT.out.below hb)
  have HC := hide (HC.out.below hb HC.out.lt)
  have KB := hide (link1_any w3 m x ((HB.out.cell (p := ⟨m, 0, none⟩) HM.out.2).trans HM.out.1))
  clear KN hb k0 k1
  go_wp2_with fail
  refine (unhide KB).mono ?_
  rintro e w4 ⟨rfl, rfl⟩
  obtain ⟨ht, h2, hz, hns, hdx, hx, hl⟩ := HD.out
  have h4 := HT.out
  obtain ⟨_, _, t2, _, _, tf⟩ := h4.thing_cells hx
  have ew : wrap64 (tx.l + 1) = tx.l + 1 := by unfold wrap64; omega
  have h5 := h4.setH hx (tx.l + 1)
  have hd5 : (s.upd x { tx with l := tx.l + 1 }).T d = some t := by rw [Tr.upd_T, if_neg hdx]; exact ht
  have k5 := h5.dir_map hd5 h2
  have HC5 : C2 (w4.setCell ⟨x, 2, none⟩ (.int .i64 (tx.l + 1))) m2 (.pointer (some ⟨d, 0, none⟩)) (.string sz) := (Below.heap_setCell _ _ _ _ (fun e => by
    have e' : m2 = x := e
    have hc4 := HC.out
    rw [e'] at hc4
    exact rowC_ne (h4.thg x _ hx) hc4)).trans HC.out
  have h5d := h5.drew
  have hm5 := h5d.map d t hd5 h2
  obtain ⟨u', hr, hu, hg, hsz'⟩ := hm5.put hz x hns
  have h6 := h5d.setM hd5 h2 hu hg hsz'
  have hkp5 : Kp S w (w4.setCell ⟨x, 2, none⟩ (.int .i64 (tx.l + 1))).drew := ((Kp.of HB.out).setCell (p := ⟨x, 2, none⟩) (.inl (h4.sb x tx hx)) _).drew
  have hkp6 : Kp S w u' := hkp5.grown hg (.inl (h4.sm d t ht h2))
  have k0 := HC5.c0
  have k1 := HC5.c1
  rw [hsz] at hr
  have HR : Hid (TM u' (Up S w.heap.size u'.heap.size) g (s.linked d t z x tx) ∧ Kp S w u') :=
    ⟨h6.kept (fun _ _ => rfl) (fun _ hx => .inl hx) (fun k hx => hx.elim (fun q => h6.lt k q) (fun q => q.2)), hkp6⟩
  clear h4 h5 h5d h6 hkp5 hkp6 hu hg hsz' hm5 HC5 hd5 HC HT HB hm2 hdx hz hns ht h2 HD KB hx hl HT0 HM
  generalize t.mp = tm at *
  generalize tx.l = lx at *
  go_upto_region 10 with fail
  change Code.wp _ _ _ _ (w4.setCell ⟨x, 2, none⟩ (.int .i64 (lx + 1)))
  generalize w4.setCell ⟨x, 2, none⟩ (.int .i64 (lx + 1)) = w5 at *
  go_region
  go_wp2_with fail
  go_ret
  exact ⟨rfl, HR.out⟩

/-- Behind Link. -/
def LinkP (s : Tr) (r : Nat) (p q : List UInt8) (s' : Tr) : Prop :=
  ∃ ps x tx ms z d t, spl p = some ps ∧ go s ps r = (0, some x) ∧ s.T x = some tx ∧ tx.k = 1 ∧ spl q = some (ms ++ [z]) ∧ plc s ms r = (0, some d) ∧ s.T d = some t ∧ t.k = 2 ∧ t.ns.lookup z = none ∧ s' = s.linked d t z x tx

set_option maxHeartbeats 2000000 in
/-- Link, where what enter does is told. -/
theorem link_of {w : World} {S : Nat → Prop} {g r n x : Nat} {s : Tr} {tx : Th} (h : TM w S g s) (hw : Wf s r n) {p q : List UInt8} {ps qs : List (List UInt8)} (hp : spl p = some ps) (hq : spl q = some qs) (hg : go s ps r = (0, some x)) (hx : s.T x = some tx) (hk : tx.k = 1) (hl : tx.l ≠ 65535) {Q : Tr → Prop}
    (KE : ∀ u m, TM u S g s → (u.cell? ⟨m, 0, none⟩ = some (.pointer (some ⟨x, 0, none⟩)) ∧ m < u.heap.size) → Calls Tryz.prog 66 #[.pointer (some ⟨g, 0, none⟩), .string (St q), .func (.func 70) #[] #[.pointer (some ⟨m, 0, none⟩)]] u fun e w' => CallP u S g s Q e w') :
    Calls Tryz.prog 26 #[.pointer (some ⟨g, 0, none⟩), .string (St p), .string (St q)] w fun e w' => CallP w S g s Q e w' := by
  have K := refuses_two h hw.ok.row_ne (p := p) (q := q) (by have := spl_len hp; omega) (by have := spl_len hq; omega)
  rcases refE_two p q with ⟨e0, _⟩ | ⟨_, e1 | e1⟩
  · rw [e0] at K
    have K := hide K
    have KF : Hid (∀ u, TM u S g s → Calls Tryz.prog 53 #[.pointer (some ⟨g, 0, none⟩), .string (St p)] u fun e w' => e = .returned (.tuple #[.pointer (some ⟨x, 0, none⟩), .int .i64 0]) ∧ Below u.heap.size u w') := fun u hu => by
      have := find_any hu hw.ok hp
      rw [hg] at this
      exact this
    have HT := hide h
    have HX := hide hx
    have KE := hide KE
    have hSw := h.lt
    have d1 : (tx.l == 65535) = false := by simpa using hl
    clear h hw hp hq hg hx e0 hl
    generalize St p = sp at *
    generalize St q = sq at *
    go_enter Tryz.func26, Tryz.ntmps26
    go_wp2_with fail
    refine (unhide K).mono ?_
    rintro e w1 ⟨rfl, hb⟩
    have HT := hide (HT.out.below hb)
    have HB := hide hb
    have KF := hide (KF.out w1 HT.out)
    clear K hb
    go_wp2_with fail
    refine (unhide KF).mono ?_
    rintro e w2 ⟨rfl, hb⟩
    have hb2 : Below w1.heap.size w1 (w2.alloc (.cells #[.pointer (some ⟨x, 0, none⟩)] 63)) := hb.alloc hb.size _
    have h2 := HT.out.below hb2
    have HB := hide (HB.out.trans (hb2.mono HB.out.size))
    have cb : (w2.alloc (.cells #[.pointer (some ⟨x, 0, none⟩)] 63)).cell? ⟨w2.heap.size, 0, none⟩ = some (.pointer (some ⟨x, 0, none⟩)) := cell_box (World.alloc_heap_new _ _)
    have KE := hide (KE.out _ w2.heap.size h2 ⟨cb, by simp⟩)
    obtain ⟨c0, _, c2, _⟩ := h2.thing_cells HX.out
    rw [hk] at c0
    clear KF hb hb2 h2 HT HX
    generalize tx.l = lx at *
    go_upto_region 5 with fail
    change Code.wp _ _ _ _ (w2.alloc (.cells #[.pointer (some ⟨x, 0, none⟩)] 63))
    generalize w2.alloc (.cells #[.pointer (some ⟨x, 0, none⟩)] 63) = w3 at *
    generalize w2.heap.size = m at *
    go_wp2_with fail
    refine (unhide KE).mono ?_
    rintro e w4 hR
    obtain ⟨E, s', rfl, h1, h2, h3⟩ := CallP.later hSw HB.out hR
    have HR := hide (And.intro h1 (And.intro h2 h3))
    clear KE h1 h2 h3 hR c0 c2 cb HB
    go_wp2_with fail
    go_ret
    exact ⟨E, s', rfl, HR.out⟩
  · rw [hp] at e1; cases e1
  · rw [hq] at e1; cases e1

set_option maxHeartbeats 2000000 in
theorem link_any {w : World} {S : Nat → Prop} {g r n : Nat} {s : Tr} (h : TM w S g s) (hw : Wf s r n) (hn : n ≤ 900000) {p q : List UInt8} (hpl : p.length ≤ 9223372036854775807) (hql : q.length ≤ 9223372036854775807) :
    Calls Tryz.prog 26 #[.pointer (some ⟨g, 0, none⟩), .string (St p), .string (St q)] w fun e w' => CallP w S g s (LinkP s r p q) e w' := by
  have K := refuses_two h hw.ok.row_ne hpl hql
  have HT := hide h
  rcases refE_two p q with ⟨e0, ps, qs, hp, hq⟩ | ⟨e0, _⟩
  · obtain ⟨tr, htr, _⟩ := hw.ok.dir
    rcases go_ends hw.ok ps r ⟨tr, htr⟩ with ⟨g1, x, tx, g2, hx⟩ | ⟨g1, g2⟩
    · have hg : go s ps r = (0, some x) := Prod.ext g1 g2
      by_cases hd : tx.k = 1 ∧ tx.l ≠ 65535
      · refine link_of h hw hp hq hg hx hd.1 hd.2 (fun u m hu hm => ?_)
        rcases List.eq_nil_or_concat qs with rfl | ⟨ms, z, rfl⟩
        · have hq1 : q = [47] := by have := (spl_some hq).2.1; rw [this]; rfl
          subst hq1
          refine (enter_root u (.pointer (some ⟨g, 0, none⟩)) _).mono ?_
          rintro e w' ⟨rfl, rfl⟩
          exact CallP.no hu (by decide) (Below.refl _ _)
        · rw [List.concat_eq_append] at hq
          rcases plc_cases hw.ok ms with ⟨e1, e2⟩ | ⟨d, t, e1, ht, h2⟩
          · refine (enter_err hu hw.ok hq _ ⟨e1, e2⟩).mono ?_
            rintro e w' ⟨rfl, hb⟩
            exact CallP.no hu (by omega) hb
          · cases hc : t.ns.lookup z with
            | some c =>
              refine (enter_has hu hw.ok hq _ e1 ht h2 hc).mono ?_
              rintro e w' ⟨rfl, hb⟩
              exact CallP.no hu (by decide) hb
            | none =>
              have hxr : x ≠ r := fun e => by
                subst e
                obtain ⟨tr', htr', hk2, _⟩ := hw.root
                rw [hx] at htr'
                cases htr'
                omega
              have hl := hw.lnk x tx hx hxr
              have hc2 := hw.cnt_le x
              refine (enter_ln hu hw.ok hq e1 ht h2 hc (by have := hw.ns_le ht; omega) hx hd.1 (by omega) hm).mono ?_
              rintro e w' ⟨rfl, htm, hkp⟩
              exact ⟨0, _, rfl, htm, hkp, .inr ⟨rfl, ps, x, tx, ms, z, d, t, hp, hg, hx, hd.1, hq, e1, ht, h2, hc, rfl⟩⟩
      · rw [e0] at K
        have K := hide K
        have KF : Hid (∀ u, TM u S g s → Calls Tryz.prog 53 #[.pointer (some ⟨g, 0, none⟩), .string (St p)] u fun e w' => e = .returned (.tuple #[.pointer (some ⟨x, 0, none⟩), .int .i64 0]) ∧ Below u.heap.size u w') := fun u hu => by
          have := find_any hu hw.ok hp
          rw [hg] at this
          exact this
        have HX := hide hx
        have hkk := hw.ok.kind x tx hx
        clear h hw hp hq hg hx e0 g1 g2 htr
        generalize St p = sp at *
        generalize St q = sq at *
        go_enter Tryz.func26, Tryz.ntmps26
        go_wp2_with fail
        refine (unhide K).mono ?_
        rintro e w1 ⟨rfl, hb⟩
        have HT1 := hide (HT.out.below hb)
        have HB := hide hb
        have KF := hide (KF.out w1 HT1.out)
        clear K hb
        go_wp2_with fail
        refine (unhide KF).mono ?_
        rintro e w2 ⟨rfl, hb⟩
        have hb2 : Below w1.heap.size w1 (w2.alloc (.cells #[.pointer (some ⟨x, 0, none⟩)] 63)) := hb.alloc hb.size _
        have h2 := HT1.out.below hb2
        have HB := hide (HB.out.trans (hb2.mono HB.out.size))
        have cb : (w2.alloc (.cells #[.pointer (some ⟨x, 0, none⟩)] 63)).cell? ⟨w2.heap.size, 0, none⟩ = some (.pointer (some ⟨x, 0, none⟩)) := cell_box (World.alloc_heap_new _ _)
        obtain ⟨c0, _, c2, _⟩ := h2.thing_cells HX.out
        clear KF hb hb2 h2 HT1 HX
        rcases hkk with hk | hk
        · have hl : tx.l = 65535 := Classical.byContradiction (fun q => hd ⟨hk, q⟩)
          rw [hk] at c0
          rw [hl] at c2
          go_upto_region 5 with fail
          change Code.wp _ _ _ _ (w2.alloc (.cells #[.pointer (some ⟨x, 0, none⟩)] 63))
          generalize w2.alloc (.cells #[.pointer (some ⟨x, 0, none⟩)] 63) = w3 at *
          generalize w2.heap.size = m at *
          clear hd hk hl
          go_wp2_with fail
          go_ret
          exact CallP.no HT.out (by decide) HB.out
        · rw [hk] at c0
          go_upto_region 5 with fail
          change Code.wp _ _ _ _ (w2.alloc (.cells #[.pointer (some ⟨x, 0, none⟩)] 63))
          generalize w2.alloc (.cells #[.pointer (some ⟨x, 0, none⟩)] 63) = w3 at *
          generalize w2.heap.size = m at *
          clear hd hk
          go_wp2_with fail
          go_ret
          exact CallP.no HT.out (by decide) HB.out
    · rw [e0] at K
      have K := hide K
      have KF : Hid (∀ u, TM u S g s → Calls Tryz.prog 53 #[.pointer (some ⟨g, 0, none⟩), .string (St p)] u fun e w' => e = .returned (.tuple #[.pointer none, .int .i64 (go s ps r).1]) ∧ Below u.heap.size u w') := fun u hu => by
        have := find_any hu hw.ok hp
        rw [g2] at this
        exact this
      have hne : (go s ps r).1 ≠ 0 := by omega
      have d1 : ((go s ps r).1 != 0) = true := by simpa using hne
      clear h hw hp hq e0 g1 g2 htr
      generalize (go s ps r).1 = ee at *
      generalize St p = sp at *
      generalize St q = sq at *
      go_enter Tryz.func26, Tryz.ntmps26
      go_wp2_with fail
      refine (unhide K).mono ?_
      rintro e w1 ⟨rfl, hb⟩
      have HB := hide hb
      have KF := hide (KF.out w1 (HT.out.below hb))
      clear K hb
      go_wp2_with fail
      refine (unhide KF).mono ?_
      rintro e w2 ⟨rfl, hb⟩
      have HB := hide ((HB.out.trans (hb.mono HB.out.size)).alloc (HB.out.trans (hb.mono HB.out.size)).size (.cells #[.pointer none] 63))
      clear KF hb
      go_wp2_with fail
      go_ret
      exact CallP.no HT.out hne HB.out
  · rw [e0] at K
    have K := hide K
    clear h hw e0
    generalize St p = sp at *
    generalize St q = sq at *
    go_enter Tryz.func26, Tryz.ntmps26
    go_wp2_with fail
    refine (unhide K).mono ?_
    rintro e w1 ⟨rfl, hb⟩
    have HB := hide hb
    clear K hb
    go_wp2_with fail
    go_ret
    exact CallP.no HT.out (by decide) HB.out

end Go.Proofs.YtknmgefpjdfenaaGreat

/- Open: all ways. -/
namespace Go.Proofs.YtknmgefpjdfenaaGreat
open Go.RowKit Go.Shelf Go.Maps
set_option linter.unusedVariables false
set_option maxRecDepth 100000

theorem freeh_ex (s : Tr) : ∀ (k i : Nat), 16 ≤ i + k → i ≤ 16 → (∀ j, j < i → ∃ b, s.opn j = some b) → (∃ f, FreeH s f) ∨ ∀ j, j < 16 → ∃ b, s.opn j = some b
  | 0, i, h, h1, h2 => .inr (fun j hj => h2 j (by omega))
  | k + 1, i, h, h1, h2 => by
    by_cases hi : i = 16
    · exact .inr (fun j hj => h2 j (by omega))
    · cases ho : s.opn i with
      | none => exact .inl ⟨i, by omega, ho, h2⟩
      | some b => exact freeh_ex s k (i + 1) (by omega) (by omega) (fun j q => by
          by_cases e : j = i
          · subst e; exact ⟨b, ho⟩
          · exact h2 j (by omega))

set_option maxHeartbeats 1000000 in
theorem index_full {w : World} {S : Nat → Prop} {g : Nat} {s : Tr} (h : TM w S g s) (hf : ∀ j, j < 16 → ∃ b, s.opn j = some b) :
    Calls Tryz.prog 63 #[.slice (some ⟨g, 3, none⟩) 16 16, .pointer none] w fun e w' => e = .returned (.int .i64 (-1)) ∧ w' = w := by
  have HC : Hid (∀ i, i < 16 → w.cell? ⟨g, 3 + i, none⟩ = some (ptrO (s.opn i))) := fun i hi => h.open_cell hi
  have HF := hide hf
  clear h hf
  go_enter Tryz.func63, Tryz.ntmps63
  go_wp2_with fail
  go_loopw [8] (fun iv wr => ∃ k : Nat, k ≤ 16 ∧ iv = .int .i64 (k : Int) ∧ wr = w) (fun iv _ => 16 - (intOf iv).toNat)
  case atStart => exact ⟨0, Nat.zero_le _, rfl, rfl⟩
  case round =>
    obtain ⟨k, hk, rfl, rfl⟩ := hrel
    by_cases hlt : k < 16
    · have c := HC.out k hlt
      have l1 : (k : Int) < 16 := by omega
      have l0 : (0 : Int) ≤ (k : Int) := by omega
      obtain ⟨b, hb⟩ := HF.out k hlt
      rw [hb] at c
      simp only [ptrO, Option.map_some] at c
      have hn : ∀ w : World, (binOp .eql 63 (.pointer none) (.pointer (some ⟨b, 0, none⟩))).run Tryz.prog w = .ok (.bool false) w := fun w => by kernel_rfl
      clear HC HF hb
      go_wp2_with fail
      go_roundw
      case rel => exact ⟨k + 1, by omega, by go_num, trivial⟩
      case measure => simp [intOf]; omega
    · obtain rfl : k = 16 := by omega
      clear HC HF
      go_wp2_with fail
      go_ret
      exact ⟨rfl, rfl⟩

/-- What Open leaves. -/
def OpenP (w : World) (S : Nat → Prop) (g : Nat) (s : Tr) (r : Nat) (p : List UInt8) (e : Ending) (w' : World) : Prop :=
  ∃ f E s', e = .returned (.tuple #[.int .i64 f, .int .i64 E]) ∧ TM w' (Up S w.heap.size w'.heap.size) g s' ∧ Kp S w w' ∧ ((E ≠ 0 ∧ s' = s) ∨ (E = 0 ∧ ∃ (k : Nat) (ns : List (List UInt8)) (b : Nat) (t : Th), f = (k : Int) ∧ FreeH s k ∧ spl p = some ns ∧ go s ns r = (0, some b) ∧ s.T b = some t ∧ t.k = 1 ∧ s' = s.opened k (some b)))

theorem OpenP.no {w : World} {S : Nat → Prop} {g r : Nat} {s : Tr} {p : List UInt8} (h : TM w S g s) {f E : Int} (hE : E ≠ 0) {w' : World} (hb : Below w.heap.size w w') : OpenP w S g s r p (.returned (.tuple #[.int .i64 f, .int .i64 E])) w' :=
  ⟨f, E, s, rfl, h.up (Nat.le_refl _) hb, Kp.of hb, .inl ⟨hE, rfl⟩⟩

set_option maxHeartbeats 2000000 in
theorem open_any {w : World} {S : Nat → Prop} {g r n : Nat} {s : Tr} (h : TM w S g s) (hw : Wf s r n) {p : List UInt8} (hpl : p.length ≤ 9223372036854775807) :
    Calls Tryz.prog 18 #[.pointer (some ⟨g, 0, none⟩), .string (St p)] w fun e w' => OpenP w S g s r p e w' := by
  have K := refuses_one (p := p) h hw.ok.row_ne hpl (Below.refl _ _)
  have HT := hide h
  cases hs : spl p with
  | none =>
    rw [splE_none hs] at K
    have K := hide K
    clear h hw hs
    generalize hsp : St p = sp at *
    go_enter Tryz.func18, Tryz.ntmps18
    go_wp2_with fail
    refine (unhide K).mono ?_
    rintro e w1 ⟨rfl, hb⟩
    have HB := hide hb
    clear K hb
    go_wp2_with fail
    go_ret2
    exact OpenP.no HT.out (by decide) HB.out
  | some ns =>
    rw [splE_of hs] at K
    have K := hide K
    obtain ⟨tr, htr, _⟩ := hw.ok.dir
    rcases go_ends hw.ok ns r ⟨tr, htr⟩ with ⟨g1, b, t, g2, ht⟩ | ⟨g1, g2⟩
    · have hg : go s ns r = (0, some b) := Prod.ext g1 g2
      have KF : Hid (∀ u, TM u S g s → Calls Tryz.prog 53 #[.pointer (some ⟨g, 0, none⟩), .string (St p)] u fun e w' => e = .returned (.tuple #[.pointer (some ⟨b, 0, none⟩), .int .i64 0]) ∧ Below u.heap.size u w') := fun u hu => by
        have := find_any hu hw.ok hs
        rw [hg] at this
        exact this
      rcases hw.ok.kind b t ht with h1 | h1
      · rcases freeh_ex s 16 0 (by omega) (by omega) (fun j hj => by omega) with ⟨f, hf⟩ | hf
        · refine (open_ok h hw.ok hs hg ht h1 hf).mono ?_
          rintro e w' ⟨rfl, htm, hkp⟩
          exact ⟨_, 0, _, rfl, htm.kept (fun _ _ => rfl) (fun _ q => .inl q) (fun k q => q.elim (fun e => htm.lt k e) (fun e => e.2)), hkp, .inr ⟨rfl, f, ns, b, t, rfl, hf, hs, hg, ht, h1, rfl⟩⟩
        · have KI : Hid (∀ u, TM u S g s → Calls Tryz.prog 63 #[.slice (some ⟨g, 3, none⟩) 16 16, .pointer none] u fun e w' => e = .returned (.int .i64 (-1)) ∧ w' = u) := fun u hu => index_full hu hf
          have HX := hide (And.intro ht h1)
          clear h hw hs hg ht h1 hf g1 g2 htr
          generalize hsp : St p = sp at *
          go_enter Tryz.func18, Tryz.ntmps18
          go_wp2_with fail
          refine (unhide K).mono ?_
          rintro e w1 ⟨rfl, hb⟩
          have HT1 := hide (HT.out.below hb)
          have HB := hide hb
          have KF := hide (KF.out w1 HT1.out)
          clear K hb
          go_wp2_with fail
          refine (unhide KF).mono ?_
          rintro e w2 ⟨rfl, hb⟩
          have HT1 := hide (HT1.out.below hb)
          have HB := hide (HB.out.trans (hb.mono HB.out.size))
          have t0 := (HT1.out.thing_cells HX.out.1).1
          rw [HX.out.2] at t0
          have KI := hide (KI.out w2 HT1.out)
          clear KF hb
          go_wp2_with fail
          refine (unhide KI).mono ?_
          rintro e w3 ⟨rfl, rfl⟩
          clear KI
          go_wp2_with fail
          go_ret2
          exact OpenP.no HT.out (by decide) HB.out
      · have HX := hide (And.intro ht h1)
        clear h hw hs hg ht h1 g1 g2 htr
        generalize hsp : St p = sp at *
        go_enter Tryz.func18, Tryz.ntmps18
        go_wp2_with fail
        refine (unhide K).mono ?_
        rintro e w1 ⟨rfl, hb⟩
        have HT1 := hide (HT.out.below hb)
        have HB := hide hb
        have KF := hide (KF.out w1 HT1.out)
        clear K hb
        go_wp2_with fail
        refine (unhide KF).mono ?_
        rintro e w2 ⟨rfl, hb⟩
        have HT1 := hide (HT1.out.below hb)
        have HB := hide (HB.out.trans (hb.mono HB.out.size))
        have t0 := (HT1.out.thing_cells HX.out.1).1
        rw [HX.out.2] at t0
        clear KF hb
        go_wp2_with fail
        go_ret2
        exact OpenP.no HT.out (by decide) HB.out
    · have KF : Hid (∀ u, TM u S g s → Calls Tryz.prog 53 #[.pointer (some ⟨g, 0, none⟩), .string (St p)] u fun e w' => e = .returned (.tuple #[.pointer none, .int .i64 (go s ns r).1]) ∧ Below u.heap.size u w') := fun u hu => by
        have := find_any hu hw.ok hs
        rw [g2] at this
        exact this
      have hne : (go s ns r).1 ≠ 0 := by omega
      have d1 : ((go s ns r).1 != 0) = true := by simpa using hne
      clear h hw hs g1 g2 htr
      generalize (go s ns r).1 = ee at *
      generalize hsp : St p = sp at *
      go_enter Tryz.func18, Tryz.ntmps18
      go_wp2_with fail
      refine (unhide K).mono ?_
      rintro e w1 ⟨rfl, hb⟩
      have HB := hide hb
      have KF := hide (KF.out w1 (HT.out.below hb))
      clear K hb
      go_wp2_with fail
      refine (unhide KF).mono ?_
      rintro e w2 ⟨rfl, hb⟩
      have HB := hide (HB.out.trans (hb.mono HB.out.size))
      clear KF hb
      go_wp2_with fail
      go_ret2
      exact OpenP.no HT.out hne HB.out

end Go.Proofs.YtknmgefpjdfenaaGreat

