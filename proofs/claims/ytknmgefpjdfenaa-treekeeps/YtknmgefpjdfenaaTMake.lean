/- Create and Mkdir. -/
import Derived.Test.YtknmgefpjdfenaaTEnter
namespace Go.Proofs.Ytknmgefpjdfenaa
open Go.RowKit Go.Shelf Go.Maps
set_option linter.unusedVariables false
set_option maxRecDepth 100000

theorem refE_one (p : List UInt8) : refE [p] = splE p := by
  unfold refE splE
  cases h : spl p with
  | none => simp [h]
  | some ns => simp [h]

/-- refuses of one path, just put into a row. -/
theorem refuses_one {w : World} {S : Nat → Prop} {g : Nat} {s : Tr} (h : TM w S g s) (hr : s.row ≠ []) {p : List UInt8} (hp : p.length ≤ 9223372036854775807) {v : World} (hv : Below w.heap.size w v) :
    Calls Try.prog 19 #[.pointer (some ⟨g, 0, none⟩), .slice (some ⟨v.heap.size, 0, none⟩) 1 1] (v.alloc (.cells #[.string (St p)] 9)) fun e w' => e = .returned (.int .i64 (splE p)) ∧ Below w.heap.size w w' := by
  have hb : Below w.heap.size w (v.alloc (.cells #[.string (St p)] 9)) := hv.alloc hv.size _
  have hh : HasS (v.alloc (.cells #[.string (St p)] 9)) (some ⟨v.heap.size, 0, none⟩) 1 [p] := by
    refine ⟨rfl, fun _ => ⟨v.heap.size, 0, rfl, by simp, fun j hj => ?_⟩⟩
    obtain rfl : j = 0 := by omega
    simp only [World.cell?, World.alloc_heap_new]
    rfl
  have := refuses_any (h.below hb) hr _ 1 1 [p] hh (by omega) (fun j => by
    cases j with
    | zero => simpa using hp
    | succ j => simp)
  rw [refE_one] at this
  refine this.mono ?_
  rintro e w' ⟨rfl, h2⟩
  exact ⟨rfl, hb.trans (h2.mono hb.size)⟩

theorem splE_of {p : List UInt8} {ns : List (List UInt8)} (h : spl p = some ns) : splE p = 0 := by unfold splE; rw [h]; rfl

set_option maxHeartbeats 1000000 in
theorem mkdir_nil (p : ByteArray) (w : World) : Calls Try.prog 16 #[.pointer none, .string p] w fun e w' => e = .returned (.int .i64 1) ∧ Below w.heap.size w w' := by
  have K : Hid (∀ ps u, Calls Try.prog 19 #[.pointer none, ps] u fun e w' => e = .returned (.int .i64 1) ∧ w' = u) := fun ps u => refuses_nil ps u
  have HB : Hid (Below w.heap.size w ((w.alloc (.cells #[.pointer none] 24)).alloc (.cells #[.string p] 9))) := ((Below.refl _ w).alloc (Nat.le_refl _) _).alloc (by simp) _
  go_enter Try.func16, Try.ntmps16
  go_wp2_with fail
  refine (unhide K _ _).mono ?_
  rintro e w1 ⟨rfl, rfl⟩
  clear K
  go_wp2_with fail
  go_ret
  exact ⟨rfl, HB.out⟩

set_option maxHeartbeats 1000000 in
theorem mkdir_bad {w : World} {S : Nat → Prop} {g : Nat} {s : Tr} (h : TM w S g s) (hr : s.row ≠ []) {p : List UInt8} (hp : p.length ≤ 9223372036854775807) (hs : spl p = none) :
    Calls Try.prog 16 #[.pointer (some ⟨g, 0, none⟩), .string (St p)] w fun e w' => e = .returned (.int .i64 16) ∧ Below w.heap.size w w' := by
  have hv : Below w.heap.size w (w.alloc (.cells #[.pointer (some ⟨g, 0, none⟩)] 24)) := (Below.refl _ w).alloc (Nat.le_refl _) _
  have K := refuses_one (h.below hv) hr hp (Below.refl _ _)
  rw [splE_none hs, show (w.alloc (.cells #[.pointer (some ⟨g, 0, none⟩)] 24)).heap.size = w.heap.size + 1 by simp] at K
  have K := hide K
  have HV := hide hv
  have HZ : Hid ((w.alloc (.cells #[.pointer (some ⟨g, 0, none⟩)] 24)).heap.size = w.heap.size + 1) := by unfold Hid; simp
  have HC0 : Hid ((w.alloc (.cells #[.pointer (some ⟨g, 0, none⟩)] 24)).cell? ⟨w.heap.size, 0, none⟩ = some (.pointer (some ⟨g, 0, none⟩))) := cell_box (World.alloc_heap_new _ _)
  clear h hr hp hs hv
  generalize St p = sp at *
  go_enter Try.func16, Try.ntmps16
  go_wp2_with fail
  generalize w.alloc (.cells #[.pointer (some ⟨g, 0, none⟩)] 24) = w0 at *
  refine (unhide K).mono ?_
  rintro e w1 ⟨rfl, hb⟩
  rw [← HZ.out] at hb
  have HB := hide (HV.out.trans (hb.mono HV.out.size))
  clear K hb
  go_wp2_with fail
  go_ret
  exact ⟨rfl, HB.out⟩

set_option maxHeartbeats 1000000 in
/-- Where enter changes nothing. -/
theorem mkdir_ref {w : World} {S : Nat → Prop} {g : Nat} {s : Tr} (h : TM w S g s) (hr : s.row ≠ []) {p : List UInt8} {ns : List (List UInt8)} (hs : spl p = some ns) {E : Int}
    (KE : ∀ u fn, TM u S g s → Calls Try.prog 20 #[.pointer (some ⟨g, 0, none⟩), .string (St p), fn] u fun e w' => e = .returned (.int .i64 E) ∧ Below u.heap.size u w') :
    Calls Try.prog 16 #[.pointer (some ⟨g, 0, none⟩), .string (St p)] w fun e w' => e = .returned (.int .i64 E) ∧ Below w.heap.size w w' := by
  have hv : Below w.heap.size w (w.alloc (.cells #[.pointer (some ⟨g, 0, none⟩)] 24)) := (Below.refl _ w).alloc (Nat.le_refl _) _
  have hlt : w.heap.size < (w.alloc (.cells #[.pointer (some ⟨g, 0, none⟩)] 24)).heap.size := by simp
  have hv2 := h.below hv
  have K := refuses_one (p := p) hv2 hr (by have := spl_len hs; omega) (Below.refl _ _)
  rw [splE_of hs, show (w.alloc (.cells #[.pointer (some ⟨g, 0, none⟩)] 24)).heap.size = w.heap.size + 1 by simp] at K
  have K := hide K
  have HZ : Hid ((w.alloc (.cells #[.pointer (some ⟨g, 0, none⟩)] 24)).heap.size = w.heap.size + 1) := by unfold Hid; simp
  have HC0 : Hid ((w.alloc (.cells #[.pointer (some ⟨g, 0, none⟩)] 24)).cell? ⟨w.heap.size, 0, none⟩ = some (.pointer (some ⟨g, 0, none⟩))) := cell_box (World.alloc_heap_new _ _)
  have HT := hide hv2
  have HV := hide hv
  have KE := hide KE
  clear h hr hs hv hv2
  generalize St p = sp at *
  go_enter Try.func16, Try.ntmps16
  go_wp2_with fail
  generalize w.alloc (.cells #[.pointer (some ⟨g, 0, none⟩)] 24) = w0 at *
  refine (unhide K).mono ?_
  rintro e w1 ⟨rfl, hb⟩
  rw [← HZ.out] at hb
  have HT := hide (HT.out.below hb)
  have c1 := (hb.cell (p := ⟨w.heap.size, 0, none⟩) hlt).trans HC0.out
  have HB := hide (HV.out.trans (hb.mono HV.out.size))
  clear K hb HC0 HV
  go_wp2_with fail
  refine (unhide KE w1 _ HT.out).mono ?_
  rintro e w2 ⟨rfl, hb⟩
  have HB := hide (HB.out.trans (hb.mono HB.out.size))
  clear KE hb c1 HT
  go_wp2_with fail
  go_ret
  exact ⟨rfl, HB.out⟩

set_option maxHeartbeats 2000000 in
theorem mkdir_new {w : World} {S : Nat → Prop} {g r d f : Nat} {s : Tr} {t : Th} (h : TM w S g s) (hk : Ok s r) {p z : List UInt8} {ms : List (List UInt8)} (hp : spl p = some (ms ++ [z])) (he : plc s ms r = (0, some d)) (ht : s.T d = some t) (h2 : t.k = 2) (hc : t.ns.lookup z = none)
    (hns : t.ns.length < 1000000000) (hf : Free s f) (hfm : f ≤ 1000000) (hrm : s.row.length ≤ 1000000) :
    Calls Try.prog 16 #[.pointer (some ⟨g, 0, none⟩), .string (St p)] w fun e w' => ∃ b mp ra rc, e = .returned (.int .i64 0) ∧ w.heap.size ≤ b ∧ TM w' (Up S w.heap.size w'.heap.size) g (s.made f 2 d t z b mp ra rc) ∧ Kp S w w' := by
  have hv : Below w.heap.size w (w.alloc (.cells #[.pointer (some ⟨g, 0, none⟩)] 24)) := (Below.refl _ w).alloc (Nat.le_refl _) _
  have hlt : w.heap.size < (w.alloc (.cells #[.pointer (some ⟨g, 0, none⟩)] 24)).heap.size := by simp
  have hv2 := h.below hv
  have K := refuses_one (p := p) hv2 hk.row_ne (by have := spl_len hp; omega) (Below.refl _ _)
  rw [splE_of hp, show (w.alloc (.cells #[.pointer (some ⟨g, 0, none⟩)] 24)).heap.size = w.heap.size + 1 by simp] at K
  have K := hide K
  have HZ : Hid ((w.alloc (.cells #[.pointer (some ⟨g, 0, none⟩)] 24)).heap.size = w.heap.size + 1) := by unfold Hid; simp
  have HC0 : Hid ((w.alloc (.cells #[.pointer (some ⟨g, 0, none⟩)] 24)).cell? ⟨w.heap.size, 0, none⟩ = some (.pointer (some ⟨g, 0, none⟩))) := cell_box (World.alloc_heap_new _ _)
  have HT := hide hv2
  have HV := hide hv
  have hSw := h.lt
  have KE : Hid (∀ u, TM u S g s → (u.cell? ⟨w.heap.size, 0, none⟩ = some (.pointer (some ⟨g, 0, none⟩)) ∧ w.heap.size < u.heap.size) →
      Calls Try.prog 20 #[.pointer (some ⟨g, 0, none⟩), .string (St p), .func (.func 34) #[] #[.pointer (some ⟨w.heap.size, 0, none⟩)]] u fun e w' => ∃ b mp ra rc, e = .returned (.int .i64 0) ∧ u.heap.size ≤ b ∧ TM w' (Up S u.heap.size w'.heap.size) g (s.made f 2 d t z b mp ra rc) ∧ Kp S u w') :=
    fun u hu hm => enter_mk hu hk hp he ht h2 hc hns (fun v hv hb => mkdir1_any hv hf hfm hrm ((hb.cell (p := ⟨w.heap.size, 0, none⟩) hm.2).trans hm.1))
  clear h hk hp hv hv2 he ht h2 hc hns hf hfm hrm
  generalize St p = sp at *
  go_enter Try.func16, Try.ntmps16
  go_wp2_with fail
  generalize w.alloc (.cells #[.pointer (some ⟨g, 0, none⟩)] 24) = w0 at *
  refine (unhide K).mono ?_
  rintro e w1 ⟨rfl, hb⟩
  rw [← HZ.out] at hb
  have HT := hide (HT.out.below hb)
  have c1 := (hb.cell (p := ⟨w.heap.size, 0, none⟩) hlt).trans HC0.out
  have KE := hide (KE.out w1 HT.out ⟨c1, Nat.lt_of_lt_of_le hlt hb.size⟩)
  have HB := hide (HV.out.trans (hb.mono HV.out.size))
  clear K hb HC0 HV
  go_wp2_with fail
  refine (unhide KE).mono ?_
  rintro e w2 ⟨b, mp, ra, rc, rfl, hb1, htm, hkp⟩
  have HR : Hid (w.heap.size ≤ b ∧ TM w2 (Up S w.heap.size w2.heap.size) g (s.made f 2 d t z b mp ra rc) ∧ Kp S w w2) := by
    have hws := HB.out.size
    refine ⟨by omega, ?_, (Kp.of HB.out).trans hkp (fun k hk => .inl hk)⟩
    refine htm.kept (fun _ _ => rfl) (fun x hx => ?_) (fun x hx => ?_)
    · rcases hx with q | q
      · exact .inl q
      · exact .inr ⟨by omega, q.2⟩
    · rcases hx with q | q
      · have := hSw x q; have := hkp.size; omega
      · exact q.2
  clear KE hb1 htm hkp HT HB c1 hSw
  go_wp2_with fail
  go_ret
  exact ⟨b, mp, ra, rc, rfl, HR.out⟩

set_option maxHeartbeats 1000000 in
theorem create_nil (p : ByteArray) (w : World) : Calls Try.prog 6 #[.pointer none, .string p] w fun e w' => e = .returned (.int .i64 1) ∧ Below w.heap.size w w' := by
  have K : Hid (∀ ps u, Calls Try.prog 19 #[.pointer none, ps] u fun e w' => e = .returned (.int .i64 1) ∧ w' = u) := fun ps u => refuses_nil ps u
  have HB : Hid (Below w.heap.size w ((w.alloc (.cells #[.pointer none] 24)).alloc (.cells #[.string p] 9))) := ((Below.refl _ w).alloc (Nat.le_refl _) _).alloc (by simp) _
  go_enter Try.func6, Try.ntmps6
  go_wp2_with fail
  refine (unhide K _ _).mono ?_
  rintro e w1 ⟨rfl, rfl⟩
  clear K
  go_wp2_with fail
  go_ret
  exact ⟨rfl, HB.out⟩

set_option maxHeartbeats 1000000 in
theorem create_bad {w : World} {S : Nat → Prop} {g : Nat} {s : Tr} (h : TM w S g s) (hr : s.row ≠ []) {p : List UInt8} (hp : p.length ≤ 9223372036854775807) (hs : spl p = none) :
    Calls Try.prog 6 #[.pointer (some ⟨g, 0, none⟩), .string (St p)] w fun e w' => e = .returned (.int .i64 16) ∧ Below w.heap.size w w' := by
  have hv : Below w.heap.size w (w.alloc (.cells #[.pointer (some ⟨g, 0, none⟩)] 24)) := (Below.refl _ w).alloc (Nat.le_refl _) _
  have K := refuses_one (h.below hv) hr hp (Below.refl _ _)
  rw [splE_none hs, show (w.alloc (.cells #[.pointer (some ⟨g, 0, none⟩)] 24)).heap.size = w.heap.size + 1 by simp] at K
  have K := hide K
  have HV := hide hv
  have HZ : Hid ((w.alloc (.cells #[.pointer (some ⟨g, 0, none⟩)] 24)).heap.size = w.heap.size + 1) := by unfold Hid; simp
  have HC0 : Hid ((w.alloc (.cells #[.pointer (some ⟨g, 0, none⟩)] 24)).cell? ⟨w.heap.size, 0, none⟩ = some (.pointer (some ⟨g, 0, none⟩))) := cell_box (World.alloc_heap_new _ _)
  clear h hr hp hs hv
  generalize St p = sp at *
  go_enter Try.func6, Try.ntmps6
  go_wp2_with fail
  generalize w.alloc (.cells #[.pointer (some ⟨g, 0, none⟩)] 24) = w0 at *
  refine (unhide K).mono ?_
  rintro e w1 ⟨rfl, hb⟩
  rw [← HZ.out] at hb
  have HB := hide (HV.out.trans (hb.mono HV.out.size))
  clear K hb
  go_wp2_with fail
  go_ret
  exact ⟨rfl, HB.out⟩

set_option maxHeartbeats 1000000 in
/-- Where enter changes nothing. -/
theorem create_ref {w : World} {S : Nat → Prop} {g : Nat} {s : Tr} (h : TM w S g s) (hr : s.row ≠ []) {p : List UInt8} {ns : List (List UInt8)} (hs : spl p = some ns) {E : Int}
    (KE : ∀ u fn, TM u S g s → Calls Try.prog 20 #[.pointer (some ⟨g, 0, none⟩), .string (St p), fn] u fun e w' => e = .returned (.int .i64 E) ∧ Below u.heap.size u w') :
    Calls Try.prog 6 #[.pointer (some ⟨g, 0, none⟩), .string (St p)] w fun e w' => e = .returned (.int .i64 E) ∧ Below w.heap.size w w' := by
  have hv : Below w.heap.size w (w.alloc (.cells #[.pointer (some ⟨g, 0, none⟩)] 24)) := (Below.refl _ w).alloc (Nat.le_refl _) _
  have hlt : w.heap.size < (w.alloc (.cells #[.pointer (some ⟨g, 0, none⟩)] 24)).heap.size := by simp
  have hv2 := h.below hv
  have K := refuses_one (p := p) hv2 hr (by have := spl_len hs; omega) (Below.refl _ _)
  rw [splE_of hs, show (w.alloc (.cells #[.pointer (some ⟨g, 0, none⟩)] 24)).heap.size = w.heap.size + 1 by simp] at K
  have K := hide K
  have HZ : Hid ((w.alloc (.cells #[.pointer (some ⟨g, 0, none⟩)] 24)).heap.size = w.heap.size + 1) := by unfold Hid; simp
  have HC0 : Hid ((w.alloc (.cells #[.pointer (some ⟨g, 0, none⟩)] 24)).cell? ⟨w.heap.size, 0, none⟩ = some (.pointer (some ⟨g, 0, none⟩))) := cell_box (World.alloc_heap_new _ _)
  have HT := hide hv2
  have HV := hide hv
  have KE := hide KE
  clear h hr hs hv hv2
  generalize St p = sp at *
  go_enter Try.func6, Try.ntmps6
  go_wp2_with fail
  generalize w.alloc (.cells #[.pointer (some ⟨g, 0, none⟩)] 24) = w0 at *
  refine (unhide K).mono ?_
  rintro e w1 ⟨rfl, hb⟩
  rw [← HZ.out] at hb
  have HT := hide (HT.out.below hb)
  have c1 := (hb.cell (p := ⟨w.heap.size, 0, none⟩) hlt).trans HC0.out
  have HB := hide (HV.out.trans (hb.mono HV.out.size))
  clear K hb HC0 HV
  go_wp2_with fail
  refine (unhide KE w1 _ HT.out).mono ?_
  rintro e w2 ⟨rfl, hb⟩
  have HB := hide (HB.out.trans (hb.mono HB.out.size))
  clear KE hb c1 HT
  go_wp2_with fail
  go_ret
  exact ⟨rfl, HB.out⟩

set_option maxHeartbeats 2000000 in
theorem create_new {w : World} {S : Nat → Prop} {g r d f : Nat} {s : Tr} {t : Th} (h : TM w S g s) (hk : Ok s r) {p z : List UInt8} {ms : List (List UInt8)} (hp : spl p = some (ms ++ [z])) (he : plc s ms r = (0, some d)) (ht : s.T d = some t) (h2 : t.k = 2) (hc : t.ns.lookup z = none)
    (hns : t.ns.length < 1000000000) (hf : Free s f) (hfm : f ≤ 1000000) (hrm : s.row.length ≤ 1000000) :
    Calls Try.prog 6 #[.pointer (some ⟨g, 0, none⟩), .string (St p)] w fun e w' => ∃ b mp ra rc, e = .returned (.int .i64 0) ∧ w.heap.size ≤ b ∧ TM w' (Up S w.heap.size w'.heap.size) g (s.made f 1 d t z b mp ra rc) ∧ Kp S w w' := by
  have hv : Below w.heap.size w (w.alloc (.cells #[.pointer (some ⟨g, 0, none⟩)] 24)) := (Below.refl _ w).alloc (Nat.le_refl _) _
  have hlt : w.heap.size < (w.alloc (.cells #[.pointer (some ⟨g, 0, none⟩)] 24)).heap.size := by simp
  have hv2 := h.below hv
  have K := refuses_one (p := p) hv2 hk.row_ne (by have := spl_len hp; omega) (Below.refl _ _)
  rw [splE_of hp, show (w.alloc (.cells #[.pointer (some ⟨g, 0, none⟩)] 24)).heap.size = w.heap.size + 1 by simp] at K
  have K := hide K
  have HZ : Hid ((w.alloc (.cells #[.pointer (some ⟨g, 0, none⟩)] 24)).heap.size = w.heap.size + 1) := by unfold Hid; simp
  have HC0 : Hid ((w.alloc (.cells #[.pointer (some ⟨g, 0, none⟩)] 24)).cell? ⟨w.heap.size, 0, none⟩ = some (.pointer (some ⟨g, 0, none⟩))) := cell_box (World.alloc_heap_new _ _)
  have HT := hide hv2
  have HV := hide hv
  have hSw := h.lt
  have KE : Hid (∀ u, TM u S g s → (u.cell? ⟨w.heap.size, 0, none⟩ = some (.pointer (some ⟨g, 0, none⟩)) ∧ w.heap.size < u.heap.size) →
      Calls Try.prog 20 #[.pointer (some ⟨g, 0, none⟩), .string (St p), .func (.func 21) #[] #[.pointer (some ⟨w.heap.size, 0, none⟩)]] u fun e w' => ∃ b mp ra rc, e = .returned (.int .i64 0) ∧ u.heap.size ≤ b ∧ TM w' (Up S u.heap.size w'.heap.size) g (s.made f 1 d t z b mp ra rc) ∧ Kp S u w') :=
    fun u hu hm => enter_cr hu hk hp he ht h2 hc hns (fun v hv hb => create1_any hv hf hfm hrm ((hb.cell (p := ⟨w.heap.size, 0, none⟩) hm.2).trans hm.1))
  clear h hk hp hv hv2 he ht h2 hc hns hf hfm hrm
  generalize St p = sp at *
  go_enter Try.func6, Try.ntmps6
  go_wp2_with fail
  generalize w.alloc (.cells #[.pointer (some ⟨g, 0, none⟩)] 24) = w0 at *
  refine (unhide K).mono ?_
  rintro e w1 ⟨rfl, hb⟩
  rw [← HZ.out] at hb
  have HT := hide (HT.out.below hb)
  have c1 := (hb.cell (p := ⟨w.heap.size, 0, none⟩) hlt).trans HC0.out
  have KE := hide (KE.out w1 HT.out ⟨c1, Nat.lt_of_lt_of_le hlt hb.size⟩)
  have HB := hide (HV.out.trans (hb.mono HV.out.size))
  clear K hb HC0 HV
  go_wp2_with fail
  refine (unhide KE).mono ?_
  rintro e w2 ⟨b, mp, ra, rc, rfl, hb1, htm, hkp⟩
  have HR : Hid (w.heap.size ≤ b ∧ TM w2 (Up S w.heap.size w2.heap.size) g (s.made f 1 d t z b mp ra rc) ∧ Kp S w w2) := by
    have hws := HB.out.size
    refine ⟨by omega, ?_, (Kp.of HB.out).trans hkp (fun k hk => .inl hk)⟩
    refine htm.kept (fun _ _ => rfl) (fun x hx => ?_) (fun x hx => ?_)
    · rcases hx with q | q
      · exact .inl q
      · exact .inr ⟨by omega, q.2⟩
    · rcases hx with q | q
      · have := hSw x q; have := hkp.size; omega
      · exact q.2
  clear KE hb1 htm hkp HT HB c1 hSw
  go_wp2_with fail
  go_ret
  exact ⟨b, mp, ra, rc, rfl, HR.out⟩

end Go.Proofs.Ytknmgefpjdfenaa
