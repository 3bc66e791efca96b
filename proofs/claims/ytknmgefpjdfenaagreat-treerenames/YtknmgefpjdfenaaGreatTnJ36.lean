/- Joined: TEnter, TMake. -/
import Derived.Test.YtknmgefpjdfenaaGreatTnTBorn
/- enter, where a new name is to stand for a new thing. -/
namespace Go.Proofs.YtknmgefpjdfenaaGreat
open Go.RowKit Go.Shelf Go.Maps
set_option linter.unusedVariables false
set_option maxRecDepth 100000

theorem plc_cases {s : Tr} {r : Nat} (hk : Ok s r) (ms : List (List UInt8)) : ((plc s ms r).2 = none ∧ ((plc s ms r).1 = 11 ∨ (plc s ms r).1 = 13)) ∨ ∃ d t, plc s ms r = (0, some d) ∧ s.T d = some t ∧ t.k = 2 := by
  obtain ⟨tr, htr, _⟩ := hk.dir
  unfold plc
  rcases go_ends hk ms r ⟨tr, htr⟩ with ⟨h1, c, t, h2, h3⟩ | ⟨h1, h2⟩
  · rw [h2]
    rcases hk.kind c t h3 with e | e
    · simp [h3, e]
    · right
      exact ⟨c, t, by simp [h3, e], h3, e⟩
  · rw [h2]
    exact .inl ⟨rfl, h1⟩

theorem plA_none {s : Tr} {r : Nat} {ms : List (List UInt8)} (z : List UInt8) (h : (plc s ms r).2 = none) : plA s ms z r = .tuple #[.agg #[.pointer none, .string ⟨#[]⟩], .int .i64 (plc s ms r).1] := by
  unfold plA; rw [h]

theorem plA_some {s : Tr} {r d : Nat} {ms : List (List UInt8)} (z : List UInt8) (h : plc s ms r = (0, some d)) : plA s ms z r = .tuple #[.agg #[.pointer (some ⟨d, 0, none⟩), .string (St z)], .int .i64 0] := by
  unfold plA; rw [h]

theorem not_root {p z : List UInt8} {ms : List (List UInt8)} (h : spl p = some (ms ++ [z])) : ((St p).toList == [47]) = false := by
  obtain ⟨ok, rfl, _⟩ := spl_some h
  rw [St_toList]
  have : jn (ms ++ [z]) ≠ [47] := fun e => by
    have := jn_inj ok ((okN_take ok 0 : okN [] = true)) (e : jn (ms ++ [z]) = jn [])
    simp at this
  simpa using this

theorem name_len {p z : List UInt8} {ms : List (List UInt8)} (h : spl p = some (ms ++ [z])) : z.length ≤ 200 := by
  have := (nmB_len (((okN_iff _).1 (spl_some h).1).2.1 z (by simp))).2
  omega

/-- What born leaves. -/
def BornP (u : World) (S : Nat → Prop) (g f : Nat) (s : Tr) (k : Int) (e : Ending) (w' : World) : Prop :=
  ∃ b mp ra rc, e = .returned (.pointer (some ⟨b, 0, none⟩)) ∧ u.heap.size ≤ b ∧ b < w'.heap.size ∧
      TM w' (Up S u.heap.size w'.heap.size) g ({ s with row := (pad s.row f).set f (some b), ra := ra, rc := rc, least := f }.upd b (newT k f mp)) ∧ Kp S u w'

theorem mkdir1_any {w : World} {S : Nat → Prop} {g f m : Nat} {s : Tr} (h : TM w S g s) (hf : Free s f) (hfm : f ≤ 1000000) (hrm : s.row.length ≤ 1000000) (hm : w.cell? ⟨m, 0, none⟩ = some (.pointer (some ⟨g, 0, none⟩))) :
    Calls Tryz.prog 67 #[.pointer (some ⟨m, 0, none⟩)] w fun e w' => BornP w S g f s 2 e w' := by
  have K : Hid (Calls Tryz.prog 23 #[.pointer (some ⟨g, 0, none⟩), .int .i64 2] w fun e w' => BornP w S g f s 2 e w') := born_any h hf (.inr rfl) hfm hrm
  clear h hf hfm hrm
  go_enter Tryz.func67, Tryz.ntmps67
  go_wp2_with fail
  refine (unhide K).mono ?_
  rintro e w1 ⟨b, mp, ra, rc, rfl, h1, h2, h3, h4⟩
  have H := hide (And.intro h1 (And.intro h2 (And.intro h3 h4)))
  clear K h1 h2 h3 h4
  go_wp2_with fail
  go_ret
  exact ⟨b, mp, ra, rc, rfl, H.out⟩

theorem create1_any {w : World} {S : Nat → Prop} {g f m : Nat} {s : Tr} (h : TM w S g s) (hf : Free s f) (hfm : f ≤ 1000000) (hrm : s.row.length ≤ 1000000) (hm : w.cell? ⟨m, 0, none⟩ = some (.pointer (some ⟨g, 0, none⟩))) :
    Calls Tryz.prog 68 #[.pointer (some ⟨m, 0, none⟩)] w fun e w' => BornP w S g f s 1 e w' := by
  have K : Hid (Calls Tryz.prog 23 #[.pointer (some ⟨g, 0, none⟩), .int .i64 1] w fun e w' => BornP w S g f s 1 e w') := born_any h hf (.inl rfl) hfm hrm
  clear h hf hfm hrm
  go_enter Tryz.func68, Tryz.ntmps68
  go_wp2_with fail
  refine (unhide K).mono ?_
  rintro e w1 ⟨b, mp, ra, rc, rfl, h1, h2, h3, h4⟩
  have H := hide (And.intro h1 (And.intro h2 (And.intro h3 h4)))
  clear K h1 h2 h3 h4
  go_wp2_with fail
  go_ret
  exact ⟨b, mp, ra, rc, rfl, H.out⟩

/-- The tree with a new thing, that a name of a directory stands for. -/
def Tr.made (s : Tr) (f : Nat) (k : Int) (d : Nat) (t : Th) (z : List UInt8) (b mp : Nat) (ra : Option Addr) (rc : Nat) : Tr :=
  ({ s with row := (pad s.row f).set f (some b), ra := ra, rc := rc, least := f }.upd b { newT k f mp with l := 1 }).upd d { t with ns := putN z b t.ns }

theorem enter_root (w : World) (g : Value) (fn : Value) : Calls Tryz.prog 66 #[g, .string ⟨#[47]⟩, fn] w fun e w' => e = .returned (.int .i64 12) ∧ w' = w := by
  go_enter Tryz.func66, Tryz.ntmps66
  go_wp2_with fail
  go_ret
  exact ⟨rfl, rfl⟩

set_option maxHeartbeats 2000000 in
theorem enter_err {w : World} {S : Nat → Prop} {g r : Nat} {s : Tr} (h : TM w S g s) (hk : Ok s r) {p z : List UInt8} {ms : List (List UInt8)} (hp : spl p = some (ms ++ [z])) (fn : Value) (he : (plc s ms r).2 = none ∧ ((plc s ms r).1 = 11 ∨ (plc s ms r).1 = 13)) :
    Calls Tryz.prog 66 #[.pointer (some ⟨g, 0, none⟩), .string (St p), fn] w fun e w' => e = .returned (.int .i64 (plc s ms r).1) ∧ Below w.heap.size w w' := by
  have K := place_any h hk hp
  rw [plA_none z he.1] at K
  have K := hide K
  have dne := not_root hp
  have d1 : ((plc s ms r).1 != 0) = true := by rcases he.2 with e | e <;> rw [e] <;> rfl
  clear h hk hp he
  generalize (plc s ms r).1 = ee at *
  generalize St p = sp at *
  go_enter Tryz.func66, Tryz.ntmps66
  go_wp2_with fail
  refine (unhide K).mono ?_
  rintro e w1 ⟨rfl, hb⟩
  have HB := hide (hb.alloc hb.size (.cells #[.pointer none, .string ⟨#[]⟩] 92))
  clear K hb
  go_wp2_with fail
  go_ret
  exact ⟨rfl, HB.out⟩

set_option maxHeartbeats 2000000 in
theorem enter_has {w : World} {S : Nat → Prop} {g r d : Nat} {s : Tr} {t : Th} (h : TM w S g s) (hk : Ok s r) {p z : List UInt8} {ms : List (List UInt8)} (hp : spl p = some (ms ++ [z])) (fn : Value) (he : plc s ms r = (0, some d)) (ht : s.T d = some t) (h2 : t.k = 2) {c : Nat} (hc : t.ns.lookup z = some c) :
    Calls Tryz.prog 66 #[.pointer (some ⟨g, 0, none⟩), .string (St p), fn] w fun e w' => e = .returned (.int .i64 12) ∧ Below w.heap.size w w' := by
  have K := place_any h hk hp
  rw [plA_some z he] at K
  have K := hide K
  have dne := not_root hp
  have hz := name_len hp
  have KN : Hid (∀ u, TM u S g s → Calls Tryz.prog 57 #[.agg #[.pointer (some ⟨d, 0, none⟩), .string (St z)]] u fun e w' => e = .returned (.pointer (some ⟨c, 0, none⟩)) ∧ Below u.heap.size u w') := fun u hu => by
    have := named_any hu ht h2 hz
    rw [hc] at this
    exact this
  have HT := hide h
  clear h hk hp he ht h2 hc hz
  generalize St p = sp at *
  generalize St z = sz at *
  go_enter Tryz.func66, Tryz.ntmps66
  go_wp2_with fail
  refine (unhide K).mono ?_
  rintro e w1 ⟨rfl, hb⟩
  have hb1 : Below w.heap.size w (w1.alloc (.cells #[.pointer (some ⟨d, 0, none⟩), .string sz] 92)) := hb.alloc hb.size _
  have HB := hide hb1
  have KN := hide (KN.out _ (HT.out.below hb1))
  have hC := C2.new w1 (.pointer (some ⟨d, 0, none⟩)) (.string sz)
  have k0 := hC.c0
  have k1 := hC.c1
  clear K hb hb1 hC HT
  go_wp2_with fail
  generalize w1.alloc (.cells #[.pointer (some ⟨d, 0, none⟩), .string sz] 92) = w2 at *
  refine (unhide KN).mono ?_
  rintro e w3 ⟨rfl, hb⟩
  have HB := hide (HB.out.trans (hb.mono HB.out.size))
  clear KN hb k0 k1
  go_wp2_with fail
  go_ret
  exact ⟨rfl, HB.out⟩

theorem rowC_ne {u : World} {b n : Nat} {f : Nat → Value} {x y : Value} (h : u.rowIs b 69 n f) (h' : C2 u b x y) : False := by
  obtain ⟨c, hb, _⟩ := h
  have h'' : u.heap[b]? = _ := h'
  rw [hb] at h''
  exact absurd (cells_ty h'') (by decide)

theorem Tr.upd_upd (s : Tr) (b : Nat) (t t' : Th) : (s.upd b t).upd b t' = s.upd b t' := by
  unfold Tr.upd
  congr 1
  funext k
  simp only
  split <;> rfl

set_option maxHeartbeats 4000000 in
theorem enter_mk {w : World} {S : Nat → Prop} {g r d f m : Nat} {s : Tr} {t : Th} (h : TM w S g s) (hk : Ok s r) {p z : List UInt8} {ms : List (List UInt8)} (hp : spl p = some (ms ++ [z])) (he : plc s ms r = (0, some d)) (ht : s.T d = some t) (h2 : t.k = 2) (hc : t.ns.lookup z = none)
    (hns : t.ns.length < 1000000000) (KB : ∀ u, TM u S g s → Below w.heap.size w u → Calls Tryz.prog 67 #[.pointer (some ⟨m, 0, none⟩)] u fun e w' => BornP u S g f s 2 e w') :
    Calls Tryz.prog 66 #[.pointer (some ⟨g, 0, none⟩), .string (St p), .func (.func 67) #[] #[.pointer (some ⟨m, 0, none⟩)]] w fun e w' => ∃ b mp ra rc, e = .returned (.int .i64 0) ∧ w.heap.size ≤ b ∧ TM w' (Up S w.heap.size w'.heap.size) g (s.made f 2 d t z b mp ra rc) ∧ Kp S w w' := by
  have K := place_any h hk hp
  rw [plA_some z he] at K
  have K := hide K
  have dne := not_root hp
  have hz := name_len hp
  have hdS : d < w.heap.size := h.lt d (h.sb d t ht)
  have hSw := h.lt
  have KN : Hid (∀ u, TM u S g s → Calls Tryz.prog 57 #[.agg #[.pointer (some ⟨d, 0, none⟩), .string (St z)]] u fun e w' => e = .returned (.pointer none) ∧ Below u.heap.size u w') := fun u hu => by
    have := named_any hu ht h2 hz
    rw [hc] at this
    exact this
  have HT := hide h
  have KB := hide KB
  have HD := hide (And.intro ht (And.intro h2 (And.intro hz (And.intro hns (And.intro hdS hSw)))))
  clear h hk hp he ht h2 hc hz hns hdS hSw
  generalize St p = sp at *
  generalize hsz : St z = sz at *
  go_enter Tryz.func66, Tryz.ntmps66
  go_wp2_with fail
  refine (unhide K).mono ?_
  rintro e w1 ⟨rfl, hb⟩
  have hb1 : Below w.heap.size w (w1.alloc (.cells #[.pointer (some ⟨d, 0, none⟩), .string sz] 92)) := hb.alloc hb.size _
  have HB := hide hb1
  have HT := hide (HT.out.below hb1)
  have KN := hide (KN.out _ HT.out)
  have hC := C2.new w1 (.pointer (some ⟨d, 0, none⟩)) (.string sz)
  have HC := hide hC
  have k0 := hC.c0
  have k1 := hC.c1
  have hm2 : w.heap.size ≤ w1.heap.size := hb.size
  clear K hb hb1 hC
  go_wp2_with fail
  generalize w1.alloc (.cells #[.pointer (some ⟨d, 0, none⟩), .string sz] 92) = w2 at *
  generalize w1.heap.size = m2 at *
  refine (unhide KN).mono ?_
  rintro e w3 ⟨rfl, hb⟩
  have HB := hide (HB.out.trans (hb.mono HB.out.size))
  have HT := hide (HT.out.below hb)
  have HC := hide (HC.out.below hb HC.out.lt)
  have KB := hide (KB.out w3 HT.out HB.out)
  clear KN hb k0 k1
  go_wp2_with fail
  refine (unhide KB).mono ?_
  rintro e w4 ⟨b, mp, ra, rc, rfl, hb1, hb2, h4, hkp⟩
  obtain ⟨ht, h2, hz, hns, hdS, hSw⟩ := HD.out
  have hbd : d ≠ b := by have := HB.out.size; omega
  have hmn2 : ¬ S m2 := fun e => by have := hSw m2 e; omega
  have HC4 : C2 w4 m2 (.pointer (some ⟨d, 0, none⟩)) (.string sz) := (hkp.block m2 HC.out.lt hmn2).trans HC.out
  have hb0 : ({ s with row := (pad s.row f).set f (some b), ra := ra, rc := rc, least := f }.upd b (newT 2 f mp)).T b = some (newT 2 f mp) := by rw [Tr.upd_T, if_pos rfl]
  obtain ⟨_, _, t2, _, _, tf⟩ := h4.thing_cells hb0
  have h5 := h4.setH hb0 1
  rw [Tr.upd_upd] at h5
  have hd5 : ({ s with row := (pad s.row f).set f (some b), ra := ra, rc := rc, least := f }.upd b { newT 2 f mp with l := 1 }).T d = some t := by rw [Tr.upd_T, if_neg hbd]; exact ht
  have k5 := h5.dir_map hd5 h2
  have HC5 : C2 (w4.setCell ⟨b, 2, none⟩ (.int .i64 1)) m2 (.pointer (some ⟨d, 0, none⟩)) (.string sz) := (Below.heap_setCell _ _ _ _ (fun e => by
    have e' : m2 = b := e
    rw [e'] at HC4
    exact rowC_ne (h4.thg b _ hb0) HC4)).trans HC4
  have h5d : TM (w4.setCell ⟨b, 2, none⟩ (.int .i64 1)).drew _ g _ := h5.kept (fun _ _ => rfl) (fun _ h => h) h5.lt
  have hm5 := h5d.map d t hd5 h2
  obtain ⟨u', hr, hu, hg, hsz'⟩ := hm5.put hz b hns
  have h6 := h5d.setM hd5 h2 hu hg hsz'
  have hkp5' : Kp S w3 (w4.setCell ⟨b, 2, none⟩ (.int .i64 1)) := hkp.setCell (p := ⟨b, 2, none⟩) (.inr hb1) _
  have hkp5 : Kp S w3 (w4.setCell ⟨b, 2, none⟩ (.int .i64 1)).drew := ⟨hkp5'.os, hkp5'.tape, hkp5'.output, hkp5'.size, hkp5'.block⟩
  have hmpS : S t.mp ∨ w3.heap.size ≤ t.mp := (h5.sm d t hd5 h2).elim .inl (fun q => .inr q.1)
  have hkp6 : Kp S w3 u' := hkp5.grown hg hmpS
  have t2' : w4.cell? ⟨b, 2, none⟩ = some (.int .i64 0) := t2
  have k0 := HC5.c0
  have k1 := HC5.c1
  rw [hsz] at hr
  have HR : Hid (w.heap.size ≤ b ∧ TM u' (Up S w.heap.size u'.heap.size) g (s.made f 2 d t z b mp ra rc) ∧ Kp S w u') := by
    have hws := HB.out.size
    refine ⟨by omega, ?_, (Kp.of HB.out).trans hkp6 (fun k hk => .inl hk)⟩
    have hz6 : u'.heap.size = w4.heap.size := by rw [hsz']; simp [World.setCell, World.drew]
    rw [hz6]
    refine h6.kept (fun _ _ => rfl) (fun x hx => ?_) (fun x hx => ?_)
    · rcases hx with q | q
      · exact .inl q
      · exact .inr ⟨by omega, q.2⟩
    · rw [hz6]
      rcases hx with q | q
      · have := hSw x q; have := hkp.size; omega
      · exact q.2
  clear h4 h5 h5d h6 hkp hkp5 hkp5' hkp6 hmpS hu hg hsz' hm5 HC5 HC4 hd5 hb0 t2 HC HT HB hm2 hmn2 hbd hz hns hdS hSw ht h2 HD KB hb1 hb2
  generalize t.mp = tm at *
  go_upto_region 10 with fail
  generalize w4.setCell ⟨b, 2, none⟩ (.int .i64 1) = w5 at *
  go_region
  go_wp2_with fail
  go_ret
  exact ⟨b, mp, ra, rc, rfl, HR.out⟩

set_option maxHeartbeats 4000000 in
theorem enter_cr {w : World} {S : Nat → Prop} {g r d f m : Nat} {s : Tr} {t : Th} (h : TM w S g s) (hk : Ok s r) {p z : List UInt8} {ms : List (List UInt8)} (hp : spl p = some (ms ++ [z])) (he : plc s ms r = (0, some d)) (ht : s.T d = some t) (h2 : t.k = 2) (hc : t.ns.lookup z = none)
    (hns : t.ns.length < 1000000000) (KB : ∀ u, TM u S g s → Below w.heap.size w u → Calls Tryz.prog 68 #[.pointer (some ⟨m, 0, none⟩)] u fun e w' => BornP u S g f s 1 e w') :
    Calls Tryz.prog 66 #[.pointer (some ⟨g, 0, none⟩), .string (St p), .func (.func 68) #[] #[.pointer (some ⟨m, 0, none⟩)]] w fun e w' => ∃ b mp ra rc, e = .returned (.int .i64 0) ∧ w.heap.size ≤ b ∧ TM w' (Up S w.heap.size w'.heap.size) g (s.made f 1 d t z b mp ra rc) ∧ Kp S w w' := by
  have K := place_any h hk hp
  rw [plA_some z he] at K
  have K := hide K
  have dne := not_root hp
  have hz := name_len hp
  have hdS : d < w.heap.size := h.lt d (h.sb d t ht)
  have hSw := h.lt
  have KN : Hid (∀ u, TM u S g s → Calls Tryz.prog 57 #[.agg #[.pointer (some ⟨d, 0, none⟩), .string (St z)]] u fun e w' => e = .returned (.pointer none) ∧ Below u.heap.size u w') := fun u hu => by
    have := named_any hu ht h2 hz
    rw [hc] at this
    exact this
  have HT := hide h
  have KB := hide KB
  have HD := hide (And.intro ht (And.intro h2 (And.intro hz (And.intro hns (And.intro hdS hSw)))))
  clear h hk hp he ht h2 hc hz hns hdS hSw
  generalize St p = sp at *
  generalize hsz : St z = sz at *
  go_enter Tryz.func66, Tryz.ntmps66
  go_wp2_with fail
  refine (unhide K).mono ?_
  rintro e w1 ⟨rfl, hb⟩
  have hb1 : Below w.heap.size w (w1.alloc (.cells #[.pointer (some ⟨d, 0, none⟩), .string sz] 92)) := hb.alloc hb.size _
  have HB := hide hb1
  have HT := hide (HT.out.below hb1)
  have KN := hide (KN.out _ HT.out)
  have hC := C2.new w1 (.pointer (some ⟨d, 0, none⟩)) (.string sz)
  have HC := hide hC
  have k0 := hC.c0
  have k1 := hC.c1
  have hm2 : w.heap.size ≤ w1.heap.size := hb.size
  clear K hb hb1 hC
  go_wp2_with fail
  generalize w1.alloc (.cells #[.pointer (some ⟨d, 0, none⟩), .string sz] 92) = w2 at *
  generalize w1.heap.size = m2 at *
  refine (unhide KN).mono ?_
  rintro e w3 ⟨rfl, hb⟩
  have HB := hide (HB.out.trans (hb.mono HB.out.size))
  have HT := hide (HT.out.below hb)
  have HC := hide (HC.out.below hb HC.out.lt)
  have KB := hide (KB.out w3 HT.out HB.out)
  clear KN hb k0 k1
  go_wp2_with fail
  refine (unhide KB).mono ?_
  rintro e w4 ⟨b, mp, ra, rc, rfl, hb1, hb2, h4, hkp⟩
  obtain ⟨ht, h2, hz, hns, hdS, hSw⟩ := HD.out
  have hbd : d ≠ b := by have := HB.out.size; omega
  have hmn2 : ¬ S m2 := fun e => by have := hSw m2 e; omega
  have HC4 : C2 w4 m2 (.pointer (some ⟨d, 0, none⟩)) (.string sz) := (hkp.block m2 HC.out.lt hmn2).trans HC.out
  have hb0 : ({ s with row := (pad s.row f).set f (some b), ra := ra, rc := rc, least := f }.upd b (newT 1 f mp)).T b = some (newT 1 f mp) := by rw [Tr.upd_T, if_pos rfl]
  obtain ⟨_, _, t2, _, _, tf⟩ := h4.thing_cells hb0
  have h5 := h4.setH hb0 1
  rw [Tr.upd_upd] at h5
  have hd5 : ({ s with row := (pad s.row f).set f (some b), ra := ra, rc := rc, least := f }.upd b { newT 1 f mp with l := 1 }).T d = some t := by rw [Tr.upd_T, if_neg hbd]; exact ht
  have k5 := h5.dir_map hd5 h2
  have HC5 : C2 (w4.setCell ⟨b, 2, none⟩ (.int .i64 1)) m2 (.pointer (some ⟨d, 0, none⟩)) (.string sz) := (Below.heap_setCell _ _ _ _ (fun e => by
    have e' : m2 = b := e
    rw [e'] at HC4
    exact rowC_ne (h4.thg b _ hb0) HC4)).trans HC4
  have h5d : TM (w4.setCell ⟨b, 2, none⟩ (.int .i64 1)).drew _ g _ := h5.kept (fun _ _ => rfl) (fun _ h => h) h5.lt
  have hm5 := h5d.map d t hd5 h2
  obtain ⟨u', hr, hu, hg, hsz'⟩ := hm5.put hz b hns
  have h6 := h5d.setM hd5 h2 hu hg hsz'
  have hkp5' : Kp S w3 (w4.setCell ⟨b, 2, none⟩ (.int .i64 1)) := hkp.setCell (p := ⟨b, 2, none⟩) (.inr hb1) _
  have hkp5 : Kp S w3 (w4.setCell ⟨b, 2, none⟩ (.int .i64 1)).drew := ⟨hkp5'.os, hkp5'.tape, hkp5'.output, hkp5'.size, hkp5'.block⟩
  have hmpS : S t.mp ∨ w3.heap.size ≤ t.mp := (h5.sm d t hd5 h2).elim .inl (fun q => .inr q.1)
  have hkp6 : Kp S w3 u' := hkp5.grown hg hmpS
  have t2' : w4.cell? ⟨b, 2, none⟩ = some (.int .i64 0) := t2
  have k0 := HC5.c0
  have k1 := HC5.c1
  rw [hsz] at hr
  have HR : Hid (w.heap.size ≤ b ∧ TM u' (Up S w.heap.size u'.heap.size) g (s.made f 1 d t z b mp ra rc) ∧ Kp S w u') := by
    have hws := HB.out.size
    refine ⟨by omega, ?_, (Kp.of HB.out).trans hkp6 (fun k hk => .inl hk)⟩
    have hz6 : u'.heap.size = w4.heap.size := by rw [hsz']; simp [World.setCell, World.drew]
    rw [hz6]
    refine h6.kept (fun _ _ => rfl) (fun x hx => ?_) (fun x hx => ?_)
    · rcases hx with q | q
      · exact .inl q
      · exact .inr ⟨by omega, q.2⟩
    · rw [hz6]
      rcases hx with q | q
      · have := hSw x q; have := hkp.size; omega
      · exact q.2
  clear h4 h5 h5d h6 hkp hkp5 hkp5' hkp6 hmpS hu hg hsz' hm5 HC5 HC4 hd5 hb0 t2 HC HT HB hm2 hmn2 hbd hz hns hdS hSw ht h2 HD KB hb1 hb2
  generalize t.mp = tm at *
  go_upto_region 10 with fail
  generalize w4.setCell ⟨b, 2, none⟩ (.int .i64 1) = w5 at *
  go_region
  go_wp2_with fail
  go_ret
  exact ⟨b, mp, ra, rc, rfl, HR.out⟩

end Go.Proofs.YtknmgefpjdfenaaGreat

/- Create and Mkdir. -/
namespace Go.Proofs.YtknmgefpjdfenaaGreat
open Go.RowKit Go.Shelf Go.Maps
set_option linter.unusedVariables false
set_option maxRecDepth 100000

theorem refE_one (p : List UInt8) : refE [p] = splE p := by
  unfold refE splE
  cases h : spl p with
  | none => simp [h]
  | some ns => simp [h]

/-- refuses of one path, just put into a row. -/
theorem refuses_one {w : World} {S : Nat → Prop} {g : Nat} {s : Tr} (h : TM w S g s) (hr : s.row ≠ []) {p : List UInt8} (hp : p.length ≤ 9223372036854775807) {v : World} (hv : Below w.heap.size w v) :
    Calls Tryz.prog 52 #[.pointer (some ⟨g, 0, none⟩), .slice (some ⟨v.heap.size, 0, none⟩) 1 1] (v.alloc (.cells #[.string (St p)] 9)) fun e w' => e = .returned (.int .i64 (splE p)) ∧ Below w.heap.size w w' := by
  have hb : Below w.heap.size w (v.alloc (.cells #[.string (St p)] 9)) := hv.alloc hv.size _
  have hh : HasS (v.alloc (.cells #[.string (St p)] 9)) (some ⟨v.heap.size, 0, none⟩) 1 [p] := by
    refine ⟨rfl, fun _ => ⟨v.heap.size, 0, rfl, by simp, fun j hj => ?_⟩⟩
    obtain rfl : j = 0 := by omega
    simp only [World.cell?, World.alloc_heap_new]
    rfl
  have := refuses_any (h.below hb) hr _ 1 1 [p] hh (by omega) (fun j => by
    cases j with
    | zero => simpa using hp
    | succ j => simp)
  rw [refE_one] at this
  refine this.mono ?_
  rintro e w' ⟨rfl, h2⟩
  exact ⟨rfl, hb.trans (h2.mono hb.size)⟩

theorem splE_of {p : List UInt8} {ns : List (List UInt8)} (h : spl p = some ns) : splE p = 0 := by unfold splE; rw [h]; rfl

set_option maxHeartbeats 1000000 in
theorem mkdir_nil (p : ByteArray) (w : World) : Calls Tryz.prog 21 #[.pointer none, .string p] w fun e w' => e = .returned (.int .i64 1) ∧ Below w.heap.size w w' := by
  have K : Hid (∀ ps u, Calls Tryz.prog 52 #[.pointer none, ps] u fun e w' => e = .returned (.int .i64 1) ∧ w' = u) := fun ps u => refuses_nil ps u
  have HB : Hid (Below w.heap.size w ((w.alloc (.cells #[.pointer none] 26)).alloc (.cells #[.string p] 9))) := ((Below.refl _ w).alloc (Nat.le_refl _) _).alloc (by simp) _
  go_enter Tryz.func21, Tryz.ntmps21
  go_wp2_with fail
  refine (unhide K _ _).mono ?_
  rintro e w1 ⟨rfl, rfl⟩
  clear K
  go_wp2_with fail
  go_ret
  exact ⟨rfl, HB.out⟩

set_option maxHeartbeats 1000000 in
theorem mkdir_bad {w : World} {S : Nat → Prop} {g : Nat} {s : Tr} (h : TM w S g s) (hr : s.row ≠ []) {p : List UInt8} (hp : p.length ≤ 9223372036854775807) (hs : spl p = none) :
    Calls Tryz.prog 21 #[.pointer (some ⟨g, 0, none⟩), .string (St p)] w fun e w' => e = .returned (.int .i64 16) ∧ Below w.heap.size w w' := by
  have hv : Below w.heap.size w (w.alloc (.cells #[.pointer (some ⟨g, 0, none⟩)] 26)) := (Below.refl _ w).alloc (Nat.le_refl _) _
  have K := refuses_one (h.below hv) hr hp (Below.refl _ _)
  rw [splE_none hs, show (w.alloc (.cells #[.pointer (some ⟨g, 0, none⟩)] 26)).heap.size = w.heap.size + 1 by simp] at K
  have K := hide K
  have HV := hide hv
  have HZ : Hid ((w.alloc (.cells #[.pointer (some ⟨g, 0, none⟩)] 26)).heap.size = w.heap.size + 1) := by unfold Hid; simp
  have HC0 : Hid ((w.alloc (.cells #[.pointer (some ⟨g, 0, none⟩)] 26)).cell? ⟨w.heap.size, 0, none⟩ = some (.pointer (some ⟨g, 0, none⟩))) := cell_box (World.alloc_heap_new _ _)
  clear h hr hp hs hv
  generalize St p = sp at *
  go_enter Tryz.func21, Tryz.ntmps21
  go_wp2_with fail
  generalize w.alloc (.cells #[.pointer (some ⟨g, 0, none⟩)] 26) = w0 at *
  refine (unhide K).mono ?_
  rintro e w1 ⟨rfl, hb⟩
  rw [← HZ.out] at hb
  have HB := hide (HV.out.trans (hb.mono HV.out.size))
  clear K hb
  go_wp2_with fail
  go_ret
  exact ⟨rfl, HB.out⟩

set_option maxHeartbeats 1000000 in
/-- Where enter changes nothing. -/
theorem mkdir_ref {w : World} {S : Nat → Prop} {g : Nat} {s : Tr} (h : TM w S g s) (hr : s.row ≠ []) {p : List UInt8} {ns : List (List UInt8)} (hs : spl p = some ns) {E : Int}
    (KE : ∀ u fn, TM u S g s → Calls Tryz.prog 66 #[.pointer (some ⟨g, 0, none⟩), .string (St p), fn] u fun e w' => e = .returned (.int .i64 E) ∧ Below u.heap.size u w') :
    Calls Tryz.prog 21 #[.pointer (some ⟨g, 0, none⟩), .string (St p)] w fun e w' => e = .returned (.int .i64 E) ∧ Below w.heap.size w w' := by
  have hv : Below w.heap.size w (w.alloc (.cells #[.pointer (some ⟨g, 0, none⟩)] 26)) := (Below.refl _ w).alloc (Nat.le_refl _) _
  have hlt : w.heap.size < (w.alloc (.cells #[.pointer (some ⟨g, 0, none⟩)] 26)).heap.size := by simp
  have hv2 := h.below hv
  have K := refuses_one (p := p) hv2 hr (by have := spl_len hs; omega) (Below.refl _ _)
  rw [splE_of hs, show (w.alloc (.cells #[.pointer (some ⟨g, 0, none⟩)] 26)).heap.size = w.heap.size + 1 by simp] at K
  have K := hide K
  have HZ : Hid ((w.alloc (.cells #[.pointer (some ⟨g, 0, none⟩)] 26)).heap.size = w.heap.size + 1) := by unfold Hid; simp
  have HC0 : Hid ((w.alloc (.cells #[.pointer (some ⟨g, 0, none⟩)] 26)).cell? ⟨w.heap.size, 0, none⟩ = some (.pointer (some ⟨g, 0, none⟩))) := cell_box (World.alloc_heap_new _ _)
  have HT := hide hv2
  have HV := hide hv
  have KE := hide KE
  clear h hr hs hv hv2
  generalize St p = sp at *
  go_enter Tryz.func21, Tryz.ntmps21
  go_wp2_with fail
  generalize w.alloc (.cells #[.pointer (some ⟨g, 0, none⟩)] 26) = w0 at *
  refine (unhide K).mono ?_
  rintro e w1 ⟨rfl, hb⟩
  rw [← HZ.out] at hb
  have HT := hide (HT.out.below hb)
  have c1 := (hb.cell (p := ⟨w.heap.size, 0, none⟩) hlt).trans HC0.out
  have HB := hide (HV.out.trans (hb.mono HV.out.size))
  clear K hb HC0 HV
  go_wp2_with fail
  refine (unhide KE w1 _ HT.out).mono ?_
  rintro e w2 ⟨rfl, hb⟩
  have HB := hide (HB.out.trans (hb.mono HB.out.size))
  clear KE hb c1 HT
  go_wp2_with fail
  go_ret
  exact ⟨rfl, HB.out⟩

set_option maxHeartbeats 2000000 in
theorem mkdir_new {w : World} {S : Nat → Prop} {g r d f : Nat} {s : Tr} {t : Th} (h : TM w S g s) (hk : Ok s r) {p z : List UInt8} {ms : List (List UInt8)} (hp : spl p = some (ms ++ [z])) (he : plc s ms r = (0, some d)) (ht : s.T d = some t) (h2 : t.k = 2) (hc : t.ns.lookup z = none)
    (hns : t.ns.length < 1000000000) (hf : Free s f) (hfm : f ≤ 1000000) (hrm : s.row.length ≤ 1000000) :
    Calls Tryz.prog 21 #[.pointer (some ⟨g, 0, none⟩), .string (St p)] w fun e w' => ∃ b mp ra rc, e = .returned (.int .i64 0) ∧ w.heap.size ≤ b ∧ TM w' (Up S w.heap.size w'.heap.size) g (s.made f 2 d t z b mp ra rc) ∧ Kp S w w' := by
  have hv : Below w.heap.size w (w.alloc (.cells #[.pointer (some ⟨g, 0, none⟩)] 26)) := (Below.refl _ w).alloc (Nat.le_refl _) _
  have hlt : w.heap.size < (w.alloc (.cells #[.pointer (some ⟨g, 0, none⟩)] 26)).heap.size := by simp
  have hv2 := h.below hv
  have K := refuses_one (p := p) hv2 hk.row_ne (by have := spl_len hp; omega) (Below.refl _ _)
  rw [splE_of hp, show (w.alloc (.cells #[.pointer (some ⟨g, 0, none⟩)] 26)).heap.size = w.heap.size + 1 by simp] at K
  have K := hide K
  have HZ : Hid ((w.alloc (.cells #[.pointer (some ⟨g, 0, none⟩)] 26)).heap.size = w.heap.size + 1) := by unfold Hid; simp
  have HC0 : Hid ((w.alloc (.cells #[.pointer (some ⟨g, 0, none⟩)] 26)).cell? ⟨w.heap.size, 0, none⟩ = some (.pointer (some ⟨g, 0, none⟩))) := cell_box (World.alloc_heap_new _ _)
  have HT := hide hv2
  have HV := hide hv
  have hSw := h.lt
  have KE : Hid (∀ u, TM u S g s → (u.cell? ⟨w.heap.size, 0, none⟩ = some (.pointer (some ⟨g, 0, none⟩)) ∧ w.heap.size < u.heap.size) →
      Calls Tryz.prog 66 #[.pointer (some ⟨g, 0, none⟩), .string (St p), .func (.func 67) #[] #[.pointer (some ⟨w.heap.size, 0, none⟩)]] u fun e w' => ∃ b mp ra rc, e = .returned (.int .i64 0) ∧ u.heap.size ≤ b ∧ TM w' (Up S u.heap.size w'.heap.size) g (s.made f 2 d t z b mp ra rc) ∧ Kp S u w') :=
    fun u hu hm => enter_mk hu hk hp he ht h2 hc hns (fun v hv hb => mkdir1_any hv hf hfm hrm ((hb.cell (p := ⟨w.heap.size, 0, none⟩) hm.2).trans hm.1))
  clear h hk hp hv hv2 he ht h2 hc hns hf hfm hrm
  generalize St p = sp at *
  go_enter Tryz.func21, Tryz.ntmps21
  go_wp2_with fail
  generalize w.alloc (.cells #[.pointer (some ⟨g, 0, none⟩)] 26) = w0 at *
  refine (unhide K).mono ?_
  rintro e w1 ⟨rfl, hb⟩
  rw [← HZ.out] at hb
  have HT := hide (HT.out.below hb)
  have c1 := (hb.cell (p := ⟨w.heap.size, 0, none⟩) hlt).trans HC0.out
  have KE := hide (KE.out w1 HT.out ⟨c1, Nat.lt_of_lt_of_le hlt hb.size⟩)
  have HB := hide (HV.out.trans (hb.mono HV.out.size))
  clear K hb HC0 HV
  go_wp2_with fail
  refine (unhide KE).mono ?_
  rintro e w2 ⟨b, mp, ra, rc, rfl, hb1, htm, hkp⟩
  have HR : Hid (w.heap.size ≤ b ∧ TM w2 (Up S w.heap.size w2.heap.size) g (s.made f 2 d t z b mp ra rc) ∧ Kp S w w2) := by
    have hws := HB.out.size
    refine ⟨by omega, ?_, (Kp.of HB.out).trans hkp (fun k hk => .inl hk)⟩
    refine htm.kept (fun _ _ => rfl) (fun x hx => ?_) (fun x hx => ?_)
    · rcases hx with q | q
      · exact .inl q
      · exact .inr ⟨by omega, q.2⟩
    · rcases hx with q | q
      · have := hSw x q; have := hkp.size; omega
      · exact q.2
  clear KE hb1 htm hkp HT HB c1 hSw
  go_wp2_with fail
  go_ret
  exact ⟨b, mp, ra, rc, rfl, HR.out⟩

set_option maxHeartbeats 1000000 in
theorem create_nil (p : ByteArray) (w : World) : Calls Tryz.prog 22 #[.pointer none, .string p] w fun e w' => e = .returned (.int .i64 1) ∧ Below w.heap.size w w' := by
  have K : Hid (∀ ps u, Calls Tryz.prog 52 #[.pointer none, ps] u fun e w' => e = .returned (.int .i64 1) ∧ w' = u) := fun ps u => refuses_nil ps u
  have HB : Hid (Below w.heap.size w ((w.alloc (.cells #[.pointer none] 26)).alloc (.cells #[.string p] 9))) := ((Below.refl _ w).alloc (Nat.le_refl _) _).alloc (by simp) _
  go_enter Tryz.func22, Tryz.ntmps22
  go_wp2_with fail
  refine (unhide K _ _).mono ?_
  rintro e w1 ⟨rfl, rfl⟩
  clear K
  go_wp2_with fail
  go_ret
  exact ⟨rfl, HB.out⟩

set_option maxHeartbeats 1000000 in
theorem create_bad {w : World} {S : Nat → Prop} {g : Nat} {s : Tr} (h : TM w S g s) (hr : s.row ≠ []) {p : List UInt8} (hp : p.length ≤ 9223372036854775807) (hs : spl p = none) :
    Calls Tryz.prog 22 #[.pointer (some ⟨g, 0, none⟩), .string (St p)] w fun e w' => e = .returned (.int .i64 16) ∧ Below w.heap.size w w' := by
  have hv : Below w.heap.size w (w.alloc (.cells #[.pointer (some ⟨g, 0, none⟩)] 26)) := (Below.refl _ w).alloc (Nat.le_refl _) _
  have K := refuses_one (h.below hv) hr hp (Below.refl _ _)
  rw [splE_none hs, show (w.alloc (.cells #[.pointer (some ⟨g, 0, none⟩)] 26)).heap.size = w.heap.size + 1 by simp] at K
  have K := hide K
  have HV := hide hv
  have HZ : Hid ((w.alloc (.cells #[.pointer (some ⟨g, 0, none⟩)] 26)).heap.size = w.heap.size + 1) := by unfold Hid; simp
  have HC0 : Hid ((w.alloc (.cells #[.pointer (some ⟨g, 0, none⟩)] 26)).cell? ⟨w.heap.size, 0, none⟩ = some (.pointer (some ⟨g, 0, none⟩))) := cell_box (World.alloc_heap_new _ _)
  clear h hr hp hs hv
  generalize St p = sp at *
  go_enter Tryz.func22, Tryz.ntmps22
  go_wp2_with fail
  generalize w.alloc (.cells #[.pointer (some ⟨g, 0, none⟩)] 26) = w0 at *
  refine (unhide K).mono ?_
  rintro e w1 ⟨rfl, hb⟩
  rw [← HZ.out] at hb
  have HB := hide (HV.out.trans (hb.mono HV.out.size))
  clear K hb
  go_wp2_with fail
  go_ret
  exact ⟨rfl, HB.out⟩

set_option maxHeartbeats 1000000 in
/-- Where enter changes nothing. -/
theorem create_ref {w : World} {S : Nat → Prop} {g : Nat} {s : Tr} (h : TM w S g s) (hr : s.row ≠ []) {p : List UInt8} {ns : List (List UInt8)} (hs : spl p = some ns) {E : Int}
    (KE : ∀ u fn, TM u S g s → Calls Tryz.prog 66 #[.pointer (some ⟨g, 0, none⟩), .string (St p), fn] u fun e w' => e = .returned (.int .i64 E) ∧ Below u.heap.size u w') :
    Calls Tryz.prog 22 #[.pointer (some ⟨g, 0, none⟩), .string (St p)] w fun e w' => e = .returned (.int .i64 E) ∧ Below w.heap.size w w' := by
  have hv : Below w.heap.size w (w.alloc (.cells #[.pointer (some ⟨g, 0, none⟩)] 26)) := (Below.refl _ w).alloc (Nat.le_refl _) _
  have hlt : w.heap.size < (w.alloc (.cells #[.pointer (some ⟨g, 0, none⟩)] 26)).heap.size := by simp
  have hv2 := h.below hv
  have K := refuses_one (p := p) hv2 hr (by have := spl_len hs; omega) (Below.refl _ _)
  rw [splE_of hs, show (w.alloc (.cells #[.pointer (some ⟨g, 0, none⟩)] 26)).heap.size = w.heap.size + 1 by simp] at K
  have K := hide K
  have HZ : Hid ((w.alloc (.cells #[.pointer (some ⟨g, 0, none⟩)] 26)).heap.size = w.heap.size + 1) := by unfold Hid; simp
  have HC0 : Hid ((w.alloc (.cells #[.pointer (some ⟨g, 0, none⟩)] 26)).cell? ⟨w.heap.size, 0, none⟩ = some (.pointer (some ⟨g, 0, none⟩))) := cell_box (World.alloc_heap_new _ _)
  have HT := hide hv2
  have HV := hide hv
  have KE := hide KE
  clear h hr hs hv hv2
  generalize St p = sp at *
  go_enter Tryz.func22, Tryz.ntmps22
  go_wp2_with fail
  generalize w.alloc (.cells #[.pointer (some ⟨g, 0, none⟩)] 26) = w0 at *
  refine (unhide K).mono ?_
  rintro e w1 ⟨rfl, hb⟩
  rw [← HZ.out] at hb
  have HT := hide (HT.out.below hb)
  have c1 := (hb.cell (p := ⟨w.heap.size, 0, none⟩) hlt).trans HC0.out
  have HB := hide (HV.out.trans (hb.mono HV.out.size))
  clear K hb HC0 HV
  go_wp2_with fail
  refine (unhide KE w1 _ HT.out).mono ?_
  rintro e w2 ⟨rfl, hb⟩
  have HB := hide (HB.out.trans (hb.mono HB.out.size))
  clear KE hb c1 HT
  go_wp2_with fail
  go_ret
  exact ⟨rfl, HB.out⟩

set_option maxHeartbeats 2000000 in
theorem create_new {w : World} {S : Nat → Prop} {g r d f : Nat} {s : Tr} {t : Th} (h : TM w S g s) (hk : Ok s r) {p z : List UInt8} {ms : List (List UInt8)} (hp : spl p = some (ms ++ [z])) (he : plc s ms r = (0, some d)) (ht : s.T d = some t) (h2 : t.k = 2) (hc : t.ns.lookup z = none)
    (hns : t.ns.length < 1000000000) (hf : Free s f) (hfm : f ≤ 1000000) (hrm : s.row.length ≤ 1000000) :
    Calls Tryz.prog 22 #[.pointer (some ⟨g, 0, none⟩), .string (St p)] w fun e w' => ∃ b mp ra rc, e = .returned (.int .i64 0) ∧ w.heap.size ≤ b ∧ TM w' (Up S w.heap.size w'.heap.size) g (s.made f 1 d t z b mp ra rc) ∧ Kp S w w' := by
  have hv : Below w.heap.size w (w.alloc (.cells #[.pointer (some ⟨g, 0, none⟩)] 26)) := (Below.refl _ w).alloc (Nat.le_refl _) _
  have hlt : w.heap.size < (w.alloc (.cells #[.pointer (some ⟨g, 0, none⟩)] 26)).heap.size := by simp
  have hv2 := h.below hv
  have K := refuses_one (p := p) hv2 hk.row_ne (by have := spl_len hp; omega) (Below.refl _ _)
  rw [splE_of hp, show (w.alloc (.cells #[.pointer (some ⟨g, 0, none⟩)] 26)).heap.size = w.heap.size + 1 by simp] at K
  have K := hide K
  have HZ : Hid ((w.alloc (.cells #[.pointer (some ⟨g, 0, none⟩)] 26)).heap.size = w.heap.size + 1) := by unfold Hid; simp
  have HC0 : Hid ((w.alloc (.cells #[.pointer (some ⟨g, 0, none⟩)] 26)).cell? ⟨w.heap.size, 0, none⟩ = some (.pointer (some ⟨g, 0, none⟩))) := cell_box (World.alloc_heap_new _ _)
  have HT := hide hv2
  have HV := hide hv
  have hSw := h.lt
  have KE : Hid (∀ u, TM u S g s → (u.cell? ⟨w.heap.size, 0, none⟩ = some (.pointer (some ⟨g, 0, none⟩)) ∧ w.heap.size < u.heap.size) →
      Calls Tryz.prog 66 #[.pointer (some ⟨g, 0, none⟩), .string (St p), .func (.func 68) #[] #[.pointer (some ⟨w.heap.size, 0, none⟩)]] u fun e w' => ∃ b mp ra rc, e = .returned (.int .i64 0) ∧ u.heap.size ≤ b ∧ TM w' (Up S u.heap.size w'.heap.size) g (s.made f 1 d t z b mp ra rc) ∧ Kp S u w') :=
    fun u hu hm => enter_cr hu hk hp he ht h2 hc hns (fun v hv hb => create1_any hv hf hfm hrm ((hb.cell (p := ⟨w.heap.size, 0, none⟩) hm.2).trans hm.1))
  clear h hk hp hv hv2 he ht h2 hc hns hf hfm hrm
  generalize St p = sp at *
  go_enter Tryz.func22, Tryz.ntmps22
  go_wp2_with fail
  generalize w.alloc (.cells #[.pointer (some ⟨g, 0, none⟩)] 26) = w0 at *
  refine (unhide K).mono ?_
  rintro e w1 ⟨rfl, hb⟩
  rw [← HZ.out] at hb
  have HT := hide (HT.out.below hb)
  have c1 := (hb.cell (p := ⟨w.heap.size, 0, none⟩) hlt).trans HC0.out
  have KE := hide (KE.out w1 HT.out ⟨c1, Nat.lt_of_lt_of_le hlt hb.size⟩)
  have HB := hide (HV.out.trans (hb.mono HV.out.size))
  clear K hb HC0 HV
  go_wp2_with fail
  refine (unhide KE).mono ?_
  rintro e w2 ⟨b, mp, ra, rc, rfl, hb1, htm, hkp⟩
  have HR : Hid (w.heap.size ≤ b ∧ TM w2 (Up S w.heap.size w2.heap.size) g (s.made f 1 d t z b mp ra rc) ∧ Kp S w w2) := by
    have hws := HB.out.size
    refine ⟨by omega, ?_, (Kp.of HB.out).trans hkp (fun k hk => .inl hk)⟩
    refine htm.kept (fun _ _ => rfl) (fun x hx => ?_) (fun x hx => ?_)
    · rcases hx with q | q
      · exact .inl q
      · exact .inr ⟨by omega, q.2⟩
    · rcases hx with q | q
      · have := hSw x q; have := hkp.size; omega
      · exact q.2
  clear KE hb1 htm hkp HT HB c1 hSw
  go_wp2_with fail
  go_ret
  exact ⟨b, mp, ra, rc, rfl, HR.out⟩

end Go.Proofs.YtknmgefpjdfenaaGreat

