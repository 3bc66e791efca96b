/- Joined: TTaken, TRemove. -/
import Derived.Test.YtknmgefpjdfenaaGreatTnJ44
import Derived.LaidEqlPtr
/- taken, the handles that keep a file, remove, Unlink, Rmdir. -/
namespace Go.Proofs.YtknmgefpjdfenaaGreat
open Go.RowKit Go.Shelf Go.Maps
set_option linter.unusedVariables false
set_option maxRecDepth 100000

/-- What a call leaves: refused, and then nothing has changed; or not. -/
def CallP (w : World) (S : Nat → Prop) (g : Nat) (s : Tr) (Q : Tr → Prop) (e : Ending) (w' : World) : Prop :=
  ∃ E s', e = .returned (.int .i64 E) ∧ TM w' (Up S w.heap.size w'.heap.size) g s' ∧ Kp S w w' ∧ ((E ≠ 0 ∧ s' = s) ∨ (E = 0 ∧ Q s'))

theorem CallP.no {w : World} {S : Nat → Prop} {g : Nat} {s : Tr} {Q : Tr → Prop} (h : TM w S g s) {E : Int} (hE : E ≠ 0) {w' : World} (hb : Below w.heap.size w w') : CallP w S g s Q (.returned (.int .i64 E)) w' :=
  ⟨E, s, rfl, h.up (Nat.le_refl _) hb, Kp.of hb, .inl ⟨hE, rfl⟩⟩

/-- What is told of a call made later holds of the call before. -/
theorem up_back {w u w' : World} {S : Nat → Prop} {g : Nat} {s' : Tr} (hS : ∀ k, S k → k < w.heap.size) (hb : Below w.heap.size w u) (h : TM w' (Up S u.heap.size w'.heap.size) g s') (hk : Kp S u w') : TM w' (Up S w.heap.size w'.heap.size) g s' ∧ Kp S w w' := by
  have h1 := hb.size
  refine ⟨h.kept (fun _ _ => rfl) (fun x hx => hx.elim .inl (fun q => .inr ⟨by omega, q.2⟩)) (fun x hx => ?_), (Kp.of hb).trans hk (fun k q => .inl q)⟩
  rcases hx with q | q
  · have := hS x q
    have := hk.size
    omega
  · exact q.2

theorem CallP.later {w u w' : World} {S : Nat → Prop} {g : Nat} {s : Tr} {Q : Tr → Prop} {e : Ending} (hS : ∀ k, S k → k < w.heap.size) (hb : Below w.heap.size w u) (h : CallP u S g s Q e w') : CallP w S g s Q e w' := by
  obtain ⟨E, s', he, h1, h2, h3⟩ := h
  obtain ⟨q1, q2⟩ := up_back hS hb h1 h2
  exact ⟨E, s', he, q1, q2, h3⟩

theorem undPT : Tryz.prog.underlying 63 = some (.pointer 69) := by kernel_rfl

theorem sizeTh : (Tryz.prog.info? 69).map (·.size) = some 5 := by kernel_rfl

/-- Two things are one, or not. -/
theorem ptr_eq {w v : World} {S : Nat → Prop} {g b c : Nat} {s : Tr} {t t' : Th} (h : TM w S g s) (hb : s.T b = some t) (hc : s.T c = some t') (hv : v.heap = w.heap) :
    (binOp .eql 63 (.pointer (some ⟨b, 0, none⟩)) (.pointer (some ⟨c, 0, none⟩))).run Tryz.prog v = .ok (.bool (decide (b = c))) v := by
  obtain ⟨j, hj, hs⟩ := Option.map_eq_some_iff.1 sizeTh
  by_cases e : b = c
  · subst e
    rw [decide_eq_true rfl]
    exact run_eql_ptr_same v _ undPT hj
  · rw [decide_eq_false e]
    obtain ⟨ca, ha, _⟩ := h.thg b t hb
    obtain ⟨cb, hb', _⟩ := h.thg c t' hc
    exact run_eql_ptr_other v undPT hj (by rw [hs]; decide) (fun q => e (by cases q; rfl)) (by rw [hv]; exact ha) (by rw [hv]; exact hb')

/-- Whether a handle stands for a thing. -/
def Tr.held (s : Tr) (x : Nat) : Bool := (List.range 16).any (fun f => decide (s.opn f = some x))

theorem held_iff (s : Tr) (x : Nat) : s.held x = true ↔ ∃ f, f < 16 ∧ s.opn f = some x := by
  unfold Tr.held
  rw [List.any_eq_true]
  constructor
  · rintro ⟨f, hf, e⟩
    exact ⟨f, List.mem_range.1 hf, of_decide_eq_true e⟩
  · rintro ⟨f, hf, e⟩
    exact ⟨f, List.mem_range.2 hf, decide_eq_true e⟩

set_option maxHeartbeats 1000000 in
theorem index_thing {w : World} {S : Nat → Prop} {g x : Nat} {s : Tr} (h : TM w S g s) (hx : ∃ t, s.T x = some t) (ho : ∀ f b, s.opn f = some b → ∃ t, s.T b = some t) :
    Calls Tryz.prog 63 #[.slice (some ⟨g, 3, none⟩) 16 16, .pointer (some ⟨x, 0, none⟩)] w fun e w' => (∃ i : Int, e = .returned (.int .i64 i) ∧ decide (i ≥ 0) = s.held x) ∧ w' = w := by
  have HC : Hid (∀ i, i < 16 → w.cell? ⟨g, 3 + i, none⟩ = some (ptrO (s.opn i))) := fun i hi => h.open_cell hi
  have HE : Hid (∀ i b, i < 16 → s.opn i = some b → (binOp .eql 63 (.pointer (some ⟨x, 0, none⟩)) (.pointer (some ⟨b, 0, none⟩))).run Tryz.prog w = .ok (.bool (decide (x = b))) w) := fun i b hi e => by
    obtain ⟨t, ht⟩ := hx
    obtain ⟨t', ht'⟩ := ho i b e
    exact ptr_eq h ht ht' rfl
  have HS : Hid (∀ j, j < 0 → s.opn j ≠ some x) := fun j hj => by omega
  clear h hx ho
  go_enter Tryz.func63, Tryz.ntmps63
  go_wp2_with fail
  go_loopw [8] (fun iv wr => ∃ k : Nat, k ≤ 16 ∧ iv = .int .i64 (k : Int) ∧ wr = w ∧ Hid (∀ j, j < k → s.opn j ≠ some x)) (fun iv _ => 16 - (intOf iv).toNat)
  case atStart => exact ⟨0, Nat.zero_le _, rfl, rfl, HS⟩
  case round =>
    obtain ⟨k, hk, rfl, rfl, hJ⟩ := hrel
    clear HS
    by_cases hlt : k < 16
    · have c := HC.out k hlt
      have l1 : (k : Int) < 16 := by omega
      have l0 : (0 : Int) ≤ (k : Int) := by omega
      cases hb : s.opn k with
      | none =>
        rw [hb] at c
        simp only [ptrO, Option.map_none] at c
        have HJ : Hid (∀ j, j < k + 1 → s.opn j ≠ some x) := fun j hj => by
          by_cases e : j = k
          · subst e; rw [hb]; exact fun q => by cases q
          · exact hJ.out j (by omega)
        clear HC HE hJ hb
        go_wp2_with fail
        go_roundw
        case rel => exact ⟨k + 1, by omega, by go_num, trivial, HJ⟩
        case measure => simp [intOf]; omega
      | some b =>
        have hn := HE.out k b hlt hb
        have hb' := hb
        rw [hb] at c
        simp only [ptrO, Option.map_some] at c
        by_cases e : x = b
        · subst e
          rw [decide_eq_true rfl] at hn
          have HF : Hid (s.held x = true) := (held_iff s x).2 ⟨k, hlt, hb⟩
          clear HC HE hJ hb hb'
          go_wp2_with fail
          go_ret
          exact ⟨⟨(k : Int), rfl, by rw [HF.out]; simp⟩, rfl⟩
        · rw [decide_eq_false e] at hn
          have HJ : Hid (∀ j, j < k + 1 → s.opn j ≠ some x) := fun j hj => by
            by_cases e' : j = k
            · subst e'; rw [hb]; exact fun q => e (by cases q; rfl)
            · exact hJ.out j (by omega)
          clear HC HE hJ hb hb'
          go_wp2_with fail
          go_roundw
          case rel => exact ⟨k + 1, by omega, by go_num, trivial, HJ⟩
          case measure => simp [intOf]; omega
    · obtain rfl : k = 16 := by omega
      have HF : Hid (s.held x = false) := by
        unfold Hid
        rw [Bool.eq_false_iff]
        intro q
        obtain ⟨f, hf, e⟩ := (held_iff s x).1 q
        exact hJ.out f hf e
      clear HC HE hJ
      go_wp2_with fail
      go_ret
      exact ⟨⟨-1, rfl, by rw [HF.out]; rfl⟩, rfl⟩

theorem contains_thing {w : World} {S : Nat → Prop} {g x : Nat} {s : Tr} (h : TM w S g s) (hx : ∃ t, s.T x = some t) (ho : ∀ f b, s.opn f = some b → ∃ t, s.T b = some t) :
    Calls Tryz.prog 107 #[.slice (some ⟨g, 3, none⟩) 16 16, .pointer (some ⟨x, 0, none⟩)] w fun e w' => e = .returned (.bool (s.held x)) ∧ w' = w := by
  have K := hide (index_thing h hx ho)
  clear h hx ho
  go_enter Tryz.func107, Tryz.ntmps107
  go_wp2_with fail
  refine (unhide K).mono ?_
  rintro e w1 ⟨⟨i, rfl, hi⟩, rfl⟩
  clear K
  go_wp2_with fail
  go_ret
  exact ⟨by rw [← hi]; rfl, rfl⟩

/-- Whether a handle keeps a thing from losing its last name. -/
def Tr.keeps (s : Tr) (x : Nat) (t : Th) : Bool := decide (t.l = 1) && s.held x

theorem holds_any {w : World} {S : Nat → Prop} {g x : Nat} {s : Tr} {t : Th} (h : TM w S g s) (hx : s.T x = some t) (ho : ∀ f b, s.opn f = some b → ∃ t, s.T b = some t) :
    Calls Tryz.prog 85 #[.pointer (some ⟨g, 0, none⟩), .pointer (some ⟨x, 0, none⟩)] w fun e w' => e = .returned (.bool (s.keeps x t)) ∧ w' = w := by
  have K := hide (contains_thing h ⟨t, hx⟩ ho)
  obtain ⟨_, _, c2, _⟩ := h.thing_cells hx
  unfold Tr.keeps
  by_cases hl : t.l = 1
  · have d1 : (t.l == 1) = true := by rw [hl]; rfl
    rw [decide_eq_true hl, Bool.true_and]
    clear h hx ho hl
    generalize t.l = tl at *
    go_enter Tryz.func85, Tryz.ntmps85
    go_wp2_with fail
    refine (unhide K).mono ?_
    rintro e w1 ⟨rfl, rfl⟩
    clear K
    go_wp2_with fail
    go_ret
    exact ⟨rfl, rfl⟩
  · have d1 : (t.l == 1) = false := by simpa using hl
    rw [decide_eq_false hl, Bool.false_and]
    clear h hx ho hl K
    generalize t.l = tl at *
    go_enter Tryz.func85, Tryz.ntmps85
    go_wp2_with fail
    go_ret
    exact ⟨rfl, rfl⟩

/-- What Unlink asks of a thing. -/
def unE (s : Tr) (x : Nat) (t : Th) : Int := if t.k = 2 then 14 else if s.keeps x t = true then 17 else 0

/-- What Rmdir asks of a thing. -/
def rmE (t : Th) : Int := if t.k = 1 then 13 else if t.ns = [] then 0 else 15

theorem unlink1_any {w : World} {S : Nat → Prop} {g x m : Nat} {s : Tr} {t : Th} (h : TM w S g s) (hx : s.T x = some t) (ho : ∀ f b, s.opn f = some b → ∃ t, s.T b = some t) (hm : w.cell? ⟨m, 0, none⟩ = some (.pointer (some ⟨g, 0, none⟩))) :
    Calls Tryz.prog 84 #[.pointer (some ⟨x, 0, none⟩), .pointer (some ⟨m, 0, none⟩)] w fun e w' => e = .returned (.int .i64 (unE s x t)) ∧ w' = w := by
  have K := hide (holds_any h hx ho)
  obtain ⟨c0, _, _, _⟩ := h.thing_cells hx
  unfold unE
  by_cases hk : t.k = 2
  · have d1 : (t.k == 2) = true := by rw [hk]; rfl
    rw [if_pos hk]
    clear h hx ho hk K
    generalize t.k = tk at *
    go_enter Tryz.func84, Tryz.ntmps84
    go_wp2_with fail
    go_ret
    exact ⟨rfl, rfl⟩
  · have d1 : (t.k == 2) = false := by simpa using hk
    rw [if_neg hk]
    cases hh : s.keeps x t with
    | true =>
      rw [hh] at K
      rw [if_pos rfl]
      clear h hx ho hk hh
      generalize t.k = tk at *
      go_enter Tryz.func84, Tryz.ntmps84
      go_wp2_with fail
      refine (unhide K).mono ?_
      rintro e w1 ⟨rfl, rfl⟩
      clear K
      go_wp2_with fail
      go_ret
      exact ⟨rfl, rfl⟩
    | false =>
      rw [hh] at K
      rw [if_neg (by decide)]
      clear h hx ho hk hh
      generalize t.k = tk at *
      go_enter Tryz.func84, Tryz.ntmps84
      go_wp2_with fail
      refine (unhide K).mono ?_
      rintro e w1 ⟨rfl, rfl⟩
      clear K
      go_wp2_with fail
      go_ret
      exact ⟨rfl, rfl⟩

theorem rmdir1_any {w : World} {S : Nat → Prop} {g x : Nat} {s : Tr} {t : Th} (h : TM w S g s) (hx : s.T x = some t) (hk : t.k = 1 ∨ t.k = 2) (hn : t.ns.length ≤ 1000000) :
    Calls Tryz.prog 86 #[.pointer (some ⟨x, 0, none⟩)] w fun e w' => e = .returned (.int .i64 (rmE t)) ∧ w' = w := by
  obtain ⟨c0, _, _, _⟩ := h.thing_cells hx
  unfold rmE
  rcases hk with hk | hk
  · rw [if_pos hk]
    rw [hk] at c0
    clear h hx
    go_enter Tryz.func86, Tryz.ntmps86
    go_wp2_with fail
    go_ret
    exact ⟨rfl, rfl⟩
  · have c4 := h.dir_map hx hk
    have hl := (h.map x t hx hk).len 3
    have d1 : (t.k == 1) = false := by rw [hk]; rfl
    rw [if_neg (by omega)]
    by_cases h0 : t.ns = []
    · rw [if_pos h0]
      have d2 : (t.ns.length : Int) = 0 := by rw [h0]; rfl
      rw [d2] at hl
      clear h hx hk h0 hn d2
      generalize t.k = tk at *
      generalize t.mp = mp at *
      go_enter Tryz.func86, Tryz.ntmps86
      go_wp2_with fail
      go_ret
      exact ⟨rfl, rfl⟩
    · rw [if_neg h0]
      have hne : t.ns.length ≠ 0 := by simpa using h0
      have d2 : decide ((t.ns.length : Int) > 0) = true := by simp; omega
      have d3 : 0 < t.ns.length := by omega
      clear h hx hk h0 hne
      generalize t.k = tk at *
      generalize t.mp = mp at *
      generalize t.ns.length = nl at *
      go_enter Tryz.func86, Tryz.ntmps86
      go_wp2_with fail
      go_ret
      exact ⟨rfl, rfl⟩

/-- What taken answers. -/
def tkA (s : Tr) (ms : List (List UInt8)) (z : List UInt8) (r : Nat) : Value := match (plc s ms r).2 with
  | none => .tuple #[.agg #[.pointer none, .string ⟨#[]⟩], .pointer none, .int .i64 (plc s ms r).1]
  | some d => match (s.nsOf d).lookup z with
    | none => .tuple #[.agg #[.pointer none, .string ⟨#[]⟩], .pointer none, .int .i64 11]
    | some x => .tuple #[.agg #[.pointer (some ⟨d, 0, none⟩), .string (St z)], .pointer (some ⟨x, 0, none⟩), .int .i64 0]

set_option maxHeartbeats 4000000 in
theorem taken_any {w : World} {S : Nat → Prop} {g r : Nat} {s : Tr} (h : TM w S g s) (hk : Ok s r) {p z : List UInt8} {ms : List (List UInt8)} (hp : spl p = some (ms ++ [z])) :
    Calls Tryz.prog 54 #[.pointer (some ⟨g, 0, none⟩), .string (St p)] w fun e w' => e = .returned (tkA s ms z r) ∧ Below w.heap.size w w' := by
  have hC := C2.new w (.pointer none) (.string ⟨#[]⟩)
  have hb0 : Below w.heap.size w (w.alloc (.cells #[.pointer none, .string ⟨#[]⟩] 92)) := (Below.refl _ w).alloc (Nat.le_refl _) _
  have K := place_any (h.below hb0) hk hp
  have HT := hide (h.below hb0)
  have HC := hide hC
  have HB := hide hb0
  have hmlt : w.heap.size < (w.alloc (.cells #[.pointer none, .string ⟨#[]⟩] 92)).heap.size := by simp
  have hz := name_len hp
  rcases plc_cases hk ms with ⟨e1, e2⟩ | ⟨d, t, e1, ht, h2⟩
  · rw [plA_none z e1] at K
    have K := hide K
    have d1 : ((plc s ms r).1 != 0) = true := by rcases e2 with e | e <;> rw [e] <;> rfl
    have HV : Hid (tkA s ms z r = .tuple #[.agg #[.pointer none, .string ⟨#[]⟩], .pointer none, .int .i64 (plc s ms r).1]) := by unfold Hid tkA; rw [e1]
    clear h hk hp hC hb0 e1 e2
    generalize (plc s ms r).1 = ee at *
    generalize St p = sp at *
    go_enter Tryz.func54, Tryz.ntmps54
    go_wp2_with fail
    generalize hm : w.heap.size = m at *
    generalize w.alloc (.cells #[.pointer none, .string ⟨#[]⟩] 92) = w1 at *
    refine (unhide K).mono ?_
    rintro e w2 ⟨rfl, hb⟩
    have hb2 := hb.alloc hb.size (.cells #[.pointer none, .string ⟨#[]⟩] 92)
    have HC := hide (HC.out.below hb2 hmlt)
    have HB := hide (HB.out.trans (hb2.mono (Nat.le_of_lt hmlt)))
    clear K hb hb2 HT
    go_upto_region 2 with fail
    change Code.wp _ _ _ _ (w2.alloc (.cells #[.pointer none, .string ⟨#[]⟩] 92))
    generalize w2.alloc (.cells #[.pointer none, .string ⟨#[]⟩] 92) = w3 at *
    have k0 := HC.out.c0
    have k1 := HC.out.c1
    have kf := HC.out.free
    have HF := hide (HC.out.set2 (.pointer none) (.string ⟨#[]⟩))
    have HG := hide (below_set2 HB.out (Nat.le_refl _) (.pointer none) (.string ⟨#[]⟩))
    clear HC HB
    go_wp2_with fail
    change bodyPost _ _ _ _ _ ((w3.setCell ⟨m, 0, none⟩ (.pointer none)).setCell ⟨m, 1, none⟩ (.string ⟨#[]⟩))
    generalize (w3.setCell ⟨m, 0, none⟩ (.pointer none)).setCell ⟨m, 1, none⟩ (.string ⟨#[]⟩) = wf at *
    refine bodyPost_ret (v := .tuple #[.agg #[.pointer none, .string ⟨#[]⟩], .pointer none, .int .i64 ee]) ?_ rfl ⟨by rw [HV.out], ?_⟩
    · simp [results, Tryz.results54, go_sem, HF.out.c0, HF.out.c1]
    · rw [hm]; exact HG.out
  · rw [plA_some z e1] at K
    have K := hide K
    have KN : Hid (∀ u, TM u S g s → Calls Tryz.prog 57 #[.agg #[.pointer (some ⟨d, 0, none⟩), .string (St z)]] u fun e w' => e = .returned (ptrO (t.ns.lookup z)) ∧ Below u.heap.size u w') := fun u hu => named_any hu ht h2 hz
    have HV : Hid (tkA s ms z r = match t.ns.lookup z with
      | none => .tuple #[.agg #[.pointer none, .string ⟨#[]⟩], .pointer none, .int .i64 11]
      | some x => .tuple #[.agg #[.pointer (some ⟨d, 0, none⟩), .string (St z)], .pointer (some ⟨x, 0, none⟩), .int .i64 0]) := by
      unfold Hid tkA; rw [e1]; simp only [nsOf_some ht]
    clear h hk hp hC hb0 e1 ht h2 hz
    generalize St p = sp at *
    generalize St z = sz at *
    generalize t.ns.lookup z = o at *
    go_enter Tryz.func54, Tryz.ntmps54
    go_wp2_with fail
    generalize hm : w.heap.size = m at *
    generalize w.alloc (.cells #[.pointer none, .string ⟨#[]⟩] 92) = w1 at *
    refine (unhide K).mono ?_
    rintro e w2 ⟨rfl, hb⟩
    have hb2 := hb.alloc hb.size (.cells #[.pointer (some ⟨d, 0, none⟩), .string sz] 92)
    have HC := hide (HC.out.below hb2 hmlt)
    have HB := hide (HB.out.trans (hb2.mono (Nat.le_of_lt hmlt)))
    have HT := hide (HT.out.below hb2)
    have hD := C2.new w2 (.pointer (some ⟨d, 0, none⟩)) (.string sz)
    have hne : m ≠ w2.heap.size := by have := hb.size; omega
    have KN := hide (KN.out _ HT.out)
    clear K hb hb2
    go_upto_region 2 with fail
    change Code.wp _ _ _ _ (w2.alloc (.cells #[.pointer (some ⟨d, 0, none⟩), .string sz] 92))
    generalize w2.alloc (.cells #[.pointer (some ⟨d, 0, none⟩), .string sz] 92) = w3 at *
    generalize w2.heap.size = m2 at *
    have j0 := hD.c0
    have j1 := hD.c1
    go_wp2_with fail
    refine (unhide KN).mono ?_
    rintro e w4 ⟨rfl, hb⟩
    have HC := hide (HC.out.below hb HC.out.lt)
    have HB := hide (HB.out.trans (hb.mono (by rw [← hm]; exact HB.out.size)))
    have hD4 := hD.below hb hD.lt
    clear KN hb j0 j1 hD
    have j0 := hD4.c0
    have j1 := hD4.c1
    have k0 := HC.out.c0
    have k1 := HC.out.c1
    have kf := HC.out.free
    cases o with
    | none =>
      have HF := hide (HC.out.set2 (.pointer none) (.string ⟨#[]⟩))
      have HG := hide (below_set2 HB.out (Nat.le_refl _) (.pointer none) (.string ⟨#[]⟩))
      simp only [ptrO, Option.map_none]
      clear HC HB HT
      go_wp2_with fail
      change bodyPost _ _ _ _ _ ((w4.setCell ⟨m, 0, none⟩ (.pointer none)).setCell ⟨m, 1, none⟩ (.string ⟨#[]⟩))
      generalize (w4.setCell ⟨m, 0, none⟩ (.pointer none)).setCell ⟨m, 1, none⟩ (.string ⟨#[]⟩) = wf at *
      refine bodyPost_ret (v := .tuple #[.agg #[.pointer none, .string ⟨#[]⟩], .pointer none, .int .i64 11]) ?_ rfl ⟨by rw [HV.out], HG.out⟩
      simp [results, Tryz.results54, go_sem, HF.out.c0, HF.out.c1]
    | some x =>
      have HF := hide (HC.out.set2 (.pointer (some ⟨d, 0, none⟩)) (.string sz))
      have HG := hide (below_set2 HB.out (Nat.le_refl _) (.pointer (some ⟨d, 0, none⟩)) (.string sz))
      simp only [ptrO, Option.map_some]
      clear HC HB HT
      go_wp2_with fail
      change bodyPost _ _ _ _ _ ((w4.setCell ⟨m, 0, none⟩ (.pointer (some ⟨d, 0, none⟩))).setCell ⟨m, 1, none⟩ (.string sz))
      generalize (w4.setCell ⟨m, 0, none⟩ (.pointer (some ⟨d, 0, none⟩))).setCell ⟨m, 1, none⟩ (.string sz) = wf at *
      refine bodyPost_ret (v := .tuple #[.agg #[.pointer (some ⟨d, 0, none⟩), .string sz], .pointer (some ⟨x, 0, none⟩), .int .i64 0]) ?_ rfl ⟨by rw [HV.out], HG.out⟩
      simp [results, Tryz.results54, go_sem, HF.out.c0, HF.out.c1]

end Go.Proofs.YtknmgefpjdfenaaGreat

/- remove, Unlink, Rmdir. -/
namespace Go.Proofs.YtknmgefpjdfenaaGreat
open Go.RowKit Go.Shelf Go.Maps
set_option linter.unusedVariables false
set_option maxRecDepth 100000

theorem tkA_err {s : Tr} {r : Nat} {ms : List (List UInt8)} (z : List UInt8) (h : (plc s ms r).2 = none) : tkA s ms z r = .tuple #[.agg #[.pointer none, .string ⟨#[]⟩], .pointer none, .int .i64 (plc s ms r).1] := by
  unfold tkA; rw [h]

theorem tkA_none {s : Tr} {r d : Nat} {t : Th} {ms : List (List UInt8)} {z : List UInt8} (h : plc s ms r = (0, some d)) (ht : s.T d = some t) (hc : t.ns.lookup z = none) : tkA s ms z r = .tuple #[.agg #[.pointer none, .string ⟨#[]⟩], .pointer none, .int .i64 11] := by
  unfold tkA; rw [h]; simp only [nsOf_some ht, hc]

theorem tkA_some {s : Tr} {r d x : Nat} {t : Th} {ms : List (List UInt8)} {z : List UInt8} (h : plc s ms r = (0, some d)) (ht : s.T d = some t) (hc : t.ns.lookup z = some x) : tkA s ms z r = .tuple #[.agg #[.pointer (some ⟨d, 0, none⟩), .string (St z)], .pointer (some ⟨x, 0, none⟩), .int .i64 0] := by
  unfold tkA; rw [h]; simp only [nsOf_some ht, hc]

/-- What drop asks of a name. -/
theorem Wf.dropable {s : Tr} {r n d x : Nat} {t tx : Th} {z : List UInt8} (h : Wf s r n) (hn : n ≤ 1000000) (ht : s.T d = some t) (hc : t.ns.lookup z = some x) (hx : s.T x = some tx) : d ≠ x ∧ (1 ≤ tx.l ∧ tx.l ≤ 1000000) ∧ tx.n < s.row.length ∧ x ≠ r ∧ z.length ≤ 200 := by
  have hm := mem_look hc
  have hne : x ≠ r := h.named_ne ht hm
  obtain ⟨rk, hrk⟩ := h.rk
  have h1 := hrk d t ht _ hm
  have h2 := h.lnk x tx hx hne
  have h3 := h.cnt_le x
  refine ⟨fun e => by subst e; simp at h1, ⟨by omega, by omega⟩, (List.getElem?_eq_some_iff.1 (h.num x tx hx)).1, hne, (h.liv d t ht _ hm).2⟩

/-- Behind a call that took a name away. -/
def GoneP (s : Tr) (r : Nat) (ms : List (List UInt8)) (z : List UInt8) (EF : Nat → Th → Int) (s' : Tr) : Prop :=
  ∃ d t x tx, plc s ms r = (0, some d) ∧ s.T d = some t ∧ t.k = 2 ∧ t.ns.lookup z = some x ∧ s.T x = some tx ∧ EF x tx = 0 ∧ s' = s.gone d t z x tx

set_option maxHeartbeats 4000000 in
theorem remove_un {w : World} {S : Nat → Prop} {g r n m : Nat} {s : Tr} (h : TM w S g s) (hw : Wf s r n) (hn : n ≤ 1000000) {p z : List UInt8} {ms : List (List UInt8)} (hp : spl p = some (ms ++ [z])) (hm : w.cell? ⟨m, 0, none⟩ = some (.pointer (some ⟨g, 0, none⟩)) ∧ m < w.heap.size) :
    Calls Tryz.prog 83 #[.pointer (some ⟨g, 0, none⟩), .string (St p), .func (.func 84) #[] #[.pointer (some ⟨m, 0, none⟩)]] w fun e w' => CallP w S g s (GoneP s r ms z (unE s)) e w' := by
  have K := taken_any h hw.ok hp
  have HT := hide h
  have hSw := h.lt
  rcases plc_cases hw.ok ms with ⟨e1, e2⟩ | ⟨d, t, e1, ht, h2⟩
  · rw [tkA_err z e1] at K
    have K := hide K
    have d1 : ((plc s ms r).1 != 0) = true := by rcases e2 with e | e <;> rw [e] <;> rfl
    have hne : (plc s ms r).1 ≠ 0 := by omega
    clear h hw hp e1 e2 hm
    generalize (plc s ms r).1 = ee at *
    generalize St p = sp at *
    go_enter Tryz.func83, Tryz.ntmps83
    go_wp2_with fail
    refine (unhide K).mono ?_
    rintro e w1 ⟨rfl, hb⟩
    have HB := hide (hb.alloc hb.size (.cells #[.pointer none, .string ⟨#[]⟩] 92))
    clear K hb
    go_wp2_with fail
    go_ret
    exact CallP.no HT.out hne HB.out
  · cases hc : t.ns.lookup z with
    | none =>
      rw [tkA_none e1 ht hc] at K
      have K := hide K
      clear h hw hp e1 ht h2 hc hm
      generalize St p = sp at *
      go_enter Tryz.func83, Tryz.ntmps83
      go_wp2_with fail
      refine (unhide K).mono ?_
      rintro e w1 ⟨rfl, hb⟩
      have HB := hide (hb.alloc hb.size (.cells #[.pointer none, .string ⟨#[]⟩] 92))
      clear K hb
      go_wp2_with fail
      go_ret
      exact CallP.no HT.out (by decide) HB.out
    | some x =>
      rw [tkA_some e1 ht hc] at K
      have K := hide K
      obtain ⟨tx, hx⟩ := (hw.liv d t ht _ (mem_look hc)).1
      obtain ⟨q1, q2, q3, q4, q5⟩ := hw.dropable hn ht hc hx
      have KD : Hid (∀ u, TM u S g s → Calls Tryz.prog 60 #[.pointer (some ⟨g, 0, none⟩), .agg #[.pointer (some ⟨d, 0, none⟩), .string (St z)]] u fun e w' => e = .returned (.tuple #[]) ∧ TM w' (Up S u.heap.size w'.heap.size) g (s.gone d t z x tx) ∧ Kp S u w') := fun u hu => drop_any hu ht h2 q5 hc hx q1 q2 q3
      have KF : Hid (∀ u, TM u S g s → Below w.heap.size w u → Calls Tryz.prog 84 #[.pointer (some ⟨x, 0, none⟩), .pointer (some ⟨m, 0, none⟩)] u fun e w' => e = .returned (.int .i64 (unE s x tx)) ∧ w' = u) := fun u hu hb => unlink1_any hu hx (fun f b ho => by obtain ⟨t, ht, _⟩ := hw.opn f b ho; exact ⟨t, ht⟩) ((hb.cell (p := ⟨m, 0, none⟩) hm.2).trans hm.1)
      have HG : Hid ((unE s) x tx = 0 → GoneP s r ms z (unE s) (s.gone d t z x tx)) := fun q => ⟨d, t, x, tx, e1, ht, h2, hc, hx, q, rfl⟩
      clear h hw hp e1 ht h2 hc hx q1 q2 q3 q4 q5
      generalize ((unE s) x tx) = ef at *
      generalize St p = sp at *
      generalize St z = sz at *
      go_enter Tryz.func83, Tryz.ntmps83
      go_wp2_with fail
      refine (unhide K).mono ?_
      rintro e w1 ⟨rfl, hb⟩
      have hb1 : Below w.heap.size w (w1.alloc (.cells #[.pointer (some ⟨d, 0, none⟩), .string sz] 92)) := hb.alloc hb.size _
      have HB := hide hb1
      have HT1 := hide (HT.out.below hb1)
      have hC := C2.new w1 (.pointer (some ⟨d, 0, none⟩)) (.string sz)
      have k0 := hC.c0
      have k1 := hC.c1
      have KF := hide (KF.out _ HT1.out HB.out)
      have KD := hide (KD.out _ HT1.out)
      clear K hb hb1 hC
      go_wp2_with fail
      generalize w1.alloc (.cells #[.pointer (some ⟨d, 0, none⟩), .string sz] 92) = w2 at *
      generalize w1.heap.size = m1 at *
      refine (unhide KF).mono ?_
      rintro e w3 ⟨rfl, rfl⟩
      clear KF
      by_cases h0 : ef = 0
      · subst h0
        go_wp2_with fail
        refine (unhide KD).mono ?_
        rintro e w4 ⟨rfl, h4, hk4⟩
        have HR := hide (up_back hSw HB.out h4 hk4)
        clear KD h4 hk4 k0 k1
        go_wp2_with fail
        go_ret
        exact ⟨0, _, rfl, HR.out.1, HR.out.2, .inr ⟨rfl, HG.out (by trivial)⟩⟩
      · have d1 : (ef != 0) = true := by simpa using h0
        go_wp2_with fail
        go_ret
        exact CallP.no HT.out h0 HB.out

set_option maxHeartbeats 4000000 in
theorem remove_rm {w : World} {S : Nat → Prop} {g r n : Nat} {s : Tr} (h : TM w S g s) (hw : Wf s r n) (hn : n ≤ 1000000) {p z : List UInt8} {ms : List (List UInt8)} (hp : spl p = some (ms ++ [z])) :
    Calls Tryz.prog 83 #[.pointer (some ⟨g, 0, none⟩), .string (St p), .func (.func 86) #[] #[]] w fun e w' => CallP w S g s (GoneP s r ms z (fun _ t => rmE t)) e w' := by
  have K := taken_any h hw.ok hp
  have HT := hide h
  have hSw := h.lt
  rcases plc_cases hw.ok ms with ⟨e1, e2⟩ | ⟨d, t, e1, ht, h2⟩
  · rw [tkA_err z e1] at K
    have K := hide K
    have d1 : ((plc s ms r).1 != 0) = true := by rcases e2 with e | e <;> rw [e] <;> rfl
    have hne : (plc s ms r).1 ≠ 0 := by omega
    clear h hw hp e1 e2
    generalize (plc s ms r).1 = ee at *
    generalize St p = sp at *
    go_enter Tryz.func83, Tryz.ntmps83
    go_wp2_with fail
    refine (unhide K).mono ?_
    rintro e w1 ⟨rfl, hb⟩
    have HB := hide (hb.alloc hb.size (.cells #[.pointer none, .string ⟨#[]⟩] 92))
    clear K hb
    go_wp2_with fail
    go_ret
    exact CallP.no HT.out hne HB.out
  · cases hc : t.ns.lookup z with
    | none =>
      rw [tkA_none e1 ht hc] at K
      have K := hide K
      clear h hw hp e1 ht h2 hc
      generalize St p = sp at *
      go_enter Tryz.func83, Tryz.ntmps83
      go_wp2_with fail
      refine (unhide K).mono ?_
      rintro e w1 ⟨rfl, hb⟩
      have HB := hide (hb.alloc hb.size (.cells #[.pointer none, .string ⟨#[]⟩] 92))
      clear K hb
      go_wp2_with fail
      go_ret
      exact CallP.no HT.out (by decide) HB.out
    | some x =>
      rw [tkA_some e1 ht hc] at K
      have K := hide K
      obtain ⟨tx, hx⟩ := (hw.liv d t ht _ (mem_look hc)).1
      obtain ⟨q1, q2, q3, q4, q5⟩ := hw.dropable hn ht hc hx
      have KD : Hid (∀ u, TM u S g s → Calls Tryz.prog 60 #[.pointer (some ⟨g, 0, none⟩), .agg #[.pointer (some ⟨d, 0, none⟩), .string (St z)]] u fun e w' => e = .returned (.tuple #[]) ∧ TM w' (Up S u.heap.size w'.heap.size) g (s.gone d t z x tx) ∧ Kp S u w') := fun u hu => drop_any hu ht h2 q5 hc hx q1 q2 q3
      have KF : Hid (∀ u, TM u S g s → Below w.heap.size w u → Calls Tryz.prog 86 #[.pointer (some ⟨x, 0, none⟩)] u fun e w' => e = .returned (.int .i64 ((fun _ t => rmE t) x tx)) ∧ w' = u) := fun u hu hb => rmdir1_any hu hx (hw.ok.kind x tx hx) (Nat.le_trans (hw.ns_le hx) hn)
      have HG : Hid ((fun _ t => rmE t) x tx = 0 → GoneP s r ms z (fun _ t => rmE t) (s.gone d t z x tx)) := fun q => ⟨d, t, x, tx, e1, ht, h2, hc, hx, q, rfl⟩
      clear h hw hp e1 ht h2 hc hx q1 q2 q3 q4 q5
      generalize ((fun _ t => rmE t) x tx) = ef at *
      generalize St p = sp at *
      generalize St z = sz at *
      go_enter Tryz.func83, Tryz.ntmps83
      go_wp2_with fail
      refine (unhide K).mono ?_
      rintro e w1 ⟨rfl, hb⟩
      have hb1 : Below w.heap.size w (w1.alloc (.cells #[.pointer (some ⟨d, 0, none⟩), .string sz] 92)) := hb.alloc hb.size _
      have HB := hide hb1
      have HT1 := hide (HT.out.below hb1)
      have hC := C2.new w1 (.pointer (some ⟨d, 0, none⟩)) (.string sz)
      have k0 := hC.c0
      have k1 := hC.c1
      have KF := hide (KF.out _ HT1.out HB.out)
      have KD := hide (KD.out _ HT1.out)
      clear K hb hb1 hC
      go_wp2_with fail
      generalize w1.alloc (.cells #[.pointer (some ⟨d, 0, none⟩), .string sz] 92) = w2 at *
      generalize w1.heap.size = m1 at *
      refine (unhide KF).mono ?_
      rintro e w3 ⟨rfl, rfl⟩
      clear KF
      by_cases h0 : ef = 0
      · subst h0
        go_wp2_with fail
        refine (unhide KD).mono ?_
        rintro e w4 ⟨rfl, h4, hk4⟩
        have HR := hide (up_back hSw HB.out h4 hk4)
        clear KD h4 hk4 k0 k1
        go_wp2_with fail
        go_ret
        exact ⟨0, _, rfl, HR.out.1, HR.out.2, .inr ⟨rfl, HG.out (by trivial)⟩⟩
      · have d1 : (ef != 0) = true := by simpa using h0
        go_wp2_with fail
        go_ret
        exact CallP.no HT.out h0 HB.out

set_option maxHeartbeats 2000000 in
theorem unlink_any {w : World} {S : Nat → Prop} {g r n : Nat} {s : Tr} (h : TM w S g s) (hw : Wf s r n) (hn : n ≤ 1000000) {p : List UInt8} (hpl : p.length ≤ 9223372036854775807) :
    Calls Tryz.prog 29 #[.pointer (some ⟨g, 0, none⟩), .string (St p)] w fun e w' => CallP w S g s (fun s' => ∃ ms z, spl p = some (ms ++ [z]) ∧ GoneP s r ms z (unE s) s') e w' := by
  have hv : Below w.heap.size w (w.alloc (.cells #[.pointer (some ⟨g, 0, none⟩)] 26)) := (Below.refl _ w).alloc (Nat.le_refl _) _
  have hlt : w.heap.size < (w.alloc (.cells #[.pointer (some ⟨g, 0, none⟩)] 26)).heap.size := by simp
  have hv2 := h.below hv
  have K := refuses_one (p := p) hv2 hw.ok.row_ne hpl (Below.refl _ _)
  rw [show (w.alloc (.cells #[.pointer (some ⟨g, 0, none⟩)] 26)).heap.size = w.heap.size + 1 by simp] at K
  have HZ : Hid ((w.alloc (.cells #[.pointer (some ⟨g, 0, none⟩)] 26)).heap.size = w.heap.size + 1) := by unfold Hid; simp
  have HC0 : Hid ((w.alloc (.cells #[.pointer (some ⟨g, 0, none⟩)] 26)).cell? ⟨w.heap.size, 0, none⟩ = some (.pointer (some ⟨g, 0, none⟩))) := cell_box (World.alloc_heap_new _ _)
  have HT0 := hide h
  have HT := hide hv2
  have HV := hide hv
  cases hs : spl p with
  | none =>
    rw [splE_none hs] at K
    have K := hide K
    clear h hw hs hv hv2
    generalize St p = sp at *
    go_enter Tryz.func29, Tryz.ntmps29
    go_wp2_with fail
    generalize w.alloc (.cells #[.pointer (some ⟨g, 0, none⟩)] 26) = w0 at *
    refine (unhide K).mono ?_
    rintro e w1 ⟨rfl, hb⟩
    rw [← HZ.out] at hb
    have HB := hide (HV.out.trans (hb.mono HV.out.size))
    clear K hb
    go_wp2_with fail
    go_ret
    exact CallP.no HT0.out (by decide) HB.out
  | some ns =>
    rw [splE_of hs] at K
    have K := hide K
    rcases List.eq_nil_or_concat ns with rfl | ⟨ms, z, rfl⟩
    · have hp1 : p = [47] := by have := (spl_some hs).2.1; rw [this]; rfl
      have hpe : ((St p).toList == [47]) = true := by rw [St_toList, hp1]; rfl
      subst hp1
      change Calls Tryz.prog _ #[.pointer (some ⟨g, 0, none⟩), .string ⟨#[47]⟩] w _
      change Hid (Calls _ _ _ ((w.alloc _).alloc (.cells #[.string ⟨#[47]⟩] 9)) _) at K
      clear h hw hs hv hv2 hpe
      go_enter Tryz.func29, Tryz.ntmps29
      go_wp2_with fail
      generalize w.alloc (.cells #[.pointer (some ⟨g, 0, none⟩)] 26) = w0 at *
      refine (unhide K).mono ?_
      rintro e w1 ⟨rfl, hb⟩
      rw [← HZ.out] at hb
      have HB := hide (HV.out.trans (hb.mono HV.out.size))
      clear K hb
      go_wp2_with fail
      go_ret
      exact CallP.no HT0.out (by decide) HB.out
    · rw [List.concat_eq_append] at hs
      have dne := not_root hs
      have hSw := h.lt
      have KR : Hid (∀ u, TM u S g s → (u.cell? ⟨w.heap.size, 0, none⟩ = some (.pointer (some ⟨g, 0, none⟩)) ∧ w.heap.size < u.heap.size) → Calls Tryz.prog 83 #[.pointer (some ⟨g, 0, none⟩), .string (St p), .func (.func 84) #[] #[.pointer (some ⟨w.heap.size, 0, none⟩)]] u fun e w' => CallP u S g s (GoneP s r ms z (unE s)) e w') :=
        fun u hu hm => remove_un hu hw hn hs hm
      have HS := hide hs
      clear h hw hs hv hv2
      generalize hsp : St p = sp at *
      go_enter Tryz.func29, Tryz.ntmps29
      go_wp2_with fail
      generalize w.alloc (.cells #[.pointer (some ⟨g, 0, none⟩)] 26) = w0 at *
      refine (unhide K).mono ?_
      rintro e w1 ⟨rfl, hb⟩
      rw [← HZ.out] at hb
      have HT := hide (HT.out.below hb)
      have c1 := (hb.cell (p := ⟨w.heap.size, 0, none⟩) hlt).trans HC0.out
      have HB := hide (HV.out.trans (hb.mono HV.out.size))
      have KR := hide (KR.out w1 HT.out ⟨c1, Nat.lt_of_lt_of_le hlt hb.size⟩)
      clear K hb HC0 HV
      go_wp2_with fail
      refine (unhide KR).mono ?_
      rintro e w2 hR
      obtain ⟨E, s', rfl, h1, h2, h3⟩ := CallP.later hSw HB.out hR
      have HR := hide (And.intro h1 (And.intro h2 h3))
      clear KR h1 h2 h3 hR c1 HT
      go_wp2_with fail
      go_ret
      obtain ⟨h1, h2, h3⟩ := HR.out
      exact ⟨E, s', rfl, h1, h2, h3.imp id (fun q => ⟨q.1, ms, z, by rw [List.concat_eq_append], q.2⟩)⟩

set_option maxHeartbeats 2000000 in
theorem rmdir_any {w : World} {S : Nat → Prop} {g r n : Nat} {s : Tr} (h : TM w S g s) (hw : Wf s r n) (hn : n ≤ 1000000) {p : List UInt8} (hpl : p.length ≤ 9223372036854775807) :
    Calls Tryz.prog 31 #[.pointer (some ⟨g, 0, none⟩), .string (St p)] w fun e w' => CallP w S g s (fun s' => ∃ ms z, spl p = some (ms ++ [z]) ∧ GoneP s r ms z (fun _ t => rmE t) s') e w' := by
  have K := refuses_one (p := p) h hw.ok.row_ne hpl (Below.refl _ _)
  have HT := hide h
  cases hs : spl p with
  | none =>
    rw [splE_none hs] at K
    have K := hide K
    clear h hw hs
    generalize St p = sp at *
    go_enter Tryz.func31, Tryz.ntmps31
    go_wp2_with fail
    refine (unhide K).mono ?_
    rintro e w1 ⟨rfl, hb⟩
    have HB := hide hb
    clear K hb
    go_wp2_with fail
    go_ret
    exact CallP.no HT.out (by decide) HB.out
  | some ns =>
    rw [splE_of hs] at K
    have K := hide K
    rcases List.eq_nil_or_concat ns with rfl | ⟨ms, z, rfl⟩
    · have hp1 : p = [47] := by have := (spl_some hs).2.1; rw [this]; rfl
      subst hp1
      change Calls Tryz.prog _ #[.pointer (some ⟨g, 0, none⟩), .string ⟨#[47]⟩] w _
      change Hid (Calls _ _ _ (w.alloc (.cells #[.string ⟨#[47]⟩] 9)) _) at K
      clear h hw hs
      go_enter Tryz.func31, Tryz.ntmps31
      go_wp2_with fail
      refine (unhide K).mono ?_
      rintro e w1 ⟨rfl, hb⟩
      have HB := hide hb
      clear K hb
      go_wp2_with fail
      go_ret
      exact CallP.no HT.out (by decide) HB.out
    · rw [List.concat_eq_append] at hs
      have dne := not_root hs
      have hSw := h.lt
      have KR : Hid (∀ u, TM u S g s → Calls Tryz.prog 83 #[.pointer (some ⟨g, 0, none⟩), .string (St p), .func (.func 86) #[] #[]] u fun e w' => CallP u S g s (GoneP s r ms z (fun _ t => rmE t)) e w') :=
        fun u hu => remove_rm hu hw hn hs
      have HS := hide hs
      clear h hw hs
      generalize hsp : St p = sp at *
      go_enter Tryz.func31, Tryz.ntmps31
      go_wp2_with fail
      refine (unhide K).mono ?_
      rintro e w1 ⟨rfl, hb⟩
      have HB := hide hb
      have KR := hide (KR.out w1 (HT.out.below hb))
      clear K hb
      go_wp2_with fail
      refine (unhide KR).mono ?_
      rintro e w2 hR
      obtain ⟨E, s', rfl, h1, h2, h3⟩ := CallP.later hSw HB.out hR
      have HR := hide (And.intro h1 (And.intro h2 h3))
      clear KR h1 h2 h3 hR HT
      go_wp2_with fail
      go_ret
      obtain ⟨h1, h2, h3⟩ := HR.out
      exact ⟨E, s', rfl, h1, h2, h3.imp id (fun q => ⟨q.1, ms, z, by rw [List.concat_eq_append], q.2⟩)⟩

end Go.Proofs.YtknmgefpjdfenaaGreat

