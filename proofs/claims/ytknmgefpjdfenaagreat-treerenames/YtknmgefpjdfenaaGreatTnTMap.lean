/- A map from texts to blocks in memory: its entries as a rising list. -/
import Derived.Test.YtknmgefpjdfenaaGreatTnVBase
import Derived.Maps.OwnSet
import Derived.Maps.Ext
import Derived.StringKeys
namespace Go.Proofs.YtknmgefpjdfenaaGreat
open Go.RowKit Go.Shelf Go.Maps
set_option linter.unusedVariables false
set_option maxRecDepth 100000

theorem law9 : Keyed Tryz.prog 9 := string_keyed Tryz.underlying9

/-- A pointer to the start of a block, as a datum. -/
def rdP : Value → Option (DataW Unit × List MemPlace)
  | .pointer none => some (.lit (.int .i64 (-1)), [])
  | .pointer (some ⟨b, 0, none⟩) => some (.lit (.int .i64 (b : Int)), [])
  | _ => none

def encP (b : Nat) : DataW Unit := .lit (.int .i64 (b : Int))

theorem rdP_some (b : Nat) : rdP (.pointer (some ⟨b, 0, none⟩)) = some (encP b, []) := rfl

theorem rdP_inj {v : Value} {b : Nat} {ps : List MemPlace} (h : rdP v = some (encP b, ps)) : v = .pointer (some ⟨b, 0, none⟩) := by
  unfold rdP at h
  split at h
  · simp [encP] at h
  · rename_i c
    simp [encP] at h
    have : c = b := by omega
    rw [this]
  · cases h

theorem rdP_nil {v : Value} {ps : List MemPlace} (h : rdP v = some (.lit (.int .i64 (-1)), ps)) : v = .pointer none := by
  unfold rdP at h
  split at h
  · rfl
  · simp at h
  · cases h

/-- Entries: names and blocks. -/
abbrev NS := List (List UInt8 × Nat)

def Rise (ns : NS) : Prop := ns.Pairwise (fun a b => bytesBefore a.1 b.1 = true)

def putN (x : List UInt8) (b : Nat) : NS → NS
  | [] => [(x, b)]
  | (y, c) :: r => if bytesBefore x y = true then (x, b) :: (y, c) :: r else if x = y then (x, b) :: r else (y, c) :: putN x b r

def delN (x : List UInt8) (ns : NS) : NS := ns.filter (fun e => !(e.1 == x))

theorem look_cons (y : List UInt8) (c : Nat) (r : NS) (z : List UInt8) : ((y, c) :: r : NS).lookup z = if z = y then some c else r.lookup z := by
  rw [List.lookup_cons]
  by_cases h : z = y
  · subst h; simp
  · have : (z == y) = false := by simpa using h
    rw [this, if_neg h]

theorem look_put (x : List UInt8) (b : Nat) (ns : NS) (z : List UInt8) : (putN x b ns).lookup z = if z = x then some b else ns.lookup z := by
  induction ns with
  | nil => exact look_cons x b [] z
  | cons e r ih =>
    obtain ⟨y, c⟩ := e
    unfold putN
    by_cases h1 : bytesBefore x y = true
    · rw [if_pos h1, look_cons]
    · rw [if_neg h1]
      by_cases h2 : x = y
      · subst h2
        rw [if_pos rfl, look_cons, look_cons]
        by_cases h : z = x
        · rw [if_pos h, if_pos h]
        · rw [if_neg h, if_neg h, if_neg h]
      · rw [if_neg h2, look_cons, look_cons, ih]
        by_cases h : z = y
        · subst h
          rw [if_pos rfl, if_pos rfl, if_neg (fun e => h2 e.symm)]
        · rw [if_neg h, if_neg h]

theorem look_del (x : List UInt8) (ns : NS) (z : List UInt8) : (delN x ns).lookup z = if z = x then none else ns.lookup z := by
  induction ns with
  | nil => simp [delN]
  | cons e r ih =>
    obtain ⟨y, c⟩ := e
    unfold delN at ih ⊢
    rw [List.filter_cons]
    by_cases h : y = x
    · subst h
      rw [if_neg (by simp), ih, look_cons]
      by_cases hz : z = y
      · rw [if_pos hz, if_pos hz]
      · rw [if_neg hz, if_neg hz, if_neg hz]
    · have e0 : (!(y == x)) = true := by simpa using h
      rw [if_pos e0, look_cons, look_cons, ih]
      by_cases hz : z = y
      · subst hz; rw [if_pos rfl, if_neg h, if_pos rfl]
      · rw [if_neg hz, if_neg hz]

theorem mem_put {x : List UInt8} {b : Nat} {ns : NS} {e : List UInt8 × Nat} (h : e ∈ putN x b ns) : e = (x, b) ∨ e ∈ ns := by
  induction ns with
  | nil => simpa [putN] using h
  | cons d r ih =>
    obtain ⟨y, c⟩ := d
    unfold putN at h
    split at h
    · rcases List.mem_cons.1 h with h | h
      · exact .inl h
      · exact .inr h
    · split at h
      · rcases List.mem_cons.1 h with h | h
        · exact .inl h
        · exact .inr (List.mem_cons_of_mem _ h)
      · rcases List.mem_cons.1 h with h | h
        · exact .inr (h ▸ List.mem_cons_self)
        · rcases ih h with h | h
          · exact .inl h
          · exact .inr (List.mem_cons_of_mem _ h)

theorem rise_put (x : List UInt8) (b : Nat) {ns : NS} (h : Rise ns) : Rise (putN x b ns) := by
  induction ns with
  | nil => simp [putN, Rise]
  | cons d r ih =>
    obtain ⟨y, c⟩ := d
    obtain ⟨h1, h2⟩ := List.pairwise_cons.1 h
    unfold putN
    by_cases hb : bytesBefore x y = true
    · rw [if_pos hb]
      refine List.pairwise_cons.2 ⟨fun e he => ?_, h⟩
      rcases List.mem_cons.1 he with rfl | he
      · exact hb
      · exact WideShapes.bytes_trans _ _ _ hb (h1 e he)
    · rw [if_neg hb]
      by_cases hx : x = y
      · subst hx
        rw [if_pos rfl]
        exact List.pairwise_cons.2 ⟨fun e he => h1 e he, h2⟩
      · rw [if_neg hx]
        refine List.pairwise_cons.2 ⟨fun e he => ?_, ih h2⟩
        rcases mem_put he with rfl | he
        · rcases WideAt.bytes_total x y hx with h | h
          · exact absurd h hb
          · exact h
        · exact h1 e he

theorem rise_del (x : List UInt8) {ns : NS} (h : Rise ns) : Rise (delN x ns) := h.filter _

theorem mem_del {x : List UInt8} {ns : NS} {e : List UInt8 × Nat} (h : e ∈ delN x ns) : e ∈ ns := (List.mem_filter.1 h).1

theorem rise_ne {ns : NS} (h : Rise ns) : ns.Pairwise (fun a b => a.1 ≠ b.1) := h.imp (fun {a b} hab e => by rw [e, WideAt.bytes_irrefl] at hab; cases hab)

theorem look_mem {ns : NS} (h : Rise ns) {e : List UInt8 × Nat} (he : e ∈ ns) : ns.lookup e.1 = some e.2 := by
  induction ns with
  | nil => cases he
  | cons d r ih =>
    obtain ⟨h1, h2⟩ := List.pairwise_cons.1 (rise_ne h)
    obtain ⟨y, c⟩ := d
    rw [look_cons]
    rcases List.mem_cons.1 he with rfl | he
    · rw [if_pos rfl]
    · rw [if_neg (fun e' => h1 e he e'.symm)]
      exact ih (List.pairwise_cons.1 h).2 he

theorem mem_look {ns : NS} {x : List UInt8} {b : Nat} (h : ns.lookup x = some b) : (x, b) ∈ ns := by
  induction ns with
  | nil => simp at h
  | cons d r ih =>
    obtain ⟨y, c⟩ := d
    rw [look_cons] at h
    by_cases hx : x = y
    · subst hx
      rw [if_pos rfl] at h
      cases h
      exact List.mem_cons_self
    · rw [if_neg hx] at h
      exact List.mem_cons_of_mem _ (ih h)

def entS (e : List UInt8 × Nat) : Lit × DataW Unit := (.string e.1, encP e.2)

def mS (ns : NS) : DataW Unit := .map (ns.map entS)

theorem mS_size (ns : NS) : Maps.size (mS ns) = ns.length := by simp [mS, Maps.size]

theorem mS_canon {ns : NS} (h : Rise ns) : Canon (mS ns) := by
  refine ⟨_, rfl, ?_, fun p hp => ?_⟩
  · rw [List.pairwise_map]
    exact h.imp (fun {a b} hab => hab)
  · obtain ⟨k, _, rfl⟩ := List.mem_map.1 hp
    trivial

theorem mS_has {ns : NS} (x : List UInt8) : Maps.has (mS ns) (.string x) = (ns.lookup x).isSome := by
  rw [Bool.eq_iff_iff]
  unfold mS
  rw [Maps.has_eq, List.any_eq_true]
  constructor
  · rintro ⟨p, hp, hs⟩
    obtain ⟨e, he, rfl⟩ := List.mem_map.1 hp
    have e1 : e.1 = x := by simpa [entS] using (WideAt.sameKey_eq hs)
    cases hl : ns.lookup x with
    | some b => rfl
    | none =>
      exfalso
      rw [List.lookup_eq_none_iff] at hl
      have := hl e he
      simp [e1] at this
  · intro h
    obtain ⟨b, hb⟩ := Option.isSome_iff_exists.1 h
    exact ⟨entS (x, b), List.mem_map.2 ⟨_, mem_look hb, rfl⟩, WideAt.sameKey_self trivial⟩

theorem mS_has_no {ns : NS} {k : Lit} (h : ∀ x, k ≠ .string x) : Maps.has (mS ns) k = false := by
  rw [Bool.eq_false_iff]
  intro hc
  unfold mS at hc
  rw [Maps.has_eq, List.any_eq_true] at hc
  obtain ⟨p, hp, hs⟩ := hc
  obtain ⟨e, _, rfl⟩ := List.mem_map.1 hp
  exact h e.1 (WideAt.sameKey_eq hs).symm

theorem mS_at {ns : NS} (hr : Rise ns) {x : List UInt8} {b : Nat} (h : ns.lookup x = some b) (z : DataW Unit) : (mS ns).atKey (.string x) z = encP b := by
  obtain ⟨es, e, hp, _⟩ := mS_canon hr
  cases e
  exact WideAt.atKey_mem z trivial (apart_of_rising hp) (List.mem_map.2 ⟨_, mem_look h, rfl⟩)

theorem mS_none {ns : NS} {x : List UInt8} (h : ns.lookup x = none) (z : DataW Unit) : (mS ns).atKey (.string x) z = z := atKey_of_not_has (by rw [mS_has, h]; rfl) z

theorem mS_same {ns : NS} (hr : Rise ns) {D : DataW Unit} (hc : Canon D) (hs : ∀ k, (∀ x, k ≠ .string x) → Maps.has D k = false) (hh : ∀ x, Maps.has D (.string x) = (ns.lookup x).isSome)
    (ha : ∀ x b z, ns.lookup x = some b → D.atKey (.string x) z = encP b) : D = mS ns := by
  refine Maps.ext hc (mS_canon hr) (fun k => ?_) (fun k z hk => ?_)
  · by_cases h : ∃ x, k = .string x
    · obtain ⟨x, rfl⟩ := h
      rw [hh, mS_has]
    · rw [hs k (fun x e => h ⟨x, e⟩), mS_has_no (fun x e => h ⟨x, e⟩)]
  · by_cases h : ∃ x, k = .string x
    · obtain ⟨x, rfl⟩ := h
      rw [hh] at hk
      obtain ⟨b, hb⟩ := Option.isSome_iff_exists.1 hk
      rw [ha x b z hb, mS_at hr hb]
    · rw [hs k (fun x e => h ⟨x, e⟩)] at hk
      cases hk

/-- The map in memory. -/
def MapS (u : World) (b : Nat) (ns : NS) : Prop := u.ownsMap Tryz.prog 9 rdP b ns.length (mS ns) ∧ Rise ns

theorem MapS.of {u : World} {b m : Nat} {ns : NS} (h : u.ownsMap Tryz.prog 9 rdP b m (mS ns)) (hr : Rise ns) : MapS u b ns := by
  obtain ⟨es, clock, hb, F, hs, hD⟩ := h
  refine ⟨⟨es, clock, hb, F, ?_, hD⟩, hr⟩
  have := congrArg Maps.size hD
  rw [mS_size, Maps.size_eq, length_read] at this
  omega

theorem MapS.lt {u : World} {b : Nat} {ns : NS} (h : MapS u b ns) : b < u.heap.size := World.ownsMap.lt h.1

theorem MapS.obj {u : World} {b : Nat} {ns : NS} (h : MapS u b ns) : ∃ es c, u.heap[b]? = some (.map es c) := by
  obtain ⟨⟨es, c, hb, _⟩, _⟩ := h; exact ⟨es, c, hb⟩

theorem MapS.kept {u u' : World} {b : Nat} {ns : NS} (h : MapS u b ns) (hk : u'.heap[b]? = u.heap[b]?) : MapS u' b ns := by
  obtain ⟨⟨es, clock, hb, r⟩, hr⟩ := h
  exact ⟨⟨es, clock, hk.trans hb, r⟩, hr⟩

theorem MapS.ne {u : World} {b : Nat} {ns : NS} (h : MapS u b ns) {k t : Nat} {c : Array Value} {q : Nat × Nat} (h' : u.heap[k]? = some (.cells c t q)) : k ≠ b := by
  intro e
  subst e
  obtain ⟨es, c, hb⟩ := h.obj
  rw [hb] at h'
  cases h'

theorem undM : Tryz.prog.underlying 67 = some (.map 9 63) := by kernel_rfl

theorem zeroT (w : World) : (zeroValue 63).run Tryz.prog w = .ok (.pointer none) w := by kernel_rfl

theorem keyS {x : List UInt8} (h : x.length ≤ 200) : keyOf Tryz.prog 9 (.string (St x)) = some (.string x) := by
  have := WideMaps.keyOf_string_mk Tryz.underlying9 (s := St x) (by rw [St_size]; unfold maxLen; omega)
  rwa [data_St] at this

/-- m[x]. -/
theorem MapS.look {u : World} {b : Nat} {ns : NS} (h : MapS u b ns) {x : List UInt8} (hx : x.length ≤ 200) :
    (Instr.lookup 67 (.map (some b)) (.string (St x)) false).run Tryz.prog u = .ok (.pointer ((ns.lookup x).map (fun j => ⟨j, 0, none⟩))) u := by
  obtain ⟨v, ps, hr, hv⟩ := World.ownsMap.lookup h.1 law9 undM (zeroT u) (zd := .lit (.int .i64 (-1))) (zp := []) rfl (keyS hx)
  cases hl : ns.lookup x with
  | none =>
    rw [mS_none hl] at hv
    rw [rdP_nil hv] at hr
    exact hr
  | some j =>
    rw [mS_at h.2 hl] at hv
    rw [rdP_inj hv] at hr
    exact hr

/-- len(m). -/
theorem MapS.len {u : World} {b : Nat} {ns : NS} (h : MapS u b ns) (ty : TypeId) : (Builtin.len_ #[67] ty #[.map (some b)]).run Tryz.prog u = .ok (.int .i64 (ns.length : Int)) u := by
  have := World.ownsMap.len h.1 undM ty
  rwa [mS_size] at this

/-- m[x] = a pointer. -/
theorem MapS.put {u : World} {b : Nat} {ns : NS} (h : MapS u b ns) {x : List UInt8} (hx : x.length ≤ 200) (j : Nat) (hn : ns.length < 1000000000) :
    ∃ u', (Instr.mapUpdate 67 (.map (some b)) (.string (St x)) (.pointer (some ⟨j, 0, none⟩))).run Tryz.prog u = .ok () u' ∧ MapS u' b (putN x j ns) ∧ u.grownBy u' (some b) ∧ u'.heap.size = u.heap.size := by
  obtain ⟨u', hr, ho, ht⟩ := World.ownsMap.store h.1 law9 undM (by unfold maxLen; omega) (keyS hx) (rdP_some j)
  have hD : (mS ns).put (.string x) (encP j) = mS (putN x j ns) := by
    refine mS_same (rise_put x j h.2) (ho.canon law9) (fun k hk => ?_) (fun z => ?_) (fun z c d hz => ?_)
    · rw [has_put_other (hk x), mS_has_no hk]
    · by_cases e : z = x
      · subst e
        rw [has_put_same (show IsMap (mS ns) from ⟨_, rfl⟩) (show WideAt.IsKeyLit (.string z) from trivial), look_put, if_pos rfl]; rfl
      · rw [has_put_other (fun e' => e (by simpa using e')), mS_has, look_put, if_neg e]
    · rw [look_put] at hz
      by_cases e : z = x
      · subst e
        rw [if_pos rfl] at hz
        cases hz
        rw [atKey_put_same (show IsMap (mS ns) from ⟨_, rfl⟩) (show WideAt.IsKeyLit (.string z) from trivial)]
      · rw [if_neg e] at hz
        rw [atKey_put_other (fun e' => e (by simpa using e')), mS_at h.2 hz]
  rw [hD] at ho
  refine ⟨u', hr, MapS.of ho (rise_put x j h.2), ht.grown, ?_⟩
  obtain ⟨es, c, es', c', hb, rfl⟩ := ht
  simp [ChangeMaps.setBlock]

/-- delete(m, x). -/
theorem MapS.del {u : World} {b : Nat} {ns : NS} (h : MapS u b ns) {x : List UInt8} (hx : x.length ≤ 200) :
    ∃ u', (∀ ty, (Builtin.delete_ #[67, 9] ty #[.map (some b), .string (St x)]).run Tryz.prog u = .ok (.tuple #[]) u') ∧ MapS u' b (delN x ns) ∧ u.grownBy u' (some b) ∧ u'.heap.size = u.heap.size := by
  obtain ⟨u', hr, ho, ht⟩ := World.ownsMap.drop h.1 law9 undM (keyS hx) 0
  have hD : (mS ns).del (.string x) = mS (delN x ns) := by
    refine mS_same (rise_del x h.2) (ho.canon law9) (fun k hk => ?_) (fun z => ?_) (fun z c d hz => ?_)
    · rw [has_del_other (hk x), mS_has_no hk]
    · by_cases e : z = x
      · subst e
        rw [has_del_same, look_del, if_pos rfl]; rfl
      · rw [has_del_other (fun e' => e (by simpa using e')), mS_has, look_del, if_neg e]
    · rw [look_del] at hz
      by_cases e : z = x
      · subst e
        rw [if_pos rfl] at hz
        cases hz
      · rw [if_neg e] at hz
        rw [atKey_del_other (fun e' => e (by simpa using e')), mS_at h.2 hz]
  rw [hD] at ho
  refine ⟨u', fun ty => hr, MapS.of ho (rise_del x h.2), ht.grown, ?_⟩
  obtain ⟨es, c, es', c', hb, rfl⟩ := ht
  simp [ChangeMaps.setBlock]

/-- make. -/
theorem MapS.made (w : World) : MapS (w.alloc (.map #[] 0)) w.heap.size [] := MapS.of (World.ownsMap_made w Tryz.prog 9 rdP) List.Pairwise.nil

end Go.Proofs.YtknmgefpjdfenaaGreat
