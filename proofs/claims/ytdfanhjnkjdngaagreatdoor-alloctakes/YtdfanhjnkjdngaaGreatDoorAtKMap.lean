/- A map from numbers to lines in memory: what it holds, as a function of the number. -/
import Derived.Test.YtdfanhjnkjdngaaGreatDoorAtGKey
import Derived.Maps.OwnSet
import Derived.Maps.RangeWalk
import Derived.Maps.Ext
namespace Go.Proofs.YtdfanhjnkjdngaaGreatDoor
open Go.RowKit Go.Shelf Go.Maps
set_option linter.unusedVariables false

def rdP : Value → Option (DataW Unit × List MemPlace)
  | .pointer none => some (.lit (.int .i64 (-1)), [])
  | .pointer (some ⟨p, 0, none⟩) => some (.lit (.int .i64 (p : Int)), [])
  | _ => none

theorem rdP_some (p : Nat) : rdP (.pointer (some ⟨p, 0, none⟩)) = some (.lit (.int .i64 (p : Int)), []) := rfl

theorem rdP_none : rdP (.pointer none) = some (.lit (.int .i64 (-1)), []) := rfl

def mkP : Option Nat → Value
  | none => .pointer none
  | some p => .pointer (some ⟨p, 0, none⟩)

theorem rdP_inv {v : Value} {y : DataW Unit × List MemPlace} (h : rdP v = some y) : ∃ o, v = mkP o ∧ y.1 = .lit (.int .i64 (match o with | none => -1 | some p => (p : Int))) := by
  unfold rdP at h
  split at h
  · cases h; exact ⟨none, rfl, rfl⟩
  · rename_i p; cases h; exact ⟨some p, rfl, rfl⟩
  · cases h

theorem rdP_at {v : Value} {p : Nat} {ps : List MemPlace} (h : rdP v = some (.lit (.int .i64 (p : Int)), ps)) : v = .pointer (some ⟨p, 0, none⟩) := by
  obtain ⟨o, rfl, e⟩ := rdP_inv h
  cases o with
  | none =>
    have : (-1 : Int) = p := by simpa using e.symm
    omega
  | some q =>
    have : (q : Int) = p := by simpa using e.symm
    have : q = p := by omega
    rw [this]; rfl

theorem rdP_no {v : Value} {ps : List MemPlace} (h : rdP v = some (.lit (.int .i64 (-1)), ps)) : v = .pointer none := by
  obtain ⟨o, rfl, e⟩ := rdP_inv h
  cases o with
  | none => rfl
  | some q =>
    have : (q : Int) = -1 := by simpa using e.symm
    omega

def keysOf (n : Nat) (M : Nat → Option Nat) : List Nat := (List.range n).filter (fun k => (M k).isSome)

theorem mem_keys {n : Nat} {M : Nat → Option Nat} {k : Nat} : k ∈ keysOf n M ↔ k < n ∧ (M k).isSome = true := by simp [keysOf]

theorem keys_rising (n : Nat) (M : Nat → Option Nat) : (keysOf n M).Pairwise (· < ·) := (List.pairwise_lt_range).filter _

theorem keys_len (n : Nat) (M : Nat → Option Nat) : (keysOf n M).length ≤ n := by
  have := List.length_filter_le (fun k => (M k).isSome) (List.range n)
  simpa [keysOf] using this

def entD (M : Nat → Option Nat) (k : Nat) : Lit × DataW Unit := (.int .i64 (k : Int), .lit (.int .i64 (((M k).getD 0 : Nat) : Int)))

def mD (n : Nat) (M : Nat → Option Nat) : DataW Unit := .map ((keysOf n M).map (entD M))

theorem mD_size (n : Nat) (M : Nat → Option Nat) : Maps.size (mD n M) = (keysOf n M).length := by simp [mD, Maps.size]

theorem mD_canon (n : Nat) (M : Nat → Option Nat) : Canon (mD n M) := by
  refine ⟨_, rfl, ?_, fun p hp => ?_⟩
  · rw [List.pairwise_map]
    refine (keys_rising n M).imp (fun {a b} h => ?_)
    simp [entD, Lit.before]
    omega
  · obtain ⟨k, _, rfl⟩ := List.mem_map.1 hp
    trivial

theorem mD_has {n : Nat} {M : Nat → Option Nat} {kl : Lit} : Maps.has (mD n M) kl = true ↔ ∃ k, k < n ∧ (M k).isSome = true ∧ kl = .int .i64 (k : Int) := by
  unfold mD
  rw [Maps.has_eq, List.any_eq_true]
  constructor
  · rintro ⟨p, hp, hs⟩
    obtain ⟨k, hk, rfl⟩ := List.mem_map.1 hp
    obtain ⟨h1, h2⟩ := mem_keys.1 hk
    exact ⟨k, h1, h2, (WideAt.sameKey_eq hs).symm⟩
  · rintro ⟨k, h1, h2, rfl⟩
    exact ⟨entD M k, List.mem_map.2 ⟨k, mem_keys.2 ⟨h1, h2⟩, rfl⟩, WideAt.sameKey_self trivial⟩

theorem mD_has_at {n : Nat} {M : Nat → Option Nat} {k : Nat} (hk : k < n) : Maps.has (mD n M) (.int .i64 (k : Int)) = (M k).isSome := by
  rw [Bool.eq_iff_iff, mD_has]
  constructor
  · rintro ⟨j, _, h2, e⟩
    have : (k : Int) = j := by simpa using e
    have : k = j := by omega
    rw [this]; exact h2
  · intro h
    exact ⟨k, hk, h, rfl⟩

theorem mD_at {n : Nat} {M : Nat → Option Nat} {k p : Nat} (hk : k < n) (hM : M k = some p) (z : DataW Unit) : (mD n M).atKey (.int .i64 (k : Int)) z = .lit (.int .i64 (p : Int)) := by
  refine WideAt.atKey_mem z trivial ?_ (List.mem_map.2 ⟨k, mem_keys.2 ⟨hk, by rw [hM]; rfl⟩, ?_⟩)
  · obtain ⟨es, e, hp, _⟩ := mD_canon n M
    cases e
    exact apart_of_rising hp
  · simp [entD, hM]

theorem mD_none {n : Nat} {M : Nat → Option Nat} {k : Nat} (hk : k < n) (hM : M k = none) (z : DataW Unit) : (mD n M).atKey (.int .i64 (k : Int)) z = z :=
  atKey_of_not_has (by rw [mD_has_at hk, hM]; rfl) z

def MapIs (u : World) (b n : Nat) (M : Nat → Option Nat) : Prop := u.ownsMap Tryz.prog 3 rdP b (keysOf n M).length (mD n M)

theorem MapIs.of {u : World} {b n m : Nat} {M : Nat → Option Nat} (h : u.ownsMap Tryz.prog 3 rdP b m (mD n M)) : MapIs u b n M := by
  obtain ⟨es, clock, hb, F, hs, hD⟩ := h
  refine ⟨es, clock, hb, F, ?_, hD⟩
  have := congrArg Maps.size hD
  rw [mD_size, Maps.size_eq, length_read] at this
  omega

theorem MapIs.lt {u : World} {b n : Nat} {M : Nat → Option Nat} (h : MapIs u b n M) : b < u.heap.size := World.ownsMap.lt h

theorem MapIs.obj {u : World} {b n : Nat} {M : Nat → Option Nat} (h : MapIs u b n M) : ∃ es c, u.heap[b]? = some (.map es c) := by
  obtain ⟨es, c, hb, _⟩ := h; exact ⟨es, c, hb⟩

theorem MapIs.kept {u u' : World} {b n : Nat} {M : Nat → Option Nat} (h : MapIs u b n M) (hk : u'.heap[b]? = u.heap[b]?) : MapIs u' b n M := by
  obtain ⟨es, clock, hb, r⟩ := h
  exact ⟨es, clock, hk.trans hb, r⟩

theorem MapIs.congr {u : World} {b n : Nat} {M M' : Nat → Option Nat} (h : MapIs u b n M) (he : ∀ k, k < n → M' k = M k) : MapIs u b n M' := by
  have e1 : keysOf n M' = keysOf n M := by
    unfold keysOf
    refine List.filter_congr (fun k hk => ?_)
    rw [he k (by simpa using hk)]
  have e2 : mD n M' = mD n M := by
    unfold mD
    rw [e1]
    congr 1
    refine List.map_congr_left (fun k hk => ?_)
    unfold entD
    rw [he k (mem_keys.1 hk).1]
  unfold MapIs
  rw [e1, e2]
  exact h

theorem zeroL (w : World) : (zeroValue 226).run Tryz.prog w = .ok (.pointer none) w := by kernel_rfl

theorem MapIs.look {u : World} {b n : Nat} {M : Nat → Option Nat} (h : MapIs u b n M) {k p : Nat} (hn : n ≤ 4096) (hk : k < n) (hM : M k = some p) :
    (Instr.lookup 216 (.map (some b)) (.int .i64 (k : Int)) true).run Tryz.prog u = .ok (.tuple #[.pointer (some ⟨p, 0, none⟩), .bool true]) u := by
  obtain ⟨v, ps, hr, hv⟩ := World.ownsMap.look_ok h law3 Tryz.underlying216 (zeroL u) rdP_none (key_small (k := k) (by omega))
  rw [mD_at hk hM] at hv
  rw [rdP_at hv, mD_has_at hk, hM] at hr
  exact hr

theorem MapIs.look_no {u : World} {b n : Nat} {M : Nat → Option Nat} (h : MapIs u b n M) {k : Nat} (hn : n ≤ 4096) (hk : k < n) (hM : M k = none) :
    (Instr.lookup 216 (.map (some b)) (.int .i64 (k : Int)) true).run Tryz.prog u = .ok (.tuple #[.pointer none, .bool false]) u := by
  obtain ⟨v, ps, hr, hv⟩ := World.ownsMap.look_ok h law3 Tryz.underlying216 (zeroL u) rdP_none (key_small (k := k) (by omega))
  rw [mD_none hk hM] at hv
  rw [rdP_no hv, mD_has_at hk, hM] at hr
  exact hr

theorem MapIs.len {u : World} {b n : Nat} {M : Nat → Option Nat} (h : MapIs u b n M) (ty : TypeId) : (Builtin.len_ #[216] ty #[.map (some b)]).run Tryz.prog u = .ok (.int .i64 ((keysOf n M).length : Int)) u := by
  have := World.ownsMap.len h Tryz.underlying216 ty
  rwa [mD_size] at this

theorem MapIs.put {u : World} {b n : Nat} {M : Nat → Option Nat} (h : MapIs u b n M) {k : Nat} (p : Nat) (hn : n ≤ 4096) (hk : k < n) :
    ∃ u', (Instr.mapUpdate 216 (.map (some b)) (.int .i64 (k : Int)) (.pointer (some ⟨p, 0, none⟩))).run Tryz.prog u = .ok () u' ∧ MapIs u' b n (fun j => if j = k then some p else M j) ∧ u.grownBy u' (some b) ∧ u'.heap.size = u.heap.size := by
  have hl := keys_len n M
  obtain ⟨u', hr, ho, ht⟩ := World.ownsMap.store h law3 Tryz.underlying216 (by unfold maxLen; omega) (key_small (k := k) (by omega)) (rdP_some p)
  have hD : (mD n M).put (.int .i64 (k : Int)) (.lit (.int .i64 (p : Int))) = mD n (fun j => if j = k then some p else M j) := by
    refine Maps.ext (ho.canon law3) (mD_canon _ _) (fun kl => ?_) (fun kl z hkl => ?_)
    · by_cases e : kl = .int .i64 (k : Int)
      · subst e
        rw [has_put_same (show IsMap (mD n M) from ⟨_, rfl⟩) (show WideAt.IsKeyLit (.int .i64 (k : Int)) from trivial), mD_has_at hk]
        simp
      · rw [has_put_other e, Bool.eq_iff_iff, mD_has, mD_has]
        constructor
        · rintro ⟨j, h1, h2, rfl⟩
          have : j ≠ k := fun e' => e (by rw [e'])
          exact ⟨j, h1, by simp [this, h2], rfl⟩
        · rintro ⟨j, h1, h2, rfl⟩
          have : j ≠ k := fun e' => e (by rw [e'])
          exact ⟨j, h1, by simpa [this] using h2, rfl⟩
    · by_cases e : kl = .int .i64 (k : Int)
      · subst e
        rw [atKey_put_same (show IsMap (mD n M) from ⟨_, rfl⟩) (show WideAt.IsKeyLit (.int .i64 (k : Int)) from trivial), mD_at (p := p) hk (by simp)]
      · rw [has_put_other e] at hkl
        obtain ⟨j, h1, h2, rfl⟩ := mD_has.1 hkl
        have hj : j ≠ k := fun e' => e (by rw [e'])
        obtain ⟨q, hq⟩ := Option.isSome_iff_exists.1 h2
        rw [atKey_put_other e, mD_at (p := q) h1 hq, mD_at (p := q) h1 (by simp [hj, hq])]
  rw [hD] at ho
  refine ⟨u', hr, MapIs.of ho, ht.grown, ?_⟩
  obtain ⟨es, c, es', c', hb, rfl⟩ := ht
  simp [ChangeMaps.setBlock]

theorem MapIs.del {u : World} {b n : Nat} {M : Nat → Option Nat} (h : MapIs u b n M) {k : Nat} (hn : n ≤ 4096) (hk : k < n) :
    ∃ u', (∀ ty, (Builtin.delete_ #[216, 3] ty #[.map (some b), .int .i64 (k : Int)]).run Tryz.prog u = .ok (.tuple #[]) u') ∧ MapIs u' b n (fun j => if j = k then none else M j) ∧ u.grownBy u' (some b) ∧ u'.heap.size = u.heap.size := by
  obtain ⟨u', hr, ho, ht⟩ := World.ownsMap.drop h law3 Tryz.underlying216 (key_small (k := k) (by omega)) 0
  have hD : (mD n M).del (.int .i64 (k : Int)) = mD n (fun j => if j = k then none else M j) := by
    refine Maps.ext (ho.canon law3) (mD_canon _ _) (fun kl => ?_) (fun kl z hkl => ?_)
    · by_cases e : kl = .int .i64 (k : Int)
      · subst e
        rw [has_del_same, mD_has_at hk]
        simp
      · rw [has_del_other e, Bool.eq_iff_iff, mD_has, mD_has]
        constructor
        · rintro ⟨j, h1, h2, rfl⟩
          have : j ≠ k := fun e' => e (by rw [e'])
          exact ⟨j, h1, by simp [this, h2], rfl⟩
        · rintro ⟨j, h1, h2, rfl⟩
          have : j ≠ k := fun e' => e (by rw [e'])
          exact ⟨j, h1, by simpa [this] using h2, rfl⟩
    · by_cases e : kl = .int .i64 (k : Int)
      · subst e
        rw [has_del_same] at hkl
        cases hkl
      · rw [has_del_other e] at hkl
        obtain ⟨j, h1, h2, rfl⟩ := mD_has.1 hkl
        have hj : j ≠ k := fun e' => e (by rw [e'])
        obtain ⟨q, hq⟩ := Option.isSome_iff_exists.1 h2
        rw [atKey_del_other e, mD_at (p := q) h1 hq, mD_at (p := q) h1 (by simp [hj, hq])]
  rw [hD] at ho
  refine ⟨u', fun ty => ?_, MapIs.of ho, ht.grown, ?_⟩
  · exact hr
  · obtain ⟨es, c, es', c', hb, rfl⟩ := ht
    simp [ChangeMaps.setBlock]

theorem MapIs.made (w : World) (n : Nat) : MapIs (w.alloc (.map #[] 0)) w.heap.size n (fun _ => none) := by
  have e : mD n (fun _ => none) = .map [] := by
    have : keysOf n (fun _ => none) = [] := by simp [keysOf]
    simp [mD, this]
  exact MapIs.of (by rw [e]; exact World.ownsMap_made w Tryz.prog 3 rdP)

end Go.Proofs.YtdfanhjnkjdngaaGreatDoor
