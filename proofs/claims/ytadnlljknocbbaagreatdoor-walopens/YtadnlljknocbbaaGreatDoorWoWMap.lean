/- A map from numbers to rows of bytes in memory: what it holds, as a function of the number. -/
import Derived.Test.YtadnlljknocbbaaGreatDoorWoGKey
import Derived.Maps.Ext
namespace Go.Proofs.YtadnlljknocbbaaGreatDoor
open Go.RowKit Go.Shelf Go.Maps
set_option linter.unusedVariables false

/-- What a row reads as. -/
def encB (r : Nat × Nat) : DataW Unit := .agg [.lit (.int .i64 (r.1 : Int)), .lit (.int .i64 (r.2 : Int))]

/-- How a row of blk bytes reads. -/
def rdB (blk : Nat) : Value → Option (DataW Unit × List MemPlace)
  | .slice none 0 0 => some (.nil, [])
  | .slice (some ⟨p, 0, none⟩) n c => if n = blk then some (encB (p, c), []) else none
  | _ => none

theorem rdB_some (blk : Nat) (r : Nat × Nat) : rdB blk (rv blk r) = some (encB r, []) := by simp [rdB, rv]

theorem rdB_none (blk : Nat) : rdB blk (.slice none 0 0) = some (.nil, []) := rfl

theorem rdB_at {blk : Nat} {v : Value} {r : Nat × Nat} {ps : List MemPlace} (h : rdB blk v = some (encB r, ps)) : v = rv blk r := by
  unfold rdB at h
  split at h
  · simp [encB] at h
  · split at h
    · rename_i p n c e
      subst e
      simp [encB] at h
      obtain ⟨⟨h1, h2⟩, _⟩ := h
      have e1 : p = r.1 := by omega
      have e2 : c = r.2 := by omega
      rw [e1, e2]
    · cases h
  · cases h

/-- The numbers that are there, rising. -/
def keysB (n : Nat) (M : Nat → Option (Nat × Nat)) : List Nat := (List.range n).filter (fun k => (M k).isSome)

theorem mem_keysB {n : Nat} {M : Nat → Option (Nat × Nat)} {k : Nat} : k ∈ keysB n M ↔ k < n ∧ (M k).isSome = true := by simp [keysB]

theorem keysB_rising (n : Nat) (M : Nat → Option (Nat × Nat)) : (keysB n M).Pairwise (· < ·) := (List.pairwise_lt_range).filter _

theorem keysB_len (n : Nat) (M : Nat → Option (Nat × Nat)) : (keysB n M).length ≤ n := by
  have := List.length_filter_le (fun k => (M k).isSome) (List.range n)
  simpa [keysB] using this

/-- An entry. -/
def entB (M : Nat → Option (Nat × Nat)) (k : Nat) : Lit × DataW Unit := (.int .i64 (k : Int), encB ((M k).getD (0, 0)))

/-- The map as a datum. -/
def mB (n : Nat) (M : Nat → Option (Nat × Nat)) : DataW Unit := .map ((keysB n M).map (entB M))

theorem mB_size (n : Nat) (M : Nat → Option (Nat × Nat)) : Maps.size (mB n M) = (keysB n M).length := by simp [mB, Maps.size]

theorem mB_canon (n : Nat) (M : Nat → Option (Nat × Nat)) : Canon (mB n M) := by
  refine ⟨_, rfl, ?_, fun p hp => ?_⟩
  · rw [List.pairwise_map]
    refine (keysB_rising n M).imp (fun {a b} h => ?_)
    simp [entB, Lit.before]
    omega
  · obtain ⟨k, _, rfl⟩ := List.mem_map.1 hp
    trivial

theorem mB_has {n : Nat} {M : Nat → Option (Nat × Nat)} {kl : Lit} : Maps.has (mB n M) kl = true ↔ ∃ k, k < n ∧ (M k).isSome = true ∧ kl = .int .i64 (k : Int) := by
  unfold mB
  rw [Maps.has_eq, List.any_eq_true]
  constructor
  · rintro ⟨p, hp, hs⟩
    obtain ⟨k, hk, rfl⟩ := List.mem_map.1 hp
    obtain ⟨h1, h2⟩ := mem_keysB.1 hk
    exact ⟨k, h1, h2, (WideAt.sameKey_eq hs).symm⟩
  · rintro ⟨k, h1, h2, rfl⟩
    exact ⟨entB M k, List.mem_map.2 ⟨k, mem_keysB.2 ⟨h1, h2⟩, rfl⟩, WideAt.sameKey_self trivial⟩

theorem mB_has_at {n : Nat} {M : Nat → Option (Nat × Nat)} {k : Nat} (hk : k < n) : Maps.has (mB n M) (.int .i64 (k : Int)) = (M k).isSome := by
  rw [Bool.eq_iff_iff, mB_has]
  constructor
  · rintro ⟨j, _, h2, e⟩
    have : (k : Int) = j := by simpa using e
    have : k = j := by omega
    rw [this]; exact h2
  · intro h
    exact ⟨k, hk, h, rfl⟩

theorem mB_at {n : Nat} {M : Nat → Option (Nat × Nat)} {k : Nat} {p : Nat × Nat} (hk : k < n) (hM : M k = some p) (z : DataW Unit) : (mB n M).atKey (.int .i64 (k : Int)) z = encB p := by
  refine WideAt.atKey_mem z trivial ?_ (List.mem_map.2 ⟨k, mem_keysB.2 ⟨hk, by rw [hM]; rfl⟩, ?_⟩)
  · obtain ⟨es, e, hp, _⟩ := mB_canon n M
    cases e
    exact apart_of_rising hp
  · simp [entB, hM]

/-- A map in memory. -/
def MapB (u : World) (blk b n : Nat) (M : Nat → Option (Nat × Nat)) : Prop := u.ownsMap Tryz.prog 3 (rdB blk) b (keysB n M).length (mB n M)

theorem MapB.of {u : World} {blk b n m : Nat} {M : Nat → Option (Nat × Nat)} (h : u.ownsMap Tryz.prog 3 (rdB blk) b m (mB n M)) : MapB u blk b n M := by
  obtain ⟨es, clock, hb, F, hs, hD⟩ := h
  refine ⟨es, clock, hb, F, ?_, hD⟩
  have := congrArg Maps.size hD
  rw [mB_size, Maps.size_eq, length_read] at this
  omega

theorem MapB.lt {u : World} {blk b n : Nat} {M : Nat → Option (Nat × Nat)} (h : MapB u blk b n M) : b < u.heap.size := World.ownsMap.lt h

theorem MapB.obj {u : World} {blk b n : Nat} {M : Nat → Option (Nat × Nat)} (h : MapB u blk b n M) : ∃ es c, u.heap[b]? = some (.map es c) := by
  obtain ⟨es, c, hb, _⟩ := h; exact ⟨es, c, hb⟩

theorem MapB.kept {u u' : World} {blk b n : Nat} {M : Nat → Option (Nat × Nat)} (h : MapB u blk b n M) (hk : u'.heap[b]? = u.heap[b]?) : MapB u' blk b n M := by
  obtain ⟨es, clock, hb, r⟩ := h
  exact ⟨es, clock, hk.trans hb, r⟩

theorem MapB.congr {u : World} {blk b n : Nat} {M M' : Nat → Option (Nat × Nat)} (h : MapB u blk b n M) (he : ∀ k, k < n → M' k = M k) : MapB u blk b n M' := by
  have e1 : keysB n M' = keysB n M := by
    unfold keysB
    refine List.filter_congr (fun k hk => ?_)
    rw [he k (by simpa using hk)]
  have e2 : mB n M' = mB n M := by
    unfold mB
    rw [e1]
    congr 1
    refine List.map_congr_left (fun k hk => ?_)
    unfold entB
    rw [he k (mem_keysB.1 hk).1]
  unfold MapB
  rw [e1, e2]
  exact h

theorem zeroRB (w : World) : (zeroValue 50).run Tryz.prog w = .ok (.slice none 0 0) w := by kernel_rfl

/-- m[k], where it is there. -/
theorem MapB.look {u : World} {blk b n : Nat} {M : Nat → Option (Nat × Nat)} (h : MapB u blk b n M) {k : Nat} {p : Nat × Nat} (hn : n ≤ 4096) (hk : k < n) (hM : M k = some p) :
    (Instr.lookup 95 (.map (some b)) (.int .i64 (k : Int)) false).run Tryz.prog u = .ok (rv blk p) u := by
  obtain ⟨v, ps, hr, hv⟩ := World.ownsMap.lookup h law3 Tryz.underlying95 (zeroRB u) (rdB_none blk) (key_small (k := k) (by omega))
  rw [mB_at hk hM] at hv
  rw [rdB_at hv] at hr
  exact hr

/-- m[k] = a row. -/
theorem MapB.put {u : World} {blk b n : Nat} {M : Nat → Option (Nat × Nat)} (h : MapB u blk b n M) {k : Nat} (p : Nat × Nat) (hn : n ≤ 4096) (hk : k < n) :
    ∃ u', (Instr.mapUpdate 95 (.map (some b)) (.int .i64 (k : Int)) (rv blk p)).run Tryz.prog u = .ok () u' ∧ MapB u' blk b n (fun j => if j = k then some p else M j) ∧ u.grownBy u' (some b) ∧ u'.heap.size = u.heap.size := by
  have hl := keysB_len n M
  obtain ⟨u', hr, ho, ht⟩ := World.ownsMap.store h law3 Tryz.underlying95 (by unfold maxLen; omega) (key_small (k := k) (by omega)) (rdB_some blk p)
  have hD : (mB n M).put (.int .i64 (k : Int)) (encB p) = mB n (fun j => if j = k then some p else M j) := by
    refine Maps.ext (ho.canon law3) (mB_canon _ _) (fun kl => ?_) (fun kl z hkl => ?_)
    · by_cases e : kl = .int .i64 (k : Int)
      · subst e
        rw [has_put_same (show IsMap (mB n M) from ⟨_, rfl⟩) (show WideAt.IsKeyLit (.int .i64 (k : Int)) from trivial), mB_has_at hk]
        simp
      · rw [has_put_other e, Bool.eq_iff_iff, mB_has, mB_has]
        constructor
        · rintro ⟨j, h1, h2, rfl⟩
          have : j ≠ k := fun e' => e (by rw [e'])
          exact ⟨j, h1, by simp [this, h2], rfl⟩
        · rintro ⟨j, h1, h2, rfl⟩
          have : j ≠ k := fun e' => e (by rw [e'])
          exact ⟨j, h1, by simpa [this] using h2, rfl⟩
    · by_cases e : kl = .int .i64 (k : Int)
      · subst e
        rw [atKey_put_same (show IsMap (mB n M) from ⟨_, rfl⟩) (show WideAt.IsKeyLit (.int .i64 (k : Int)) from trivial), mB_at (p := p) hk (by simp)]
      · rw [has_put_other e] at hkl
        obtain ⟨j, h1, h2, rfl⟩ := mB_has.1 hkl
        have hj : j ≠ k := fun e' => e (by rw [e'])
        obtain ⟨q, hq⟩ := Option.isSome_iff_exists.1 h2
        rw [atKey_put_other e, mB_at (p := q) h1 hq, mB_at (p := q) h1 (by simp [hj, hq])]
  rw [hD] at ho
  refine ⟨u', hr, MapB.of ho, ht.grown, ?_⟩
  obtain ⟨es, c, es', c', hb, rfl⟩ := ht
  simp [ChangeMaps.setBlock]

theorem mB_empty (n : Nat) : mB n (fun _ => none) = .map [] := by
  have : keysB n (fun _ => none) = [] := by simp [keysB]
  simp [mB, this]

/-- make. -/
theorem MapB.made (w : World) (blk n : Nat) : MapB (w.alloc (.map #[] 0)) blk w.heap.size n (fun _ => none) := by
  exact MapB.of (by rw [mB_empty]; exact World.ownsMap_made w Tryz.prog 3 (rdB blk))

/-- clear. -/
theorem MapB.clear {u : World} {blk b n : Nat} {M : Nat → Option (Nat × Nat)} (h : MapB u blk b n M) :
    ∃ u', (∀ ty, (Builtin.clear_ #[95] ty #[.map (some b)]).run Tryz.prog u = .ok (.tuple #[]) u') ∧ MapB u' blk b n (fun _ => none) ∧ u.grownBy u' (some b) ∧ u'.heap.size = u.heap.size := by
  have hl := h.lt
  obtain ⟨es, c, hb⟩ := h.obj
  have hr : ∀ ty, (Builtin.clear_ #[95] ty #[.map (some b)]).run Tryz.prog u = .ok (.tuple #[]) { u with heap := u.heap.setIfInBounds b (.map #[] c) } := fun ty => by
    simp [Builtin.clear_, run_underlying Tryz.underlying95, MapKept.run_getObj_map hb, MapKept.run_setObj_map _ hb, Result.andThen]
  refine ⟨{ u with heap := u.heap.setIfInBounds b (.map #[] c) }, hr, MapB.of (m := 0) (by rw [mB_empty]; exact ⟨#[], c, by simp [hl], ⟨by simp, MapKept.stamped_empty c, by simp⟩, Nat.le_refl _, rfl⟩), ⟨rfl, rfl, rfl, by simp, fun k hk hne => ?_⟩, by simp⟩
  have : b ≠ k := fun e => hne (by rw [e])
  simp [this]

end Go.Proofs.YtadnlljknocbbaaGreatDoor
