/- The contract of the document's New. -/
import Derived.Test.YtikpmchjlpobdaaDRRead
import Derived.Test.YtikpmchjlpobdaaPSize
import Derived.Test.YtikpmchjlpobdaaDNew
namespace Go.Proofs.Ytikpmchjlpobdaa
open Go.RowKit Go.Shelf
set_option linter.unusedVariables false

theorem infoL : (Try.prog.info? 54).map (fun i => (i.zero, i.size, i.bytes)) = some (some (.slice none 0 0), 1, 24) := by kernel_rfl

def ncell (blk : Nat) (v : Value) (j : Nat) : Value := if j = 0 then .int .i64 blk else if j = 1 then v else if j = 2 then .int .i64 (-1) else if j = 3 then .bool false else .int .i64 0

/-- The document's device of which k blocks are laid. -/
structure RNI (w : World) (g blk k : Nat) (u : World) (v : Value) (q : Nat → Nat) : Prop where
  dev : u.rowIs g 70 5 (ncell blk v)
  own : u.ownsRow w.heap.size 54 1 v k ((List.range k).map (fun i => .slice (some ⟨q i, 0, none⟩) 1 1))
  row : ∀ i, i < k → WR u (fun s => w.heap.size ≤ s ∧ s < u.heap.size) blk (.slice (some ⟨q i, 0, none⟩) 1 1) [List.replicate blk 0]
  inj : ∀ i j, i < k → j < k → q i = q j → i = j
  gB : w.heap.size ≤ g
  bel : Below w.heap.size w u

theorem RNI.lt {w : World} {g blk k : Nat} {u : World} {v : Value} {q : Nat → Nat} (h : RNI w g blk k u v q) {i : Nat} (hi : i < k) : w.heap.size ≤ q i ∧ q i < u.heap.size ∧ ∃ cur, u.heap[q i]? = some (.cells cur 31 (0, 0)) := by
  obtain ⟨h1, h2⟩ := (h.row i hi).own (k := q i) rfl
  exact ⟨h1.1, h1.2, h2⟩

theorem RNI.shape {w : World} {g blk k : Nat} {u : World} {v : Value} {q : Nat → Nat} (h : RNI w g blk k u v q) : ∃ a c, v = .slice a k c := by
  rcases h.own.2 with ⟨e, e0⟩ | ⟨g', c, _, e, _⟩
  · exact ⟨none, 0, by rw [e, e0]⟩
  · exact ⟨_, c, e⟩

theorem RNI.step {w : World} {g blk k : Nat} {u : World} {v : Value} {q : Nat → Nat} (h : RNI w g blk k u v q) (hb1 : 1 ≤ blk) (hb2 : blk ≤ 4096) (hk : k ≤ 5000) (U : World)
    (hU : U = (((u.alloc (.cells (madeCells #[.int .u8 0] blk) 5)).alloc (.cells #[.slice (some ⟨u.heap.size, 0, none⟩) blk blk] 31)).alloc (.cells #[.slice (some ⟨u.heap.size + 1, 0, none⟩) 1 1] 54)).drew) :
    ∃ v' w2, (∀ ty, (Builtin.append_ #[68, 68] ty #[v, .slice (some ⟨u.heap.size + 2, 0, none⟩) 1 1]).run Try.prog U = .ok v' w2) ∧ w2.cell? ⟨g, 1, none⟩ = some v ∧ w2.frozen? ⟨g, 1, none⟩ = false ∧ ∃ q', RNI w g blk (k + 1) (w2.setCell ⟨g, 1, none⟩ v') v' q' := by
  obtain ⟨i0, hi, hz0, hz1, hz2⟩ := info_parts infoL
  have hs := h.bel.size
  have b1 := (Below.refl u.heap.size u).alloc (Nat.le_refl _) (.cells (madeCells #[.int .u8 0] blk) 5)
  have hB0 : Block (u.alloc (.cells (madeCells #[.int .u8 0] blk) 5)) u.heap.size (List.replicate blk 0) := by
    unfold Block
    rw [World.alloc_heap_new, ← Array.toArray_toList (xs := madeCells #[.int .u8 0] blk), toList_madeCells_one]
    simp
  have s1 : (u.alloc (.cells (madeCells #[.int .u8 0] blk) 5)).heap.size = u.heap.size + 1 := by simp
  have hrow := RowAt.new (S := fun s => w.heap.size ≤ s ∧ s < u.heap.size) hB0 (by simp) hb2 (fun z hz => by have := List.eq_of_mem_replicate hz; omega)
  generalize u.alloc (.cells (madeCells #[.int .u8 0] blk) 5) = u1 at *
  have b2 := (Below.refl u1.heap.size u1).alloc (Nat.le_refl _) (.cells #[.slice (some ⟨u.heap.size, 0, none⟩) blk blk] 31)
  have hW2 : WR (u1.alloc (.cells #[.slice (some ⟨u.heap.size, 0, none⟩) blk blk] 31)) (fun s => w.heap.size ≤ s ∧ s < (u1.alloc (.cells #[.slice (some ⟨u.heap.size, 0, none⟩) blk blk] 31)).heap.size) blk (.slice (some ⟨u1.heap.size, 0, none⟩) 1 1) [List.replicate blk 0] :=
    WR.single hrow (fun s hs' => by
      rcases hs' with hs' | hs'
      · exact ⟨hs'.1, by simp; omega⟩
      · exact ⟨by omega, by simp; omega⟩) (fun s hs' => by
      rcases hs' with hs' | hs'
      · omega
      · exact hs'.2) ⟨by omega, by simp⟩
  have s2 : (u1.alloc (.cells #[.slice (some ⟨u.heap.size, 0, none⟩) blk blk] 31)).heap.size = u.heap.size + 2 := by simp; omega
  rw [s1] at hW2
  generalize u1.alloc (.cells #[.slice (some ⟨u.heap.size, 0, none⟩) blk blk] 31) = u2 at *
  have b3 : Below u2.heap.size u2 U := by rw [hU]; exact ((Below.refl u2.heap.size u2).alloc (Nat.le_refl _) _).drew
  have hnew : U.cell? ⟨u.heap.size + 2, 0, none⟩ = some (.slice (some ⟨u.heap.size + 1, 0, none⟩) 1 1) := by
    rw [hU, ← s2]
    exact (World.rowIs_alloc u2 #[.slice (some ⟨u.heap.size + 1, 0, none⟩) 1 1] 54 (fun _ => .slice (some ⟨u.heap.size + 1, 0, none⟩) 1 1) (fun j hj => by simp at hj; subst hj; rfl)).cell (i := 0) (by simp)
  have s3 : U.heap.size = u.heap.size + 3 := by rw [hU]; show (u2.alloc _).heap.size = _; simp; omega
  have bU : Below u.heap.size u U := (b1.trans (b2.mono (by omega))).trans (b3.mono (by omega))
  have hownU : U.ownsRow w.heap.size 54 1 v k ((List.range k).map (fun i => .slice (some ⟨q i, 0, none⟩) 1 1)) := ownsRow_block h.own (fun g' cur _ hh => bU.block g' (Array.getElem?_eq_some_iff.1 hh).1)
  obtain ⟨v', w2, hrun, ho, hgr, _⟩ := run_append_own (P := Try.prog) U w.heap.size 68 0 54 i0 (.slice none 0 0) 1 24 Try.underlying68 hi hz0 hz1 hz2 rfl (by decide) v k _ hownU ⟨u.heap.size + 2, 0, none⟩ 1 1 [.slice (some ⟨u.heap.size + 1, 0, none⟩) 1 1] rfl (by
      intro j x hj
      cases j with
      | zero => simp at hj; subst hj; simpa [Addr.add] using hnew
      | succ j => simp at hj) (by intro x hx; simp at hx; subst hx; rfl) (by unfold maxLen; omega) (by omega) (by omega)
  -- what the append leaves: blocks of another type
  have keep : ∀ (s : Nat) (cur : Array Value) (t : TypeId), t ≠ 54 → U.heap[s]? = some (Obj.cells cur t (0, 0)) → w2.heap[s]? = U.heap[s]? := by
    intro s cur t ht hh
    refine hgr.block s (Array.getElem?_eq_some_iff.1 hh).1 (fun e => ?_)
    rcases hownU.2 with ⟨e1, _⟩ | ⟨g', c, cur', e1, _, hh', _⟩
    · rw [e1] at e; simp [Value.ownBlock] at e
    · rw [e1] at e
      simp [Value.ownBlock] at e
      subst e
      rw [hh] at hh'
      cases hh'
      exact ht rfl
  have devU := h.dev.of_block (bU.block g h.dev.lt)
  have dev2 : w2.rowIs g 70 5 (ncell blk v) := by
    obtain ⟨cur, hh, hrest⟩ := devU
    exact ⟨cur, (keep g cur _ (by decide) hh).trans hh, hrest⟩
  have ne : ∀ (s : Nat) (cur : Array Value) (t : TypeId), t ≠ 70 → w2.heap[s]? = some (Obj.cells cur t (0, 0)) → (w2.setCell ⟨g, 1, none⟩ v').heap[s]? = w2.heap[s]? := fun s cur t ht hh =>
    Below.heap_setCell _ _ _ _ (row_ne dev2 hh (fun e => ht e.symm))
  have hS : ∀ s, (w.heap.size ≤ s ∧ s < U.heap.size) → (w.heap.size ≤ s ∧ s < (w2.setCell ⟨g, 1, none⟩ v').heap.size) := fun s hs' => ⟨hs'.1, by have := hgr.size; simp [World.setCell]; omega⟩
  have moveW : ∀ {x : Value}, WR U (fun s => w.heap.size ≤ s ∧ s < U.heap.size) blk x [List.replicate blk 0] → WR (w2.setCell ⟨g, 1, none⟩ v') (fun s => w.heap.size ≤ s ∧ s < (w2.setCell ⟨g, 1, none⟩ v').heap.size) blk x [List.replicate blk 0] := by
    intro x hx
    refine hx.kept (fun s c _ hh => ?_) (fun s e => ?_) hS
    · have k1 := keep s c 5 (by decide) hh
      exact (ne s c 5 (by decide) (k1.trans hh)).trans k1
    · obtain ⟨_, cur, hh⟩ := hx.own e
      have k1 := keep s cur _ (by decide) hh
      exact (ne s cur _ (by decide) (k1.trans hh)).trans k1
  refine ⟨v', w2, fun ty => hrun, dev2.cell (i := 1) (by omega), dev2.frozen 1, fun i => if i = k then u.heap.size + 1 else q i, ?_⟩
  refine ⟨(dev2.set 1 v').congr (fun j hj => ?_), ?_, fun i hi' => ?_, fun i j hi' hj' e => ?_, h.gB, ?_⟩
  · have : j = 0 ∨ j = 1 ∨ j = 2 ∨ j = 3 ∨ j = 4 := by omega
    rcases this with rfl | rfl | rfl | rfl | rfl <;> simp [ncell]
  · have e1 : (List.range (k + 1)).map (fun i => Value.slice (some ⟨if i = k then u.heap.size + 1 else q i, 0, none⟩) 1 1) = (List.range k).map (fun i => Value.slice (some ⟨q i, 0, none⟩) 1 1) ++ [.slice (some ⟨u.heap.size + 1, 0, none⟩) 1 1] := by
      rw [List.range_succ, List.map_append]
      congr 1
      · refine List.map_congr_left (fun i hi' => ?_)
        have := List.mem_range.1 hi'
        rw [if_neg (by omega)]
      · simp
    rw [e1]
    refine ownsRow_block ho (fun g' cur _ hh => ne g' cur _ (by decide) hh)
  · by_cases e : i = k
    · simp only [if_pos e]
      exact moveW (hW2.kept (fun s c _ hh => b3.block s (Array.getElem?_eq_some_iff.1 hh).1) (fun s e' => b3.block s (by obtain ⟨_, cur, hh⟩ := hW2.own e'; exact (Array.getElem?_eq_some_iff.1 hh).1)) (fun s hs' => ⟨hs'.1, by omega⟩))
    · simp only [if_neg e]
      have hx := h.row i (by omega)
      exact moveW (hx.kept (fun s c _ hh => bU.block s (Array.getElem?_eq_some_iff.1 hh).1) (fun s e' => bU.block s (by obtain ⟨_, cur, hh⟩ := hx.own e'; exact (Array.getElem?_eq_some_iff.1 hh).1)) (fun s hs' => ⟨hs'.1, by omega⟩))
  · by_cases e1 : i = k
    · by_cases e2 : j = k
      · omega
      · simp only [if_pos e1, if_neg e2] at e
        have := (h.lt (i := j) (by omega)).2.1
        omega
    · by_cases e2 : j = k
      · simp only [if_neg e1, if_pos e2] at e
        have := (h.lt (i := i) (by omega)).2.1
        omega
      · simp only [if_neg e1, if_neg e2] at e
        exact h.inj i j (by omega) (by omega) e
  · refine Below.setCell ?_ h.gB _
    exact (h.bel.trans (bU.mono hs)).grown hgr (by omega) (fun s e => (hownU.lt s e).1)

theorem RNI.done {w : World} {g blk n : Nat} {u : World} {v : Value} {q : Nat → Nat} (h : RNI w g blk n u v q) (h1 : 1 ≤ n) (h2 : n ≤ 4096) (h3 : 1 ≤ blk) (h4 : blk ≤ 4096) : Rv u (fun k => w.heap.size ≤ k ∧ k < u.heap.size) g (Dev.new blk n) := by
  rcases h.own.2 with ⟨_, e0⟩ | ⟨hh, hc, cur, rfl, hb, hcur, hn, hm, hsz, ht⟩
  · omega
  · rw [Nat.mul_one] at ht hsz
    have hcell : ∀ i, i < n → cur[i]? = some (.slice (some ⟨q i, 0, none⟩) 1 1) := by
      intro i hi
      have : (cur.toList.take n)[i]? = some (.slice (some ⟨q i, 0, none⟩) 1 1) := by
        rw [ht, List.getElem?_map, List.getElem?_range hi]; rfl
      rw [List.getElem?_take_of_lt hi] at this
      simpa using this
    refine ⟨⟨hh, hc, fun i => cur[i]?.getD (.slice none 0 0)⟩, h.dev.congr (fun j hj => ?_), ⟨cur, hcur, hsz, fun i hi => ?_⟩, ⟨hn, hm⟩, ⟨h.gB, h.dev.lt⟩, ⟨hb, (Array.getElem?_eq_some_iff.1 hcur).1⟩, fun i hi => ?_, fun i j k hi hj e1 e2 => ?_, fun k hk => hk.2, ⟨h1, h2, h3, h4, fun i hi => by simp [Dev.new], by simp [Dev.new], by simp [Dev.new]⟩⟩
    · have : j = 0 ∨ j = 1 ∨ j = 2 ∨ j = 3 ∨ j = 4 := by omega
      rcases this with rfl | rfl | rfl | rfl | rfl <;> rfl
    · have hi2 : i < cur.size := by rw [hsz]; exact hi
      show cur[i]? = some (cur[i]?.getD _)
      rw [Array.getElem?_eq_getElem hi2]
      rfl
    · show WR u _ blk (cur[i]?.getD _) _
      rw [hcell i hi]
      exact h.row i hi
    · have e1' : (cur[i]?.getD (.slice none 0 0)).ownBlock = some k := e1
      have e2' : (cur[j]?.getD (.slice none 0 0)).ownBlock = some k := e2
      rw [hcell i hi] at e1'
      rw [hcell j hj] at e2'
      simp [Value.ownBlock] at e1' e2'
      exact h.inj i j hi hj (by omega)

theorem rnew_bad (b bl : Int) (w : World) (h : newE b bl ≠ 0) :
    Calls Try.prog 11 #[.int .i64 b, .int .i64 bl] w fun e w' => e = .returned (.tuple #[.pointer none, .int .i64 (newE b bl)]) ∧ w = w' := by
  have K := hide (size_any b w)
  generalize hq : newE b bl = q at *
  have HQ := hide hq
  clear hq
  by_cases hs : isSize b
  · have K1 : Hid (Calls Try.prog 42 #[.int .i64 b] w fun r w' => r = .returned (.bool true) ∧ w = w') := (unhide K).mono (fun r w' x => by
      rcases x.1 with ⟨e, _⟩ | ⟨_, n⟩
      · exact ⟨e, x.2⟩
      · exact absurd hs n)
    by_cases hr : bl < 1 ∨ 4096 < bl
    · have hq1 : q = 1 := by
        rw [← unhide HQ]
        unfold newE
        rw [if_pos (badB_iff.2 (.inr (.inl hr)))]
      subst hq1
      rcases hr with hr | hr
      · clear K HQ h hs
        go_enter Try.func11, Try.ntmps11
        go_wp2_with fail
        go_at_call 42
        refine (unhide K1).mono ?_
        rintro e w' ⟨rfl, rfl⟩
        clear K1
        go_wp2
        go_ret2
        exact ⟨rfl, rfl⟩
      · have hr0 : ¬ bl < 1 := by omega
        clear K HQ h hs
        go_enter Try.func11, Try.ntmps11
        go_wp2_with fail
        go_at_call 42
        refine (unhide K1).mono ?_
        rintro e w' ⟨rfl, rfl⟩
        clear K1
        go_wp2
        go_ret2
        exact ⟨rfl, rfl⟩
    · have nb : ¬ badB b bl 2 4 = true := fun x => by
        have := badB_iff.1 x
        unfold badArg at this
        rcases this with x | x | x | x
        · exact x hs
        · exact hr x
        · omega
        · omega
      have hl : 1048576 < b * bl := by
        by_cases hl : 1048576 < b * bl
        · exact hl
        · exact absurd (by rw [← unhide HQ]; unfold newE; rw [if_neg nb, if_neg hl]) h
      have hq1 : q = 5 := by rw [← unhide HQ]; unfold newE; rw [if_neg nb, if_pos hl]
      subst hq1
      have hr0 : ¬ bl < 1 := fun x => hr (.inl x)
      have hr1 : ¬ 4096 < bl := fun x => hr (.inr x)
      have hw : wrap64 (b * bl) = b * bl := by
        have h1 : 0 < b ∧ b ≤ 4096 := by unfold isSize at hs; omega
        have h2 : b * bl ≤ 4096 * bl := Int.mul_le_mul_of_nonneg_right h1.2 (by omega)
        have h3 : 0 ≤ b * bl := Int.mul_nonneg (by omega) (by omega)
        unfold wrap64
        omega
      generalize hm : b * bl = mm at *
      clear K HQ h hs hr nb
      go_enter Try.func11, Try.ntmps11
      go_wp2_with fail
      go_at_call 42
      refine (unhide K1).mono ?_
      rintro e w' ⟨rfl, rfl⟩
      clear K1
      go_wp2
      go_ret2
      exact ⟨rfl, rfl⟩
  · have K1 : Hid (Calls Try.prog 42 #[.int .i64 b] w fun r w' => r = .returned (.bool false) ∧ w = w') := (unhide K).mono (fun r w' x => by
      rcases x.1 with ⟨_, e⟩ | ⟨e, _⟩
      · exact absurd e hs
      · exact ⟨e, x.2⟩)
    have hq1 : q = 1 := by
      rw [← unhide HQ]
      unfold newE
      rw [if_pos (badB_iff.2 (.inl hs))]
    subst hq1
    clear K HQ h hs
    go_enter Try.func11, Try.ntmps11
    go_wp2_with fail
    go_at_call 42
    refine (unhide K1).mono ?_
    rintro e w' ⟨rfl, rfl⟩
    clear K1
    go_wp2
    go_ret2
    exact ⟨rfl, rfl⟩

set_option maxHeartbeats 2000000 in
theorem rnew_ok (blk n : Nat) (w : World) (h : newE blk n = 0) :
    Calls Try.prog 11 #[.int .i64 blk, .int .i64 n] w fun e w' => ∃ g S, e = .returned (.tuple #[.pointer (some ⟨g, 0, none⟩), .int .i64 0]) ∧ Rv w' S g (Dev.new blk n) ∧ (∀ k, S k → w.heap.size ≤ k) ∧ Below w.heap.size w w' := by
  obtain ⟨_, _, hsz, hn1, hn2, hmu⟩ := newE_ok h
  have K1 : Hid (Calls Try.prog 42 #[.int .i64 blk] w fun r w' => r = .returned (.bool true) ∧ w = w') := (size_any blk w).mono (fun r w' x => by
    rcases x.1 with ⟨e, _⟩ | ⟨_, nn⟩
    · exact ⟨e, x.2⟩
    · exact absurd hsz nn)
  have hb12 : 1 ≤ blk ∧ blk ≤ 4096 := by unfold isSize at hsz; omega
  have hn12 : 1 ≤ n ∧ n ≤ 4096 := by omega
  have hw : wrap64 ((blk : Int) * (n : Int)) = (blk : Int) * (n : Int) := by
    have h3 : 0 ≤ (blk : Int) * (n : Int) := Int.mul_nonneg (by omega) (by omega)
    unfold wrap64
    omega
  have hrow := run_make_row' (P := Try.prog) 31 5 (.int .u8 0) 1 Try.underlying31 info5 rfl .i64 .i64 blk (by omega) (by omega)
  have I0 : Hid (∃ q, RNI w w.heap.size blk 0 (w.alloc (.cells #[.int .i64 blk, .slice none 0 0, .int .i64 (-1), .bool false, .int .i64 0] 70)) (.slice none 0 0) q) := by
    refine ⟨fun _ => 0, ?_, World.ownsRow_nil _ _ _ _, fun i hi => by omega, fun i j hi => by omega, Nat.le_refl _, (Below.refl _ _).alloc (Nat.le_refl _) _⟩
    exact World.rowIs_alloc w #[.int .i64 blk, .slice none 0 0, .int .i64 (-1), .bool false, .int .i64 0] 70 (ncell blk (.slice none 0 0)) (fun j hj => by
      have : j = 0 ∨ j = 1 ∨ j = 2 ∨ j = 3 ∨ j = 4 := by simp at hj; omega
      rcases this with rfl | rfl | rfl | rfl | rfl <;> rfl)
  have KS : Hid (∀ u v q g k, RNI w g blk k u v q → k < n → ∃ v' w2, (∀ ty, (Builtin.append_ #[68, 68] ty #[v, .slice (some ⟨u.heap.size + 2, 0, none⟩) 1 1]).run Try.prog (((u.alloc (.cells (madeCells #[.int .u8 0] blk) 5)).alloc (.cells #[.slice (some ⟨u.heap.size, 0, none⟩) blk blk] 31)).alloc (.cells #[.slice (some ⟨u.heap.size + 1, 0, none⟩) 1 1] 54)).drew = .ok v' w2) ∧ w2.cell? ⟨g, 1, none⟩ = some v ∧ w2.frozen? ⟨g, 1, none⟩ = false ∧ Hid (∃ q', RNI w g blk (k + 1) (w2.setCell ⟨g, 1, none⟩ v') v' q') ∧ (∃ a c, v' = .slice a (k + 1) c)) := by
    intro u v q g k H hk
    obtain ⟨v', w2, r1, r2, r3, q', r4⟩ := H.step hb12.1 hb12.2 (by omega) _ rfl
    exact ⟨v', w2, r1, r2, r3, ⟨q', r4⟩, r4.shape⟩
  have KD : Hid (∀ u v q g, RNI w g blk n u v q → ∃ S, Rv u S g (Dev.new blk n) ∧ (∀ k, S k → w.heap.size ≤ k) ∧ Below w.heap.size w u) := fun u v q g H => ⟨_, H.done hn12.1 hn12.2 hb12.1 hb12.2, fun k hk => hk.1, H.bel⟩
  have m1 : ¬ (n : Int) < 1 := by omega
  have m2 : ¬ 4096 < (n : Int) := by omega
  have m3 : ¬ 1048576 < (blk : Int) * (n : Int) := by omega
  clear h hsz hn1 hn2 hmu
  go_enter Try.func11, Try.ntmps11
  go_wp2_with fail
  go_at_call 42
  refine (unhide K1).mono ?_
  rintro e w' ⟨rfl, rfl⟩
  clear K1
  go_upto_region 6 with fail
  change Code.wp _ _ _ _ (w.alloc (.cells #[.int .i64 blk, .slice none 0 0, .int .i64 (-1), .bool false, .int .i64 0] 70))
  generalize w.alloc (.cells #[.int .i64 blk, .slice none 0 0, .int .i64 (-1), .bool false, .int .i64 0] 70) = w1 at *
  clear m1 m2 m3 hw
  go_upto_region 7 with fail
  go_loopw [7] (fun i wr => ∃ k : Nat, k ≤ n ∧ i = .int .i64 (k : Int) ∧ Hid (∃ v q, RNI w w.heap.size blk k wr v q)) (fun i _ => n - (intOf i).toNat)
  case atStart => exact ⟨0, Nat.zero_le _, rfl, by obtain ⟨q, h⟩ := unhide I0; exact ⟨_, q, h⟩⟩
  case round =>
    obtain ⟨k, hk, rfl, hI⟩ := hrel
    clear I0
    obtain ⟨v, q, hR⟩ := unhide hI
    by_cases hlt : k < n
    · obtain ⟨v', w2, R', e1, e2, F, a2, c2, rfl⟩ := unhide KS wr v q w.heap.size k hR hlt
      obtain ⟨av, cv, rfl⟩ := hR.shape
      have R := hide R'
      have c0 : wr.drew.cell? ⟨w.heap.size, 1, none⟩ = some (.slice av k cv) := hR.dev.cell (i := 1) (by omega)
      have c1 : ∀ o, (wr.alloc o).cell? ⟨w.heap.size, 1, none⟩ = some (.slice av k cv) := fun o => (hR.dev.alloc o).cell (i := 1) (by omega)
      have c2' : ∀ o o2, ((wr.alloc o).alloc o2).cell? ⟨w.heap.size, 1, none⟩ = some (.slice av k cv) := fun o o2 => ((hR.dev.alloc o).alloc o2).cell (i := 1) (by omega)
      have c3 : ∀ o o2 o3, (((wr.alloc o).alloc o2).alloc o3).cell? ⟨w.heap.size, 1, none⟩ = some (.slice av k cv) := fun o o2 o3 => (((hR.dev.alloc o).alloc o2).alloc o3).cell (i := 1) (by omega)
      have F2 : Hid (∃ v q, RNI w w.heap.size blk (k + 1) (w2.setCell ⟨w.heap.size, 1, none⟩ (.slice a2 (k + 1) c2)) v q) := by
        obtain ⟨q', h⟩ := unhide F
        exact ⟨_, q', h⟩
      clear KS KD hI hR R' F
      generalize w.heap.size = g at *
      go_upto_region 9 with fail
      go_region_law (refine step_append_run (by rfl) _ _ _ (by rfl) _ _ _ (by rfl) (by rfl) (unhide R) ?_; clear R)
      all_goals
        go_wp2_with fail
        exact ⟨⟨k + 1, by omega, by go_num, F2⟩, by simp [intOf]; omega⟩
    · have hkn : k = n := by omega
      rw [hkn] at hR
      obtain ⟨S, x1, x2, x3⟩ := unhide KD wr v q w.heap.size hR
      have F := hide x1
      have F2 := hide x2
      have F3 := hide x3
      have nk : ¬ (k : Int) < (n : Int) := by omega
      clear KS KD x1 x2 x3 hI hR hkn
      go_wp2_with fail
      go_ret2
      first | exact ⟨w.heap.size, S, rfl, unhide F, unhide F2, unhide F3⟩ | exact ⟨w.heap.size, rfl, S, unhide F, unhide F2, unhide F3⟩

end Go.Proofs.Ytikpmchjlpobdaa
