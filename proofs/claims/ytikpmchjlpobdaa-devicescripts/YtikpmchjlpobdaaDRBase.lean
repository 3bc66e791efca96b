/- The document's device in memory: its own block, the block of its lists, and the rows. -/
import Derived.Test.YtikpmchjlpobdaaDFuses
import Derived.Test.YtikpmchjlpobdaaDWaiting
namespace Go.Proofs.Ytikpmchjlpobdaa
open Go.RowKit Go.Shelf
set_option linter.unusedVariables false

/-- Block i is x, and ys wait. -/
def Dev.put (D : Dev) (i : Nat) (x : List Int) (ys : List (List Int)) : Dev := { D with X := fun j => if j = i then x else D.X j, Y := fun j => if j = i then ys else D.Y j }

theorem put_load (D : Dev) (i : Nat) (zs : List Int) : D.put i zs [] = D.load i zs := rfl

theorem put_settle (D : Dev) (i : Nat) (k : Int) : D.put i (D.pick i k) [] = D.settle i k := rfl

theorem put_add (D : Dev) (i : Nat) (zs : List Int) : D.put i (D.X i) (D.Y i ++ [zs]) = D.add i zs := by
  unfold Dev.put Dev.add
  congr 1
  funext j
  by_cases e : j = i
  · simp [e]
  · simp [e]

/-- Where it lies. -/
structure RMem where
  h : Nat
  hc : Nat
  V : Nat → Value

def rcell (D : Dev) (m : RMem) (k : Nat) : Value :=
  if k = 0 then .int .i64 D.blk else if k = 1 then .slice (some ⟨m.h, 0, none⟩) D.n m.hc else if k = 2 then .int .i64 D.f else if k = 3 then .bool D.dead else .int .i64 D.wr

structure RvM (u : World) (S : Nat → Prop) (g : Nat) (D : Dev) (m : RMem) : Prop where
  dev : u.rowIs g 70 5 (rcell D m)
  lis : u.rowIs m.h 54 m.hc m.V
  hn : D.n ≤ m.hc ∧ m.hc ≤ maxLen
  sg : S g
  sh : S m.h
  row : ∀ i, i < D.n → WR u S D.blk (m.V i) (D.X i :: D.Y i)
  one : ∀ i j k, i < D.n → j < D.n → (m.V i).ownBlock = some k → (m.V j).ownBlock = some k → i = j
  lt : ∀ k, S k → k < u.heap.size
  ok : D.Ok

/-- The document's device in memory: S are its blocks. -/
def Rv (u : World) (S : Nat → Prop) (g : Nat) (D : Dev) : Prop := ∃ m, RvM u S g D m

theorem WR.own {u : World} {S : Nat → Prop} {blk : Nat} {v : Value} {Z : List (List Int)} (h : WR u S blk v Z) {k : Nat} (e : v.ownBlock = some k) : S k ∧ ∃ cur, u.heap[k]? = some (.cells cur 31 (0, 0)) := by
  obtain ⟨a, c, e1, _, _, _, hx⟩ := h.shape
  rw [e1] at e
  cases a with
  | none => simp [Value.ownBlock] at e
  | some x =>
    obtain ⟨k2, cur, rfl, hs, hh, _⟩ := hx x rfl
    simp [Value.ownBlock] at e
    subst e
    exact ⟨hs, cur, hh⟩

theorem RvM.kept {u u' : World} {S S' : Nat → Prop} {g : Nat} {D : Dev} {m : RMem} (h : RvM u S g D m) (hk : ∀ k, S k → u'.heap[k]? = u.heap[k]?) (hS : ∀ k, S k → S' k) (hl : ∀ k, S' k → k < u'.heap.size) : RvM u' S' g D m :=
  ⟨h.dev.of_block (hk _ h.sg), h.lis.of_block (hk _ h.sh), h.hn, hS _ h.sg, hS _ h.sh,
   fun i hi => (h.row i hi).kept (fun k _ hs _ => hk k hs) (fun k e => hk k ((h.row i hi).own e).1) hS, h.one, hl, h.ok⟩

theorem Rv.kept {u u' : World} {S : Nat → Prop} {g : Nat} {D : Dev} (h : Rv u S g D) (hk : ∀ k, S k → u'.heap[k]? = u.heap[k]?) (hs : u.heap.size ≤ u'.heap.size) : Rv u' S g D := by
  obtain ⟨m, h⟩ := h
  exact ⟨m, h.kept hk (fun _ h => h) (fun k hk => Nat.lt_of_lt_of_le (h.lt k hk) hs)⟩

theorem Rv.lt {u : World} {S : Nat → Prop} {g : Nat} {D : Dev} (h : Rv u S g D) {k : Nat} (hk : S k) : k < u.heap.size := by obtain ⟨m, h⟩ := h; exact h.lt k hk

theorem Rv.below {u u' : World} {S : Nat → Prop} {g : Nat} {D : Dev} (h : Rv u S g D) (hb : Below u.heap.size u u') : Rv u' S g D := h.kept (fun k hk => hb.block k (h.lt hk)) hb.size

theorem Rv.ok {u : World} {S : Nat → Prop} {g : Nat} {D : Dev} (h : Rv u S g D) : D.Ok := by obtain ⟨m, h⟩ := h; exact h.ok

theorem RvM.grow {w w' : World} {S : Nat → Prop} {g : Nat} {D : Dev} {m : RMem} (h : RvM w S g D m) (hb : Below w.heap.size w w') : RvM w' (exS S w w') g D m :=
  h.kept (fun k hk => hb.block k (h.lt k hk)) (fun k hk => .inl hk) (fun k hk => by
    rcases hk with hk | hk
    · exact Nat.lt_of_lt_of_le (h.lt k hk) hb.size
    · exact hk.2)

theorem RvM.cells {u : World} {S : Nat → Prop} {g : Nat} {D : Dev} {m : RMem} (h : RvM u S g D m) :
    u.cell? ⟨g, 0, none⟩ = some (.int .i64 D.blk) ∧ u.cell? ⟨g, 1, none⟩ = some (.slice (some ⟨m.h, 0, none⟩) D.n m.hc) ∧ u.cell? ⟨g, 2, none⟩ = some (.int .i64 D.f) ∧ u.cell? ⟨g, 3, none⟩ = some (.bool D.dead) ∧ u.cell? ⟨g, 4, none⟩ = some (.int .i64 D.wr) :=
  ⟨h.dev.cell (i := 0) (by omega), h.dev.cell (i := 1) (by omega), h.dev.cell (i := 2) (by omega), h.dev.cell (i := 3) (by omega), h.dev.cell (i := 4) (by omega)⟩

theorem RvM.free {u : World} {S : Nat → Prop} {g : Nat} {D : Dev} {m : RMem} (h : RvM u S g D m) (k : Nat) : u.frozen? ⟨g, k, none⟩ = false := h.dev.frozen k

theorem five : ∀ j, j < 5 → j = 0 ∨ j = 1 ∨ j = 2 ∨ j = 3 ∨ j = 4 := by omega

/-- A store into a cell of the device's own block. -/
theorem RvM.setG {u : World} {S : Nat → Prop} {g : Nat} {D D' : Dev} {m : RMem} (h : RvM u S g D m) (k : Nat) (v : Value) (hD : D'.blk = D.blk ∧ D'.n = D.n ∧ D'.X = D.X ∧ D'.Y = D.Y)
    (hc : ∀ j, j < 5 → rcell D' m j = if j = k then v else rcell D m j) (ho : D'.Ok) : RvM (u.setCell ⟨g, k, none⟩ v) S g D' m := by
  obtain ⟨d1, d2, d3, d4⟩ := hD
  have ne : ∀ (k' : Nat) (c : Array Value) (t : TypeId), t ≠ 70 → u.heap[k']? = some (Obj.cells c t (0, 0)) → (u.setCell ⟨g, k, none⟩ v).heap[k']? = u.heap[k']? := fun k' c t ht hh =>
    Below.heap_setCell _ _ _ _ (row_ne h.dev hh (fun e => ht e.symm))
  refine ⟨(h.dev.set k v).congr (fun j hj => (hc j hj).symm), h.lis.setOther (rows_ne h.dev h.lis (by decide)) v, by rw [d2]; exact h.hn, h.sg, h.sh, ?_, by rw [d2]; exact h.one, fun k' hk' => by simpa [World.setCell] using h.lt k' hk', ho⟩
  intro i hi
  rw [d1, d3, d4]
  refine (h.row i (by omega)).kept (fun k' c _ hh => ne k' c 5 (by decide) hh) (fun k' e => ?_) (fun _ h => h)
  obtain ⟨_, cur, hh⟩ := (h.row i (by omega)).own e
  exact ne _ _ _ (by decide) hh

/-- A store into the list of block i. -/
theorem RvM.setL {u : World} {S : Nat → Prop} {g : Nat} {D : Dev} {m : RMem} (h : RvM u S g D m) {i : Nat} (hi : i < D.n) {v : Value} {x : List Int} {ys : List (List Int)} (hv : WR u S D.blk v (x :: ys)) (hy : ys.length ≤ 400)
    (hone : ∀ j k, j < D.n → j ≠ i → (m.V j).ownBlock = some k → v.ownBlock ≠ some k) :
    RvM (u.setCell ⟨m.h, i, none⟩ v) S g (D.put i x ys) { m with V := fun j => if j = i then v else m.V j } := by
  have ne : ∀ (k' : Nat) (c : Array Value) (t : TypeId), t ≠ 54 → u.heap[k']? = some (Obj.cells c t (0, 0)) → (u.setCell ⟨m.h, i, none⟩ v).heap[k']? = u.heap[k']? := fun k' c t ht hh =>
    Below.heap_setCell _ _ _ _ (row_ne h.lis hh (fun e => ht e.symm))
  have kv : ∀ {v' : Value} {Z' : List (List Int)}, WR u S D.blk v' Z' → WR (u.setCell ⟨m.h, i, none⟩ v) S D.blk v' Z' := by
    intro v' Z' hw
    refine hw.kept (fun k' c _ hh => ne k' c 5 (by decide) hh) (fun k' e => ?_) (fun _ h => h)
    obtain ⟨_, cur, hh⟩ := hw.own e
    exact ne _ _ _ (by decide) hh
  refine ⟨(h.dev.setOther (rows_ne h.lis h.dev (by decide)) _).congr (fun j hj => rfl), (h.lis.set i _), h.hn, h.sg, h.sh, ?_, ?_, fun k' hk' => by simpa [World.setCell] using h.lt k' hk', ⟨h.ok.n1, h.ok.n2, h.ok.b1, h.ok.b2, fun j hj => ?_, h.ok.f1, h.ok.f2⟩⟩
  · intro j hj
    simp only [Dev.put]
    by_cases e : j = i
    · subst e
      simp only [if_true]
      exact kv hv
    · simp only [if_neg e]
      exact kv (h.row j hj)
  · intro a b k ha hb ea eb
    by_cases e1 : a = i
    · by_cases e2 : b = i
      · omega
      · simp only [e1, if_true] at ea
        simp only [if_neg e2] at eb
        exact absurd ea (hone b k hb e2 eb)
    · by_cases e2 : b = i
      · simp only [e2, if_true] at eb
        simp only [if_neg e1] at ea
        exact absurd eb (hone a k ha e1 ea)
      · simp only [if_neg e1] at ea
        simp only [if_neg e2] at eb
        exact h.one a b k ha hb ea eb
  · simp only [Dev.put]
    by_cases e : j = i
    · simp only [e, if_true]; exact hy
    · simp only [if_neg e]; exact h.ok.y j hj

/-- The list of block i. -/
theorem RvM.list {u : World} {S : Nat → Prop} {g : Nat} {D : Dev} {m : RMem} (h : RvM u S g D m) {i : Nat} (hi : i < D.n) :
    ∃ k c, m.V i = .slice (some ⟨k, 0, none⟩) ((D.Y i).length + 1) c ∧ (D.Y i).length + 1 ≤ c ∧ c ≤ maxLen ∧ S k ∧ u.cell? ⟨m.h, i, none⟩ = some (.slice (some ⟨k, 0, none⟩) ((D.Y i).length + 1) c) ∧ (∀ j, u.frozen? ⟨m.h, j, none⟩ = false) ∧
      ∀ j, j < (D.Y i).length + 1 → ∃ r, u.cell? ⟨k, j, none⟩ = some (rv D.blk r) ∧ RowAt u S D.blk r ((D.X i :: D.Y i)[j]?.getD []) := by
  have hw := h.row i hi
  obtain ⟨a, c, e, hc, hm, _⟩ := hw.shape
  simp only [List.length_cons] at e hc
  have hw2 := hw
  rw [e] at hw2
  obtain ⟨k, r, rfl, hs, _⟩ := hw2.elem (j := 0) (by simp)
  refine ⟨k, c, e, hc, hm, hs, by rw [h.lis.cell (by have := h.hn.1; omega), e], fun j => h.lis.frozen j, fun j hj => ?_⟩
  obtain ⟨k', r', e', _, ck, _, hr⟩ := hw2.elem (j := j) (by simpa using hj)
  cases e'
  exact ⟨r', ck, hr⟩

/-- What is read of block i. -/
theorem rd_last (D : Dev) (i : Nat) : (D.X i :: D.Y i)[(D.Y i).length]?.getD [] = D.rd i := by
  unfold Dev.rd
  rw [List.getLast?_eq_getElem?]
  by_cases h : D.Y i = []
  · rw [h]; rfl
  · have hl : 0 < (D.Y i).length := List.length_pos_iff.2 h
    obtain ⟨l, hl2⟩ : ∃ l, (D.Y i).length = l + 1 := ⟨(D.Y i).length - 1, by omega⟩
    rw [hl2, List.getElem?_cons_succ, Nat.add_sub_cancel, List.getElem?_eq_getElem (by omega)]
    rfl

end Go.Proofs.Ytikpmchjlpobdaa
