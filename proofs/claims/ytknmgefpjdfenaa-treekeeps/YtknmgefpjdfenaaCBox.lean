/- A value that came in, boxed; answers of the writers. -/
import Derived.Test.YtknmgefpjdfenaaCStep
import Derived.OwnWalk
import Derived.Deep.DeepCutAuto
namespace Go.Proofs.Ytknmgefpjdfenaa
open Go.RowKit Go.Shelf
set_option linter.unusedVariables false
set_option maxRecDepth 100000

/-- The value stands in the first block that was made since w, and nothing older has changed. -/
def Bx (w : World) (cs : Array Value) (u : World) : Prop := (∀ k v, cs[k]? = some v → u.cell? ⟨w.heap.size, k, none⟩ = some v) ∧ Below w.heap.size w u ∧ w.heap.size < u.heap.size

theorem cell_new (w : World) (cs : Array Value) (t : TypeId) (fr : Nat × Nat) (k : Nat) : (w.alloc (.cells cs t fr)).cell? ⟨w.heap.size, k, none⟩ = cs[k]? := by
  have h := World.alloc_heap_new w (.cells cs t fr)
  simp only [World.cell?, h]
  rfl

theorem Bx.start (w : World) (cs : Array Value) (t : TypeId) : Bx w cs (w.alloc (.cells cs t)) :=
  ⟨fun k v h => (cell_new w cs t _ k).trans h, (Below.refl _ _).alloc (Nat.le_refl _) _, by simp⟩

theorem Bx.call {w u u' : World} {cs : Array Value} (h : Bx w cs u) (hb : Below u.heap.size u u') : Bx w cs u' :=
  ⟨fun k v hk => (hb.cell (p := ⟨w.heap.size, k, none⟩) h.2.2).trans (h.1 k v hk), h.2.1.trans (hb.mono (Nat.le_of_lt h.2.2)), Nat.lt_of_lt_of_le h.2.2 hb.size⟩

theorem Bx.alloc {w u : World} {cs : Array Value} (h : Bx w cs u) (o : Obj) : Bx w cs (u.alloc o) := h.call ((Below.refl _ _).alloc (Nat.le_refl _) o)

theorem Bx.drew {w u : World} {cs : Array Value} (h : Bx w cs u) : Bx w cs u.drew := ⟨h.1, h.2.1.drew, h.2.2⟩

theorem Bx.grw {w u u' : World} {cs : Array Value} (h : Bx w cs u) (hb : Grw w.heap.size u u') : Bx w cs u' :=
  ⟨fun k v hk => hb.2.1 _ _ (h.1 k v hk), h.2.1.trans hb.1, Nat.lt_of_lt_of_le h.2.2 hb.size⟩

/-- What a writer answers: nil and an error, or a new row of these bytes. -/
def WAns (w w' : World) (e : Ending) (E : Int) (n : Nat) (xs : List Int) : Prop :=
  (E ≠ 0 ∧ e = .returned (.tuple #[.slice none 0 0, .int .i64 E])) ∨ (E = 0 ∧ ∃ a c, e = .returned (.tuple #[.slice a n c, .int .i64 0]) ∧ Own w.heap.size w' a n c xs)

theorem layB_full {size : Nat} {L : List Int} (h : L.length = size) : layB size L = L := by
  unfold layB
  rw [h, Nat.sub_self]
  simp

theorem bchain {n : Nat} {w w1 w2 : World} (h1 : Below n w w1) (h2 : Below w1.heap.size w1 w2) (hn : n ≤ w.heap.size) : Below n w w2 := h1.trans (h2.mono (by have := h1.size; omega))

end Go.Proofs.Ytknmgefpjdfenaa
