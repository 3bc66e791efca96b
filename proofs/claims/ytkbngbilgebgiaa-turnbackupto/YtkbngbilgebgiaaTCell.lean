/- Arrays of four cells, and complex numbers of whole parts. -/
import Derived.Test.YtkbngbilgebgiaaTPower
namespace Go.Proofs.Ytkbngbilgebgiaa
open Go.RowKit Go.Shelf
set_option linter.unusedVariables false

/-- The value is the complex number of whole parts a and b. -/
def Cx (v : Value) (a b : Int) : Prop := ∃ x y, v = .complex .f64 x y ∧ Rc x y a b

/-- Four complex numbers with these parts. -/
def C4 (V : Nat → Value) (a b : Nat → Int) : Prop := ∀ j, j < 4 → Cx (V j) (a j) (b j)

/-- Block g has these four cells. -/
def R4 (u : World) (g : Nat) (t : TypeId) (V : Nat → Value) : Prop := u.heap[g]? = some (.cells #[V 0, V 1, V 2, V 3] t (0, 0))

/-- V, but v at k. -/
def upd {α : Type} (V : Nat → α) (k : Nat) (v : α) : Nat → α := fun j => if j = k then v else V j

theorem upd_same {α : Type} (V : Nat → α) (k : Nat) (v : α) : upd V k v k = v := by simp [upd]
theorem upd_other {α : Type} (V : Nat → α) (k j : Nat) (v : α) (h : j ≠ k) : upd V k v j = V j := by simp [upd, h]

theorem R4.lt {u : World} {g : Nat} {t : TypeId} {V : Nat → Value} (h : R4 u g t V) : g < u.heap.size := (Array.getElem?_eq_some_iff.1 h).1

theorem four_get {α : Type} (V : Nat → α) (k : Nat) (hk : k < 4) : (#[V 0, V 1, V 2, V 3])[k]? = some (V k) := by
  have h : k = 0 ∨ k = 1 ∨ k = 2 ∨ k = 3 := by omega
  rcases h with rfl | rfl | rfl | rfl <;> rfl

theorem R4.cell {u : World} {g : Nat} {t : TypeId} {V : Nat → Value} (h : R4 u g t V) (k : Nat) (hk : k < 4) : u.cell? ⟨g, k, none⟩ = some (V k) := by
  unfold R4 at h
  have := four_get V k hk
  simp only [World.cell?, h]
  exact this

theorem R4.free {u : World} {g : Nat} {t : TypeId} {V : Nat → Value} (h : R4 u g t V) (i : Nat) : u.frozen? ⟨g, i, none⟩ = false := by
  unfold R4 at h; simp [World.frozen?, h]

theorem R4.below {u u' : World} {g n : Nat} {t : TypeId} {V : Nat → Value} (h : R4 u g t V) (hb : Below n u u') (hg : g < n) : R4 u' g t V := (hb.block g hg).trans h

theorem R4.other {u : World} {g : Nat} {t : TypeId} {V : Nat → Value} (h : R4 u g t V) (b : Addr) (v : Value) (hne : g ≠ b.block) : R4 (u.setCell b v) g t V := (Below.heap_setCell u b v g hne).trans h

theorem R4.alloc {u : World} {g : Nat} {t : TypeId} {V : Nat → Value} (h : R4 u g t V) (o : Obj) : R4 (u.alloc o) g t V := (Below.heap_alloc u o g h.lt).trans h

theorem R4.drew {u : World} {g : Nat} {t : TypeId} {V : Nat → Value} (h : R4 u g t V) : R4 u.drew g t V := h

theorem R4.new (u : World) (t : TypeId) (V : Nat → Value) : R4 (u.alloc (.cells #[V 0, V 1, V 2, V 3] t)) u.heap.size t V := heap_alloc_new u _

theorem four_set {α : Type} (V : Nat → α) (k : Nat) (v : α) (hk : k < 4) : (#[V 0, V 1, V 2, V 3]).setIfInBounds k v = #[upd V k v 0, upd V k v 1, upd V k v 2, upd V k v 3] := by
  have h : k = 0 ∨ k = 1 ∨ k = 2 ∨ k = 3 := by omega
  rcases h with rfl | rfl | rfl | rfl <;> rfl

theorem R4.set {u : World} {g : Nat} {t : TypeId} {V : Nat → Value} (h : R4 u g t V) (k : Nat) (hk : k < 4) (v : Value) : R4 (u.setCell ⟨g, k, none⟩ v) g t (upd V k v) := by
  unfold R4 at *
  rw [setCell_eq_setRow u g k _ t (0, 0) _ h, setRow_heap u g _ _ t _ h, four_set V k v hk]

/-- All four cells written anew. -/
theorem R4.all {u : World} {g : Nat} {t : TypeId} {V : Nat → Value} (h : R4 u g t V) (X : Nat → Value) :
    R4 ((((u.setCell ⟨g, 0, none⟩ (X 0)).setCell ⟨g, 1, none⟩ (X 1)).setCell ⟨g, 2, none⟩ (X 2)).setCell ⟨g, 3, none⟩ (X 3)) g t X :=
  (((h.set 0 (by omega) (X 0)).set 1 (by omega) (X 1)).set 2 (by omega) (X 2)).set 3 (by omega) (X 3)

/-- The parts of the number that is 0. -/
def zeros : Nat → Value := fun _ => .complex .f64 0 0
def nought : Nat → Int := fun _ => 0

theorem zeros_c4 : C4 zeros nought nought := fun j _ => ⟨0, 0, rfl, rd_zero, rd_zero⟩

end Go.Proofs.Ytkbngbilgebgiaa
