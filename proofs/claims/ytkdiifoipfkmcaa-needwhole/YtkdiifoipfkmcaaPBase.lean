/- Words and laws for plans: twelve numbers in a block. -/
import Derived.Test.YtkdiifoipfkmcaaGI
import Derived.WalkKit
import Derived.WalkSpells
import Derived.WalkLawsBesides
import Derived.Shelf.Abstract
import Derived.Laws.CopyOwn
import Derived.Deep.OwnRows
import Derived.Laws.BitsAllLaws
import Derived.Laws.StructEq
import Derived.ArgAppend
import Derived.Deep.RegionWith
import Derived.Deep.QuietTactic
import Derived.BigQuiet
import Derived.OwnWalk
import Derived.Deep.DeepCutAuto
namespace Go.Proofs.Ytkdiifoipfkmcaa
open Go.RowKit Go.Shelf
set_option linter.unusedVariables false

/-- A plan's twelve numbers. -/
abbrev Pv (P : Nat → Int) : Value := .agg #[.int .i64 (P 0), .int .i64 (P 1), .int .i64 (P 2), .int .i64 (P 3), .int .i64 (P 4), .int .i64 (P 5), .int .i64 (P 6), .int .i64 (P 7), .int .i64 (P 8), .int .i64 (P 9), .int .i64 (P 10), .int .i64 (P 11)]
abbrev Pc (P : Nat → Int) : Array Value := #[.int .i64 (P 0), .int .i64 (P 1), .int .i64 (P 2), .int .i64 (P 3), .int .i64 (P 4), .int .i64 (P 5), .int .i64 (P 6), .int .i64 (P 7), .int .i64 (P 8), .int .i64 (P 9), .int .i64 (P 10), .int .i64 (P 11)]

/-- Block g has these twelve cells. -/
def R12 (u : World) (g : Nat) (P : Nat → Int) : Prop := u.heap[g]? = some (.cells (Pc P) 23 (0, 0))

theorem R12.lt {u : World} {g : Nat} {P : Nat → Int} (h : R12 u g P) : g < u.heap.size := (Array.getElem?_eq_some_iff.1 h).1

theorem twelve {k : Nat} (hk : k < 12) : k = 0 ∨ k = 1 ∨ k = 2 ∨ k = 3 ∨ k = 4 ∨ k = 5 ∨ k = 6 ∨ k = 7 ∨ k = 8 ∨ k = 9 ∨ k = 10 ∨ k = 11 := by omega

theorem pc_get (P : Nat → Int) (k : Nat) (hk : k < 12) : (Pc P)[k]? = some (.int .i64 (P k)) := by
  rcases twelve hk with rfl | rfl | rfl | rfl | rfl | rfl | rfl | rfl | rfl | rfl | rfl | rfl <;> rfl

theorem R12.cell {u : World} {g : Nat} {P : Nat → Int} (h : R12 u g P) (k : Nat) (hk : k < 12) : u.cell? ⟨g, k, none⟩ = some (.int .i64 (P k)) := by
  unfold R12 at h
  have := pc_get P k hk
  simp only [World.cell?, h]
  exact this

theorem R12.free {u : World} {g : Nat} {P : Nat → Int} (h : R12 u g P) (i : Nat) : u.frozen? ⟨g, i, none⟩ = false := by
  unfold R12 at h; simp [World.frozen?, h]

theorem R12.below {u u' : World} {g n : Nat} {P : Nat → Int} (h : R12 u g P) (hb : Below n u u') (hg : g < n) : R12 u' g P := (hb.block g hg).trans h

theorem R12.other {u : World} {g : Nat} {P : Nat → Int} (h : R12 u g P) (b : Addr) (v : Value) (hne : g ≠ b.block) : R12 (u.setCell b v) g P := (Below.heap_setCell u b v g hne).trans h

theorem R12.alloc {u : World} {g : Nat} {P : Nat → Int} (h : R12 u g P) (o : Obj) : R12 (u.alloc o) g P := (Below.heap_alloc u o g h.lt).trans h

theorem R12.drew {u : World} {g : Nat} {P : Nat → Int} (h : R12 u g P) : R12 u.drew g P := h

theorem R12.new (u : World) (P : Nat → Int) : R12 (u.alloc (.cells (Pc P) 23)) u.heap.size P := heap_alloc_new u _

/-- P, but z at k. -/
def updP (P : Nat → Int) (k : Nat) (z : Int) : Nat → Int := fun j => if j = k then z else P j

theorem pc_set (P : Nat → Int) (k : Nat) (z : Int) (hk : k < 12) : (Pc P).setIfInBounds k (.int .i64 z) = Pc (updP P k z) := by
  rcases twelve hk with rfl | rfl | rfl | rfl | rfl | rfl | rfl | rfl | rfl | rfl | rfl | rfl <;> rfl

theorem R12.set {u : World} {g : Nat} {P : Nat → Int} (h : R12 u g P) (k : Nat) (hk : k < 12) (z : Int) : R12 (u.setCell ⟨g, k, none⟩ (.int .i64 z)) g (updP P k z) := by
  unfold R12 at *
  rw [setCell_eq_setRow u g k _ 23 (0, 0) _ h, setRow_heap u g _ _ 23 _ h, pc_set P k z hk]

theorem R12.congr {u : World} {g : Nat} {P Q : Nat → Int} (h : R12 u g P) (e : ∀ k, k < 12 → P k = Q k) : R12 u g Q := by
  unfold R12 at *
  rw [h]
  simp only [Pc]
  rw [e 0 (by omega), e 1 (by omega), e 2 (by omega), e 3 (by omega), e 4 (by omega), e 5 (by omega), e 6 (by omega), e 7 (by omega), e 8 (by omega), e 9 (by omega), e 10 (by omega), e 11 (by omega)]

theorem Pv.congr {P Q : Nat → Int} (e : ∀ k, k < 12 → P k = Q k) : Pv P = Pv Q := by
  simp only [Pv]
  rw [e 0 (by omega), e 1 (by omega), e 2 (by omega), e 3 (by omega), e 4 (by omega), e 5 (by omega), e 6 (by omega), e 7 (by omega), e 8 (by omega), e 9 (by omega), e 10 (by omega), e 11 (by omega)]

/-- The world in which all twelve cells of block g were written. -/
def all12 (u : World) (g : Nat) (P : Nat → Int) : World := ((((((((((((u.setCell ⟨g, 0, none⟩ (.int .i64 (P 0))).setCell ⟨g, 1, none⟩ (.int .i64 (P 1))).setCell ⟨g, 2, none⟩ (.int .i64 (P 2))).setCell ⟨g, 3, none⟩ (.int .i64 (P 3))).setCell ⟨g, 4, none⟩ (.int .i64 (P 4))).setCell ⟨g, 5, none⟩ (.int .i64 (P 5))).setCell ⟨g, 6, none⟩ (.int .i64 (P 6))).setCell ⟨g, 7, none⟩ (.int .i64 (P 7))).setCell ⟨g, 8, none⟩ (.int .i64 (P 8))).setCell ⟨g, 9, none⟩ (.int .i64 (P 9))).setCell ⟨g, 10, none⟩ (.int .i64 (P 10))).setCell ⟨g, 11, none⟩ (.int .i64 (P 11)))

theorem R12.all {u : World} {g : Nat} {P : Nat → Int} (h : R12 u g P) (Q : Nat → Int) : R12 (all12 u g Q) g Q := by
  refine ((((((((((((h.set 0 (by omega) (Q 0)).set 1 (by omega) (Q 1)).set 2 (by omega) (Q 2)).set 3 (by omega) (Q 3)).set 4 (by omega) (Q 4)).set 5 (by omega) (Q 5)).set 6 (by omega) (Q 6)).set 7 (by omega) (Q 7)).set 8 (by omega) (Q 8)).set 9 (by omega) (Q 9)).set 10 (by omega) (Q 10)).set 11 (by omega) (Q 11)).congr ?_
  intro k hk
  rcases twelve hk with rfl | rfl | rfl | rfl | rfl | rfl | rfl | rfl | rfl | rfl | rfl | rfl <;> rfl

theorem below_all12 {n g : Nat} {w u : World} (h : Below n w u) (hg : n ≤ g) (Q : Nat → Int) : Below n w (all12 u g Q) :=
  (((((((((((h.setCell hg _).setCell hg _).setCell hg _).setCell hg _).setCell hg _).setCell hg _).setCell hg _).setCell hg _).setCell hg _).setCell hg _).setCell hg _).setCell hg _

theorem R12.all_other {u : World} {g g' : Nat} {P : Nat → Int} (h : R12 u g P) (Q : Nat → Int) (hne : g ≠ g') : R12 (all12 u g' Q) g P :=
  (((((((((((h.other _ _ hne).other _ _ hne).other _ _ hne).other _ _ hne).other _ _ hne).other _ _ hne).other _ _ hne).other _ _ hne).other _ _ hne).other _ _ hne).other _ _ hne).other _ _ hne

/-- The plan of zeros. -/
def zeroP : Nat → Int := fun _ => 0

theorem size_all12 (u : World) (g : Nat) (P : Nat → Int) : (all12 u g P).heap.size = u.heap.size := by simp [all12]

end Go.Proofs.Ytkdiifoipfkmcaa
