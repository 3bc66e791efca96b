/- skerryref01.BytesApart at a list of slices. -/
import Derived.Test.YtmdnkkmlgjpdcaaApart3
namespace Go.Proofs.Ytmdnkkmlgjpdcaa
open Go.RowKit Go.Shelf
set_option linter.unusedVariables false

abbrev Trip := Option Addr × Nat × Nat
def tripAt (ts : List Trip) (p : Nat) : Trip := ts[p]?.getD (none, 0, 0)
def sumTo (ts : List Trip) : Nat → Nat
  | 0 => 0
  | p + 1 => sumTo ts p + (tripAt ts p).2.1

def listsOf (B Lb : Nat) (ts : List Trip) : Lists :=
  { N := ts.length, B := B, Lb := Lb, ca := (ts.map sval).toArray, A := fun p => (tripAt ts p).1, L := fun p => (tripAt ts p).2.1, C := fun p => (tripAt ts p).2.2, off := sumTo ts }

/-- Two slices have rows of their own. -/
def Aside (t u : Trip) : Prop := ∀ g, t.1 = some ⟨g, 0, none⟩ → u.1 ≠ some ⟨g, 0, none⟩

theorem tripAt_eq {ts : List Trip} {p : Nat} (h : p < ts.length) : tripAt ts p = ts[p] := by simp [tripAt, List.getElem?_eq_getElem h]

theorem listsOf_good {B Lb : Nat} {ts : List Trip} (h1 : ts.length ≤ 64) (h2 : ∀ t ∈ ts, t.2.1 ≤ 140737488351232) (h3 : B ≤ Lb) (h4 : ts.Pairwise Aside) : (listsOf B Lb ts).Good where
  few := h1
  size := by simp [listsOf]
  at' := fun p hp => by
    have hp' : p < ts.length := hp
    simp [listsOf, tripAt, List.getElem?_eq_getElem hp', sval]
  off0 := rfl
  offS := fun p hp => rfl
  fit := fun p hp => by
    have hp' : p < ts.length := hp
    show (tripAt ts p).2.1 ≤ _
    rw [tripAt_eq hp']; exact h2 _ (List.getElem_mem hp')
  base := h3
  apart := fun p p' hp hp' hne g e e' => by
    have hq : p < ts.length := hp
    have hq' : p' < ts.length := hp'
    have k1 : (tripAt ts p).1 = some ⟨g, 0, none⟩ := e
    have k2 : (tripAt ts p').1 = some ⟨g, 0, none⟩ := e'
    rw [tripAt_eq hq] at k1
    rw [tripAt_eq hq'] at k2
    rcases Nat.lt_or_ge p p' with hlt | hge
    · exact List.pairwise_iff_getElem.1 h4 p p' hq hq' hlt g k1 k2
    · exact List.pairwise_iff_getElem.1 h4 p' p hq' hq (by omega) g k2 k1

theorem listsOf_ph1 {B Lb : Nat} {ts : List Trip} {w : World} (hL : w.heap[Lb]? = some (.cells (ts.map sval).toArray 22 (0, 0))) (ho : ∀ t ∈ ts, ∃ xs, Own B w t.1 t.2.1 t.2.2 xs) : Ph1 (listsOf B Lb ts) w w 0 0 := by
  refine ⟨hL, Below.refl _ _, fun p hp => ?_⟩
  have hp' : p < ts.length := hp
  obtain ⟨xs, hx⟩ := ho _ (List.getElem_mem hp')
  refine ⟨xs, ?_, fun q _ h => by omega⟩
  show Own B w (tripAt ts p).1 (tripAt ts p).2.1 (tripAt ts p).2.2 xs
  rw [tripAt_eq hp']
  exact hx

/-- **BytesApart answers true where each slice starts a row of its own, and writes nothing below B.** -/
theorem apart_list (B Lb N : Nat) (ts : List Trip) (w : World) (hN : ts.length = N) (h1 : N ≤ 64) (h2 : ∀ t ∈ ts, t.2.1 ≤ 140737488351232) (h3 : B ≤ Lb) (h4 : ts.Pairwise Aside) (hL : w.heap[Lb]? = some (.cells (ts.map sval).toArray 22 (0, 0)))
    (ho : ∀ t ∈ ts, ∃ xs, Own B w t.1 t.2.1 t.2.2 xs) :
    Calls Try.prog 22 #[.slice (some ⟨Lb, 0, none⟩) N N] w fun e w' => e = .returned (.bool true) ∧ Below B w w' :=
  apart_any N Lb (listsOf B Lb ts) (listsOf_good (by omega) h2 h3 h4) w hN rfl (listsOf_ph1 hL ho) (by
    have := (Array.getElem?_eq_some_iff.1 hL).1
    show B ≤ _
    omega)

theorem Own.below {B n : Nat} {w w' : World} {a : Option Addr} {l c : Nat} {xs : List Int} (h : Own B w a l c xs) (hb : Below n w w') (hn : w.heap.size ≤ n) : Own B w' a l c xs :=
  h.kept (fun g e => hb.block g (by have := (h.lt e).1; omega))
theorem Own.base {B B' : Nat} {w : World} {a : Option Addr} {l c : Nat} {xs : List Int} (h : Own B w a l c xs) (hb : B' ≤ B) : Own B' w a l c xs := by
  obtain ⟨h1, h2, h3, h4⟩ := h
  refine ⟨h1, h2, h3, ?_⟩
  rcases h4 with h4 | ⟨g, cur, e, hg, r⟩
  · exact .inl h4
  · exact .inr ⟨g, cur, e, by omega, r⟩
theorem Own.nil (B : Nat) (w : World) : Own B w none 0 0 [] := ⟨rfl, Nat.le_refl _, by unfold maxLen; omega, .inl ⟨rfl, rfl, rfl⟩⟩
theorem Block.own {w : World} {g B : Nat} {zs : List Int} (h : Block w g zs) {len : Nat} (hl : zs.length = len) (hB : B ≤ g) (hm : len ≤ 140737488351232) : Own B w (some ⟨g, 0, none⟩) len len zs :=
  ⟨hl, Nat.le_refl _, by unfold maxLen; omega, .inr ⟨g, _, rfl, hB, h, by simpa using hl, by rw [List.toList_toArray, ← hl, List.take_of_length_le (by simp)]⟩⟩

/-- Two slices of which the second was made when the first was there. -/
theorem aside_of {w w' : World} {t u : Trip} {xs ys : List Int} {B n : Nat} (h1 : Own B w t.1 t.2.1 t.2.2 xs) (h2 : Own n w' u.1 u.2.1 u.2.2 ys) (hn : w.heap.size ≤ n) : Aside t u := by
  intro g e e'
  have k1 := (h1.lt e).1
  have k2 := (h2.lt e').2.1
  omega

end Go.Proofs.Ytmdnkkmlgjpdcaa
