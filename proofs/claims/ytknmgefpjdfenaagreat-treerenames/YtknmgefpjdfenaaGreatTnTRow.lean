/- A row of pointers to things. -/
import Derived.Test.YtknmgefpjdfenaaGreatTnTMap
namespace Go.Proofs.YtknmgefpjdfenaaGreat
open Go.RowKit Go.Shelf Go.Maps
set_option linter.unusedVariables false
set_option maxRecDepth 100000

def ptrO (o : Option Nat) : Value := .pointer (o.map (fun b => ⟨b, 0, none⟩))

theorem infoP : (Tryz.prog.info? 63).map (fun i => (i.zero, i.size, i.bytes)) = some (some (.pointer none), 1, 8) := by kernel_rfl

theorem undP : Tryz.prog.underlying 62 = some (.slice 63) := by kernel_rfl

theorem oneCell_ptrs (xs : List (Option Nat)) : ∀ v ∈ xs.map ptrO, v.oneCell' = true := by
  intro v hv
  obtain ⟨x, _, rfl⟩ := List.mem_map.1 hv
  rfl

/-- A slice of pointers that starts its own row, made since B. -/
def OwnP (B : Nat) (w : World) (a : Option Addr) (n c : Nat) (xs : List (Option Nat)) : Prop :=
  xs.length = n ∧ n ≤ c ∧ c ≤ maxLen ∧ ((a = none ∧ n = 0 ∧ c = 0) ∨ ∃ g cur, a = some ⟨g, 0, none⟩ ∧ B ≤ g ∧ w.heap[g]? = some (.cells cur 63 (0, 0)) ∧ cur.size = c ∧ cur.toList.take n = xs.map ptrO)

theorem OwnP.nil (B : Nat) (w : World) : OwnP B w none 0 0 [] := ⟨rfl, Nat.le_refl _, by unfold maxLen; omega, .inl ⟨rfl, rfl, rfl⟩⟩

theorem OwnP.kept {B : Nat} {w w' : World} {a : Option Addr} {n c : Nat} {xs : List (Option Nat)} (h : OwnP B w a n c xs) (hk : ∀ g, a = some ⟨g, 0, none⟩ → w'.heap[g]? = w.heap[g]?) : OwnP B w' a n c xs := by
  obtain ⟨h1, h2, h3, h4⟩ := h
  refine ⟨h1, h2, h3, ?_⟩
  rcases h4 with h4 | ⟨g, cur, e, hg, hh, r⟩
  · exact .inl h4
  · exact .inr ⟨g, cur, e, hg, (hk g e).trans hh, r⟩

theorem OwnP.lt {B : Nat} {w : World} {a : Option Addr} {n c : Nat} {xs : List (Option Nat)} (h : OwnP B w a n c xs) {g : Nat} (e : a = some ⟨g, 0, none⟩) : g < w.heap.size ∧ B ≤ g ∧ ∃ cur, w.heap[g]? = some (.cells cur 63 (0, 0)) := by
  obtain ⟨_, _, _, h4⟩ := h
  rcases h4 with ⟨h4, _⟩ | ⟨g', cur, e', hg, hh, _⟩
  · rw [h4] at e; cases e
  · rw [e] at e'; cases e'
    exact ⟨(Array.getElem?_eq_some_iff.1 hh).1, hg, cur, hh⟩

theorem OwnP.cell {B : Nat} {w : World} {a : Option Addr} {n c : Nat} {xs : List (Option Nat)} (h : OwnP B w a n c xs) {j : Nat} (hj : j < n) : ∃ g, a = some ⟨g, 0, none⟩ ∧ g < w.heap.size ∧ w.cell? ⟨g, j, none⟩ = some (ptrO (xs[j]?.getD none)) ∧ (∀ k, w.frozen? ⟨g, k, none⟩ = false) := by
  obtain ⟨h1, h2, h3, h4⟩ := h
  rcases h4 with ⟨_, h4, _⟩ | ⟨g, cur, e, hg, hh, hc, ht⟩
  · omega
  · refine ⟨g, e, (Array.getElem?_eq_some_iff.1 hh).1, ?_, fun k => by simp [World.frozen?, hh]⟩
    have hx : (cur.toList.take n)[j]? = some (ptrO (xs[j]?.getD none)) := by
      rw [ht, List.getElem?_map, List.getElem?_eq_getElem (by omega)]; rfl
    rw [List.getElem?_take_of_lt hj] at hx
    simp only [World.cell?, hh]
    simpa using hx

theorem OwnP.set {B : Nat} {w : World} {g n c : Nat} {xs : List (Option Nat)} (h : OwnP B w (some ⟨g, 0, none⟩) n c xs) (j : Nat) (z : Option Nat) : OwnP B (w.setCell ⟨g, j, none⟩ (ptrO z)) (some ⟨g, 0, none⟩) n c (xs.set j z) := by
  obtain ⟨h1, h2, h3, h4⟩ := h
  rcases h4 with ⟨h4, _⟩ | ⟨g', cur, e, hg, hh, hc, ht⟩
  · cases h4
  · cases e
    refine ⟨by simp [h1], h2, h3, .inr ⟨g, _, rfl, hg, by rw [setCell_eq_setRow w g j _ 63 (0, 0) _ hh]; exact setRow_heap w g _ _ 63 _ hh, by simpa using hc, ?_⟩⟩
    rw [Array.toList_setIfInBounds, List.take_set, ht, List.map_set]

theorem OwnP.owns {B : Nat} {w : World} {a : Option Addr} {n c : Nat} {xs : List (Option Nat)} (h : OwnP B w a n c xs) : w.ownsRow B 63 1 (.slice a n c) n (xs.map ptrO) := by
  obtain ⟨h1, h2, h3, h4⟩ := h
  refine ⟨by simp [h1], ?_⟩
  rcases h4 with ⟨rfl, rfl, rfl⟩ | ⟨g, cur, rfl, hg, hh, hc, ht⟩
  · exact .inl ⟨rfl, rfl⟩
  · exact .inr ⟨g, c, cur, rfl, hg, hh, h2, h3, by simpa using hc, by simpa using ht⟩

theorem OwnP.of_owns {B : Nat} {w : World} {v : Value} {n : Nat} {xs : List (Option Nat)} (h : w.ownsRow B 63 1 v n (xs.map ptrO)) : ∃ a c, v = .slice a n c ∧ OwnP B w a n c xs := by
  obtain ⟨h1, h2⟩ := h
  have hl : xs.length = n := by simpa using h1
  rcases h2 with ⟨rfl, rfl⟩ | ⟨g, cap, cur, rfl, hg, hh, h2, h3, hc, ht⟩
  · exact ⟨none, 0, rfl, hl, Nat.le_refl _, by unfold maxLen; omega, .inl ⟨rfl, rfl, rfl⟩⟩
  · exact ⟨_, cap, rfl, hl, h2, h3, .inr ⟨g, cur, rfl, hg, hh, by simpa using hc, by simpa using ht⟩⟩

/-- **append(x, nil)**, x a row of the call's own. -/
theorem run_appP {B : Nat} {w : World} {a : Option Addr} {n c : Nat} {xs : List (Option Nat)} (h : OwnP B w a n c xs) (hB : B ≤ w.heap.size) (hn : n + 1 ≤ 8796093022208) :
    ∃ a' c' w', (∀ ty, (Builtin.append_ #[62, 62] ty #[.slice a n c, .slice (some ⟨w.heap.size, 0, none⟩) 1 1]).run Tryz.prog (w.alloc (.cells #[.pointer none] 63)) = .ok (.slice a' (n + 1) c') w') ∧ OwnP B w' a' (n + 1) c' (xs ++ [none]) ∧
      (∀ k, k < w.heap.size → (∀ g, a = some ⟨g, 0, none⟩ → k ≠ g) → w'.heap[k]? = w.heap[k]?) ∧ Below B w w' ∧ (∀ x, a' = some ⟨x, 0, none⟩ → a = some ⟨x, 0, none⟩ ∨ w.heap.size < x) := by
  obtain ⟨i0, hi, hz0, hz1, hz2⟩ := info_parts infoP
  have hb0 : Below w.heap.size w (w.alloc (.cells #[.pointer none] 63)) := (Below.refl _ w).alloc (Nat.le_refl _) _
  have h1 : OwnP B (w.alloc (.cells #[.pointer none] 63)) a n c xs := h.kept (fun g e => hb0.block g (h.lt e).1)
  have hnews : ∀ (j : Nat) (u : Value), ([none].map ptrO)[j]? = some u → (w.alloc (.cells #[.pointer none] 63)).cell? ((⟨w.heap.size, 0, none⟩ : Addr).add j) = some u := by
    intro j u hj
    have hj2 : j = 0 := by have := (List.getElem?_eq_some_iff.1 hj).1; simp at this; omega
    subst hj2
    rw [World.add_zero_spot]
    simp only [World.cell?, World.alloc_heap_new]
    simpa [ptrO] using hj
  obtain ⟨v', w', hr, ho, hg, _⟩ := run_append_own (P := Tryz.prog) (w.alloc (.cells #[.pointer none] 63)) B 62 0 63 i0 (.pointer none) 1 8 undP hi hz0 hz1 hz2 rfl (by decide) (.slice a n c) n _ h1.owns ⟨w.heap.size, 0, none⟩ 1 1 ([none].map ptrO) rfl hnews (oneCell_ptrs _) (by unfold maxLen; omega) (by omega) (Nat.le_trans hB hb0.size)
  have hx : ∀ a' n' c', v' = .slice a' n' c' → ∀ x, a' = some ⟨x, 0, none⟩ → a = some ⟨x, 0, none⟩ ∨ w.heap.size < x := by
    intro a' n' c' e x ex
    subst e
    have hsz : (w.alloc (.cells #[.pointer none] 63)).heap.size = w.heap.size + 1 := by simp
    rcases h1.2.2.2 with ⟨rfl, rfl, rfl⟩ | ⟨g, cur, rfl, hg0, hh, hc, ht⟩
    · have r2 := run_append_nil (P := Tryz.prog) (w.alloc (.cells #[.pointer none] 63)) 62 0 63 i0 (.pointer none) undP hi hz0 ⟨w.heap.size, 0, none⟩ 1 1 ([none].map ptrO) (by rw [hz1]; rfl) hnews (by omega) (by omega) (by rw [hz2]; omega)
      rw [hr] at r2
      injection r2 with e1 _
      injection e1 with e1 _ _
      rw [ex] at e1
      injection e1 with e1
      injection e1 with e1
      right; omega
    · by_cases hroom : n + 1 ≤ c
      · have r2 := run_append_room (P := Tryz.prog) (w.alloc (.cells #[.pointer none] 63)) 62 0 63 i0 undP hi g n c cur hh ⟨w.heap.size, 0, none⟩ 1 1 ([none].map ptrO) (by rw [hz1]; rfl) hnews (oneCell_ptrs _) hroom (by rw [hz1, hc]; simpa using hroom)
        rw [hr] at r2
        injection r2 with e1 _
        injection e1 with e1 _ _
        rw [ex] at e1
        exact .inl e1.symm
      · have holds : ∀ j u, (xs.map ptrO)[j]? = some u → (w.alloc (.cells #[.pointer none] 63)).cell? ((⟨g, 0, none⟩ : Addr).add j) = some u := h1.owns.cells (g := g) rfl
        have r2 := run_append_grow (P := Tryz.prog) (w.alloc (.cells #[.pointer none] 63)) 62 0 63 i0 (.pointer none) undP hi hz0 ⟨g, 0, none⟩ n c (xs.map ptrO) (by rw [hz1, Nat.mul_one]; simpa using h1.1) holds ⟨w.heap.size, 0, none⟩ 1 1 ([none].map ptrO) (by rw [hz1]; rfl) hnews (by omega) (by omega) (growslice_fits (by omega) (by rw [hz2]; omega))
        rw [hr] at r2
        injection r2 with e1 _
        injection e1 with e1 _ _
        rw [ex] at e1
        injection e1 with e1
        injection e1 with e1
        right; omega
  rw [← List.map_append] at ho
  obtain ⟨a', c', rfl, ho'⟩ := OwnP.of_owns ho
  refine ⟨a', c', w', fun ty => hr, ho', fun k hk hne => ?_, ?_, hx a' _ _ rfl⟩
  · refine (hg.block k (Nat.lt_of_lt_of_le hk hb0.size) (fun e => ?_)).trans (hb0.block k hk)
    rcases h.2.2.2 with ⟨ha, _, _⟩ | ⟨g, _, ha, _⟩
    · rw [ha] at e; simp [Value.ownBlock] at e
    · rw [ha] at e
      simp [Value.ownBlock] at e
      exact hne g ha e
  · refine (hb0.mono hB).grown hg (Nat.le_trans hB hb0.size) (fun k e => ?_)
    rcases h.2.2.2 with ⟨ha, _, _⟩ | ⟨g, _, ha, hgB, _⟩
    · rw [ha] at e; simp [Value.ownBlock] at e
    · rw [ha] at e
      simp [Value.ownBlock] at e
      omega

end Go.Proofs.YtknmgefpjdfenaaGreat
