/- An append of bytes to a row of the call's own, from whatever source. -/
import Derived.Test.YtknmgefpjdfenaaGreatTnGBase
namespace Go.Proofs.YtknmgefpjdfenaaGreat
open Go.RowKit Go.Shelf
set_option linter.unusedVariables false

theorem Own.owns {B : Nat} {w : World} {a : Option Addr} {n c : Nat} {xs : List Int} (h : Own B w a n c xs) : w.ownsRow B 5 1 (.slice a n c) n (xs.map (Value.int .u8)) := by
  obtain ⟨h1, h2, h3, h4⟩ := h
  refine ⟨by simp [h1], ?_⟩
  rcases h4 with ⟨rfl, rfl, rfl⟩ | ⟨g, cur, rfl, hg, hh, hc, ht⟩
  · exact .inl ⟨rfl, rfl⟩
  · exact .inr ⟨g, c, cur, rfl, hg, hh, h2, h3, by simpa using hc, by simpa using ht⟩

theorem Own.of_owns {B : Nat} {w : World} {v : Value} {n : Nat} {xs : List Int} (h : w.ownsRow B 5 1 v n (xs.map (Value.int .u8))) : ∃ a c, v = .slice a n c ∧ Own B w a n c xs := by
  obtain ⟨h1, h2⟩ := h
  have hl : xs.length = n := by simpa using h1
  rcases h2 with ⟨rfl, rfl⟩ | ⟨g, cap, cur, rfl, hg, hh, h2, h3, hc, ht⟩
  · exact ⟨none, 0, rfl, hl, Nat.le_refl _, by unfold maxLen; omega, .inl ⟨rfl, rfl, rfl⟩⟩
  · exact ⟨_, cap, rfl, hl, h2, h3, .inr ⟨g, cur, rfl, hg, hh, by simpa using hc, by simpa using ht⟩⟩

theorem Own.has {B : Nat} {w : World} {a : Option Addr} {n c : Nat} {xs : List Int} (h : Own B w a n c xs) : Has w a n xs := by
  refine ⟨h.1, fun hp => ?_⟩
  obtain ⟨g, e, _, _, _⟩ := h.cell (j := 0) hp
  refine ⟨g, 0, e, fun j hj => ?_⟩
  obtain ⟨g', e', _, hc, _⟩ := h.cell hj
  rw [e] at e'
  cases e'
  rw [Nat.zero_add]
  exact hc

theorem run_append_nothing (w : World) (ty : TypeId) (a a2 : Option Addr) (n c c2 : Nat) (hn : n ≤ c) (ha : a = none → n = 0 ∧ c = 0) : (Builtin.append_ #[34, 34] ty #[.slice a n c, .slice a2 0 c2]).run Tryz.prog w = .ok (.slice a n c) w := by
  obtain ⟨i0, hi, hz0, hz1, hz2⟩ := info_parts info5
  cases a with
  | none =>
    obtain ⟨rfl, rfl⟩ := ha rfl
    cases a2 <;> simp [Builtin.append_, run_underlying Tryz.underlying34, sizeOf, typeInfo, hi, Builtin.lenOf, Builtin.firstCells, loadCells, loadCellsFrom]
  | some x => cases a2 <;> simp [Builtin.append_, run_underlying Tryz.underlying34, sizeOf, typeInfo, hi, Builtin.lenOf, Builtin.firstCells, storeCells, loadCells, loadCellsFrom, hn]

/-- **append(x, y...)**, x a row of the call's own. -/
theorem run_append_bytes {B : Nat} {w : World} {a : Option Addr} {n c : Nat} {xs : List Int} (h : Own B w a n c xs) (hB : B ≤ w.heap.size) {a2 : Option Addr} {m : Nat} {ys : List Int} (c2 : Nat) (h2 : Has w a2 m ys) (hn : n + m ≤ 140737488355328) :
    ∃ a' c' w', (∀ ty, (Builtin.append_ #[34, 34] ty #[.slice a n c, .slice a2 m c2]).run Tryz.prog w = .ok (.slice a' (n + m) c') w') ∧ Own B w' a' (n + m) c' (xs ++ ys) ∧
      (∀ k, k < w.heap.size → (∀ g, a = some ⟨g, 0, none⟩ → k ≠ g) → w'.heap[k]? = w.heap[k]?) ∧ Below B w w' := by
  obtain ⟨i0, hi, hz0, hz1, hz2⟩ := info_parts info5
  by_cases h0 : m = 0
  · subst h0
    obtain rfl : ys = [] := List.eq_nil_of_length_eq_zero h2.1
    refine ⟨a, c, w, fun ty => run_append_nothing w ty a a2 n c c2 h.2.1 (fun e => ?_), by rw [List.append_nil]; exact h, fun _ _ _ => rfl, Below.refl _ _⟩
    rcases h.2.2.2 with ⟨_, e1, e2⟩ | ⟨g, _, e', _⟩
    · exact ⟨e1, e2⟩
    · rw [e] at e'; cases e'
  · obtain ⟨b, off, rfl, hc⟩ := h2.2 (by omega)
    have hl := h2.1
    have hnews : ∀ (j : Nat) (u : Value), (ys.map (Value.int .u8))[j]? = some u → w.cell? ((⟨b, off, none⟩ : Addr).add j) = some u := by
      intro j u hj
      have hjl : j < m := by have := (List.getElem?_eq_some_iff.1 hj).1; simp at this; omega
      rw [World.add_zero_spot, hc j hjl]
      rw [List.getElem?_map, List.getElem?_eq_getElem (by omega)] at hj
      rw [List.getElem?_eq_getElem (by omega)]
      simpa using hj
    have hmax : n + m ≤ maxLen := by unfold maxLen; omega
    obtain ⟨v', w', hr, ho, hg, _⟩ := run_append_own (P := Tryz.prog) w B 34 0 5 i0 (.int .u8 0) 1 1 Tryz.underlying34 hi hz0 hz1 hz2 rfl (by decide) (.slice a n c) n _ h.owns ⟨b, off, none⟩ m c2 (ys.map (Value.int .u8)) (by simp [hl]) hnews (oneCell_bytes ys) hmax (by omega) hB
    rw [← List.map_append] at ho
    obtain ⟨a', c', rfl, ho'⟩ := Own.of_owns ho
    refine ⟨a', c', w', fun ty => hr, ho', fun k hk hne => ?_, ?_⟩
    · refine hg.block k hk (fun e => ?_)
      rcases h.2.2.2 with ⟨ha, _, _⟩ | ⟨g, _, ha, _⟩
      · rw [ha] at e; simp [Value.ownBlock] at e
      · rw [ha] at e
        simp [Value.ownBlock] at e
        exact hne g ha e
    · refine (Below.refl B w).grown hg hB (fun k e => ?_)
      rcases h.2.2.2 with ⟨ha, _, _⟩ | ⟨g, _, ha, hgB, _⟩
      · rw [ha] at e; simp [Value.ownBlock] at e
      · rw [ha] at e
        simp [Value.ownBlock] at e
        omega

theorem Own.byt {B : Nat} {w : World} {a : Option Addr} {n c : Nat} {xs : List Int} (h : Own B w a n c xs) : xs.length = n := h.1

end Go.Proofs.YtknmgefpjdfenaaGreat
