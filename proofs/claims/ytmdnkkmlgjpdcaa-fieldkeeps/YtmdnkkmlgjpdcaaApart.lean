/- Laws for skerryref01.BytesApart: rows of bytes that are owned, stored into and appended to. -/
import Derived.Test.YtmdnkkmlgjpdcaaRefPutText
import Derived.ArgAppend
namespace Go.Proofs.Ytmdnkkmlgjpdcaa
open Go.RowKit Go.Shelf
set_option linter.unusedVariables false

/-- A slice of bytes that starts its own row. -/
def Own (B : Nat) (w : World) (a : Option Addr) (n c : Nat) (xs : List Int) : Prop :=
  xs.length = n ∧ n ≤ c ∧ c ≤ maxLen ∧ ((a = none ∧ n = 0 ∧ c = 0) ∨ ∃ g cur, a = some ⟨g, 0, none⟩ ∧ B ≤ g ∧ w.heap[g]? = some (.cells cur 5 (0, 0)) ∧ cur.size = c ∧ cur.toList.take n = xs.map (Value.int .u8))

theorem Own.kept {B : Nat} {w w' : World} {a : Option Addr} {n c : Nat} {xs : List Int} (h : Own B w a n c xs) (hk : ∀ g, a = some ⟨g, 0, none⟩ → w'.heap[g]? = w.heap[g]?) : Own B w' a n c xs := by
  obtain ⟨h1, h2, h3, h4⟩ := h
  refine ⟨h1, h2, h3, ?_⟩
  rcases h4 with h4 | ⟨g, cur, e, hg, hh, r⟩
  · exact .inl h4
  · exact .inr ⟨g, cur, e, hg, (hk g e).trans hh, r⟩
theorem Own.cell {B : Nat} {w : World} {a : Option Addr} {n c : Nat} {xs : List Int} (h : Own B w a n c xs) {j : Nat} (hj : j < n) : ∃ g, a = some ⟨g, 0, none⟩ ∧ B ≤ g ∧ w.cell? ⟨g, j, none⟩ = some (.int .u8 (xs[j]?.getD 0)) ∧ w.frozen? ⟨g, j, none⟩ = false := by
  obtain ⟨h1, h2, h3, h4⟩ := h
  rcases h4 with ⟨_, h4, _⟩ | ⟨g, cur, e, hg, hh, hc, ht⟩
  · omega
  · refine ⟨g, e, hg, ?_, by simp [World.frozen?, hh]⟩
    have hx : (cur.toList.take n)[j]? = some (.int .u8 (xs[j]?.getD 0)) := by
      rw [ht, List.getElem?_map, List.getElem?_eq_getElem (by omega)]; rfl
    rw [List.getElem?_take_of_lt hj] at hx
    simp only [World.cell?, hh]
    simpa using hx
theorem Own.set {B : Nat} {w : World} {g n c : Nat} {xs : List Int} (h : Own B w (some ⟨g, 0, none⟩) n c xs) (j : Nat) (z : Int) : Own B (w.setCell ⟨g, j, none⟩ (.int .u8 z)) (some ⟨g, 0, none⟩) n c (xs.set j z) := by
  obtain ⟨h1, h2, h3, h4⟩ := h
  rcases h4 with ⟨h4, _⟩ | ⟨g', cur, e, hg, hh, hc, ht⟩
  · cases h4
  · cases e
    refine ⟨by simp [h1], h2, h3, .inr ⟨g, _, rfl, hg, by rw [setCell_eq_setRow w g j _ 5 (0, 0) _ hh]; exact setRow_heap w g _ _ 5 _ hh, by simpa using hc, ?_⟩⟩
    rw [Array.toList_setIfInBounds, List.take_set, ht, List.map_set]

/-- The new byte of an append, in its own new block. -/
theorem run_append_byte (B : Nat) (w : World) (ty : TypeId) (a : Option Addr) (n c : Nat) (xs : List Int) (h : Own B w a n c xs) (hB : B ≤ w.heap.size) (nb : Nat) (z : Int) (hz : w.cell? ⟨nb, 0, none⟩ = some (.int .u8 z)) (hn : n + 1 ≤ 140737488355328) :
    ∃ a' c' w', (Builtin.append_ #[22, 22] ty #[.slice a n c, .slice (some ⟨nb, 0, none⟩) 1 1]).run Try.prog w = .ok (.slice a' (n + 1) c') w' ∧ Own B w' a' (n + 1) c' (xs ++ [z]) ∧
      (∀ k, k < w.heap.size → (∀ g, a = some ⟨g, 0, none⟩ → k ≠ g) → w'.heap[k]? = w.heap[k]?) ∧ Below B w w' ∧
      ((a' = a ∧ c' = c ∧ ∀ m, m ≤ n → Own B w' a m c (xs.take m)) ∨ (∃ g', a' = some ⟨g', 0, none⟩ ∧ w.heap.size ≤ g' ∧ ∀ k, k < w.heap.size → w'.heap[k]? = w.heap[k]?)) := by
  obtain ⟨i0, hi, hz0, hz1, hz2⟩ := info_parts info5
  have hnews : ∀ (j : Nat) (u : Value), [Value.int .u8 z][j]? = some u → w.cell? ((⟨nb, 0, none⟩ : Addr).add j) = some u := by
    intro j u hj
    cases j with
    | zero => simp at hj; subst hj; simpa [Addr.add] using hz
    | succ j => simp at hj
  have h1c : ∀ u ∈ [Value.int .u8 z], u.oneCell' = true := by intro u hu; simp at hu; subst hu; rfl
  have hmax : n + 1 ≤ maxLen := by unfold maxLen; omega
  obtain ⟨h1, h2, h3, h4⟩ := h
  have growCase : c < n + 1 → ∀ (v : Value) (w' : World), w'.ownsRow w.heap.size 5 1 v (n + 1) (xs.map (Value.int .u8) ++ [Value.int .u8 z]) → w.grownBy w' none →
      ∃ a' c', v = .slice a' (n + 1) c' ∧ Own B w' a' (n + 1) c' (xs ++ [z]) ∧ (∀ k, k < w.heap.size → (∀ g, a = some ⟨g, 0, none⟩ → k ≠ g) → w'.heap[k]? = w.heap[k]?) ∧ Below B w w' ∧
        (∃ g', a' = some ⟨g', 0, none⟩ ∧ w.heap.size ≤ g' ∧ ∀ k, k < w.heap.size → w'.heap[k]? = w.heap[k]?) := by
    intro hc v w' ho hg
    have hb : ∀ k, k < w.heap.size → w'.heap[k]? = w.heap[k]? := fun k hk => hg.block k hk (by simp)
    rcases ho.2 with ⟨_, h0⟩ | ⟨g', cap', cur, rfl, hbg, hh, hnc, hcm, hcs, ht⟩
    · omega
    · refine ⟨some ⟨g', 0, none⟩, cap', rfl, ⟨by simp [h1], hnc, hcm, .inr ⟨g', cur, rfl, by omega, hh, by simpa using hcs, by simpa using ht⟩⟩, fun k hk _ => hb k hk, ⟨hg.os, hg.tape, hg.output, hg.size, fun k hk => hb k (by omega)⟩, g', rfl, hbg, hb⟩
  rcases h4 with ⟨rfl, rfl, rfl⟩ | ⟨g, cur, rfl, hg, hh, hc, ht⟩
  · have hx : xs = [] := List.eq_nil_of_length_eq_zero h1
    subst hx
    obtain ⟨v, w', hr, ho, hgr, _⟩ := run_append_own (P := Try.prog) w w.heap.size 22 ty 5 i0 (.int .u8 0) 1 1 Try.underlying22 hi hz0 hz1 hz2 rfl (by decide) (.slice none 0 0) 0 [] (World.ownsRow_nil w _ 5 1) ⟨nb, 0, none⟩ 1 1 [Value.int .u8 z] rfl hnews h1c hmax (by omega) (Nat.le_refl _)
    obtain ⟨a', c', rfl, k1, k2, k3, k4⟩ := growCase (by omega) v w' (by simpa using ho) (by simpa [Value.ownBlock] using hgr)
    exact ⟨a', c', w', hr, k1, k2, k3, .inr k4⟩
  · have holds : ∀ (j : Nat) (u : Value), (xs.map (Value.int .u8))[j]? = some u → w.cell? ((⟨g, 0, none⟩ : Addr).add j) = some u := by
      intro j u hj
      rw [World.add_zero_spot, Nat.zero_add]
      have hjl : j < n := by have := (List.getElem?_eq_some_iff.1 hj).1; simp at this; omega
      rw [← ht, List.getElem?_take_of_lt hjl] at hj
      simp only [World.cell?, hh]
      simpa using hj
    by_cases hroom : n + 1 ≤ c
    · have hr := run_append_room (P := Try.prog) w 22 ty 5 i0 Try.underlying22 hi g n c cur hh ⟨nb, 0, none⟩ 1 1 [Value.int .u8 z] (by rw [hz1]; rfl) hnews h1c hroom (by rw [hz1, hc]; simp; omega)
      refine ⟨_, c, _, hr, ?_, ?_, below_setRow (Below.refl _ _) hg _, .inl ⟨rfl, rfl, ?_⟩⟩
      · refine ⟨by simp [h1], hroom, h3, .inr ⟨g, _, rfl, hg, setRow_heap w g cur _ 5 _ hh, ?_, ?_⟩⟩
        · simp [hz1]; omega
        · rw [hz1, Nat.mul_one, ht]
          have hl : (xs.map (Value.int .u8) ++ [Value.int .u8 z]).length = n + 1 := by simp [h1]
          rw [List.toList_toArray, List.take_append_of_le_length (by omega), List.take_of_length_le (by omega)]
          simp
      · intro k _ hk
        exact setRow_other w g k _ (hk g rfl)
      · intro m hm
        refine ⟨by simp; omega, by omega, h3, .inr ⟨g, _, rfl, hg, setRow_heap w g cur _ 5 _ hh, ?_, ?_⟩⟩
        · simp [hz1]; omega
        · rw [hz1, Nat.mul_one, ht, List.append_assoc]
          rw [List.toList_toArray, List.take_append_of_le_length (by simp; omega), List.map_take]
    · obtain ⟨v, w', hr, ho, hgr⟩ := run_append_arg_grows (P := Try.prog) w 22 ty 5 i0 (.int .u8 0) 1 1 Try.underlying22 hi hz0 hz1 hz2 rfl (by decide) ⟨g, 0, none⟩ n c (xs.map (Value.int .u8)) (by simp [h1]) holds ⟨nb, 0, none⟩ 1 1 [Value.int .u8 z] rfl hnews (by omega) hmax (by omega)
      obtain ⟨a', c', rfl, k1, k2, k3, k4⟩ := growCase (by omega) v w' ho hgr
      exact ⟨a', c', w', hr, k1, k2, k3, .inr k4⟩

end Go.Proofs.Ytmdnkkmlgjpdcaa
