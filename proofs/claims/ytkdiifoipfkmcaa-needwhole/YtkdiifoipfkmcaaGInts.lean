/- Slices of numbers: append([]int{}, x...), and the contract of skerryref01.SameInts. -/
import Derived.Test.YtkdiifoipfkmcaaGApp
import Derived.Test.YtkdiifoipfkmcaaGI
namespace Go.Proofs.Ytkdiifoipfkmcaa
open Go.RowKit Go.Shelf
set_option linter.unusedVariables false
set_option maxRecDepth 100000

theorem info3 : (Try.prog.info? 3).map (fun i => (i.zero, i.size, i.bytes)) = some (some (.int .i64 0), 1, 8) := by kernel_rfl

theorem oneCell_ints (zs : List Int) : ∀ v ∈ zs.map (Value.int .i64), v.oneCell' = true := by
  intro v hv
  simp only [List.mem_map] at hv
  obtain ⟨z, _, rfl⟩ := hv
  rfl

theorem ihas_of_row {w : World} {base : Nat} {v : Value} {n : Nat} {ns : List Int} (h : w.ownsRow base 3 1 v n (ns.map (Value.int .i64))) : ∃ a c, v = .slice a n c ∧ IHas w a n ns := by
  obtain ⟨h1, h2⟩ := h
  have hl : ns.length = n := by simpa using h1
  rcases h2 with ⟨rfl, rfl⟩ | ⟨g, cap, cur, rfl, hg, hh, h2, h3, hc, ht⟩
  · exact ⟨none, 0, rfl, hl, fun h => by omega⟩
  · refine ⟨_, cap, rfl, hl, fun hp => ⟨g, 0, rfl, fun j hj => ?_⟩⟩
    rw [Nat.zero_add]
    have ht' : cur.toList.take n = ns.map (Value.int .i64) := by simpa using ht
    have hx : (cur.toList.take n)[j]? = some (.int .i64 (ns[j]?.getD 0)) := by
      rw [ht', List.getElem?_map, List.getElem?_eq_getElem (by omega)]; rfl
    rw [List.getElem?_take_of_lt hj] at hx
    simp only [World.cell?, hh]
    simpa using hx

/-- append([]int{}, x...). -/
theorem app_ints {w : World} {a : Option Addr} {n c : Nat} {ns : List Int} (h : IHas w a n ns) (hn : n ≤ 17592186043904) :
    ∃ a1 c1 w1, (∀ ty, (Builtin.append_ #[24, 24] ty #[.slice (some ⟨w.heap.size, 0, none⟩) 0 0, .slice a n c]).run Try.prog (w.alloc (.cells #[] 3)) = .ok (.slice a1 n c1) w1) ∧ IHas w1 a1 n ns ∧ Below w.heap.size w w1 := by
  obtain ⟨i0, hi, hz0, hz1, hz2⟩ := info_parts info3
  have hb0 : Below w.heap.size w (w.alloc (.cells #[] 3)) := (Below.refl _ w).alloc (Nat.le_refl _) _
  by_cases h0 : n = 0
  · subst h0
    obtain rfl : ns = [] := List.eq_nil_of_length_eq_zero h.1
    refine ⟨some ⟨w.heap.size, 0, none⟩, 0, _, fun ty => ?_, ⟨rfl, fun h => by omega⟩, hb0⟩
    cases a <;> simp [Builtin.append_, run_underlying Try.underlying24, sizeOf, typeInfo, hi, Builtin.lenOf, Builtin.firstCells, storeCells, loadCells, loadCellsFrom]
  · obtain ⟨b, off, rfl, hc⟩ := (h.later hb0).2 (by omega)
    have hl := h.1
    have hnews : ∀ (j : Nat) (u : Value), (ns.map (Value.int .i64))[j]? = some u → (w.alloc (.cells #[] 3)).cell? ((⟨b, off, none⟩ : Addr).add j) = some u := by
      intro j u hj
      have hjl : j < n := by have := (List.getElem?_eq_some_iff.1 hj).1; simp at this; omega
      rw [World.add_zero_spot, hc j hjl]
      rw [List.getElem?_map, List.getElem?_eq_getElem (by omega)] at hj
      rw [List.getElem?_eq_getElem (by omega)]
      simpa using hj
    have hown : (w.alloc (.cells #[] 3)).ownsRow w.heap.size 3 1 (.slice (some ⟨w.heap.size, 0, none⟩) 0 0) 0 [] :=
      ⟨rfl, .inr ⟨w.heap.size, 0, #[], rfl, Nat.le_refl _, World.alloc_heap_new w _, Nat.le_refl _, by unfold maxLen; omega, rfl, rfl⟩⟩
    obtain ⟨v', w', hr, ho, hg, _⟩ := run_append_own (P := Try.prog) (w.alloc (.cells #[] 3)) w.heap.size 24 0 3 i0 (.int .i64 0) 1 8 Try.underlying24 hi hz0 hz1 hz2 rfl (by decide) (.slice (some ⟨w.heap.size, 0, none⟩) 0 0) 0 [] hown ⟨b, off, none⟩ n c (ns.map (Value.int .i64)) (by simp [hl]) hnews (oneCell_ints ns) (by unfold maxLen; omega) (by omega) (by simp)
    rw [Nat.zero_add, List.nil_append] at ho
    obtain ⟨a', c', rfl, hI⟩ := ihas_of_row ho
    exact ⟨a', c', w', fun ty => hr, hI, hb0.grown hg (by simp) (fun k e => by simp [Value.ownBlock] at e; omega)⟩

end Go.Proofs.Ytkdiifoipfkmcaa
