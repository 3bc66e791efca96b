/- Slices of numbers: append([]int{}, x...), and the contract of skerryref01.SameInts. -/
import Derived.Test.YtpkhllpghjldhaaGApp
import Derived.Test.YtpkhllpghjldhaaGI
namespace Go.Proofs.Ytpkhllpghjldhaa
open Go.RowKit Go.Shelf
set_option linter.unusedVariables false
set_option maxRecDepth 100000

theorem info3 : (Try.prog.info? 3).map (fun i => (i.zero, i.size, i.bytes)) = some (some (.int .i64 0), 1, 8) := by kernel_rfl

theorem oneCell_ints (zs : List Int) : ∀ v ∈ zs.map (Value.int .i64), v.oneCell' = true := by
  intro v hv
  simp only [List.mem_map] at hv
  obtain ⟨z, _, rfl⟩ := hv
  rfl

theorem ihas_of_row {w : World} {base : Nat} {v : Value} {n : Nat} {ns : List Int} (h : w.ownsRow base 3 1 v n (ns.map (Value.int .i64))) : ∃ a c, v = .slice a n c ∧ IHas w a n ns := by
  obtain ⟨h1, h2⟩ := h
  have hl : ns.length = n := by simpa using h1
  rcases h2 with ⟨rfl, rfl⟩ | ⟨g, cap, cur, rfl, hg, hh, h2, h3, hc, ht⟩
  · exact ⟨none, 0, rfl, hl, fun h => by omega⟩
  · refine ⟨_, cap, rfl, hl, fun hp => ⟨g, 0, rfl, fun j hj => ?_⟩⟩
    rw [Nat.zero_add]
    have ht' : cur.toList.take n = ns.map (Value.int .i64) := by simpa using ht
    have hx : (cur.toList.take n)[j]? = some (.int .i64 (ns[j]?.getD 0)) := by
      rw [ht', List.getElem?_map, List.getElem?_eq_getElem (by omega)]; rfl
    rw [List.getElem?_take_of_lt hj] at hx
    simp only [World.cell?, hh]
    simpa using hx

/-- append([]int{}, x...). -/
theorem app_ints {w : World} {a : Option Addr} {n c : Nat} {ns : List Int} (h : IHas w a n ns) (hn : n ≤ 17592186043904) :
    ∃ a1 c1 w1, (∀ ty, (Builtin.append_ #[22, 22] ty #[.slice (some ⟨w.heap.size, 0, none⟩) 0 0, .slice a n c]).run Try.prog (w.alloc (.cells #[] 3)) = .ok (.slice a1 n c1) w1) ∧ IHas w1 a1 n ns ∧ Below w.heap.size w w1 := by
  obtain ⟨i0, hi, hz0, hz1, hz2⟩ := info_parts info3
  have hb0 : Below w.heap.size w (w.alloc (.cells #[] 3)) := (Below.refl _ w).alloc (Nat.le_refl _) _
  by_cases h0 : n = 0
  · subst h0
    obtain rfl : ns = [] := List.eq_nil_of_length_eq_zero h.1
    refine ⟨some ⟨w.heap.size, 0, none⟩, 0, _, fun ty => ?_, ⟨rfl, fun h => by omega⟩, hb0⟩
    cases a <;> simp [Builtin.append_, run_underlying Try.underlying22, sizeOf, typeInfo, hi, Builtin.lenOf, Builtin.firstCells, storeCells, loadCells, loadCellsFrom]
  · obtain ⟨b, off, rfl, hc⟩ := (h.later hb0).2 (by omega)
    have hl := h.1
    have hnews : ∀ (j : Nat) (u : Value), (ns.map (Value.int .i64))[j]? = some u → (w.alloc (.cells #[] 3)).cell? ((⟨b, off, none⟩ : Addr).add j) = some u := by
      intro j u hj
      have hjl : j < n := by have := (List.getElem?_eq_some_iff.1 hj).1; simp at this; omega
      rw [World.add_zero_spot, hc j hjl]
      rw [List.getElem?_map, List.getElem?_eq_getElem (by omega)] at hj
      rw [List.getElem?_eq_getElem (by omega)]
      simpa using hj
    have hown : (w.alloc (.cells #[] 3)).ownsRow w.heap.size 3 1 (.slice (some ⟨w.heap.size, 0, none⟩) 0 0) 0 [] :=
      ⟨rfl, .inr ⟨w.heap.size, 0, #[], rfl, Nat.le_refl _, World.alloc_heap_new w _, Nat.le_refl _, by unfold maxLen; omega, rfl, rfl⟩⟩
    obtain ⟨v', w', hr, ho, hg, _⟩ := run_append_own (P := Try.prog) (w.alloc (.cells #[] 3)) w.heap.size 22 0 3 i0 (.int .i64 0) 1 8 Try.underlying22 hi hz0 hz1 hz2 rfl (by decide) (.slice (some ⟨w.heap.size, 0, none⟩) 0 0) 0 [] hown ⟨b, off, none⟩ n c (ns.map (Value.int .i64)) (by simp [hl]) hnews (oneCell_ints ns) (by unfold maxLen; omega) (by omega) (by simp)
    rw [Nat.zero_add, List.nil_append] at ho
    obtain ⟨a', c', rfl, hI⟩ := ihas_of_row ho
    exact ⟨a', c', w', fun ty => hr, hI, hb0.grown hg (by simp) (fun k e => by simp [Value.ownBlock] at e; omega)⟩

set_option maxHeartbeats 1000000 in
theorem sameInts_any (a1 a2 : Option Addr) (len c1 c2 : Nat) (ns : List Int) (w : World) (h1 : IHas w a1 len ns) (h2 : IHas w a2 len ns) (hl : len ≤ 140737488351232) :
    Calls Try.prog 26 #[.slice a1 len c1, .slice a2 len c2] w fun e w' => e = .returned (.bool true) ∧ ∃ m, w' = w.drewN m := by
  have H1 := hide h1
  have H2 := hide h2
  clear h1 h2
  go_enter Try.func26, Try.ntmps26
  go_wp2
  go_loopw [5] (fun i wr => ∃ k : Nat, k ≤ len ∧ i = .int .i64 (k : Int) ∧ Hid (∃ m, wr = w.drewN m)) (fun i _ => len - (intOf i).toNat)
  case atStart => exact ⟨0, Nat.zero_le _, rfl, 0, rfl⟩
  case round =>
    obtain ⟨k, hk, rfl, hw⟩ := hrel
    by_cases hlt : k < len
    · obtain ⟨b1, o1, rfl, hc1⟩ := H1.out.2 (by omega)
      obtain ⟨b2, o2, rfl, hc2⟩ := H2.out.2 (by omega)
      have e1 : wr.cell? ⟨b1, o1 + k, none⟩ = some (.int .i64 (ns[k]?.getD 0)) := by obtain ⟨m, rfl⟩ := hw.out; exact hc1 k hlt
      have e2 : wr.cell? ⟨b2, o2 + k, none⟩ = some (.int .i64 (ns[k]?.getD 0)) := by obtain ⟨m, rfl⟩ := hw.out; exact hc2 k hlt
      generalize ns[k]?.getD 0 = z at *
      have hlt' : (k : Int) < (len : Int) := by omega
      clear hc1 hc2 hlt
      go_wp2
      go_quiet (fail)
      go_wp2
      refine ⟨⟨k + 1, by omega, by go_num, ?_⟩, by simp [intOf]; omega⟩
      obtain ⟨m, rfl⟩ := hw.out
      exact ⟨_, World.drewN_drewN _ _ _⟩
    · obtain rfl : k = len := by omega
      go_wp2
      go_ret
      exact ⟨rfl, hw.out⟩

end Go.Proofs.Ytpkhllpghjldhaa
