/- What the bound on the arguments' bulk gives: slices of numbers are short. -/
import Derived.Test.YtkdiifoipfkmcaaGOpenI
namespace Go.Proofs.Ytkdiifoipfkmcaa
open Go.ChangeShapes Go.WideShapes Go.ChangeAt Go.RowKit Go.Shelf
set_option linter.unusedVariables false
set_option maxRecDepth 100000

theorem bulk_one {H : Type} (d : DataW H) : 1 ≤ Rows.uptoBulk d := by
  cases d with
  | lit l => cases l <;> simp [Rows.uptoBulk]
  | nil => simp [Rows.uptoBulk]
  | ptr d => simp [Rows.uptoBulk]
  | slice elems spare => simp [Rows.uptoBulk]
  | agg parts => simp [Rows.uptoBulk]
  | iface t d => simp [Rows.uptoBulk]
  | map entries => simp [Rows.uptoBulk]
  | held h => simp [Rows.uptoBulk]

theorem bulk_length {H : Type} (l : List (DataW H)) : l.length ≤ Rows.uptoBulkAll l := by
  induction l with
  | nil => simp [Rows.uptoBulkAll]
  | cons x r ih => have := bulk_one x; simp only [Rows.uptoBulkAll, List.length_cons]; omega

theorem bulk_all {H : Type} {l : List (DataW H)} (hk : Rows.uptoSmall H (l ++ []) = true) : Rows.uptoBulkAll l ≤ 1048576 := by
  have h : Rows.uptoBulkAll (l ++ []) ≤ 1048576 := of_decide_eq_true hk
  rwa [List.append_nil] at h

theorem open_ismall {H : Type} {enc : TypeId × Value → H} {W : World} {a0 : Option Addr} {len0 cap0 : Nat} {d0 : DataW H} {p0 : List MemPlace} (h0 : DataW.Trod enc Try.prog W 0 (fun _ => true) true 24 (.slice a0 len0 cap0) d0 p0)
    (hs : Rows.uptoBulk d0 ≤ 1048576) : ∃ ns, IHas W a0 len0 ns ∧ len0 ≤ Rows.uptoBulk d0 := by
  have hlen : ∀ elems spare, d0 = .slice elems spare → elems.length + spare.length ≤ Rows.uptoBulk d0 := by
    intro elems spare e
    subst e
    have h1 := bulk_length elems
    have h2 := bulk_length spare
    simp only [Rows.uptoBulk]
    omega
  obtain ⟨ns, hI, _⟩ := open_irow h0 (fun elems spare e => by have := hlen elems spare e; rw [bytes3]; simp only [reachBytes]; omega)
  refine ⟨ns, hI, ?_⟩
  obtain ⟨fuel, hf⟩ := h0
  rcases open_ints Try.underlying24 Try.underlying3 cells3 hf with ⟨hcs, _⟩ | ⟨x, l, c, zs, hcs, _, hl, hm, hz, hx, hcell, hwz⟩
  · simp [Value.cells] at hcs
    obtain ⟨rfl, rfl, rfl⟩ := hcs
    omega
  · simp [Value.cells] at hcs
    obtain ⟨rfl, rfl, rfl⟩ := hcs
    have hz' : zs.length = cap0 := by simpa using hz
    have hb := hlen _ _ (congrArg Prod.fst hx)
    simp only [lits, List.length_map, List.length_take, List.length_drop] at hb
    omega

end Go.Proofs.Ytkdiifoipfkmcaa
