/- Contract of codec.fit. -/
import Derived.Test.YtknmgefpjdfenaaGreatTnGI
namespace Go.Proofs.YtknmgefpjdfenaaGreat
open Go.RowKit Go.Shelf
set_option linter.unusedVariables false

/-- All numbers have room in wd bytes. -/
def fitB (wd : Nat) (ns : List Int) : Bool := ns.all (fun v => decide (0 ≤ v ∧ v < 256 ^ wd))

theorem fitB_iff {wd : Nat} {ns : List Int} : fitB wd ns = true ↔ ∀ v ∈ ns, 0 ≤ v ∧ v < 256 ^ wd := by simp [fitB]

theorem fitB_bad {wd : Nat} {ns : List Int} {k : Nat} (hk : k < ns.length) (h : ns[k]?.getD 0 < 0 ∨ 256 ^ wd ≤ ns[k]?.getD 0) : fitB wd ns = false := by
  rw [List.getElem?_eq_getElem hk, Option.getD_some] at h
  cases hf : fitB wd ns with
  | false => rfl
  | true =>
    have := fitB_iff.1 hf _ (List.getElem_mem hk)
    omega

theorem fitB_good {wd : Nat} {ns : List Int} (h : ∀ j, j < ns.length → 0 ≤ ns[j]?.getD 0 ∧ ns[j]?.getD 0 < 256 ^ wd) : fitB wd ns = true := by
  refine fitB_iff.2 fun v hv => ?_
  obtain ⟨j, hj, rfl⟩ := List.getElem_of_mem hv
  have := h j hj
  rwa [List.getElem?_eq_getElem hj, Option.getD_some] at this

end Go.Proofs.YtknmgefpjdfenaaGreat
