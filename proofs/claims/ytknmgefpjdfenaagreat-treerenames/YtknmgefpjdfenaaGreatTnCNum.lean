/- Contract of codec.numbers. -/
import Derived.Test.YtknmgefpjdfenaaGreatTnCFit
import Derived.Test.YtknmgefpjdfenaaGreatTnCLay
import Derived.Test.YtknmgefpjdfenaaGreatTnGPutAll
namespace Go.Proofs.YtknmgefpjdfenaaGreat
open Go.RowKit Go.Shelf
set_option linter.unusedVariables false

/-- The bytes of numbers, wd bytes each. -/
def numsB (wd : Nat) (ns : List Int) : List Int := (ns.map (digits wd)).flatten

theorem numsB_succ (wd : Nat) (ns : List Int) (k : Nat) (hk : k < ns.length) : numsB wd (ns.take (k + 1)) = numsB wd (ns.take k) ++ digits wd (ns[k]?.getD 0) := by
  rw [numsB, List.take_succ_eq_append_getElem hk, List.getElem?_eq_getElem hk, List.map_append, List.flatten_append]
  simp only [numsB, List.map_cons, List.map_nil, List.flatten_cons, List.flatten_nil, List.append_nil, Option.getD_some]

theorem length_numsB (wd : Nat) (ns : List Int) : (numsB wd ns).length = wd * ns.length := by
  induction ns with
  | nil => rfl
  | cons x xs ih =>
    have : numsB wd (x :: xs) = digits wd x ++ numsB wd xs := by simp [numsB]
    rw [this, List.length_append, length_digits, ih, List.length_cons, Nat.mul_succ]; omega

theorem numsB_byte (wd : Nat) (ns : List Int) : ∀ z ∈ numsB wd ns, 0 ≤ z ∧ z ≤ 255 := by
  intro z hz
  simp only [numsB, List.mem_flatten, List.mem_map] at hz
  obtain ⟨l, ⟨v, _, rfl⟩, hz⟩ := hz
  exact digits_byte wd v z hz

end Go.Proofs.YtknmgefpjdfenaaGreat
