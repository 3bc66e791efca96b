/- The contract of slices.Backward at byte slices that are not empty. -/
import Derived.Test.YtknmgefpjdfenaaGreatTnGBase
import Derived.RangeFuncNested
import Derived.RangeFuncBound
import Derived.RangeFuncCalls
import Derived.RangeFuncLeaves
import Derived.Shelf.Abstract
import Derived.Shelf.RegionOpen
import Derived.OwnWalkIn
import Derived.TacticsInMore
import Derived.LoopNIn
import Derived.LoopIn
namespace Go.Proofs.YtknmgefpjdfenaaGreat
open Go.RowKit Go.Shelf
set_option linter.unusedVariables false
attribute [local go_sem] Oper.semAt_some

/-- An index below len, and a byte. -/
abbrev Pt (len : Nat) := { p : Nat × Int // p.1 < len ∧ 0 ≤ p.2 ∧ p.2 ≤ 255 }

/-- len - 1, len - 2, ..: the first k of them. -/
def desc (len k : Nat) : List Nat := (List.range k).map (fun j => len - 1 - j)

theorem desc_succ (len k : Nat) : desc len (k + 1) = desc len k ++ [len - 1 - k] := by simp [desc, List.range_succ]

/-- What has come when k rounds are over. -/
def Came (len : Nat) (good : Nat → Int → Prop) (k : Nat) (pre : List (Pt len)) : Prop :=
  pre.map (fun x => x.1.1) = desc len k ∧ ∀ x ∈ pre, good x.1.1 x.1.2

theorem Came.nil (len : Nat) (good : Nat → Int → Prop) : Came len good 0 [] := ⟨by simp [desc], by simp⟩

theorem Came.snoc {len : Nat} {good : Nat → Int → Prop} {k : Nat} {pre : List (Pt len)} (h : Came len good k pre) (x : Pt len) (hi : x.1.1 = len - 1 - k) (hg : good x.1.1 x.1.2) : Came len good (k + 1) (pre ++ [x]) := by
  refine ⟨by rw [desc_succ, ← h.1, ← hi]; simp, ?_⟩
  intro y hy
  rcases List.mem_append.1 hy with hy | hy
  · exact h.2 y hy
  · simp at hy; subst hy; exact hg

theorem Came.length {len : Nat} {good : Nat → Int → Prop} {k : Nat} {pre : List (Pt len)} (h : Came len good k pre) : pre.length = k := by
  have := congrArg List.length h.1
  simpa [desc] using this

/-- What the iterator reads: its box with the slice, and a good byte at each place. -/
def Reads (Bs b off len cap : Nat) (good : Nat → Int → Prop) (W : World) : Prop :=
  W.cell? ⟨Bs, 0, none⟩ = some (.slice (some ⟨b, off, none⟩) len cap) ∧ ∀ j, j < len → ∃ z : Int, 0 ≤ z ∧ z ≤ 255 ∧ good j z ∧ W.cell? ⟨b, off + j, none⟩ = some (.int .u8 z)

end Go.Proofs.YtknmgefpjdfenaaGreat
