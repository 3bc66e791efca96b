/- Contracts of codec.Super and skerryref06.Super. -/
import Derived.Test.YtmdkcoenjadieaaDoorCHead
import Derived.Test.YtmdkcoenjadieaaDoorCRef
import Derived.Test.YtmdkcoenjadieaaDoorRefSum
namespace Go.Proofs.YtmdkcoenjadieaaDoor
open Go.RowKit Go.Shelf
set_option linter.unusedVariables false
set_option maxRecDepth 100000

/-- S K R Y. -/
def skry : List Int := [83, 75, 82, 89]

/-- The twelve bytes ahead of a superblock's sum. -/
def supH (P : Nat → Int) : List Int := skry ++ numsB 2 [P 0, P 1, P 2, P 3]

theorem supH_length (P : Nat → Int) : (supH P).length = 12 := by simp [supH, skry, length_numsB]

theorem skry_byts : Byts skry := by intro z hz; simp [skry] at hz; omega

theorem supH_byts (P : Nat → Int) : Byts (supH P) := by
  intro z hz
  simp only [supH, List.mem_append] at hz
  rcases hz with hz | hz
  · exact skry_byts z hz
  · exact numsB_byte _ _ z hz

/-- What a sound plan's first numbers are. -/
theorem check_bounds {P : Nat → Int} (h : checkE P = 0) : isSize (P 0) ∧ 1 ≤ P 1 ∧ P 1 ≤ 4096 ∧ 2 ≤ P 2 ∧ P 2 ≤ 1024 ∧ 4 ≤ P 3 ∧ P 3 ≤ 512 := by
  have he : makeE (P 0) (P 1) (P 2) (P 3) = 0 := by
    by_cases h0 : makeE (P 0) (P 1) (P 2) (P 3) = 0
    · exact h0
    · rw [checkE_bad h0] at h; omega
  by_cases hb : badArg (P 0) (P 1) (P 2) (P 3)
  · rw [makeE_bad hb] at he; omega
  · obtain ⟨h1, h2, h3, h4⟩ := good_arg hb
    exact ⟨h1, by omega, by omega, by omega, by omega, by omega, by omega⟩

theorem check_fit {P : Nat → Int} (h : checkE P = 0) : fitB 2 [P 0, P 1, P 2, P 3] = true := by
  obtain ⟨h0, h1⟩ := check_bounds h
  have := size_bd h0
  rw [fitB_iff]
  intro v hv
  simp only [List.mem_cons, List.not_mem_nil, or_false] at hv
  rcases hv with rfl | rfl | rfl | rfl <;> omega

set_option maxHeartbeats 4000000 in
theorem super_bad (P : Nat → Int) (w : World) (h : checkE P ≠ 0) :
    Calls Tryd.prog 9 #[Pv P] w fun e w' => e = .returned (.tuple #[.slice none 0 0, .int .i64 4]) ∧ Below w.heap.size w w' := by
  have K : Hid (∀ u, Calls Tryd.prog 35 #[Pv P] u fun r w' => r = .returned (.int .i64 4) ∧ Below u.heap.size u w') := fun u => by
    have := check_any P u
    rcases checkE_two P with h0 | h0
    · exact absurd h0 h
    · rwa [h0] at this
  have HK := hide (Bx.start w (Pc P) 23)

  clear h
  go_enter Tryd.func9, Tryd.ntmps9
  go_wp2_with fail
  go_at_call 35
  refine (unhide K _).mono ?_
  rintro e w1 ⟨rfl, hb⟩
  replace HK := hide ((unhide HK).call hb)
  skip
  clear K hb
  go_wp2_with fail
  go_ret2
  exact ⟨rfl, HK.out.2.1⟩

set_option maxHeartbeats 4000000 in
theorem refSuper_bad (P : Nat → Int) (w : World) (h : checkE P ≠ 0) :
    Calls Tryd.prog 10 #[Pv P] w fun e w' => e = .returned (.tuple #[.slice none 0 0, .int .i64 4]) ∧ Below w.heap.size w w' := by
  have K : Hid (∀ u, Calls Tryd.prog 39 #[Pv P] u fun r w' => r = .returned (.int .i64 4) ∧ Below u.heap.size u w') := fun u => by
    have := refCheck_any P u
    rcases checkE_two P with h0 | h0
    · exact absurd h0 h
    · rwa [h0] at this
  have HK := hide (Bx.start w (Pc P) 23)

  clear h
  go_enter Tryd.func10, Tryd.ntmps10
  go_wp2_with fail
  go_at_call 39
  refine (unhide K _).mono ?_
  rintro e w1 ⟨rfl, hb⟩
  replace HK := hide ((unhide HK).call hb)
  skip
  clear K hb
  go_wp2_with fail
  go_ret2
  exact ⟨rfl, HK.out.2.1⟩

end Go.Proofs.YtmdkcoenjadieaaDoor
