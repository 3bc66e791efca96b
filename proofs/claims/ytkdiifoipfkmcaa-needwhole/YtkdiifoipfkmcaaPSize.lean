/- The contracts of the reference's small functions. -/
import Derived.Test.YtkdiifoipfkmcaaPLay
namespace Go.Proofs.Ytkdiifoipfkmcaa
open Go.RowKit Go.Shelf
set_option linter.unusedVariables false

theorem size_any (b : Int) (w : World) :
    Calls Try.prog 42 #[.int .i64 b] w fun r w' => ((r = .returned (.bool true) ∧ isSize b) ∨ (r = .returned (.bool false) ∧ ¬ isSize b)) ∧ w = w' := by
  go_enter Try.func42, Try.ntmps42
  go_wp2
  go_loop [3] (fun i => ∃ s : Int, i = .int .i64 s ∧ Hid ((isSize s ∨ s = 8192) ∧ (∀ x, isSize x → x < s → b ≠ x))) (fun i => 16384 - (intOf i).toNat)
  case atStart => exact ⟨64, rfl, .inl (.inl rfl), fun x hx hl => by unfold isSize at hx; omega⟩
  case round =>
    obtain ⟨s, rfl, hH⟩ := hrel
    by_cases hs : s ≤ 4096
    · by_cases hb : s = b
      · subst hb
        go_wp2
        go_ret
        refine ⟨.inl ⟨rfl, ?_⟩, rfl⟩
        have := (unhide hH).1
        unfold isSize at *
        omega
      · have hs' : 64 ≤ s := by have := (unhide hH).1; unfold isSize at this; omega
        go_wp2
        refine ⟨⟨s * 2, by go_num, ?_, ?_⟩, by simp [intOf]; omega⟩
        · have := (unhide hH).1; unfold isSize at *; omega
        · intro x hx hl hbx
          have h1 := (unhide hH).2 x hx
          have h2 := (unhide hH).1
          unfold isSize at *
          omega
    · go_wp2
      go_ret
      refine ⟨.inr ⟨rfl, fun hb => ?_⟩, rfl⟩
      exact (unhide hH).2 b hb (by unfold isSize at hb; omega) rfl

theorem cd_unique {n e k : Int} (he : 1 ≤ e) (h1 : n ≤ k * e) (h2 : k * e < n + e) : cd n e = k := by
  unfold cd
  have a : k ≤ (n + e - 1) / e := by rw [Int.le_ediv_iff_mul_le (by omega)]; omega
  have b : (n + e - 1) / e < k + 1 := by rw [Int.ediv_lt_iff_lt_mul (by omega), Int.add_mul]; omega
  omega

end Go.Proofs.Ytkdiifoipfkmcaa
