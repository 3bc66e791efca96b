/- The contracts of the reference's small functions. -/
import Derived.Test.YtkdiifoipfkmcaaPSize
namespace Go.Proofs.Ytkdiifoipfkmcaa
open Go.RowKit Go.Shelf
set_option linter.unusedVariables false

theorem blocksFor_any (n e : Int) (w : World) (hn : 0 ≤ n ∧ n ≤ 1099511627776) (he : 1 ≤ e ∧ e ≤ 1099511627776) :
    Calls Try.prog 32 #[.int .i64 n, .int .i64 e] w fun r w' => r = .returned (.int .i64 (cd n e)) ∧ w = w' := by
  have HN := hide hn
  have HE := hide he
  clear hn he
  go_enter Try.func32, Try.ntmps32
  go_wp2
  go_loop [5] (fun i => ∃ k : Int, i = .int .i64 k ∧ Hid (0 ≤ k ∧ k * e < n + e)) (fun i => n.toNat + 1 - (intOf i).toNat)
  case atStart => exact ⟨0, rfl, by omega, by have := unhide HN; have := unhide HE; omega⟩
  case round =>
    obtain ⟨k, rfl, hH⟩ := hrel
    obtain ⟨m, hm⟩ : ∃ m, k * e = m := ⟨_, rfl⟩
    have hk : k ≤ m := by
      have := Int.mul_le_mul_of_nonneg_left (unhide HE).1 (unhide hH).1
      omega
    have hm2 : m < n + e := by have := (unhide hH).2; omega
    have q1 : IntKind.i64.wrap (k * e) = m := by have := unhide HN; have := unhide HE; have := unhide hH; rw [hm, IntKind.wrap_i64]; omega
    have HM := hide hm
    have hb : k ≤ 4398046511104 := by have := unhide HN; have := unhide HE; omega
    have hk0 := (unhide hH).1
    clear hm hm2
    by_cases hlt : m < n
    · go_wp2
      refine ⟨⟨k + 1, by go_num, by omega, ?_⟩, by simp [intOf]; omega⟩
      rw [Int.add_mul]
      have := unhide HM
      omega
    · go_wp2
      go_ret
      refine ⟨?_, rfl⟩
      rw [cd_unique (unhide HE).1 (by have := unhide HM; omega) (unhide hH).2]
      rfl

end Go.Proofs.Ytkdiifoipfkmcaa
