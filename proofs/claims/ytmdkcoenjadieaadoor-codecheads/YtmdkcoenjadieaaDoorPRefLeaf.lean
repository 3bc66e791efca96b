/- The contracts of the reference's small functions. -/
import Derived.Test.YtmdkcoenjadieaaDoorPLay
namespace Go.Proofs.YtmdkcoenjadieaaDoor
open Go.RowKit Go.Shelf
set_option linter.unusedVariables false

theorem size_any (b : Int) (w : World) :
    Calls Tryd.prog 45 #[.int .i64 b] w fun r w' => ((r = .returned (.bool true) ∧ isSize b) ∨ (r = .returned (.bool false) ∧ ¬ isSize b)) ∧ w = w' := by
  go_enter Tryd.func45, Tryd.ntmps45
  go_wp2
  go_loop [3] (fun i => ∃ s : Int, i = .int .i64 s ∧ Hid ((isSize s ∨ s = 8192) ∧ (∀ x, isSize x → x < s → b ≠ x))) (fun i => 16384 - (intOf i).toNat)
  case atStart => exact ⟨64, rfl, .inl (.inl rfl), fun x hx hl => by unfold isSize at hx; omega⟩
  case round =>
    obtain ⟨s, rfl, hH⟩ := hrel
    by_cases hs : s ≤ 4096
    · by_cases hb : s = b
      · subst hb
        go_wp2
        go_ret
        refine ⟨.inl ⟨rfl, ?_⟩, rfl⟩
        have := (unhide hH).1
        unfold isSize at *
        omega
      · have hs' : 64 ≤ s := by have := (unhide hH).1; unfold isSize at this; omega
        go_wp2
        refine ⟨⟨s * 2, by go_num, ?_, ?_⟩, by simp [intOf]; omega⟩
        · have := (unhide hH).1; unfold isSize at *; omega
        · intro x hx hl hbx
          have h1 := (unhide hH).2 x hx
          have h2 := (unhide hH).1
          unfold isSize at *
          omega
    · go_wp2
      go_ret
      refine ⟨.inr ⟨rfl, fun hb => ?_⟩, rfl⟩
      exact (unhide hH).2 b hb (by unfold isSize at hb; omega) rfl

theorem cd_unique {n e k : Int} (he : 1 ≤ e) (h1 : n ≤ k * e) (h2 : k * e < n + e) : cd n e = k := by
  unfold cd
  have a : k ≤ (n + e - 1) / e := by rw [Int.le_ediv_iff_mul_le (by omega)]; omega
  have b : (n + e - 1) / e < k + 1 := by rw [Int.ediv_lt_iff_lt_mul (by omega), Int.add_mul]; omega
  omega

theorem blocksFor_any (n e : Int) (w : World) (hn : 0 ≤ n ∧ n ≤ 1099511627776) (he : 1 ≤ e ∧ e ≤ 1099511627776) :
    Calls Tryd.prog 75 #[.int .i64 n, .int .i64 e] w fun r w' => r = .returned (.int .i64 (cd n e)) ∧ w = w' := by
  have HN := hide hn
  have HE := hide he
  clear hn he
  go_enter Tryd.func75, Tryd.ntmps75
  go_wp2
  go_loop [5] (fun i => ∃ k : Int, i = .int .i64 k ∧ Hid (0 ≤ k ∧ k * e < n + e)) (fun i => n.toNat + 1 - (intOf i).toNat)
  case atStart => exact ⟨0, rfl, by omega, by have := unhide HN; have := unhide HE; omega⟩
  case round =>
    obtain ⟨k, rfl, hH⟩ := hrel
    obtain ⟨m, hm⟩ : ∃ m, k * e = m := ⟨_, rfl⟩
    have hk : k ≤ m := by
      have := Int.mul_le_mul_of_nonneg_left (unhide HE).1 (unhide hH).1
      omega
    have hm2 : m < n + e := by have := (unhide hH).2; omega
    have q1 : IntKind.i64.wrap (k * e) = m := by have := unhide HN; have := unhide HE; have := unhide hH; rw [hm, IntKind.wrap_i64]; omega
    have HM := hide hm
    have hb : k ≤ 4398046511104 := by have := unhide HN; have := unhide HE; omega
    have hk0 := (unhide hH).1
    clear hm hm2
    by_cases hlt : m < n
    · go_wp2
      refine ⟨⟨k + 1, by go_num, by omega, ?_⟩, by simp [intOf]; omega⟩
      rw [Int.add_mul]
      have := unhide HM
      omega
    · go_wp2
      go_ret
      refine ⟨?_, rfl⟩
      rw [cd_unique (unhide HE).1 (by have := unhide HM; omega) (unhide hH).2]
      rfl

end Go.Proofs.YtmdkcoenjadieaaDoor
