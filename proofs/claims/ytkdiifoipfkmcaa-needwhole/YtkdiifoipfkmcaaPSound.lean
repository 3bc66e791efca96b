/- What a sound plan is. -/
import Derived.Test.YtkdiifoipfkmcaaPCheck
namespace Go.Proofs.Ytkdiifoipfkmcaa
open Go.RowKit Go.Shelf
set_option linter.unusedVariables false

theorem below_drewN {n : Nat} {w w' : World} (h : Below n w w') (m : Nat) : Below n w (w'.drewN m) := ⟨h.os, h.tape, h.output, h.size, h.block⟩

/-- A plan that Check takes. -/
structure Sound (P : Nat → Int) : Prop where
  size : isSize (P 0)
  blocks : 1 ≤ P 1 ∧ P 1 ≤ 4096
  inodes : 2 ≤ P 2 ∧ P 2 ≤ 1024
  log : 4 ≤ P 3 ∧ P 3 ≤ 512
  bytes : P 0 * P 1 ≤ 1048576
  p4 : P 4 = 2
  p5 : P 5 = 2 + P 3
  p6 : P 6 = cd (P 2) (8 * P 0)
  p7 : P 7 = 2 + P 3 + P 6
  p8 : P 8 = cd (P 1) (8 * P 0)
  p9 : P 9 = 2 + P 3 + P 6 + P 8
  p10 : P 10 = cd (P 2) (P 0 / 32)
  p11 : P 11 = 2 + P 3 + P 6 + P 8 + P 10
  data : P 11 < P 1

theorem makeE_zero {b bl ino lg : Int} (h : makeE b bl ino lg = 0) : ¬ badArg b bl ino lg ∧ ¬ 1048576 < b * bl ∧ ¬ bl ≤ planOf b bl ino lg 11 := by
  unfold makeE at h
  split at h
  · omega
  · split at h
    · omega
    · split at h
      · omega
      · rename_i h1 h2 h3
        exact ⟨fun x => h1 (badB_iff.2 x), h2, h3⟩

theorem sound {P : Nat → Int} (h : checkE P = 0) : Sound P := by
  unfold checkE at h
  split at h
  case isFalse => omega
  case isTrue hc =>
    obtain ⟨he, hs⟩ := hc
    have hk := same12_iff.1 hs
    rw [makeP_ok he] at hk
    obtain ⟨h1, h2, h3⟩ := makeE_zero he
    obtain ⟨g1, g2, g3, g4⟩ := good_arg h1
    have k4 : 2 = P 4 := hk 4 (by omega)
    have k5 : 2 + P 3 = P 5 := hk 5 (by omega)
    have k6 : cd (P 2) (8 * P 0) = P 6 := hk 6 (by omega)
    have k7 : 2 + P 3 + cd (P 2) (8 * P 0) = P 7 := hk 7 (by omega)
    have k8 : cd (P 1) (8 * P 0) = P 8 := hk 8 (by omega)
    have k9 : 2 + P 3 + cd (P 2) (8 * P 0) + cd (P 1) (8 * P 0) = P 9 := hk 9 (by omega)
    have k10 : cd (P 2) (P 0 / 32) = P 10 := hk 10 (by omega)
    have k11 : 2 + P 3 + cd (P 2) (8 * P 0) + cd (P 1) (8 * P 0) + cd (P 2) (P 0 / 32) = P 11 := hk 11 (by omega)
    rw [hk 11 (by omega)] at h3
    rw [k6] at k7 k9 k11
    rw [k8] at k9 k11
    rw [k10] at k11
    exact ⟨g1, by omega, by omega, by omega, by omega, k4.symm, k5.symm, k6.symm, k7.symm, k8.symm, k9.symm, k10.symm, k11.symm, by omega⟩

theorem cd_pos (n e : Int) (hn : 1 ≤ n) (he : 1 ≤ e) : 1 ≤ cd n e := by
  unfold cd
  rw [Int.le_ediv_iff_mul_le (by omega)]
  omega

theorem Sound.bd {P : Nat → Int} (h : Sound P) : (64 ≤ P 0 ∧ P 0 ≤ 4096) ∧ (1 ≤ P 6 ∧ P 6 ≤ 4096) ∧ (1 ≤ P 8 ∧ P 8 ≤ 4096) ∧ (1 ≤ P 10 ∧ P 10 ≤ 4096) := by
  have hs := size_bd h.size
  have a := h.blocks
  have b := h.inodes
  have x := cd_bd (P 2) (8 * P 0) (by omega) (by omega)
  have y := cd_bd (P 1) (8 * P 0) (by omega) (by omega)
  have z := cd_bd (P 2) (P 0 / 32) (by omega) (by omega)
  have x' := cd_pos (P 2) (8 * P 0) (by omega) (by omega)
  have y' := cd_pos (P 1) (8 * P 0) (by omega) (by omega)
  have z' := cd_pos (P 2) (P 0 / 32) (by omega) (by omega)
  rw [h.p6, h.p8, h.p10]
  exact ⟨hs, ⟨x', x.2⟩, ⟨y', y.2⟩, ⟨z', z.2⟩⟩

theorem per_any (P : Nat → Int) (w : World) (h : 64 ≤ P 0 ∧ P 0 ≤ 4096) :
    Calls Try.prog 38 #[Pv P] w fun e w' => e = .returned (.int .i64 (P 0 / 2)) ∧ w' = w.alloc (.cells (Pc P) 23) := by
  go_enter Try.func38, Try.ntmps38
  go_wp2
  go_ret
  refine ⟨?_, rfl⟩
  go_num

end Go.Proofs.Ytkdiifoipfkmcaa
