/- What a sound plan is, and the contract of Place. -/
import Derived.Test.YtielammfimeedaaPCheck
namespace Go.Proofs.Ytielammfimeedaa
open Go.RowKit Go.Shelf
set_option linter.unusedVariables false

theorem below_drewN {n : Nat} {w w' : World} (h : Below n w w') (m : Nat) : Below n w (w'.drewN m) := ⟨h.os, h.tape, h.output, h.size, h.block⟩

/-- A plan that Check takes. -/
structure Sound (P : Nat → Int) : Prop where
  size : isSize (P 0)
  blocks : 1 ≤ P 1 ∧ P 1 ≤ 4096
  inodes : 2 ≤ P 2 ∧ P 2 ≤ 1024
  log : 4 ≤ P 3 ∧ P 3 ≤ 512
  bytes : P 0 * P 1 ≤ 1048576
  p4 : P 4 = 2
  p5 : P 5 = 2 + P 3
  p6 : P 6 = cd (P 2) (8 * P 0)
  p7 : P 7 = 2 + P 3 + P 6
  p8 : P 8 = cd (P 1) (8 * P 0)
  p9 : P 9 = 2 + P 3 + P 6 + P 8
  p10 : P 10 = cd (P 2) (P 0 / 32)
  p11 : P 11 = 2 + P 3 + P 6 + P 8 + P 10
  data : P 11 < P 1

theorem makeE_zero {b bl ino lg : Int} (h : makeE b bl ino lg = 0) : ¬ badArg b bl ino lg ∧ ¬ 1048576 < b * bl ∧ ¬ bl ≤ planOf b bl ino lg 11 := by
  unfold makeE at h
  split at h
  · omega
  · split at h
    · omega
    · split at h
      · omega
      · rename_i h1 h2 h3
        exact ⟨fun x => h1 (badB_iff.2 x), h2, h3⟩

theorem sound {P : Nat → Int} (h : checkE P = 0) : Sound P := by
  unfold checkE at h
  split at h
  case isFalse => omega
  case isTrue hc =>
    obtain ⟨he, hs⟩ := hc
    have hk := same12_iff.1 hs
    rw [makeP_ok he] at hk
    obtain ⟨h1, h2, h3⟩ := makeE_zero he
    obtain ⟨g1, g2, g3, g4⟩ := good_arg h1
    have k4 : 2 = P 4 := hk 4 (by omega)
    have k5 : 2 + P 3 = P 5 := hk 5 (by omega)
    have k6 : cd (P 2) (8 * P 0) = P 6 := hk 6 (by omega)
    have k7 : 2 + P 3 + cd (P 2) (8 * P 0) = P 7 := hk 7 (by omega)
    have k8 : cd (P 1) (8 * P 0) = P 8 := hk 8 (by omega)
    have k9 : 2 + P 3 + cd (P 2) (8 * P 0) + cd (P 1) (8 * P 0) = P 9 := hk 9 (by omega)
    have k10 : cd (P 2) (P 0 / 32) = P 10 := hk 10 (by omega)
    have k11 : 2 + P 3 + cd (P 2) (8 * P 0) + cd (P 1) (8 * P 0) + cd (P 2) (P 0 / 32) = P 11 := hk 11 (by omega)
    rw [hk 11 (by omega)] at h3
    rw [k6] at k7 k9 k11
    rw [k8] at k9 k11
    rw [k10] at k11
    exact ⟨g1, by omega, by omega, by omega, by omega, k4.symm, k5.symm, k6.symm, k7.symm, k8.symm, k9.symm, k10.symm, k11.symm, by omega⟩

theorem cd_pos (n e : Int) (hn : 1 ≤ n) (he : 1 ≤ e) : 1 ≤ cd n e := by
  unfold cd
  rw [Int.le_ediv_iff_mul_le (by omega)]
  omega

theorem Sound.bd {P : Nat → Int} (h : Sound P) : (64 ≤ P 0 ∧ P 0 ≤ 4096) ∧ (1 ≤ P 6 ∧ P 6 ≤ 4096) ∧ (1 ≤ P 8 ∧ P 8 ≤ 4096) ∧ (1 ≤ P 10 ∧ P 10 ≤ 4096) := by
  have hs := size_bd h.size
  have a := h.blocks
  have b := h.inodes
  have x := cd_bd (P 2) (8 * P 0) (by omega) (by omega)
  have y := cd_bd (P 1) (8 * P 0) (by omega) (by omega)
  have z := cd_bd (P 2) (P 0 / 32) (by omega) (by omega)
  have x' := cd_pos (P 2) (8 * P 0) (by omega) (by omega)
  have y' := cd_pos (P 1) (8 * P 0) (by omega) (by omega)
  have z' := cd_pos (P 2) (P 0 / 32) (by omega) (by omega)
  rw [h.p6, h.p8, h.p10]
  exact ⟨hs, ⟨x', x.2⟩, ⟨y', y.2⟩, ⟨z', z.2⟩⟩

theorem ret_three {a b c d e f : Int} (h1 : a = b) (h2 : c = d) (h3 : e = f) : Ending.returned (.tuple #[.int .i64 a, .int .i64 c, .int .i64 e]) = .returned (.tuple #[.int .i64 b, .int .i64 d, .int .i64 f]) := by rw [h1, h2, h3]

theorem ret_two {a b c d : Int} (h1 : a = b) (h2 : c = d) : Ending.returned (.tuple #[.int .i64 a, .int .i64 c]) = .returned (.tuple #[.int .i64 b, .int .i64 d]) := by rw [h1, h2]

/-- What Place answers. -/
def plcE (P : Nat → Int) (n : Int) : Int := if checkE P ≠ 0 then 4 else if n < 0 ∨ P 2 ≤ n then 2 else 0
def plcB (P : Nat → Int) (n : Int) : Int := if plcE P n = 0 then P 9 + n / (P 0 / 32) else 0
def plcA (P : Nat → Int) (n : Int) : Int := if plcE P n = 0 then n % (P 0 / 32) * 32 else 0

theorem div_bd (n d : Int) (hn : 0 ≤ n ∧ n ≤ 1099511627776) (hd : 1 ≤ d) : (0 ≤ n / d ∧ n / d ≤ n) ∧ (0 ≤ n % d ∧ n % d < d) :=
  ⟨⟨Int.ediv_nonneg hn.1 (by omega), Int.ediv_le_self _ hn.1⟩, Int.emod_nonneg _ (by omega), Int.emod_lt_of_pos _ (by omega)⟩

set_option maxRecDepth 10000 in
set_option maxHeartbeats 1000000 in
theorem place_form (P : Nat → Int) (n : Int) (w : World) (h : checkE P ≠ 0) :
    Calls Try.prog 11 #[Pv P, .int .i64 n] w fun r w' => r = .returned (.tuple #[.int .i64 0, .int .i64 0, .int .i64 4]) ∧ Below w.heap.size w w' := by
  have HC := hide (check_any P)
  have h4 : checkE P = 4 := by have := checkE_two P; omega
  rw [h4] at HC
  clear h h4
  go_enter Try.func11, Try.ntmps11
  go_wp2_with fail
  go_at_call 15
  refine (unhide HC _).mono ?_
  rintro r w1 ⟨rfl, hb⟩
  have HB := hide (((Below.refl w.heap.size w).alloc (Nat.le_refl _) (.cells (Pc P) 24)).trans (hb.mono (by simp)))
  clear hb HC
  go_wp2
  go_ret3
  exact ⟨rfl, unhide HB⟩

set_option maxRecDepth 10000 in
set_option maxHeartbeats 1000000 in
theorem place_low (P : Nat → Int) (n : Int) (w : World) (h : checkE P = 0) (hn : n < 0) :
    Calls Try.prog 11 #[Pv P, .int .i64 n] w fun r w' => r = .returned (.tuple #[.int .i64 0, .int .i64 0, .int .i64 2]) ∧ Below w.heap.size w w' := by
  have HC := hide (check_any P)
  rw [h] at HC
  clear h
  go_enter Try.func11, Try.ntmps11
  go_wp2_with fail
  go_at_call 15
  refine (unhide HC _).mono ?_
  rintro r w1 ⟨rfl, hb⟩
  have HB := hide (((Below.refl w.heap.size w).alloc (Nat.le_refl _) (.cells (Pc P) 24)).trans (hb.mono (by simp)))
  clear hb HC
  go_wp2
  go_ret3
  exact ⟨rfl, unhide HB⟩

set_option maxRecDepth 10000 in
set_option maxHeartbeats 1000000 in
theorem place_high (P : Nat → Int) (n : Int) (w : World) (h : checkE P = 0) (hn : ¬ n < 0) (hn2 : P 2 ≤ n) :
    Calls Try.prog 11 #[Pv P, .int .i64 n] w fun r w' => r = .returned (.tuple #[.int .i64 0, .int .i64 0, .int .i64 2]) ∧ Below w.heap.size w w' := by
  have HC := hide (check_any P)
  rw [h] at HC
  clear h
  go_enter Try.func11, Try.ntmps11
  go_wp2_with fail
  go_at_call 15
  refine (unhide HC _).mono ?_
  rintro r w1 ⟨rfl, hb⟩
  have HB := hide (((Below.refl w.heap.size w).alloc (Nat.le_refl _) (.cells (Pc P) 24)).trans (hb.mono (by simp)))
  have f2 := ((R12.new w P).below hb (R12.new w P).lt).cell 2 (by omega)
  clear hb HC
  go_wp2
  go_ret3
  exact ⟨rfl, unhide HB⟩

set_option maxRecDepth 10000 in
set_option maxHeartbeats 1000000 in
theorem place_ok (P : Nat → Int) (n d : Int) (w : World) (h : checkE P = 0) (hn : ¬ n < 0) (hn2 : ¬ P 2 ≤ n) (hd : P 0 / 32 = d) :
    Calls Try.prog 11 #[Pv P, .int .i64 n] w fun r w' => r = .returned (.tuple #[.int .i64 (P 9 + n / d), .int .i64 (n % d * 32), .int .i64 0]) ∧ Below w.heap.size w w' := by
  have HC := hide (check_any P)
  rw [h] at HC
  have HS := hide (sound h)
  have hb := (sound h).bd
  have hi := (sound h).inodes
  have h9 : 0 ≤ P 9 ∧ P 9 ≤ 10000 := by have a := (sound h).p9; have b := (sound h).log; omega
  have hd2 : 2 ≤ d ∧ d ≤ 128 := by omega
  have hp := hb.1
  have hq := div_bd n d (by omega) (by omega)
  have q2 : wrap64 ((P 0).tdiv 32) = d := by rw [Int.tdiv_eq_ediv_of_nonneg (by omega), hd]; simp only [wrap64]; omega
  have HD := hide hd
  clear h hb hd
  go_enter Try.func11, Try.ntmps11
  go_wp2_with fail
  go_at_call 15
  refine (unhide HC _).mono ?_
  rintro r w1 ⟨rfl, hb⟩
  have HB := hide (((Below.refl w.heap.size w).alloc (Nat.le_refl _) (.cells (Pc P) 24)).trans (hb.mono (by simp)))
  have f2 := ((R12.new w P).below hb (R12.new w P).lt).cell 2 (by omega)
  have f0 := ((R12.new w P).below hb (R12.new w P).lt).cell 0 (by omega)
  have f9 := ((R12.new w P).below hb (R12.new w P).lt).cell 9 (by omega)
  clear hb HC
  go_wp2
  go_quiet (fail)
  go_wp2
  go_ret3
  refine ⟨ret_three ?_ ?_ rfl, below_drewN (unhide HB) _⟩
  · rw [unhide HD]; simp only [wrap64]; omega
  · rw [unhide HD]; simp only [wrap64]; omega

theorem place_any (P : Nat → Int) (n : Int) (w : World) :
    Calls Try.prog 11 #[Pv P, .int .i64 n] w fun r w' => r = .returned (.tuple #[.int .i64 (plcB P n), .int .i64 (plcA P n), .int .i64 (plcE P n)]) ∧ Below w.heap.size w w' := by
  by_cases h : checkE P = 0
  · by_cases h1 : n < 0
    · have e : plcE P n = 2 := by rw [plcE, if_neg (by omega), if_pos (.inl h1)]
      rw [plcB, plcA, e, if_neg (by omega), if_neg (by omega)]
      exact place_low P n w h h1
    · by_cases h2 : P 2 ≤ n
      · have e : plcE P n = 2 := by rw [plcE, if_neg (by omega), if_pos (.inr h2)]
        rw [plcB, plcA, e, if_neg (by omega), if_neg (by omega)]
        exact place_high P n w h h1 h2
      · have e : plcE P n = 0 := by rw [plcE, if_neg (by omega), if_neg (by omega)]
        rw [plcB, plcA, e, if_pos rfl, if_pos rfl]
        exact place_ok P n _ w h h1 h2 rfl
  · have e : plcE P n = 4 := by rw [plcE, if_pos h]
    rw [plcB, plcA, e, if_neg (by omega), if_neg (by omega)]
    exact place_form P n w h

end Go.Proofs.Ytielammfimeedaa
