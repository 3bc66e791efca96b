/- The contract of field.Put. -/
import Derived.Test.YtmdkcoenjadieaaGPut
import Derived.Test.YtmdkcoenjadieaaGGet
namespace Go.Proofs.Ytmdkcoenjadieaa
open Go.RowKit Go.Shelf
set_option linter.unusedVariables false
attribute [local go_sem] Oper.semAt_some

/-- The error of Put. -/
def putErr (len : Nat) (at' n v : Int) : Int := if numErr len at' n = 0 then (if v < 0 then 3 else if v < 256 ^ n.toNat then 0 else 3) else numErr len at' n

set_option maxHeartbeats 1000000 in
theorem put_err (a : Option Addr) (len cap : Nat) (at' n v : Int) (w : World) (hl : len ≤ maxLen) (ha : at' ≤ 9223372036854775807) (he : (numErr len at' n == 0) = false) :
    Calls Try.prog 30 #[.slice a len cap, .int .i64 at', .int .i64 n, .int .i64 v] w fun e w' => e = .returned (.tuple #[.slice none 0 0, .int .i64 (numErr len at' n)]) ∧ Below w.heap.size w w' := by
  obtain ⟨q, hq⟩ : ∃ q, numErr len at' n = q := ⟨_, rfl⟩
  have hc := fun w => checkNumber_any a len cap at' n w hl ha
  rw [hq] at hc he ⊢
  clear hq
  refine (callsIn_wide (n := 3)).1 ?_
  refine callsIn_of_wp_marks Try.func30 rfl trivial ?_ rfl
  simp only [Try.ntmps30, List.size_toArray, List.length_cons, List.length_nil, Nat.reduceAdd, Nat.reduceSub, Array.replicate_succ, Array.replicate_zero, List.push_toArray, List.append_toArray, List.nil_append, List.cons_append]
  have hne : (q != 0) = true := by simpa using he
  have HC := hide hc
  clear hc
  gi_wp2_with (refine ⟨trivial, ?_⟩; gi_at_call 36; refine (callsIn_wide.2 (unhide HC _)).mono ?_; rintro e w' ⟨rfl, rfl⟩)
  refine ⟨_, ?_, rfl, (Below.refl _ w).alloc (Nat.le_refl _) _⟩
  simp [results, Try.results30, go_sem]

theorem shift_width (v : Int) (wd : Nat) (hw : wd ≤ 4) : v / 2 ^ (8 * wd) = v / 256 ^ wd := by
  rw [Int.pow_mul]; rfl

set_option maxHeartbeats 1000000 in
theorem put_val (a : Option Addr) (len cap at0 wd : Nat) (v : Int) (w : World) (hcm : len ≤ 140737488351232) (hw : wd = 1 ∨ wd = 2 ∨ wd = 4) (hat : at0 + wd ≤ len) (hv : v < 0 ∨ 256 ^ wd ≤ v) :
    Calls Try.prog 30 #[.slice a len cap, .int .i64 (at0 : Int), .int .i64 (wd : Int), .int .i64 v] w fun e w' => e = .returned (.tuple #[.slice none 0 0, .int .i64 3]) ∧ Below w.heap.size w w' := by
  have he := numErr_ok hw hat
  by_cases h0 : v < 0
  · have hvd : decide (v < 0) = true := by simpa using h0
    refine (callsIn_wide (n := 3)).1 ?_
    refine callsIn_of_wp_marks Try.func30 rfl trivial ?_ rfl
    simp only [Try.ntmps30, List.size_toArray, List.length_cons, List.length_nil, Nat.reduceAdd, Nat.reduceSub, Array.replicate_succ, Array.replicate_zero, List.push_toArray, List.append_toArray, List.nil_append, List.cons_append]
    gi_wp2_with (refine ⟨trivial, ?_⟩; gi_at_call 36; refine (callsIn_wide.2 (checkNumber_any _ _ _ _ _ _ (by unfold maxLen; omega) (by omega))).mono ?_; rintro e w' ⟨rfl, rfl⟩; rw [he])
    refine ⟨_, ?_, rfl, (Below.refl _ w).alloc (Nat.le_refl _) _⟩
    simp [results, Try.results30, go_sem]
  · have hvd : decide (v < 0) = false := by simpa using h0
    have hge : 256 ^ wd ≤ v := by omega
    have hpos : (0 : Int) < 256 ^ wd := Int.pow_pos (by omega)
    obtain ⟨q, hq⟩ : ∃ q, v / 2 ^ (8 * wd) = q := ⟨_, rfl⟩
    have hq0 : (q == 0) = false := by
      have : 1 ≤ q := by
        rw [← hq, shift_width v wd (by omega)]
        exact (Int.le_ediv_iff_mul_le hpos).2 (by omega)
      simp; omega
    have hq1 : (q != 0) = true := by simpa using hq0
    refine (callsIn_wide (n := 3)).1 ?_
    refine callsIn_of_wp_marks Try.func30 rfl trivial ?_ rfl
    simp only [Try.ntmps30, List.size_toArray, List.length_cons, List.length_nil, Nat.reduceAdd, Nat.reduceSub, Array.replicate_succ, Array.replicate_zero, List.push_toArray, List.append_toArray, List.nil_append, List.cons_append]
    gi_wp2_with (refine ⟨trivial, ?_⟩; gi_at_call 36; refine (callsIn_wide.2 (checkNumber_any _ _ _ _ _ _ (by unfold maxLen; omega) (by omega))).mono ?_; rintro e w' ⟨rfl, rfl⟩; rw [he])
    refine ⟨_, ?_, rfl, (Below.refl _ w).alloc (Nat.le_refl _) _⟩
    simp [results, Try.results30, go_sem]

/-- **field.Put**: nil and an error; or a new row with the number's bytes; nothing that was there has turned. -/
theorem put_any (a : Option Addr) (len cap : Nat) (zs : List Int) (at' n v : Int) (w : World) (hr : Row w.heap.size w a len cap zs) (ha : at' ≤ 9223372036854775807) :
    Calls Try.prog 30 #[.slice a len cap, .int .i64 at', .int .i64 n, .int .i64 v] w fun e w' => Below w.heap.size w w' ∧
      ((putErr len at' n v ≠ 0 ∧ e = .returned (.tuple #[.slice none 0 0, .int .i64 (putErr len at' n v)])) ∨
       (putErr len at' n v = 0 ∧ ∃ g, e = .returned (.tuple #[.slice (some ⟨g, 0, none⟩) len len, .int .i64 0]) ∧ w.heap.size ≤ g ∧ Block w' g (put zs at'.toNat (digits n.toNat v)))) := by
  have hlen := hr.1
  have hcap := hr.2.2.1
  have hlc := hr.2.1
  rcases numErr_cases len at' n with h | h | ⟨h, at0, wd, rfl, rfl, hw, hat⟩
  · refine (put_err a len cap at' n v w (by unfold maxLen; omega) ha (by rw [h]; rfl)).mono ?_
    rintro e w' ⟨rfl, hb⟩
    have : putErr len at' n v = 1 := by unfold putErr; rw [h, if_neg (by omega)]
    exact ⟨hb, .inl ⟨by omega, ret_put (by omega)⟩⟩
  · refine (put_err a len cap at' n v w (by unfold maxLen; omega) ha (by rw [h]; rfl)).mono ?_
    rintro e w' ⟨rfl, hb⟩
    have : putErr len at' n v = 2 := by unfold putErr; rw [h, if_neg (by omega)]
    exact ⟨hb, .inl ⟨by omega, ret_put (by omega)⟩⟩
  · by_cases hv : v < 0 ∨ 256 ^ wd ≤ v
    · refine (put_val a len cap at0 wd v w (by omega) hw hat hv).mono ?_
      rintro e w' ⟨rfl, hb⟩
      have : putErr len at0 wd v = 3 := by
        unfold putErr
        rw [if_pos h, Int.toNat_natCast]
        by_cases h0 : v < 0
        · rw [if_pos h0]
        · rw [if_neg h0, if_neg (by omega)]
      exact ⟨hb, .inl ⟨by omega, ret_put (by omega)⟩⟩
    · obtain ⟨b, off, rfl, _, _⟩ := hr.2.2.2.2 (by omega)
      have : putErr len at0 wd v = 0 := by
        unfold putErr
        rw [if_pos h, Int.toNat_natCast, if_neg (by omega), if_pos (by omega)]
      refine (callsIn_wide.1 (put_ok b off len cap wd at0 v zs w hr hw hat (by omega) (by omega))).mono ?_
      rintro e w' ⟨g, rfl, hg, hB, hb⟩
      exact ⟨hb, .inr ⟨this, g, rfl, hg, by rw [Int.toNat_natCast, Int.toNat_natCast]; exact hB⟩⟩

theorem putErr_cases (len : Nat) (at' n v : Int) : putErr len at' n v = 0 ∨ putErr len at' n v = 1 ∨ putErr len at' n v = 2 ∨ putErr len at' n v = 3 := by
  unfold putErr
  rcases numErr_cases len at' n with h | h | ⟨h, _⟩
  · rw [h, if_neg (by omega)]; omega
  · rw [h, if_neg (by omega)]; omega
  · rw [if_pos h]
    split
    · omega
    · split <;> omega

theorem putErr_zero {len : Nat} {at' n v : Int} (h : putErr len at' n v = 0) : ∃ at0 wd : Nat, at' = at0 ∧ n = wd ∧ (wd = 1 ∨ wd = 2 ∨ wd = 4) ∧ at0 + wd ≤ len ∧ 0 ≤ v ∧ v < 256 ^ wd := by
  unfold putErr at h
  rcases numErr_cases len at' n with h1 | h1 | ⟨h1, at0, wd, rfl, rfl, hw, hat⟩
  · rw [h1, if_neg (by omega)] at h; omega
  · rw [h1, if_neg (by omega)] at h; omega
  · rw [if_pos h1, Int.toNat_natCast] at h
    by_cases h2 : v < 0
    · rw [if_pos h2] at h; omega
    · rw [if_neg h2] at h
      by_cases h3 : v < 256 ^ wd
      · exact ⟨at0, wd, rfl, rfl, hw, hat, by omega, h3⟩
      · rw [if_neg h3] at h; omega

theorem put_bad (a : Option Addr) (len cap : Nat) (zs : List Int) (at' n v q : Int) (w : World) (hr : Row w.heap.size w a len cap zs) (ha : at' ≤ 9223372036854775807) (hq : putErr len at' n v = q) (h0 : q ≠ 0) :
    Calls Try.prog 30 #[.slice a len cap, .int .i64 at', .int .i64 n, .int .i64 v] w fun e w' => e = .returned (.tuple #[.slice none 0 0, .int .i64 q]) ∧ Below w.heap.size w w' := by
  subst hq
  refine (put_any a len cap zs at' n v w hr ha).mono ?_
  rintro e w' ⟨hb, ⟨_, rfl⟩ | ⟨h, _⟩⟩
  · exact ⟨rfl, hb⟩
  · exact absurd h h0

theorem put_good (a : Option Addr) (len cap : Nat) (zs : List Int) (at' n v : Int) (w : World) (hr : Row w.heap.size w a len cap zs) (ha : at' ≤ 9223372036854775807) (hq : putErr len at' n v = 0) :
    Calls Try.prog 30 #[.slice a len cap, .int .i64 at', .int .i64 n, .int .i64 v] w fun e w' => ∃ g, e = .returned (.tuple #[.slice (some ⟨g, 0, none⟩) len len, .int .i64 0]) ∧ w.heap.size ≤ g ∧ Block w' g (put zs at'.toNat (digits n.toNat v)) ∧ Below w.heap.size w w' := by
  refine (put_any a len cap zs at' n v w hr ha).mono ?_
  rintro e w' ⟨hb, ⟨h, _⟩ | ⟨_, g, rfl, hg, hB⟩⟩
  · exact absurd hq h
  · exact ⟨g, rfl, hg, hB, hb⟩

theorem getVal_put (zs : List Int) (at0 wd : Nat) (v : Int) (hw : wd = 1 ∨ wd = 2 ∨ wd = 4) (hat : at0 + wd ≤ zs.length) (h0 : 0 ≤ v) (h1 : v < 256 ^ wd) : getVal (put zs at0 (digits wd v)) at0 wd = v := by
  have hl := length_digits wd v
  have hlp : (put zs at0 (digits wd v)).length = zs.length := length_put _ _ _ (by omega)
  unfold getVal
  rw [hlp, numErr_ok hw hat, if_pos rfl, Int.toNat_natCast, Int.toNat_natCast]
  have := part_put zs at0 (digits wd v) (by omega)
  rw [hl] at this
  rw [this, num_digits wd v h0 h1]

/-- Put, then Get. -/
theorem get_back (len g at0 wd : Nat) (zs : List Int) (v : Int) (w : World) (hlen : zs.length = len) (hc : len ≤ 140737488351232) (hby : ∀ z ∈ zs, 0 ≤ z ∧ z ≤ 255) (hB : Block w g (put zs at0 (digits wd v))) (hw : wd = 1 ∨ wd = 2 ∨ wd = 4) (hat : at0 + wd ≤ len) (h0 : 0 ≤ v) (h1 : v < 256 ^ wd) :
    Calls Try.prog 39 #[.slice (some ⟨g, 0, none⟩) len len, .int .i64 (at0 : Int), .int .i64 (wd : Int)] w fun e w' => e = .returned (.tuple #[.int .i64 v, .int .i64 0]) ∧ Below w.heap.size w w' := by
  have hl := length_digits wd v
  have hr := hB.row (len := len) (by rw [length_put _ _ _ (by omega)]; exact hlen) hc (put_byte _ _ _ hby (digits_byte _ _))
  refine (get_any _ len len _ at0 wd w hr (by omega)).mono ?_
  rintro e w' ⟨rfl, hb⟩
  exact ⟨ret_two (getVal_put zs at0 wd v hw (by omega) h0 h1) (numErr_ok hw hat), hb⟩

end Go.Proofs.Ytmdkcoenjadieaa
