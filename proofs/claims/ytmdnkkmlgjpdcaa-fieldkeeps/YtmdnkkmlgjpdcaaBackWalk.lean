/- FieldBack's walk. -/
import Derived.Test.YtmdnkkmlgjpdcaaPutAll
import Derived.Test.YtmdnkkmlgjpdcaaWakes
import Derived.Deep.QuietTactic
import Derived.BigQuiet
namespace Go.Proofs.Ytmdnkkmlgjpdcaa
open Go.RowKit Go.Shelf
set_option linter.unusedVariables false

theorem putErr_cases (len : Nat) (at' n v : Int) : putErr len at' n v = 0 ∨ putErr len at' n v = 1 ∨ putErr len at' n v = 2 ∨ putErr len at' n v = 3 := by
  unfold putErr
  rcases numErr_cases len at' n with h | h | ⟨h, _⟩
  · rw [h, if_neg (by omega)]; omega
  · rw [h, if_neg (by omega)]; omega
  · rw [if_pos h]
    split
    · omega
    · split <;> omega

theorem putErr_zero {len : Nat} {at' n v : Int} (h : putErr len at' n v = 0) : ∃ at0 wd : Nat, at' = at0 ∧ n = wd ∧ (wd = 1 ∨ wd = 2 ∨ wd = 4) ∧ at0 + wd ≤ len ∧ 0 ≤ v ∧ v < 256 ^ wd := by
  unfold putErr at h
  rcases numErr_cases len at' n with h1 | h1 | ⟨h1, at0, wd, rfl, rfl, hw, hat⟩
  · rw [h1, if_neg (by omega)] at h; omega
  · rw [h1, if_neg (by omega)] at h; omega
  · rw [if_pos h1, Int.toNat_natCast] at h
    by_cases h2 : v < 0
    · rw [if_pos h2] at h; omega
    · rw [if_neg h2] at h
      by_cases h3 : v < 256 ^ wd
      · exact ⟨at0, wd, rfl, rfl, hw, hat, by omega, h3⟩
      · rw [if_neg h3] at h; omega

theorem put_bad (a : Option Addr) (len cap : Nat) (zs : List Int) (at' n v q : Int) (w : World) (hr : Row w.heap.size w a len cap zs) (ha : at' ≤ 9223372036854775807) (hq : putErr len at' n v = q) (h0 : q ≠ 0) :
    Calls Try.prog 11 #[.slice a len cap, .int .i64 at', .int .i64 n, .int .i64 v] w fun e w' => e = .returned (.tuple #[.slice none 0 0, .int .i64 q]) ∧ Below w.heap.size w w' := by
  subst hq
  refine (put_any a len cap zs at' n v w hr ha).mono ?_
  rintro e w' ⟨hb, ⟨_, rfl⟩ | ⟨h, _⟩⟩
  · exact ⟨rfl, hb⟩
  · exact absurd h h0

theorem put_good (a : Option Addr) (len cap : Nat) (zs : List Int) (at' n v : Int) (w : World) (hr : Row w.heap.size w a len cap zs) (ha : at' ≤ 9223372036854775807) (hq : putErr len at' n v = 0) :
    Calls Try.prog 11 #[.slice a len cap, .int .i64 at', .int .i64 n, .int .i64 v] w fun e w' => ∃ g, e = .returned (.tuple #[.slice (some ⟨g, 0, none⟩) len len, .int .i64 0]) ∧ w.heap.size ≤ g ∧ Block w' g (put zs at'.toNat (digits n.toNat v)) ∧ Below w.heap.size w w' := by
  refine (put_any a len cap zs at' n v w hr ha).mono ?_
  rintro e w' ⟨hb, ⟨h, _⟩ | ⟨_, g, rfl, hg, hB⟩⟩
  · exact absurd hq h
  · exact ⟨g, rfl, hg, hB, hb⟩

set_option maxRecDepth 100000 in
set_option maxHeartbeats 1000000 in
theorem back_bad (a : Option Addr) (len cap : Nat) (zs : List Int) (at' n v : Int) (w : World) (hr : Row w.heap.size w a len cap zs) (ha : at' ≤ 9223372036854775807) (h0 : putErr len at' n v ≠ 0) :
    Calls Try.prog 5 #[.slice a len cap, .int .i64 at', .int .i64 n, .int .i64 v] w fun e w' => e = .returned (.bool true) ∧ Below w.heap.size w w' := by
  have key : ∀ q : Int, q ≠ 0 → putErr len at' n v = q → ∀ w1, Below w.heap.size w w1 → Calls Try.prog 11 #[.slice a len cap, .int .i64 at', .int .i64 n, .int .i64 v] w1 fun e w' => e = .returned (.tuple #[.slice none 0 0, .int .i64 q]) ∧ Below w.heap.size w w' := by
    intro q hq hp w1 hb
    refine (put_bad a len cap zs at' n v q w1 (hr.below hb hb.size) ha hp hq).mono ?_
    rintro e w' ⟨rfl, hb'⟩
    exact ⟨rfl, hb.trans (hb'.mono hb.size)⟩
  rcases putErr_cases len at' n v with h | h | h | h
  · exact absurd h h0
  all_goals
    have K := hide (key _ (by omega) h)
    clear key h0 h
    go_enter Try.func5, Try.ntmps5
    go_wp2_with (first
      | (go_at_call 8; refine (wakes_any _).mono ?_; rintro e w1 ⟨rfl, hb1⟩)
      | (go_at_call 11; refine (unhide K _ hb1).mono ?_; rintro e w2 ⟨rfl, hb2⟩))
    go_ret
    exact ⟨rfl, hb2⟩

theorem getVal_put (zs : List Int) (at0 wd : Nat) (v : Int) (hw : wd = 1 ∨ wd = 2 ∨ wd = 4) (hat : at0 + wd ≤ zs.length) (h0 : 0 ≤ v) (h1 : v < 256 ^ wd) : getVal (put zs at0 (digits wd v)) at0 wd = v := by
  have hl := length_digits wd v
  have hlp : (put zs at0 (digits wd v)).length = zs.length := length_put _ _ _ (by omega)
  unfold getVal
  rw [hlp, numErr_ok hw hat, if_pos rfl, Int.toNat_natCast, Int.toNat_natCast]
  have := part_put zs at0 (digits wd v) (by omega)
  rw [hl] at this
  rw [this, num_digits wd v h0 h1]

/-- Put, then Get. -/
theorem get_back (len g at0 wd : Nat) (zs : List Int) (v : Int) (w : World) (hlen : zs.length = len) (hc : len ≤ 140737488351232) (hby : ∀ z ∈ zs, 0 ≤ z ∧ z ≤ 255) (hB : Block w g (put zs at0 (digits wd v))) (hw : wd = 1 ∨ wd = 2 ∨ wd = 4) (hat : at0 + wd ≤ len) (h0 : 0 ≤ v) (h1 : v < 256 ^ wd) :
    Calls Try.prog 9 #[.slice (some ⟨g, 0, none⟩) len len, .int .i64 (at0 : Int), .int .i64 (wd : Int)] w fun e w' => e = .returned (.tuple #[.int .i64 v, .int .i64 0]) ∧ Below w.heap.size w w' := by
  have hl := length_digits wd v
  have hr := hB.row (len := len) (by rw [length_put _ _ _ (by omega)]; exact hlen) hc (put_byte _ _ _ hby (digits_byte _ _))
  refine (get_any _ len len _ at0 wd w hr (by omega)).mono ?_
  rintro e w' ⟨rfl, hb⟩
  exact ⟨ret_two (getVal_put zs at0 wd v hw (by omega) h0 h1) (numErr_ok hw hat), hb⟩

set_option maxRecDepth 100000 in
set_option maxHeartbeats 2000000 in
theorem back_good (b off len cap at0 wd : Nat) (zs : List Int) (v : Int) (w : World) (hr : Row w.heap.size w (some ⟨b, off, none⟩) len cap zs) (hw : wd = 1 ∨ wd = 2 ∨ wd = 4) (hat : at0 + wd ≤ len) (h0 : 0 ≤ v) (h1 : v < 256 ^ wd) (hp : putErr len at0 wd v = 0) :
    Calls Try.prog 5 #[.slice (some ⟨b, off, none⟩) len cap, .int .i64 (at0 : Int), .int .i64 (wd : Int), .int .i64 v] w fun e w' => e = .returned (.bool true) ∧ Below w.heap.size w w' := by
  have hr0 := hr
  obtain ⟨hlen, hlc, hcm, hby, hcell⟩ := hr
  obtain ⟨b', off', e, hbl, hcs⟩ := hcell (by omega)
  cases e
  have K1 : Hid (∀ w1, Below w.heap.size w w1 → Calls Try.prog 11 #[.slice (some ⟨b, off, none⟩) len cap, .int .i64 (at0 : Int), .int .i64 (wd : Int), .int .i64 v] w1 fun e w' =>
      ∃ g, e = .returned (.tuple #[.slice (some ⟨g, 0, none⟩) len len, .int .i64 0]) ∧ Hid (w.heap.size ≤ g ∧ Block w' g (put zs at0 (digits wd v))) ∧ Below w.heap.size w w') := by
    intro w1 hb
    refine (put_good _ len cap zs at0 wd v w1 (hr0.below hb hb.size) (by omega) hp).mono ?_
    rintro e w' ⟨g, rfl, hg, hB, hb'⟩
    have := hb.size
    exact ⟨g, rfl, ⟨by omega, by simpa using hB⟩, hb.trans (hb'.mono hb.size)⟩
  have K2 : Hid (∀ g w1, Hid (w.heap.size ≤ g ∧ Block w1 g (put zs at0 (digits wd v))) → Below w.heap.size w w1 → Calls Try.prog 9 #[.slice (some ⟨g, 0, none⟩) len len, .int .i64 (at0 : Int), .int .i64 (wd : Int)] w1 fun e w' =>
      e = .returned (.tuple #[.int .i64 v, .int .i64 0]) ∧ Hid (Block w' g (put zs at0 (digits wd v))) ∧ Below w.heap.size w w') := by
    intro g w1 hB hb
    refine (get_back len g at0 wd zs v w1 hlen (by omega) hby hB.2 hw hat h0 h1).mono ?_
    rintro e w' ⟨rfl, hb'⟩
    exact ⟨rfl, hB.2.below hb' hB.2.lt, hb.trans (hb'.mono hb.size)⟩
  have hl := length_digits wd v
  have hother : ∀ k, k < len → (k < at0 ∨ at0 + wd ≤ k) → (put zs at0 (digits wd v))[k]?.getD 0 = zs[k]?.getD 0 := by
    intro k hk ho
    rw [put_other _ _ _ _ (by omega) (by omega)]
  have hlp : (put zs at0 (digits wd v)).length = len := by rw [length_put _ _ _ (by omega)]; exact hlen
  have HO := hide hother
  have HLP := hide hlp
  have HC := hide hcs
  have h00 : (v != v) = false := by simp
  clear hother hlp hcs hcell hr0 hby hp hl hw h1
  go_enter Try.func5, Try.ntmps5
  go_wp2_with (first
    | (go_at_call 8; refine (wakes_any _).mono ?_; rintro e w1 ⟨rfl, hb1⟩)
    | (go_at_call 11; refine (unhide K1 _ hb1).mono ?_; rintro e w2 ⟨g, rfl, hB2, hb2⟩)
    | (go_at_call 9; refine (unhide K2 _ _ hB2 hb2).mono ?_; rintro e w3 ⟨rfl, hB3, hb3⟩))
  go_loopw [13] (fun i wr => ∃ k : Nat, k ≤ len ∧ i = .int .i64 k ∧ Below w3.heap.size w3 wr) (fun i _ => len - (intOf i).toNat)
  case atStart => exact ⟨0, Nat.zero_le _, rfl, Below.refl _ _⟩
  case round =>
    obtain ⟨k, hk, rfl, hbr⟩ := hrel
    have hgz := (unhide hB3).lt
    have hsz3 := hb3.size
    by_cases hlt : k < len
    · have hcb : wr.cell? ⟨b, off + k, none⟩ = some (.int .u8 (zs[k]?.getD 0)) := by
        rw [hbr.cell (p := ⟨b, off + k, none⟩) (by show b < _; omega), hb3.cell (p := ⟨b, off + k, none⟩) hbl]; exact unhide HC k hlt
      have hcg : wr.cell? ⟨g, k, none⟩ = some (.int .u8 ((put zs at0 (digits wd v))[k]?.getD 0)) := by
        rw [hbr.cell (p := ⟨g, k, none⟩) hgz]; exact (unhide hB3).cell (by rw [unhide HLP]; exact hlt)
      have hltI : (k : Int) < (len : Int) := by omega
      by_cases hA : k < at0
      · have hd : decide ((k : Int) < (at0 : Int)) = true := by simpa using hA
        rw [unhide HO k hlt (.inl hA)] at hcg
        go_wp2
        go_quiet (fail)
        go_wp2
        exact ⟨⟨k + 1, by omega, by go_num, below_drewN hbr _⟩, by simp [intOf]; omega⟩
      · have hd : decide ((k : Int) < (at0 : Int)) = false := by simpa using hA
        by_cases hC : at0 + wd ≤ k
        · have hd2 : decide ((at0 : Int) + (wd : Int) ≤ (k : Int)) = true := by simp; omega
          rw [unhide HO k hlt (.inr hC)] at hcg
          go_wp2
          go_quiet (fail)
          go_wp2
          exact ⟨⟨k + 1, by omega, by go_num, below_drewN hbr _⟩, by simp [intOf]; omega⟩
        · have hd2 : decide ((at0 : Int) + (wd : Int) ≤ (k : Int)) = false := by simp; omega
          go_wp2
          go_quiet (fail)
          go_wp2
          exact ⟨⟨k + 1, by omega, by go_num, below_drewN hbr _⟩, by simp [intOf]; omega⟩
    · obtain rfl : k = len := by omega
      go_wp2
      go_ret
      exact ⟨rfl, hb3.trans (hbr.mono hsz3)⟩

/-- **FieldBack returns true, and nothing that was there has turned.** -/
theorem back_walk (a : Option Addr) (len cap : Nat) (zs : List Int) (at' n v : Int) (w : World) (hr : Row w.heap.size w a len cap zs) (ha : at' ≤ 9223372036854775807) :
    Calls Try.prog 5 #[.slice a len cap, .int .i64 at', .int .i64 n, .int .i64 v] w fun e w' => e = .returned (.bool true) ∧ Below w.heap.size w w' := by
  by_cases h0 : putErr len at' n v = 0
  · obtain ⟨at0, wd, rfl, rfl, hw, hat, h1, h2⟩ := putErr_zero h0
    obtain ⟨b, off, rfl, _, _⟩ := hr.2.2.2.2 (by omega)
    exact back_good b off len cap at0 wd zs v w hr hw hat h1 h2 h0
  · exact back_bad a len cap zs at' n v w hr ha h0

end Go.Proofs.Ytmdnkkmlgjpdcaa
