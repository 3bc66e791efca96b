/- FieldTexts' walk. -/
import Derived.Test.YtmdnkkmlgjpdcaaRefPutText
import Derived.Test.YtmdnkkmlgjpdcaaRefText2
import Derived.Test.YtmdnkkmlgjpdcaaWakes
namespace Go.Proofs.Ytmdnkkmlgjpdcaa
open Go.RowKit Go.Shelf
set_option linter.unusedVariables false

theorem putText_bad' (a : Option Addr) (len cap : Nat) (zs : List Int) (at' n : Int) (s : ByteArray) (q : Int) (w : World) (hr : Row w.heap.size w a len cap zs) (ha : at' ≤ 9223372036854775807) (hn : -9223372036854775808 ≤ n) (hs0 : s.size ≤ 140737488351232) (hq : ptErr len at' n s = q) (h0 : q ≠ 0) :
    Calls Try.prog 16 #[.slice a len cap, .int .i64 at', .int .i64 n, .string s] w fun e w' => e = .returned (.tuple #[.slice none 0 0, .int .i64 q]) ∧ Below w.heap.size w w' := by
  subst hq
  refine (putText_any a len cap zs at' n s w hr ha hn hs0).mono ?_
  rintro e w' ⟨hb, ⟨_, rfl⟩ | ⟨h, _⟩⟩
  · exact ⟨rfl, hb⟩
  · exact absurd h h0
theorem putText_good (a : Option Addr) (len cap : Nat) (zs : List Int) (at' n : Int) (s : ByteArray) (w : World) (hr : Row w.heap.size w a len cap zs) (ha : at' ≤ 9223372036854775807) (hn : -9223372036854775808 ≤ n) (hs0 : s.size ≤ 140737488351232) (hq : ptErr len at' n s = 0) :
    Calls Try.prog 16 #[.slice a len cap, .int .i64 at', .int .i64 n, .string s] w fun e w' => ∃ g, e = .returned (.tuple #[.slice (some ⟨g, 0, none⟩) len len, .int .i64 0]) ∧ w.heap.size ≤ g ∧ Block w' g (put zs at'.toNat (ptData n.toNat s)) ∧ Below w.heap.size w w' := by
  refine (putText_any a len cap zs at' n s w hr ha hn hs0).mono ?_
  rintro e w' ⟨hb, ⟨h, _⟩ | ⟨_, rfl, hB⟩⟩
  · exact absurd hq h
  · exact ⟨_, rfl, Nat.le_refl _, hB, hb⟩
theorem ptErr_zero {len : Nat} {at' n : Int} {s : ByteArray} (h : ptErr len at' n s = 0) : ∃ at0 n0 : Nat, at' = at0 ∧ n = n0 ∧ at0 + n0 ≤ len ∧ s.size ≤ n0 ∧ hasZ s = false := by
  rcases ptErr_cases len at' n s with ⟨h1, he⟩ | ⟨at0, n0, rfl, rfl, hat, h1, (⟨h2, he⟩ | ⟨h2, h3, he⟩ | ⟨h2, h3, he⟩)⟩
  · omega
  · omega
  · omega
  · exact ⟨at0, n0, rfl, rfl, hat, h2, h3⟩

set_option maxRecDepth 100000 in
set_option maxHeartbeats 1000000 in
theorem text_walk (a : Option Addr) (len cap : Nat) (zs : List Int) (at' n : Int) (s : ByteArray) (w : World) (hr : Row w.heap.size w a len cap zs) (ha : at' ≤ 9223372036854775807) (hn : -9223372036854775808 ≤ n) (hs0 : s.size ≤ 140737488351232) :
    Calls Try.prog 4 #[.slice a len cap, .int .i64 at', .int .i64 n, .string s] w fun e w' => e = .returned (.bool true) ∧ Below w.heap.size w w' := by
  have hlc := hr.2.1
  have hcm := hr.2.2.1
  obtain ⟨t, ht⟩ : ∃ t, textVal zs at' n = t := ⟨_, rfl⟩
  obtain ⟨y, hy⟩ : ∃ y, textErr zs at' n = y := ⟨_, rfl⟩
  obtain ⟨z, hz⟩ : ∃ z, zeroVal zs at' n = z := ⟨_, rfl⟩
  obtain ⟨j, hj⟩ : ∃ j, partErr len at' n = j := ⟨_, rfl⟩
  have K1 : Hid (∀ w1, Below w.heap.size w w1 → Calls Try.prog 14 #[.slice a len cap, .int .i64 at', .int .i64 n] w1 fun e w' => e = .returned (.tuple #[.string t, .int .i64 y]) ∧ w1 = w') := by
    intro w1 hb
    have := text_any a len cap zs at' n w1 (hr.below hb hb.size).has hlc (by omega) ha hn
    rwa [ht, hy] at this
  have K2 : Hid (∀ w1, Below w.heap.size w w1 → Calls Try.prog 15 #[.slice a len cap, .int .i64 at', .int .i64 n] w1 fun e w' => e = .returned (.tuple #[.string t, .int .i64 y]) ∧ w1 = w') := by
    intro w1 hb
    have := refText_any a len cap zs at' n w1 (hr.below hb hb.size).has hlc (by omega) ha
    rwa [ht, hy] at this
  have K6 : Hid (∀ w1, Below w.heap.size w w1 → Calls Try.prog 18 #[.slice a len cap, .int .i64 at', .int .i64 n] w1 fun e w' => e = .returned (.tuple #[.bool z, .int .i64 j]) ∧ w1 = w') := by
    intro w1 hb
    have := zero_any a len cap zs at' n w1 (hr.below hb hb.size).has hlc (by omega) ha hn
    rwa [hz, hj] at this
  have K7 : Hid (∀ w1, Below w.heap.size w w1 → Calls Try.prog 19 #[.slice a len cap, .int .i64 at', .int .i64 n] w1 fun e w' => e = .returned (.tuple #[.bool z, .int .i64 j]) ∧ w1 = w') := by
    intro w1 hb
    have := refZero_any a len cap zs at' n w1 (hr.below hb hb.size).has (by omega) ha
    rwa [hz, hj] at this
  by_cases h0 : ptErr len at' n s = 0
  · obtain ⟨pt, hpt⟩ : ∃ pt, put zs at'.toNat (ptData n.toNat s) = pt := ⟨_, rfl⟩
    have K3 : Hid (∀ w1, Below w.heap.size w w1 → Calls Try.prog 16 #[.slice a len cap, .int .i64 at', .int .i64 n, .string s] w1 fun e w' =>
        ∃ g, e = .returned (.tuple #[.slice (some ⟨g, 0, none⟩) len len, .int .i64 0]) ∧ Hid (Block w' g pt) ∧ Below w.heap.size w w') := by
      intro w1 hb
      refine (putText_good _ len cap zs at' n s w1 (hr.below hb hb.size) ha hn hs0 h0).mono ?_
      rintro e w' ⟨g, rfl, hg, hB, hb'⟩
      exact ⟨g, rfl, by rw [← hpt]; exact hB, hb.trans (hb'.mono hb.size)⟩
    have hpl : pt.length = len := by
      obtain ⟨at0, n0, rfl, rfl, hat, hs, _⟩ := ptErr_zero h0
      rw [← hpt, Int.toNat_natCast, Int.toNat_natCast, length_put _ _ _ (by rw [ptData_length hs, hr.1]; exact hat), hr.1]
    have K4 : Hid (∀ g w1, Hid (Block w1 g pt) → Below w.heap.size w w1 → Calls Try.prog 17 #[.slice a len cap, .int .i64 at', .int .i64 n, .string s] w1 fun e w' =>
        ∃ a' cap', e = .returned (.tuple #[.slice a' len cap', .int .i64 0]) ∧ Hid (Block w' g pt ∧ Has w' a' len pt) ∧ Below w.heap.size w w') := by
      intro g w1 hB hb
      refine (refPutText_any _ len cap zs at' n s w1 (hr.below hb hb.size) ha hs0).mono ?_
      rintro e w' ⟨hb', ⟨h, _⟩ | ⟨_, a', cap', rfl, hO⟩⟩
      · exact absurd h0 h
      · exact ⟨a', cap', rfl, ⟨(unhide hB).below hb' (unhide hB).lt, by rw [← hpt]; exact hO⟩, hb.trans (hb'.mono hb.size)⟩
    have K5 : Hid (∀ g a' cap' w1, Hid (Block w1 g pt ∧ Has w1 a' len pt) → Calls Try.prog 13 #[.slice (some ⟨g, 0, none⟩) len len, .slice a' len cap'] w1 fun e w' => e = .returned (.bool true) ∧ w1 = w') := by
      intro g a' cap' w1 h
      exact same_true _ _ len len cap' pt w1 (h.out.1.has hpl) h.out.2
    clear hr ht hy hz hj hpt hpl h0
    go_enter Try.func4, Try.ntmps4
    go_wp2_with (first
      | (go_at_call 8; refine (wakes_any _).mono ?_; rintro e w1 ⟨rfl, hb1⟩)
      | (go_at_call 14; refine (unhide K1 _ hb1).mono ?_; rintro e w2 ⟨rfl, rfl⟩)
      | (go_at_call 15; refine (unhide K2 _ hb1).mono ?_; rintro e w3 ⟨rfl, rfl⟩)
      | (go_at_call 16; refine (unhide K3 _ hb1).mono ?_; rintro e w4 ⟨g, rfl, hB4, hb4⟩)
      | (go_at_call 17; refine (unhide K4 _ _ hB4 hb4).mono ?_; rintro e w5 ⟨a', cap', rfl, hB5, hb5⟩)
      | (go_at_call 18; refine (unhide K6 _ hb5).mono ?_; rintro e w6 ⟨rfl, rfl⟩)
      | (go_at_call 19; refine (unhide K7 _ hb5).mono ?_; rintro e w7 ⟨rfl, rfl⟩)
      | (go_at_call 13; refine (unhide K5 _ _ _ _ hB5).mono ?_; rintro e w8 ⟨rfl, rfl⟩))
    go_ret
    exact ⟨by simp, hb5⟩
  · obtain ⟨q, hq⟩ : ∃ q, ptErr len at' n s = q := ⟨_, rfl⟩
    rw [hq] at h0
    have K3 : Hid (∀ w1, Below w.heap.size w w1 → Calls Try.prog 16 #[.slice a len cap, .int .i64 at', .int .i64 n, .string s] w1 fun e w' =>
        e = .returned (.tuple #[.slice none 0 0, .int .i64 q]) ∧ Below w.heap.size w w') := by
      intro w1 hb
      refine (putText_bad' _ len cap zs at' n s q w1 (hr.below hb hb.size) ha hn hs0 hq h0).mono ?_
      rintro e w' ⟨rfl, hb'⟩
      exact ⟨rfl, hb.trans (hb'.mono hb.size)⟩
    have K4 : Hid (∀ w1, Below w.heap.size w w1 → Calls Try.prog 17 #[.slice a len cap, .int .i64 at', .int .i64 n, .string s] w1 fun e w' =>
        e = .returned (.tuple #[.slice none 0 0, .int .i64 q]) ∧ Below w.heap.size w w') := by
      intro w1 hb
      refine (refPutText_any _ len cap zs at' n s w1 (hr.below hb hb.size) ha hs0).mono ?_
      rintro e w' ⟨hb', ⟨h, rfl⟩ | ⟨h, _⟩⟩
      · exact ⟨ret_put hq, hb.trans (hb'.mono hb.size)⟩
      · rw [hq] at h; exact absurd h h0
    clear hr ht hy hz hj hq h0
    go_enter Try.func4, Try.ntmps4
    go_wp2_with (first
      | (go_at_call 8; refine (wakes_any _).mono ?_; rintro e w1 ⟨rfl, hb1⟩)
      | (go_at_call 14; refine (unhide K1 _ hb1).mono ?_; rintro e w2 ⟨rfl, rfl⟩)
      | (go_at_call 15; refine (unhide K2 _ hb1).mono ?_; rintro e w3 ⟨rfl, rfl⟩)
      | (go_at_call 16; refine (unhide K3 _ hb1).mono ?_; rintro e w4 ⟨rfl, hb4⟩)
      | (go_at_call 17; refine (unhide K4 _ hb4).mono ?_; rintro e w5 ⟨rfl, hb5⟩)
      | (go_at_call 18; refine (unhide K6 _ hb5).mono ?_; rintro e w6 ⟨rfl, rfl⟩)
      | (go_at_call 19; refine (unhide K7 _ hb5).mono ?_; rintro e w7 ⟨rfl, rfl⟩)
      | (go_at_call 13; refine (same_true none none 0 0 0 [] _ (Has.nil _) (Has.nil _)).mono ?_; rintro e w8 ⟨rfl, rfl⟩))
    go_ret
    exact ⟨by simp, hb5⟩

end Go.Proofs.Ytmdnkkmlgjpdcaa
