/- FieldNumbers' walk. -/
import Derived.Test.YtmdnkkmlgjpdcaaRefPut
import Derived.Test.YtmdnkkmlgjpdcaaBackWalk
namespace Go.Proofs.Ytmdnkkmlgjpdcaa
open Go.RowKit Go.Shelf
set_option linter.unusedVariables false

set_option maxRecDepth 100000 in
set_option maxHeartbeats 1000000 in
theorem num_walk (a : Option Addr) (len cap : Nat) (zs : List Int) (at' n v : Int) (w : World) (hr : Row w.heap.size w a len cap zs) (ha : at' ≤ 9223372036854775807) :
    Calls Try.prog 3 #[.slice a len cap, .int .i64 at', .int .i64 n, .int .i64 v] w fun e w' => e = .returned (.bool true) ∧ Below w.heap.size w w' := by
  obtain ⟨x, hx⟩ : ∃ x, getVal zs at' n = x := ⟨_, rfl⟩
  obtain ⟨y, hy⟩ : ∃ y, numErr len at' n = y := ⟨_, rfl⟩
  have K1 : Hid (∀ w1, Below w.heap.size w w1 → Calls Try.prog 9 #[.slice a len cap, .int .i64 at', .int .i64 n] w1 fun e w' => e = .returned (.tuple #[.int .i64 x, .int .i64 y]) ∧ Below w.heap.size w w') := by
    intro w1 hb
    refine (get_any a len cap zs at' n w1 (hr.below hb hb.size) ha).mono ?_
    rintro e w' ⟨rfl, hb'⟩
    exact ⟨ret_two hx hy, hb.trans (hb'.mono hb.size)⟩
  have K2 : Hid (∀ w1, Below w.heap.size w w1 → Calls Try.prog 10 #[.slice a len cap, .int .i64 at', .int .i64 n] w1 fun e w' => e = .returned (.tuple #[.int .i64 x, .int .i64 y]) ∧ Below w.heap.size w w') := by
    intro w1 hb
    refine (refGet_any a len cap zs at' n w1 (hr.below hb hb.size) ha).mono ?_
    rintro e w' ⟨rfl, rfl⟩
    exact ⟨ret_two hx hy, hb⟩
  by_cases h0 : putErr len at' n v = 0
  · obtain ⟨pt, hpt⟩ : ∃ pt, put zs at'.toNat (digits n.toNat v) = pt := ⟨_, rfl⟩
    have K3 : Hid (∀ w1, Below w.heap.size w w1 → Calls Try.prog 11 #[.slice a len cap, .int .i64 at', .int .i64 n, .int .i64 v] w1 fun e w' =>
        ∃ g, e = .returned (.tuple #[.slice (some ⟨g, 0, none⟩) len len, .int .i64 0]) ∧ Hid (Block w' g pt) ∧ Below w.heap.size w w') := by
      intro w1 hb
      refine (put_good _ len cap zs at' n v w1 (hr.below hb hb.size) ha h0).mono ?_
      rintro e w' ⟨g, rfl, hg, hB, hb'⟩
      exact ⟨g, rfl, by rw [← hpt]; exact hB, hb.trans (hb'.mono hb.size)⟩
    have hpl : pt.length = len := by
      obtain ⟨at0, wd, rfl, rfl, hw, hat, _, _⟩ := putErr_zero h0
      rw [← hpt, Int.toNat_natCast, Int.toNat_natCast, length_put _ _ _ (by rw [length_digits, hr.1]; exact hat), hr.1]
    have K4 : Hid (∀ g w1, Hid (Block w1 g pt) → Below w.heap.size w w1 → Calls Try.prog 12 #[.slice a len cap, .int .i64 at', .int .i64 n, .int .i64 v] w1 fun e w' =>
        ∃ g' cap', e = .returned (.tuple #[.slice (some ⟨g', 0, none⟩) len cap', .int .i64 0]) ∧ Hid (Block w' g pt ∧ Owns w' g' len pt) ∧ Below w.heap.size w w') := by
      intro g w1 hB hb
      refine (refPut_any _ len cap zs at' n v w1 (hr.below hb hb.size) ha).mono ?_
      rintro e w' ⟨hb', ⟨h, _⟩ | ⟨_, g', cap', rfl, hg, hO⟩⟩
      · exact absurd h0 h
      · exact ⟨g', cap', rfl, ⟨(unhide hB).below hb' (unhide hB).lt, by rw [← hpt]; exact hO⟩, hb.trans (hb'.mono hb.size)⟩
    have K5 : Hid (∀ g g' cap' w1, Hid (Block w1 g pt ∧ Owns w1 g' len pt) → Calls Try.prog 13 #[.slice (some ⟨g, 0, none⟩) len len, .slice (some ⟨g', 0, none⟩) len cap'] w1 fun e w' => e = .returned (.bool true) ∧ w1 = w') := by
      intro g g' cap' w1 h
      exact same_true _ _ len len cap' pt w1 (h.out.1.has hpl) h.out.2.has
    clear hr hx hy hpt hpl h0
    go_enter Try.func3, Try.ntmps3
    go_wp2_with (first
      | (go_at_call 8; refine (wakes_any _).mono ?_; rintro e w1 ⟨rfl, hb1⟩)
      | (go_at_call 9; refine (unhide K1 _ hb1).mono ?_; rintro e w2 ⟨rfl, hb2⟩)
      | (go_at_call 10; refine (unhide K2 _ hb2).mono ?_; rintro e w3 ⟨rfl, hb3⟩)
      | (go_at_call 11; refine (unhide K3 _ hb3).mono ?_; rintro e w4 ⟨g, rfl, hB4, hb4⟩)
      | (go_at_call 12; refine (unhide K4 _ _ hB4 hb4).mono ?_; rintro e w5 ⟨g', cap', rfl, hB5, hb5⟩)
      | (go_at_call 13; refine (unhide K5 _ _ _ _ hB5).mono ?_; rintro e w6 ⟨rfl, rfl⟩))
    go_ret
    exact ⟨rfl, hb5⟩
  · obtain ⟨q, hq⟩ : ∃ q, putErr len at' n v = q := ⟨_, rfl⟩
    rw [hq] at h0
    have K3 : Hid (∀ w1, Below w.heap.size w w1 → Calls Try.prog 11 #[.slice a len cap, .int .i64 at', .int .i64 n, .int .i64 v] w1 fun e w' =>
        e = .returned (.tuple #[.slice none 0 0, .int .i64 q]) ∧ Below w.heap.size w w') := by
      intro w1 hb
      refine (put_bad _ len cap zs at' n v q w1 (hr.below hb hb.size) ha hq h0).mono ?_
      rintro e w' ⟨rfl, hb'⟩
      exact ⟨rfl, hb.trans (hb'.mono hb.size)⟩
    have K4 : Hid (∀ w1, Below w.heap.size w w1 → Calls Try.prog 12 #[.slice a len cap, .int .i64 at', .int .i64 n, .int .i64 v] w1 fun e w' =>
        e = .returned (.tuple #[.slice none 0 0, .int .i64 q]) ∧ Below w.heap.size w w') := by
      intro w1 hb
      refine (refPut_any _ len cap zs at' n v w1 (hr.below hb hb.size) ha).mono ?_
      rintro e w' ⟨hb', ⟨h, rfl⟩ | ⟨h, _⟩⟩
      · exact ⟨ret_put hq, hb.trans (hb'.mono hb.size)⟩
      · rw [hq] at h; exact absurd h h0
    clear hr hx hy hq h0
    go_enter Try.func3, Try.ntmps3
    go_wp2_with (first
      | (go_at_call 8; refine (wakes_any _).mono ?_; rintro e w1 ⟨rfl, hb1⟩)
      | (go_at_call 9; refine (unhide K1 _ hb1).mono ?_; rintro e w2 ⟨rfl, hb2⟩)
      | (go_at_call 10; refine (unhide K2 _ hb2).mono ?_; rintro e w3 ⟨rfl, hb3⟩)
      | (go_at_call 11; refine (unhide K3 _ hb3).mono ?_; rintro e w4 ⟨rfl, hb4⟩)
      | (go_at_call 12; refine (unhide K4 _ hb4).mono ?_; rintro e w5 ⟨rfl, hb5⟩)
      | (go_at_call 13; refine (same_true none none 0 0 0 [] _ (Has.nil _) (Has.nil _)).mono ?_; rintro e w6 ⟨rfl, rfl⟩))
    go_ret
    exact ⟨rfl, hb5⟩

end Go.Proofs.Ytmdnkkmlgjpdcaa
