/- The walk through BitsTurns. -/
import Derived.Test.YtdgddlgdmkkejaaBWakes
import Derived.Test.YtdgddlgdmkkejaaGSame
namespace Go.Proofs.Ytdgddlgdmkkejaa
open Go.RowKit Go.Shelf
set_option linter.unusedVariables false

set_option maxRecDepth 100000 in
set_option maxHeartbeats 4000000 in
theorem turns_bad (a : Option Addr) (len cap : Nat) (zs : List Int) (i j : Int) (on : Bool) (w : World) (hr : Row w.heap.size w a len cap zs) (hin : inB len i = false) :
    Calls Try.prog 7 #[.slice a len cap, .int .i64 i, .int .i64 j, .bool on] w fun e w' => e = .returned (.bool true) ∧ Below w.heap.size w w' := by
  have hl := hr.2.2.1.1
  have KW := hide (wakes_any w)
  have KS := hide (fun w => set_bad a len cap i on w hl hin)
  clear hr hin
  go_enter Try.func7, Try.ntmps7
  go_wp2_with (first
    | (go_at_call 9; refine (unhide KW).mono ?_; rintro e w1 ⟨rfl, hb1⟩; have B1 := hide hb1; clear hb1)
    | (go_at_call 12; refine (unhide KS _).mono ?_; rintro e w2 ⟨rfl, rfl⟩))
  go_ret
  exact ⟨rfl, B1.out⟩

set_option maxRecDepth 100000 in
set_option maxHeartbeats 4000000 in
theorem turns_good (a : Option Addr) (len cap : Nat) (zs : List Int) (n : Nat) (j : Int) (on : Bool) (w : World) (hr : Row w.heap.size w a len cap zs) (hn : n < 8 * len) :
    Calls Try.prog 7 #[.slice a len cap, .int .i64 (n : Int), .int .i64 j, .bool on] w fun e w' => e = .returned (.bool true) ∧ Below w.heap.size w w' := by
  have hl := hr.2.2.1.1
  have hby := hr.2.2.2.1
  have hlen := hr.1
  have hby2 := setB_byts hby n on
  have hlen2 : (setB zs n on).length = len := by rw [setB_length]; exact hlen
  have HH := hide hr.has
  have KW := hide (wakes_any w)
  have KS : Hid (∀ w1, Below w.heap.size w w1 → Calls Try.prog 12 #[.slice a len cap, .int .i64 (n : Int), .bool on] w1 fun e w' => ∃ g, e = .returned (.tuple #[.slice (some ⟨g, 0, none⟩) len len, .int .i64 0]) ∧ Hid (Has w' (some ⟨g, 0, none⟩) len (setB zs n on)) ∧ Hid (Below w.heap.size w w')) :=
    fun w1 hb => (set_good a len cap zs n on w1 (HH.out.later hb) hby hl hn).mono fun e w' ⟨h, h1, h2⟩ => ⟨_, h, h1.out.has hlen2, hb.trans (h2.mono hb.size)⟩
  have g1 : gv len (setB zs n on) (n : Int) = on := by rw [gv, inB_of hn, Int.toNat_natCast, bitAt_setB_same hby n (by omega)]; rfl
  have g2 : ge len (n : Int) = 0 := by rw [ge, inB_of hn]; rfl
  have g3 : (n : Int) ≠ j → gv len (setB zs n on) j = gv len zs j := by
    intro hne
    unfold gv
    cases hij : inB len j
    · rfl
    · obtain ⟨m, rfl, hm⟩ := inB_nat hij
      rw [Int.toNat_natCast, bitAt_setB_other hby n m (by omega) (by omega)]
  have g4 : gv len zs (n : Int) = bitAt zs n := by rw [gv, inB_of hn, Int.toNat_natCast, Bool.true_and]
  have g5 := setB_back hby n (by omega) on
  -- Get of the new bytes
  have KG : Hid (∀ w1 g i, Hid (Has w1 (some ⟨g, 0, none⟩) len (setB zs n on)) → Hid (Below w.heap.size w w1) → Calls Try.prog 10 #[.slice (some ⟨g, 0, none⟩) len len, .int .i64 i] w1 fun e w' => e = .returned (.tuple #[.bool (gv len (setB zs n on) i), .int .i64 (ge len i)]) ∧ Hid (Has w' (some ⟨g, 0, none⟩) len (setB zs n on)) ∧ Hid (Below w.heap.size w w')) :=
    fun w1 g i h hb => (get_any _ len len _ i w1 h.out hby2 (by omega)).mono fun e w' ⟨h', m, hm⟩ => ⟨h', by subst hm; exact h.out.drewN m, by subst hm; exact below_drewN hb.out m⟩
  have KH : Hid (∀ w1 g i, Hid (Has w1 (some ⟨g, 0, none⟩) len (setB zs n on)) → Hid (Below w.heap.size w w1) → Calls Try.prog 10 #[.slice a len cap, .int .i64 i] w1 fun e w' => e = .returned (.tuple #[.bool (gv len zs i), .int .i64 (ge len i)]) ∧ Hid (Has w' (some ⟨g, 0, none⟩) len (setB zs n on)) ∧ Hid (Below w.heap.size w w')) :=
    fun w1 g i h hb => (get_any a len cap zs i w1 (HH.out.later hb.out) hby (by omega)).mono fun e w' ⟨h', m, hm⟩ => ⟨h', by subst hm; exact h.out.drewN m, by subst hm; exact below_drewN hb.out m⟩
  have KT : Hid (∀ w1 g, Hid (Has w1 (some ⟨g, 0, none⟩) len (setB zs n on)) → Hid (Below w.heap.size w w1) → Calls Try.prog 12 #[.slice (some ⟨g, 0, none⟩) len len, .int .i64 (n : Int), .bool (bitAt zs n)] w1 fun e w' => ∃ g', e = .returned (.tuple #[.slice (some ⟨g', 0, none⟩) len len, .int .i64 0]) ∧ Hid (Has w' (some ⟨g', 0, none⟩) len zs ∧ Has w' a len zs) ∧ Hid (Below w.heap.size w w')) :=
    fun w1 g h hb => (set_good _ len len _ n (bitAt zs n) w1 h.out hby2 hl hn).mono fun e w' ⟨h', h1, h2⟩ => ⟨_, h', by
      have := h1.out
      rw [g5] at this
      exact ⟨this.has hlen, HH.out.later (hb.out.trans (h2.mono hb.out.size))⟩, hb.out.trans (h2.mono hb.out.size)⟩
  generalize bitAt zs n = B at *
  generalize setB zs n on = ys at *
  clear hr hby hby2 hlen hlen2 g5
  have G3 := hide g3
  clear g3
  go_enter Try.func7, Try.ntmps7
  go_wp2_with fail
  go_at_call 9
  refine (unhide KW).mono ?_
  rintro e w1 ⟨rfl, hb1⟩
  have B1 := hide hb1
  clear hb1 KW
  go_wp2_with fail
  go_at_call 12
  refine (unhide KS _ B1.out).mono ?_
  rintro e w2 ⟨g, rfl, H2, B2⟩
  clear B1 KS
  go_wp2_with fail
  go_at_call 10
  refine (unhide KG _ _ _ H2 B2).mono ?_
  rw [g1, g2]
  rintro e w3 ⟨rfl, H3, B3⟩
  clear H2 B2 g1
  go_wp2_with fail
  go_at_call 10
  refine (unhide KG _ _ _ H3 B3).mono ?_
  rintro e w4 ⟨rfl, H4, B4⟩
  clear H3 B3 KG
  go_wp2_with fail
  go_at_call 10
  refine (unhide KH _ _ _ H4 B4).mono ?_
  rintro e w5 ⟨rfl, H5, B5⟩
  clear H4 B4
  by_cases hij : (n : Int) = j
  · subst hij
    generalize gv len ys (n : Int) = V1 at *
    rw [g4, g2]
    go_wp2_with fail
    go_at_call 10
    refine (unhide KH _ _ _ H5 B5).mono ?_
    rw [g4, g2]
    rintro e w6 ⟨rfl, H6, B6⟩
    clear H5 B5 KH
    go_wp2_with fail
    go_at_call 12
    refine (unhide KT _ _ H6 B6).mono ?_
    rintro e w7 ⟨g', rfl, H7, B7⟩
    clear H6 B6 KT
    go_wp2_with fail
    go_at_call 14
    refine (same_true _ a len len cap zs _ H7.out.1 H7.out.2).mono ?_
    rintro e w8 ⟨rfl, rfl⟩
    go_wp2_with fail
    go_ret
    exact ⟨rfl, B7.out⟩
  · have := unhide G3 hij
    rw [this]
    generalize gv len zs j = V1 at *
    generalize ge len j = E1 at *
    clear this G3
    go_wp2_with fail
    go_at_call 10
    refine (unhide KH _ _ _ H5 B5).mono ?_
    rw [g4, g2]
    rintro e w6 ⟨rfl, H6, B6⟩
    clear H5 B5 KH
    go_wp2_with fail
    go_at_call 12
    refine (unhide KT _ _ H6 B6).mono ?_
    rintro e w7 ⟨g', rfl, H7, B7⟩
    clear H6 B6 KT
    go_wp2_with fail
    go_at_call 14
    refine (same_true _ a len len cap zs _ H7.out.1 H7.out.2).mono ?_
    rintro e w8 ⟨rfl, rfl⟩
    go_wp2_with fail
    go_ret
    exact ⟨rfl, B7.out⟩

theorem turns_walk (a : Option Addr) (len cap : Nat) (zs : List Int) (i j : Int) (on : Bool) (w : World) (hr : Row w.heap.size w a len cap zs) :
    Calls Try.prog 7 #[.slice a len cap, .int .i64 i, .int .i64 j, .bool on] w fun e w' => e = .returned (.bool true) ∧ Below w.heap.size w w' := by
  by_cases hin : inB len i = true
  · obtain ⟨n, rfl, hn⟩ := inB_nat hin
    exact turns_good a len cap zs n j on w hr hn
  · exact turns_bad a len cap zs i j on w hr (by simpa using hin)

end Go.Proofs.Ytdgddlgdmkkejaa
