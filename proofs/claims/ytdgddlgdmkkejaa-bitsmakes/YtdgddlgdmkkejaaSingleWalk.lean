/- The walks through BitsSingle, BitsParts and BitsMakes. -/
import Derived.Test.YtdgddlgdmkkejaaBWakes
import Derived.Test.YtdgddlgdmkkejaaBFirst
import Derived.Test.YtdgddlgdmkkejaaGSame
namespace Go.Proofs.Ytdgddlgdmkkejaa
open Go.RowKit Go.Shelf
set_option linter.unusedVariables false

set_option maxRecDepth 100000 in
set_option maxHeartbeats 4000000 in
theorem single_walk (a : Option Addr) (len cap : Nat) (zs : List Int) (i : Int) (on : Bool) (w : World) (hr : Row w.heap.size w a len cap zs) :
    Calls Try.prog 3 #[.slice a len cap, .int .i64 i, .bool on] w fun e w' => e = .returned (.bool true) ∧ Below w.heap.size w w' := by
  have hl := hr.2.2.1.1
  have hby := hr.2.2.2.1
  have KW := hide (wakes_any w)
  have KG : Hid (∀ w1, Below w.heap.size w w1 → Calls Try.prog 10 #[.slice a len cap, .int .i64 i] w1 fun e w' => e = .returned (.tuple #[.bool (gv len zs i), .int .i64 (ge len i)]) ∧ Hid (Below w.heap.size w w')) :=
    fun w1 hb => (get_any a len cap zs i w1 (hr.has.later hb) hby (by omega)).mono fun e w' ⟨h, m, hm⟩ => ⟨h, by subst hm; exact below_drewN hb m⟩
  have KR : Hid (∀ w1, Below w.heap.size w w1 → Calls Try.prog 11 #[.slice a len cap, .int .i64 i] w1 fun e w' => e = .returned (.tuple #[.bool (gv len zs i), .int .i64 (ge len i)]) ∧ w1 = w') :=
    fun w1 hb => refGet_any a len cap zs i w1 (hr.has.later hb) hby (by omega)
  have KS : Hid (∀ w1, Below w.heap.size w w1 → Calls Try.prog 12 #[.slice a len cap, .int .i64 i, .bool on] w1 fun e w' => ∃ a' l c, e = .returned (.tuple #[.slice a' l c, .int .i64 (ge len i)]) ∧ Hid (Has w' a' l (sv len zs i on)) ∧ Hid (Below w.heap.size w w')) :=
    fun w1 hb => (set_any a len cap zs i on w1 (hr.has.later hb) hby hl).mono fun e w' ⟨a', l, c, h, h1, h2⟩ => ⟨a', l, c, h, h1.out.2.has, hb.trans (h2.out.mono hb.size)⟩
  have KT : Hid (∀ w1 a1 l1, Hid (Below w.heap.size w w1) → Hid (Has w1 a1 l1 (sv len zs i on)) → Calls Try.prog 13 #[.slice a len cap, .int .i64 i, .bool on] w1 fun e w' => ∃ a' c, e = .returned (.tuple #[.slice a' l1 c, .int .i64 (ge len i)]) ∧ Hid (Has w' a1 l1 (sv len zs i on)) ∧ Hid (Has w' a' l1 (sv len zs i on)) ∧ Hid (Below w.heap.size w w')) :=
    fun w1 a1 l1 hb hh => (refSet_any a len cap zs i on w1 (hr.has.later hb.out) hby hl).mono fun e w' ⟨a', l, c, h, h1, h2⟩ => by
      obtain rfl : l = l1 := h1.out.2.1.symm.trans hh.out.1
      exact ⟨a', c, h, hh.out.later h2.out, h1.out.2.has, hb.out.trans (h2.out.mono hb.out.size)⟩
  generalize gv len zs i = V at *
  generalize ge len i = E at *
  generalize sv len zs i on = S at *
  clear hr hby
  go_enter Try.func3, Try.ntmps3
  go_wp2_with fail
  go_at_call 9
  refine (unhide KW).mono ?_
  rintro e w1 ⟨rfl, hb1⟩
  have B1 := hide hb1
  clear hb1 KW
  go_wp2_with fail
  go_at_call 10
  refine (unhide KG _ B1.out).mono ?_
  rintro e w2 ⟨rfl, B2⟩
  clear B1 KG
  go_wp2_with fail
  go_at_call 11
  refine (unhide KR _ B2.out).mono ?_
  rintro e w3 ⟨rfl, rfl⟩
  clear KR
  go_wp2_with fail
  go_at_call 12
  refine (unhide KS _ B2.out).mono ?_
  rintro e w3 ⟨a1, l1, c1, rfl, H1, B3⟩
  clear KS B2
  go_wp2_with fail
  go_at_call 13
  refine (unhide KT _ _ _ B3 H1).mono ?_
  rintro e w4 ⟨a2, c2, rfl, H2, H3, B4⟩
  clear KT B3 H1
  go_wp2_with fail
  go_at_call 14
  refine (same_true a1 a2 l1 c1 c2 S _ H2.out H3.out).mono ?_
  rintro e w5 ⟨rfl, rfl⟩
  go_wp2_with fail
  go_ret
  exact ⟨rfl, B4.out⟩

set_option maxRecDepth 100000 in
set_option maxHeartbeats 4000000 in
theorem parts_walk (a : Option Addr) (len cap : Nat) (zs : List Int) (f t : Int) (w : World) (hr : Row w.heap.size w a len cap zs) :
    Calls Try.prog 4 #[.slice a len cap, .int .i64 f, .int .i64 t] w fun e w' => e = .returned (.bool true) ∧ Below w.heap.size w w' := by
  have hl := hr.2.2.1.1
  have hby := hr.2.2.2.1
  have KW := hide (wakes_any w)
  have KC : Hid (∀ w1, Below w.heap.size w w1 → Calls Try.prog 15 #[.slice a len cap, .int .i64 f, .int .i64 t] w1 fun e w' => e = .returned (.tuple #[.int .i64 (cv len zs f t), .int .i64 (ce len f t)]) ∧ Hid (Below w.heap.size w w')) :=
    fun w1 hb => (count_any a len cap zs f t w1 (hr.has.later hb) hby (by omega)).mono fun e w' ⟨h, m, hm⟩ => ⟨h, by subst hm; exact below_drewN hb m⟩
  have KR : Hid (∀ w1, Below w.heap.size w w1 → Calls Try.prog 16 #[.slice a len cap, .int .i64 f, .int .i64 t] w1 fun e w' => e = .returned (.tuple #[.int .i64 (cv len zs f t), .int .i64 (ce len f t)]) ∧ w1 = w') :=
    fun w1 hb => refCount_any a len cap zs f t w1 (hr.has.later hb) hby (by omega)
  have KF : Hid (∀ w1, Below w.heap.size w w1 → Calls Try.prog 17 #[.slice a len cap, .int .i64 f, .int .i64 t] w1 fun e w' => e = .returned (.tuple #[.int .i64 (fv len zs f t), .int .i64 (fe len zs f t)]) ∧ Hid (Below w.heap.size w w')) :=
    fun w1 hb => (first_any a len cap zs f t w1 (hr.has.later hb) hby (by omega)).mono fun e w' ⟨h, m, hm⟩ => ⟨h, by subst hm; exact below_drewN hb m⟩
  have KT : Hid (∀ w1, Below w.heap.size w w1 → Calls Try.prog 18 #[.slice a len cap, .int .i64 f, .int .i64 t] w1 fun e w' => e = .returned (.tuple #[.int .i64 (fv len zs f t), .int .i64 (fe len zs f t)]) ∧ w1 = w') :=
    fun w1 hb => refFirst_any a len cap zs f t w1 (hr.has.later hb) hby (by omega)
  generalize cv len zs f t = V at *
  generalize ce len f t = E at *
  generalize fv len zs f t = V' at *
  generalize fe len zs f t = E' at *
  clear hr hby
  go_enter Try.func4, Try.ntmps4
  go_wp2_with fail
  go_at_call 9
  refine (unhide KW).mono ?_
  rintro e w1 ⟨rfl, hb1⟩
  have B1 := hide hb1
  clear hb1 KW
  go_wp2_with fail
  go_at_call 15
  refine (unhide KC _ B1.out).mono ?_
  rintro e w2 ⟨rfl, B2⟩
  clear B1 KC
  go_wp2_with fail
  go_at_call 16
  refine (unhide KR _ B2.out).mono ?_
  rintro e w3 ⟨rfl, rfl⟩
  clear KR
  go_wp2_with fail
  go_at_call 17
  refine (unhide KF _ B2.out).mono ?_
  rintro e w3 ⟨rfl, B3⟩
  clear KF B2
  go_wp2_with fail
  go_at_call 18
  refine (unhide KT _ B3.out).mono ?_
  rintro e w4 ⟨rfl, rfl⟩
  clear KT
  go_wp2_with fail
  go_ret
  exact ⟨rfl, B3.out⟩

set_option maxRecDepth 100000 in
set_option maxHeartbeats 4000000 in
theorem makes_walk (n : Int) (a : Option Addr) (len cap : Nat) (ns : List Int) (w : World) (hr : IHas w a len ns) (hl : len ≤ 140737488351232) :
    Calls Try.prog 5 #[.int .i64 n, .slice a len cap] w fun e w' => e = .returned (.bool true) ∧ Below w.heap.size w w' := by
  have KW := hide (wakes_any w)
  have KS : Hid (∀ w1, Below w.heap.size w w1 → Calls Try.prog 19 #[.int .i64 n, .slice a len cap] w1 fun e w' => ∃ a' l c, e = .returned (.tuple #[.slice a' l c, .int .i64 (mke n ns)]) ∧ Hid (Has w' a' l (mkv n ns)) ∧ Hid (Below w.heap.size w w')) :=
    fun w1 hb => (make_any a len cap n ns w1 (hr.later hb) hl).mono fun e w' ⟨a', l, c, h, h1, h2⟩ => ⟨a', l, c, h, h1.out.2.has, hb.trans (h2.out.mono hb.size)⟩
  have KT : Hid (∀ w1 a1 l1, Hid (Below w.heap.size w w1) → Hid (Has w1 a1 l1 (mkv n ns)) → Calls Try.prog 20 #[.int .i64 n, .slice a len cap] w1 fun e w' => ∃ a' c, e = .returned (.tuple #[.slice a' l1 c, .int .i64 (mke n ns)]) ∧ Hid (Has w' a1 l1 (mkv n ns)) ∧ Hid (Has w' a' l1 (mkv n ns)) ∧ Hid (Below w.heap.size w w')) :=
    fun w1 a1 l1 hb hh => (refMake_any a len cap n ns w1 (hr.later hb.out) hl).mono fun e w' ⟨a', l, c, h, h1, h2⟩ => by
      obtain rfl : l = l1 := h1.out.2.1.symm.trans hh.out.1
      exact ⟨a', c, h, hh.out.later h2.out, h1.out.2.has, hb.out.trans (h2.out.mono hb.out.size)⟩
  generalize mke n ns = E at *
  generalize mkv n ns = S at *
  clear hr
  go_enter Try.func5, Try.ntmps5
  go_wp2_with fail
  go_at_call 9
  refine (unhide KW).mono ?_
  rintro e w1 ⟨rfl, hb1⟩
  have B1 := hide hb1
  clear hb1 KW
  go_wp2_with fail
  go_at_call 19
  refine (unhide KS _ B1.out).mono ?_
  rintro e w3 ⟨a1, l1, c1, rfl, H1, B3⟩
  clear KS B1
  go_wp2_with fail
  go_at_call 20
  refine (unhide KT _ _ _ B3 H1).mono ?_
  rintro e w4 ⟨a2, c2, rfl, H2, H3, B4⟩
  clear KT B3 H1
  go_wp2_with fail
  go_at_call 14
  refine (same_true a1 a2 l1 c1 c2 S _ H2.out H3.out).mono ?_
  rintro e w5 ⟨rfl, rfl⟩
  go_wp2_with fail
  go_ret
  exact ⟨rfl, B4.out⟩

end Go.Proofs.Ytdgddlgdmkkejaa
