/- The walk through the statement on the spectrum of bytes and on powers of i. -/
import Derived.Test.YtkbngbilgebgiaaTRefOf
import Derived.Test.YtkbngbilgebgiaaTPowersWalk
namespace Go.Proofs.Ytkbngbilgebgiaa
open Go.RowKit Go.Shelf Ieee
set_option linter.unusedVariables false

theorem bytes_walk (a : Option Addr) (len cap : Nat) (zs : List Int) (n : Int) (w : World) (hH : Has w a len zs) (hby : ∀ z ∈ zs, 0 ≤ z ∧ z ≤ 255) (hl : len ≤ 1099511627776) :
    Calls Try.prog 3 #[.slice a len cap, .int .i64 n] w fun e w' => e = .returned (.bool true) ∧ Below w.heap.size w w' := by
  have HH : Hid (Has w a len zs ∧ (∀ z ∈ zs, 0 ≤ z ∧ z ≤ 255) ∧ len ≤ 1099511627776) := ⟨hH, hby, hl⟩
  clear hH hby hl
  go_enter Try.func3, Try.ntmps3
  go_wp2_with fail
  go_at_call 7
  refine (wakes_any _).mono ?_
  rintro e w0 ⟨rfl, b0⟩
  have B0 : Hid (Below w.heap.size w w0) := b0
  clear b0
  go_wp2_with fail
  go_at_call 8
  refine (of_any a len cap zs _ ((unhide HH).1.below (unhide B0)) (unhide HH).2.1 (unhide HH).2.2).mono ?_
  rintro e w1 ⟨V, rfl, hV, b1⟩
  have B1 : Hid (Below w.heap.size w w1) := (unhide B0).trans (b1.mono (unhide B0).size)
  have HV : Hid (C4 V (sre (sm zs len)) (sim (sm zs len))) := hV
  clear B0 b1 hV
  go_wp2_with fail
  go_at_call 9
  refine (refOf_any a len cap zs _ ((unhide HH).1.below (unhide B1)) (unhide HH).2.1 (unhide HH).2.2).mono ?_
  rintro e w2 ⟨U, rfl, hU, b2⟩
  have B2 : Hid (Below w.heap.size w w2) := (unhide B1).trans (b2.mono (unhide B1).size)
  have q := eql_yes (unhide HV) hU
  clear B1 b2 hU HV
  go_wp2_with fail
  go_at_call 10
  refine (power_any _ _).mono ?_
  rintro e w3 ⟨x1, y1, rfl, P1, b3⟩
  have B3 : Hid (Below w.heap.size w w3) := (unhide B2).trans (b3.mono (unhide B2).size)
  have H1 : Hid (Rc x1 y1 (ire n) (iim n)) := P1
  clear B2 b3 q P1
  go_wp2_with fail
  go_at_call 11
  refine (refPower_any _ _).mono ?_
  rintro e w4 ⟨x2, y2, rfl, P2, rfl⟩
  have o1 := order_yes (unhide H1).1 P2.1 rfl
  have o2 := order_yes (unhide H1).2 P2.2 rfl
  clear P2 H1
  go_wp2
  go_ret
  exact ⟨rfl, unhide B3⟩
end Go.Proofs.Ytkbngbilgebgiaa
