/- The walk of WalkOrders. -/
import Derived.Test.YtghhlcacnggjhaaVROrd
namespace Go.Proofs.Ytghhlcacnggjhaa
open Go.RowKit Go.Shelf
set_option linter.unusedVariables false
set_option maxRecDepth 100000

set_option maxHeartbeats 8000000 in
theorem orders_walk (p r : List UInt8) (a : Option Addr) (n c : Nat) (xs : List (List UInt8)) (w : World) (hp : p.length ≤ 9223372036854775807) (hr : r.length ≤ 9223372036854775807) (h : HasS w a n xs) (hc : n ≤ c) (hl : n ≤ 8796093021952) (hm : ∀ j : Nat, (xs[j]?.getD []).length ≤ 9223372036854775807) :
    Calls Try.prog 4 #[.string (St p), .string (St r), .slice a n c] w fun e w' => e = .returned (.bool true) ∧ Below w.heap.size w w' := by
  have KW := hide (wakes_any w)
  obtain ⟨q, E, hP1, hP2⟩ := aboves p r hp hr
  have KA := hide hP1
  have KB := hide hP2
  have KO : Hid (∀ u, Below w.heap.size w u → Calls Try.prog 18 #[.slice a n c] u fun e w' => (∃ a' c' ys E, e = .returned (.tuple #[.slice a' ys.length c', .int .i64 E]) ∧ OrdR xs ys E ∧ OwnS u.heap.size w' a' ys.length c' ys) ∧ Below u.heap.size u w') := fun u hb => order_r a n c xs u (h.below hb (Nat.le_refl _)) hl hm
  have KR : Hid (∀ u, Below w.heap.size w u → Calls Try.prog 19 #[.slice a n c] u fun e w' => (∃ a' c' ys E, e = .returned (.tuple #[.slice a' ys.length c', .int .i64 E]) ∧ OrdR xs ys E ∧ HasS w' a' ys.length ys) ∧ Below u.heap.size u w') := fun u hb => rorder_any a n c xs u (h.below hb (Nat.le_refl _)) hl hm
  have hlen := h.1
  clear h hm hp hr hP1 hP2
  generalize St p = sp at *
  generalize St r = sr at *
  go_enter Try.func4, Try.ntmps4
  go_wp2_with fail
  refine (unhide KW).mono ?_
  rintro e w1 ⟨rfl, hb⟩
  have HB := hide hb
  have K1 := hide (KA.out w1)
  clear KW hb KA
  go_wp2_with fail
  refine (unhide K1).mono ?_
  rintro e w2 ⟨rfl, hb⟩
  have HB := hide (HB.out.trans (hb.mono HB.out.size))
  have K2 := hide (KB.out w2)
  clear K1 hb KB
  go_wp2_with fail
  refine (unhide K2).mono ?_
  rintro e w3 ⟨rfl, hb⟩
  have HB := hide (HB.out.trans (hb.mono HB.out.size))
  have K3 := hide (KO.out w3 HB.out)
  clear K2 hb KO
  go_wp2_with fail
  refine (unhide K3).mono ?_
  rintro e w4 ⟨⟨a4, c4, ys, E4, rfl, hr4, ho⟩, hb⟩
  have HB := hide (HB.out.trans (hb.mono HB.out.size))
  have H4 := hide ho.has
  have HR := hide hr4
  have K4 := hide (KR.out w4 HB.out)
  have hM0 : ys.length ≤ n := by have := hr4.len; omega
  clear K3 hb KR ho hr4
  generalize hM : ys.length = M at *
  go_wp2_with fail
  refine (unhide K4).mono ?_
  rintro e w5 ⟨⟨a5, c5, zs, E5, rfl, hr5, hh5⟩, hb⟩
  obtain ⟨rfl, rfl⟩ := HR.out.unique hr5
  have HB := hide (HB.out.trans (hb.mono HB.out.size))
  have H4 := hide (H4.out.below hb (Nat.le_refl _))
  rw [hM] at hh5 ⊢
  have KE := hide (sameT_true a4 a5 M c4 c5 zs w5 H4.out hh5 (by omega))
  clear K4 hb hh5 hr5 H4
  go_wp2_with fail
  refine (unhide KE).mono ?_
  rintro e w6 ⟨rfl, t, rfl⟩
  clear KE
  go_wp2_with fail
  go_ret
  exact ⟨rfl, HB.out.os, HB.out.tape, HB.out.output, HB.out.size, HB.out.block⟩

end Go.Proofs.Ytghhlcacnggjhaa
