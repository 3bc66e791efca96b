/- The walk of WalkPaths. -/
import Derived.Test.YtghhlcacnggjhaaVWakes
import Derived.Test.YtghhlcacnggjhaaVRJoin
namespace Go.Proofs.Ytghhlcacnggjhaa
open Go.RowKit Go.Shelf
set_option linter.unusedVariables false
set_option maxRecDepth 100000

theorem parents (p : List UInt8) (hp : p.length ≤ 9223372036854775807) : ∃ (x y : ByteArray) (E : Int),
    (∀ u, Calls Try.prog 13 #[.string (St p)] u fun e w' => e = .returned (.tuple #[.string x, .string y, .int .i64 E]) ∧ Below u.heap.size u w') ∧
    (∀ u, Calls Try.prog 14 #[.string (St p)] u fun e w' => e = .returned (.tuple #[.string x, .string y, .int .i64 E]) ∧ Below u.heap.size u w') := by
  cases h : spl p with
  | none => exact ⟨_, _, _, fun u => parent_no u hp h, fun u => rparent_no u hp h⟩
  | some ns =>
    by_cases h0 : ns = []
    · subst h0; exact ⟨_, _, _, fun u => parent_root u h, fun u => rparent_root u h⟩
    · rw [← List.dropLast_concat_getLast h0] at h
      exact ⟨_, _, _, fun u => parent_yes u h, fun u => rparent_yes u h⟩

set_option maxHeartbeats 8000000 in
theorem paths_walk (p : List UInt8) (a : Option Addr) (n c : Nat) (xs : List (List UInt8)) (w : World) (hp : p.length ≤ 9223372036854775807) (h : HasS w a n xs) (hc : n ≤ c) (hl : n ≤ 8796093021952) (hm : ∀ j : Nat, (xs[j]?.getD []).length ≤ 9223372036854775807) :
    Calls Try.prog 3 #[.string (St p), .slice a n c] w fun e w' => e = .returned (.bool true) ∧ Below w.heap.size w w' := by
  have KW := hide (wakes_any w)
  have KS : Hid (∀ u, Calls Try.prog 9 #[.string (St p)] u fun e w' => ∃ a c, e = .returned (.tuple #[.slice a ((spl p).getD []).length c, .int .i64 (splE p)]) ∧ OwnS u.heap.size w' a ((spl p).getD []).length c ((spl p).getD []) ∧ Below u.heap.size u w') := fun u => split_any p u hp
  have KT : Hid (∀ u, Calls Try.prog 10 #[.string (St p)] u fun e w' => ∃ a c, e = .returned (.tuple #[.slice a ((spl p).getD []).length c, .int .i64 (splE p)]) ∧ OwnS u.heap.size w' a ((spl p).getD []).length c ((spl p).getD []) ∧ Below u.heap.size u w') := fun u => rsplit_any p u hp
  have KJ : Hid (∀ u, Below w.heap.size w u → Calls Try.prog 11 #[.slice a n c] u fun e w' => e = .returned (.tuple #[.string (St (jnV xs)), .int .i64 (jnE xs)]) ∧ Below u.heap.size u w') := fun u hb => join_any a n c xs u (h.below hb (Nat.le_refl _)) hc (by omega) hm
  have KR : Hid (∀ u, Below w.heap.size w u → Calls Try.prog 12 #[.slice a n c] u fun e w' => e = .returned (.tuple #[.string (St (jnV xs)), .int .i64 (jnE xs)]) ∧ Below u.heap.size u w') := fun u hb => rjoin_any a n c xs u (h.below hb (Nat.le_refl _)) (by omega) hm
  obtain ⟨sx, sy, E, hP1, hP2⟩ := parents p hp
  have KP := hide hP1
  have KQ := hide hP2
  have HLn : Hid (((spl p).getD []).length ≤ 200) := by
    cases hs : spl p with
    | none => show ([] : List (List UInt8)).length ≤ 200; simp
    | some ns => have := ((okN_iff ns).1 (spl_some hs).1).1; show ns.length ≤ 200; omega
  clear h hm hp hP1 hP2
  generalize (spl p).getD [] = ns at *
  generalize splE p = E0 at *
  generalize St p = sp at *
  generalize St (jnV xs) = sj at *
  generalize jnE xs = Ej at *
  generalize hL : ns.length = L at *
  go_enter Try.func3, Try.ntmps3
  go_wp2_with fail
  refine (unhide KW).mono ?_
  rintro e w1 ⟨rfl, hb⟩
  have HB := hide hb
  have K1 := hide (KS.out w1)
  clear KW hb KS
  go_wp2_with fail
  refine (unhide K1).mono ?_
  rintro e w2 ⟨al, cl, rfl, ho, hb⟩
  have HB := hide (HB.out.trans (hb.mono HB.out.size))
  have HO := hide ho
  have K2 := hide (KT.out w2)
  clear K1 hb ho KT
  go_wp2_with fail
  refine (unhide K2).mono ?_
  rintro e w3 ⟨am, cm, rfl, ho, hb⟩
  have HB := hide (HB.out.trans (hb.mono HB.out.size))
  have HO := hide (HO.out.below hb (Nat.le_refl _)).has
  have HO2 := hide ho.has
  have K3 := hide (KJ.out w3 HB.out)
  clear K2 hb ho KJ
  go_wp2_with fail
  refine (unhide K3).mono ?_
  rintro e w4 ⟨rfl, hb⟩
  have HB := hide (HB.out.trans (hb.mono HB.out.size))
  have HO := hide (HO.out.below hb (Nat.le_refl _))
  have HO2 := hide (HO2.out.below hb (Nat.le_refl _))
  have K4 := hide (KR.out w4 HB.out)
  clear K3 hb KR
  go_wp2_with fail
  refine (unhide K4).mono ?_
  rintro e w5 ⟨rfl, hb⟩
  have HB := hide (HB.out.trans (hb.mono HB.out.size))
  have HO := hide (HO.out.below hb (Nat.le_refl _))
  have HO2 := hide (HO2.out.below hb (Nat.le_refl _))
  have K5 := hide (KP.out w5)
  clear K4 hb KP
  go_wp2_with fail
  refine (unhide K5).mono ?_
  rintro e w6 ⟨rfl, hb⟩
  have HB := hide (HB.out.trans (hb.mono HB.out.size))
  have HO := hide (HO.out.below hb (Nat.le_refl _))
  have HO2 := hide (HO2.out.below hb (Nat.le_refl _))
  have K6 := hide (KQ.out w6)
  clear K5 hb KQ
  go_wp2_with fail
  refine (unhide K6).mono ?_
  rintro e w7 ⟨rfl, hb⟩
  have HB := hide (HB.out.trans (hb.mono HB.out.size))
  have HO := hide (HO.out.below hb (Nat.le_refl _))
  have HO2 := hide (HO2.out.below hb (Nat.le_refl _))
  have KE := hide (sameT_true al am L cl cm ns w7 HO.out HO2.out (by have := HLn.out; omega))
  clear K6 hb HO HO2
  go_wp2_with fail
  refine (unhide KE).mono ?_
  rintro e w8 ⟨rfl, q, rfl⟩
  clear KE
  go_wp2_with fail
  go_ret
  exact ⟨rfl, HB.out.os, HB.out.tape, HB.out.output, HB.out.size, HB.out.block⟩

end Go.Proofs.Ytghhlcacnggjhaa
