/- The walk of WalkBack. -/
import Derived.Test.YtghhlcacnggjhaaVWakes
namespace Go.Proofs.Ytghhlcacnggjhaa
open Go.RowKit Go.Shelf
set_option linter.unusedVariables false
set_option maxRecDepth 100000

theorem root_spl : spl [47] = some [] := spl_jn (ns := []) (by rw [okN_iff]; exact ⟨by decide, fun n hn => (by cases hn), by decide⟩)

theorem jnV_ok {xs : List (List UInt8)} (h : okN xs = true) : jnV xs = jn xs := if_pos h

theorem jnE_ok {xs : List (List UInt8)} (h : okN xs = true) : jnE xs = 0 := if_pos h

theorem okN_get {xs : List (List UInt8)} (h : okN xs = true) (j : Nat) : (xs[j]?.getD []).length ≤ 9223372036854775807 := by
  cases hj : xs[j]? with
  | none => simp
  | some y => have := (nmB_len (((okN_iff xs).1 h).2.1 y (List.mem_of_getElem? hj))).2; simp; omega

theorem join_ok (a : Option Addr) (c : Nat) {xs : List (List UInt8)} (w : World) (ok : okN xs = true) (h : HasS w a xs.length xs) (hc : xs.length ≤ c) :
    Calls Try.prog 11 #[.slice a xs.length c] w fun e w' => e = .returned (.tuple #[.string (St (jn xs)), .int .i64 0]) ∧ Below w.heap.size w w' := by
  have := join_any a xs.length c xs w h hc (by have := ((okN_iff xs).1 ok).1; omega) (okN_get ok)
  rwa [jnV_ok ok, jnE_ok ok] at this

set_option maxHeartbeats 1000000 in
theorem back_no {p : List UInt8} (w : World) (hp : p.length ≤ 140737488351232) (h : spl p = none) :
    Calls Try.prog 5 #[.string (St p)] w fun e w' => e = .returned (.bool true) ∧ Below w.heap.size w w' := by
  have KW := hide (wakes_any w)
  have K : Hid (∀ u, Calls Try.prog 9 #[.string (St p)] u fun e w' => (∃ a c, e = .returned (.tuple #[.slice a 0 c, .int .i64 16])) ∧ Below u.heap.size u w') := fun u => split_no u hp h
  clear h
  generalize St p = sp at *
  go_enter Try.func5, Try.ntmps5
  go_wp2_with fail
  refine (unhide KW).mono ?_
  rintro e w1 ⟨rfl, hb⟩
  have HB := hide hb
  clear KW hb
  go_wp2_with fail
  refine (unhide K _).mono ?_
  rintro e w2 ⟨⟨x, c, rfl⟩, hb⟩
  have HB := hide (HB.out.trans (hb.mono HB.out.size))
  clear K hb
  go_wp2_with fail
  go_ret
  exact ⟨rfl, HB.out⟩

set_option maxHeartbeats 2000000 in
theorem back_root {p : List UInt8} (w : World) (h : spl p = some []) :
    Calls Try.prog 5 #[.string (St p)] w fun e w' => e = .returned (.bool true) ∧ Below w.heap.size w w' := by
  obtain ⟨ok, rfl, _⟩ := spl_some h
  have KW := hide (wakes_any w)
  have K : Hid (∀ u, Calls Try.prog 9 #[.string ⟨#[47]⟩] u fun e w' => ∃ a c, e = .returned (.tuple #[.slice a 0 c, .int .i64 0]) ∧ OwnS u.heap.size w' a 0 c [] ∧ Below u.heap.size u w') := fun u => split_yes u h
  have KJ : Hid (∀ a c u, OwnS w.heap.size u a 0 c [] → Calls Try.prog 11 #[.slice a 0 c] u fun e w' => e = .returned (.tuple #[.string ⟨#[47]⟩, .int .i64 0]) ∧ Below u.heap.size u w') := fun a c u ho => join_ok (xs := []) a c u ok ho.has ho.2.1
  have KA : Hid (∀ u, Calls Try.prog 16 #[.string ⟨#[47]⟩, .string ⟨#[47]⟩] u fun e w' => e = .returned (.tuple #[.bool true, .int .i64 0]) ∧ Below u.heap.size u w') := fun u => above_yes u h h
  have KP : Hid (∀ u, Calls Try.prog 13 #[.string ⟨#[47]⟩] u fun e w' => e = .returned (.tuple #[.string ⟨#[]⟩, .string ⟨#[]⟩, .int .i64 1]) ∧ Below u.heap.size u w') := fun u => parent_root u h
  clear h ok
  show Calls _ _ #[.string ⟨#[47]⟩] _ _
  go_enter Try.func5, Try.ntmps5
  go_wp2_with fail
  refine (unhide KW).mono ?_
  rintro e w1 ⟨rfl, hb⟩
  have HB := hide hb
  clear KW hb
  go_wp2_with fail
  refine (unhide K _).mono ?_
  rintro e w2 ⟨x, c, rfl, ho, hb⟩
  have KJ := hide (KJ.out x c w2 (ho.base HB.out.size))
  have HB := hide (HB.out.trans (hb.mono HB.out.size))
  clear K hb ho
  go_wp2_with fail
  refine (unhide KJ).mono ?_
  rintro e w3 ⟨rfl, hb⟩
  have HB := hide (HB.out.trans (hb.mono HB.out.size))
  clear KJ hb
  go_wp2_with fail
  refine (unhide KA _).mono ?_
  rintro e w4 ⟨rfl, hb⟩
  have HB := hide (HB.out.trans (hb.mono HB.out.size))
  clear KA hb
  go_wp2_with fail
  refine (unhide KP _).mono ?_
  rintro e w5 ⟨rfl, hb⟩
  have HB := hide (HB.out.trans (hb.mono HB.out.size))
  clear KP hb
  go_wp2_with fail
  go_ret
  exact ⟨rfl, HB.out⟩

theorem app2S {B : Nat} {w : World} {a : Option Addr} {n c : Nat} {xs : List (List UInt8)} (h : OwnS B w a n c xs) (x : List UInt8) (hn : n + 1 ≤ 8796093022208) :
    ∃ a1 c1 w1 a2 c2 w2, (∀ ty, (Builtin.append_ #[22, 22] ty #[.slice (some ⟨w.heap.size, 0, none⟩) 0 0, .slice a n c]).run Try.prog (w.alloc (.cells #[] 9)) = .ok (.slice a1 n c1) w1) ∧
      (∀ ty, (Builtin.append_ #[22, 22] ty #[.slice a1 n c1, .slice (some ⟨w1.heap.size, 0, none⟩) 1 1]).run Try.prog (w1.alloc (.cells #[.string (St x)] 9)) = .ok (.slice a2 (n + 1) c2) w2) ∧ OwnS w.heap.size w2 a2 (n + 1) c2 (xs ++ [x]) ∧ Below w.heap.size w w2 := by
  have hb0 : Below w.heap.size w (w.alloc (.cells #[] 9)) := (Below.refl _ w).alloc (Nat.le_refl _) _
  have hO : OwnS w.heap.size (w.alloc (.cells #[] 9)) (some ⟨w.heap.size, 0, none⟩) 0 0 [] := ⟨rfl, Nat.le_refl _, by unfold maxLen; omega, .inr ⟨w.heap.size, #[], rfl, Nat.le_refl _, by rw [World.alloc_heap_new], rfl, rfl⟩⟩
  obtain ⟨a1, c1, w1, r1, o1, _, b1⟩ := run_appS hO hb0.size (m := n) c ((h.below hb0 (Nat.le_refl _)).has) (by omega)
  rw [Nat.zero_add] at r1 o1
  have hs1 := b1.size
  obtain ⟨a2, c2, w2, r2, o2, _, b2⟩ := app1S o1 (by have := hb0.size; omega) x (by omega)
  exact ⟨a1, c1, w1, a2, c2, w2, r1, r2, by simpa using o2, hb0.trans (b1.trans b2)⟩

set_option maxHeartbeats 8000000 in
theorem back_yes {p z : List UInt8} {ms : List (List UInt8)} (w : World) (h : spl p = some (ms ++ [z])) :
    Calls Try.prog 5 #[.string (St p)] w fun e w' => e = .returned (.bool true) ∧ Below w.heap.size w w' := by
  obtain ⟨ok, rfl, _⟩ := spl_some h
  have h16 := ((okN_iff _).1 ok).1
  have okm : okN ms = true := by
    have := okN_take ok ms.length
    rwa [List.take_left] at this
  have hm := spl_jn okm
  have hl : (ms ++ [z]).length = ms.length + 1 := by simp
  have KW := hide (wakes_any w)
  have K1 : Hid (∀ u, Calls Try.prog 9 #[.string (St (jn (ms ++ [z])))] u fun e w' => ∃ a c, e = .returned (.tuple #[.slice a (ms ++ [z]).length c, .int .i64 0]) ∧ OwnS u.heap.size w' a (ms ++ [z]).length c (ms ++ [z]) ∧ Below u.heap.size u w') := fun u => split_yes u h
  have K2 : Hid (∀ a c u, HasS u a (ms ++ [z]).length (ms ++ [z]) → (ms ++ [z]).length ≤ c → Calls Try.prog 11 #[.slice a (ms ++ [z]).length c] u fun e w' => e = .returned (.tuple #[.string (St (jn (ms ++ [z]))), .int .i64 0]) ∧ Below u.heap.size u w') := fun a c u ho hc => join_ok a c u ok ho hc
  have K3 : Hid (∀ u, Calls Try.prog 16 #[.string ⟨#[47]⟩, .string (St (jn (ms ++ [z])))] u fun e w' => e = .returned (.tuple #[.bool true, .int .i64 0]) ∧ Below u.heap.size u w') := fun u => above_yes u root_spl h
  have K4 : Hid (∀ u, Calls Try.prog 13 #[.string (St (jn (ms ++ [z])))] u fun e w' => e = .returned (.tuple #[.string (St (jn ms)), .string (St z), .int .i64 0]) ∧ Below u.heap.size u w') := fun u => parent_yes u h
  have K5 : Hid (∀ u, Calls Try.prog 9 #[.string (St (jn ms))] u fun e w' => ∃ a c, e = .returned (.tuple #[.slice a ms.length c, .int .i64 0]) ∧ OwnS u.heap.size w' a ms.length c ms ∧ Below u.heap.size u w') := fun u => split_yes u hm
  have K6 : Hid (∀ u, Calls Try.prog 16 #[.string (St (jn ms)), .string (St (jn (ms ++ [z])))] u fun e w' => e = .returned (.tuple #[.bool true, .int .i64 0]) ∧ Below u.heap.size u w') := fun u => by
    have := above_yes u hm h
    rwa [show abo ms (ms ++ [z]) = true by unfold abo; simp] at this
  have K7 : Hid (∀ u, Calls Try.prog 16 #[.string (St (jn (ms ++ [z]))), .string (St (jn ms))] u fun e w' => e = .returned (.tuple #[.bool false, .int .i64 0]) ∧ Below u.heap.size u w') := fun u => by
    have := above_yes u h hm
    rwa [show abo (ms ++ [z]) ms = false by unfold abo; simp; omega] at this
  have dne : ((St (jn (ms ++ [z]))).toList == [47]) = false := by
    rw [St_toList]
    have : jn (ms ++ [z]) ≠ [47] := fun e => by
      have := jn_inj ok ((okN_take ok 0 : okN [] = true)) (e : jn (ms ++ [z]) = jn [])
      simp at this
    simpa using this
  clear h ok okm hm
  rw [hl] at K1 K2 h16
  generalize St (jn (ms ++ [z])) = sp at *
  generalize St (jn ms) = sm at *
  generalize hZ : St z = sz at *
  generalize hM : ms.length = m at *
  generalize hN : m + 1 = n at *
  go_enter Try.func5, Try.ntmps5
  go_wp2_with fail
  refine (unhide KW).mono ?_
  rintro e w1 ⟨rfl, hb⟩
  have HB := hide hb
  clear KW hb
  go_wp2_with fail
  refine (unhide K1 _).mono ?_
  rintro e w2 ⟨x, c, rfl, ho, hb⟩
  have KJ := hide (K2.out x c w2 ho.has ho.2.1)
  have HB := hide (HB.out.trans (hb.mono HB.out.size))
  clear K1 hb ho
  go_wp2_with fail
  refine (unhide KJ).mono ?_
  rintro e w3 ⟨rfl, hb⟩
  have HB := hide (HB.out.trans (hb.mono HB.out.size))
  clear KJ hb
  go_wp2_with fail
  refine (unhide K3 _).mono ?_
  rintro e w4 ⟨rfl, hb⟩
  have HB := hide (HB.out.trans (hb.mono HB.out.size))
  clear K3 hb
  go_wp2_with fail
  refine (unhide K4 _).mono ?_
  rintro e w5 ⟨rfl, hb⟩
  have HB := hide (HB.out.trans (hb.mono HB.out.size))
  clear K4 hb
  go_wp2_with fail
  refine (unhide K5 _).mono ?_
  rintro e w6 ⟨y, cy, rfl, ho, hb⟩
  have HB := hide (HB.out.trans (hb.mono HB.out.size))
  have HO := hide ho
  clear K5 hb ho
  go_wp2_with fail
  refine (unhide K6 _).mono ?_
  rintro e w7 ⟨rfl, hb⟩
  have HB := hide (HB.out.trans (hb.mono HB.out.size))
  have HO := hide (HO.out.below hb (Nat.le_refl _))
  clear K6 hb
  go_wp2_with fail
  refine (unhide K7 _).mono ?_
  rintro e w8 ⟨rfl, hb⟩
  have HB := hide (HB.out.trans (hb.mono HB.out.size))
  have HO := hide (HO.out.below hb (Nat.le_refl _))
  clear K7 hb
  obtain ⟨a1, c1, v1, a2, c2, v2, R1, R2, o2, b2⟩ := app2S HO.out z (by omega)
  rw [hZ] at R2
  rw [hN] at R2 o2
  have R1 := hide R1
  have R2 := hide R2
  have KJ := hide (K2.out a2 c2 v2 o2.has o2.2.1)
  have HB := hide (HB.out.trans (b2.mono HB.out.size))
  clear HO K2 o2 b2
  go_wp2_with (at_builtin; first | (refine wpList_append_run 22 rfl _ _ rfl _ _ _ rfl rfl (unhide R1) ?_; clear R1) | (refine wpList_append_run 22 rfl _ _ rfl _ _ _ rfl rfl (unhide R2) ?_; clear R2))
  refine (unhide KJ).mono ?_
  rintro e w9 ⟨rfl, hb⟩
  have HB := hide (HB.out.trans (hb.mono HB.out.size))
  clear KJ hb
  go_wp2_with fail
  go_ret
  exact ⟨rfl, HB.out⟩

theorem back_walk (p : List UInt8) (w : World) (hp : p.length ≤ 140737488351232) :
    Calls Try.prog 5 #[.string (St p)] w fun e w' => e = .returned (.bool true) ∧ Below w.heap.size w w' := by
  cases h : spl p with
  | none => exact back_no w hp h
  | some ns =>
    by_cases h0 : ns = []
    · subst h0; exact back_root w h
    · rw [← List.dropLast_concat_getLast h0] at h
      exact back_yes w h

end Go.Proofs.Ytghhlcacnggjhaa
