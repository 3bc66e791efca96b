/- The way to a block of a file. -/
import Derived.Test.YtielammfimeedaaPWhole
import Derived.BigRegion
namespace Go.Proofs.Ytielammfimeedaa
open Go.RowKit Go.Shelf
set_option linter.unusedVariables false

theorem ihas_new1 (u : World) (a : Int) : IHas (u.alloc (.cells #[.int .i64 a] 3)) (some ⟨u.heap.size, 0, none⟩) 1 [a] := by
  refine ⟨rfl, fun _ => ⟨u.heap.size, 0, rfl, fun j hj => ?_⟩⟩
  have h := heap_alloc_new u (.cells #[.int .i64 a] 3)
  obtain rfl : j = 0 := by omega
  simp only [World.cell?, h]
  rfl

theorem ihas_new2 (u : World) (a b : Int) : IHas (u.alloc (.cells #[.int .i64 a, .int .i64 b] 3)) (some ⟨u.heap.size, 0, none⟩) 2 [a, b] := by
  refine ⟨rfl, fun _ => ⟨u.heap.size, 0, rfl, fun j hj => ?_⟩⟩
  have h := heap_alloc_new u (.cells #[.int .i64 a, .int .i64 b] 3)
  have hc : j = 0 ∨ j = 1 := by omega
  simp only [World.cell?, h]
  rcases hc with rfl | rfl <;> rfl

theorem ihas_new3 (u : World) (a b c : Int) : IHas (u.alloc (.cells #[.int .i64 a, .int .i64 b, .int .i64 c] 3)) (some ⟨u.heap.size, 0, none⟩) 3 [a, b, c] := by
  refine ⟨rfl, fun _ => ⟨u.heap.size, 0, rfl, fun j hj => ?_⟩⟩
  have h := heap_alloc_new u (.cells #[.int .i64 a, .int .i64 b, .int .i64 c] 3)
  have hc : j = 0 ∨ j = 1 ∨ j = 2 := by omega
  simp only [World.cell?, h]
  rcases hc with rfl | rfl | rfl <;> rfl

theorem quo_eq (x p : Int) (hx : 0 ≤ x ∧ x ≤ 1099511627776) (hp : 1 ≤ p) : IntKind.i64.wrap (x.tdiv p) = x / p ∧ x.tmod p = x % p := by
  have h := div_bd x p hx hp
  rw [Int.tdiv_eq_ediv_of_nonneg hx.1, Int.tmod_eq_emod_of_nonneg hx.1, IntKind.wrap_i64]
  omega

theorem ihas_nil (w : World) : IHas w none 0 [] := ⟨rfl, fun h => by omega⟩

/-- The way to block number i. -/
def way (p i : Int) : List Int := if i < 8 then [i] else if i - 8 < p then [8, i - 8] else [9, (i - 8 - p) / p, (i - 8 - p) % p]

/-- What Steps answers. -/
def stE (P : Nat → Int) (i : Int) : Int := if checkE P ≠ 0 then 4 else if i < 0 ∨ mfb P ≤ i then 2 else 0
def stL (P : Nat → Int) (i : Int) : List Int := if stE P i = 0 then way (P 0 / 2) i else []

set_option maxRecDepth 10000 in
set_option maxHeartbeats 2000000 in
theorem steps_form (P : Nat → Int) (i : Int) (w : World) (h : checkE P ≠ 0) :
    Calls Try.prog 17 #[Pv P, .int .i64 i] w fun r w' => (∃ a n c, r = .returned (.tuple #[.slice a n c, .int .i64 4]) ∧ IHas w' a n []) ∧ Below w.heap.size w w' := by
  have HC := hide (check_any P)
  have h4 : checkE P = 4 := by have := checkE_two P; omega
  rw [h4] at HC
  clear h h4
  have HK := hide (Kp.start w P)
  go_enter Try.func17, Try.ntmps17
  go_wp2_with fail
  go_at_call 15
  refine (unhide HC _).mono ?_
  rintro r w1 ⟨rfl, hb⟩
  replace HK := hide ((unhide HK).call hb)
  clear hb HC
  go_wp2
  go_ret2
  exact ⟨⟨_, _, _, rfl, ihas_nil _⟩, (unhide HK).2⟩

set_option maxRecDepth 10000 in
set_option maxHeartbeats 2000000 in
theorem steps_low (P : Nat → Int) (i : Int) (w : World) (h : checkE P = 0) (hn : i < 0) :
    Calls Try.prog 17 #[Pv P, .int .i64 i] w fun r w' => (∃ a n c, r = .returned (.tuple #[.slice a n c, .int .i64 2]) ∧ IHas w' a n []) ∧ Below w.heap.size w w' := by
  have HC := hide (check_any P)
  rw [h] at HC
  clear h
  have HK := hide (Kp.start w P)
  go_enter Try.func17, Try.ntmps17
  go_wp2_with fail
  go_at_call 15
  refine (unhide HC _).mono ?_
  rintro r w1 ⟨rfl, hb⟩
  replace HK := hide ((unhide HK).call hb)
  clear hb HC
  go_wp2
  go_ret2
  exact ⟨⟨_, _, _, rfl, ihas_nil _⟩, (unhide HK).2⟩

set_option maxRecDepth 10000 in
set_option maxHeartbeats 2000000 in
theorem steps_high (P : Nat → Int) (i : Int) (w : World) (h : checkE P = 0) (hn : ¬ i < 0) (hn2 : mfb P ≤ i) :
    Calls Try.prog 17 #[Pv P, .int .i64 i] w fun r w' => (∃ a n c, r = .returned (.tuple #[.slice a n c, .int .i64 2]) ∧ IHas w' a n []) ∧ Below w.heap.size w w' := by
  have HC := hide (check_any P)
  rw [h] at HC
  have H1 := hide (fun u => maxFileBlocks_any P u (sound h).size)
  generalize mfb P = m at *
  clear h
  have HK := hide (Kp.start w P)
  go_enter Try.func17, Try.ntmps17
  go_wp2_with fail
  go_at_call 15
  refine (unhide HC _).mono ?_
  rintro r w1 ⟨rfl, hb⟩
  replace HK := hide ((unhide HK).call hb)
  clear hb HC
  obtain ⟨f0, f1, f2, f3, f4, f5, f6, f7, f8, f9, f10, f11⟩ := (unhide HK).cells
  go_wp2_with fail
  go_at_call 29
  refine (unhide H1 _).mono ?_
  rintro r w2 ⟨rfl, hb⟩
  replace HK := hide ((unhide HK).call hb)
  clear hb H1 f0 f1 f2 f3 f4 f5 f6 f7 f8 f9 f10 f11
  go_wp2
  go_ret2
  exact ⟨⟨_, _, _, rfl, ihas_nil _⟩, (unhide HK).2⟩

set_option maxRecDepth 10000 in
set_option maxHeartbeats 2000000 in
theorem steps_one (P : Nat → Int) (i p : Int) (w : World) (h : checkE P = 0) (hn : ¬ i < 0) (hn2 : ¬ mfb P ≤ i) (hp : P 0 / 2 = p) (h8 : i < 8) :
    Calls Try.prog 17 #[Pv P, .int .i64 i] w fun r w' => (∃ a n c, r = .returned (.tuple #[.slice a n c, .int .i64 0]) ∧ IHas w' a n [i]) ∧ Below w.heap.size w w' := by
  have HC := hide (check_any P)
  rw [h] at HC
  have hz := (sound h).bd.1
  have H1 := hide (fun u => maxFileBlocks_any P u (sound h).size)
  have hm := mfb_bd (sound h).size
  generalize mfb P = m at *
  have H2 := hide (fun u => per_below P u p hz hp)
  have hb2 : 32 ≤ p ∧ p ≤ 2048 := by omega
  clear h hp
  have HK := hide (Kp.start w P)
  go_enter Try.func17, Try.ntmps17
  go_wp2_with fail
  go_at_call 15
  refine (unhide HC _).mono ?_
  rintro r w1 ⟨rfl, hb⟩
  replace HK := hide ((unhide HK).call hb)
  clear hb HC
  obtain ⟨f0, f1, f2, f3, f4, f5, f6, f7, f8, f9, f10, f11⟩ := (unhide HK).cells
  go_wp2_with fail
  go_at_call 29
  refine (unhide H1 _).mono ?_
  rintro r w2 ⟨rfl, hb⟩
  replace HK := hide ((unhide HK).call hb)
  clear hb H1 f0 f1 f2 f3 f4 f5 f6 f7 f8 f9 f10 f11
  go_wp2
  go_ret2
  exact ⟨⟨_, _, _, rfl, ihas_new1 _ _⟩, (unhide HK).2.alloc (unhide HK).2.size _⟩

set_option maxRecDepth 10000 in
set_option maxHeartbeats 2000000 in
theorem steps_two (P : Nat → Int) (i p : Int) (w : World) (h : checkE P = 0) (hn : ¬ i < 0) (hn2 : ¬ mfb P ≤ i) (hp : P 0 / 2 = p) (h8 : ¬ i < 8) (h9 : i - 8 < p) :
    Calls Try.prog 17 #[Pv P, .int .i64 i] w fun r w' => (∃ a n c, r = .returned (.tuple #[.slice a n c, .int .i64 0]) ∧ IHas w' a n [8, i - 8]) ∧ Below w.heap.size w w' := by
  have HC := hide (check_any P)
  rw [h] at HC
  have hz := (sound h).bd.1
  have H1 := hide (fun u => maxFileBlocks_any P u (sound h).size)
  have hm := mfb_bd (sound h).size
  generalize mfb P = m at *
  have H2 := hide (fun u => per_below P u p hz hp)
  have hb2 : 32 ≤ p ∧ p ≤ 2048 := by omega
  clear h hp
  have HK := hide (Kp.start w P)
  go_enter Try.func17, Try.ntmps17
  go_wp2_with fail
  go_at_call 15
  refine (unhide HC _).mono ?_
  rintro r w1 ⟨rfl, hb⟩
  replace HK := hide ((unhide HK).call hb)
  clear hb HC
  obtain ⟨f0, f1, f2, f3, f4, f5, f6, f7, f8, f9, f10, f11⟩ := (unhide HK).cells
  go_wp2_with fail
  go_at_call 29
  refine (unhide H1 _).mono ?_
  rintro r w2 ⟨rfl, hb⟩
  replace HK := hide ((unhide HK).call hb)
  clear hb H1 f0 f1 f2 f3 f4 f5 f6 f7 f8 f9 f10 f11
  obtain ⟨f0, f1, f2, f3, f4, f5, f6, f7, f8, f9, f10, f11⟩ := (unhide HK).cells
  go_wp2_with fail
  go_at_call 30
  refine (unhide H2 _).mono ?_
  rintro r w3 ⟨rfl, hb⟩
  replace HK := hide ((unhide HK).call hb)
  clear hb f0 f1 f2 f3 f4 f5 f6 f7 f8 f9 f10 f11
  obtain ⟨f0, f1, f2, f3, f4, f5, f6, f7, f8, f9, f10, f11⟩ := (unhide HK).cells
  go_wp2
  go_ret2
  exact ⟨⟨_, _, _, rfl, ihas_new2 _ _ _⟩, (unhide HK).2.alloc (unhide HK).2.size _⟩

set_option maxRecDepth 10000 in
set_option maxHeartbeats 2000000 in
theorem steps_three (P : Nat → Int) (i p : Int) (w : World) (h : checkE P = 0) (hn : ¬ i < 0) (hn2 : ¬ mfb P ≤ i) (hp : P 0 / 2 = p) (h8 : ¬ i < 8) (h9 : ¬ i - 8 < p) :
    Calls Try.prog 17 #[Pv P, .int .i64 i] w fun r w' => (∃ a n c, r = .returned (.tuple #[.slice a n c, .int .i64 0]) ∧ IHas w' a n [9, (i - 8 - p) / p, (i - 8 - p) % p]) ∧ Below w.heap.size w w' := by
  have HC := hide (check_any P)
  rw [h] at HC
  have hz := (sound h).bd.1
  have H1 := hide (fun u => maxFileBlocks_any P u (sound h).size)
  have hm := mfb_bd (sound h).size
  generalize mfb P = m at *
  have H2 := hide (fun u => per_below P u p hz hp)
  have hb2 : 32 ≤ p ∧ p ≤ 2048 := by omega
  clear h hp
  obtain ⟨x, hx⟩ : ∃ x, i - 8 - p = x := ⟨_, rfl⟩
  rw [hx]
  obtain ⟨hquo, hrem⟩ := quo_eq x p (by omega) (by omega)
  generalize x / p = q at *
  generalize x % p = y at *
  have hp0 : p ≠ 0 := by omega
  have HX := hide hx
  clear hx
  have HK := hide (Kp.start w P)
  go_enter Try.func17, Try.ntmps17
  go_wp2_with fail
  go_at_call 15
  refine (unhide HC _).mono ?_
  rintro r w1 ⟨rfl, hb⟩
  replace HK := hide ((unhide HK).call hb)
  clear hb HC
  obtain ⟨f0, f1, f2, f3, f4, f5, f6, f7, f8, f9, f10, f11⟩ := (unhide HK).cells
  go_wp2_with fail
  go_at_call 29
  refine (unhide H1 _).mono ?_
  rintro r w2 ⟨rfl, hb⟩
  replace HK := hide ((unhide HK).call hb)
  clear hb H1 f0 f1 f2 f3 f4 f5 f6 f7 f8 f9 f10 f11
  obtain ⟨f0, f1, f2, f3, f4, f5, f6, f7, f8, f9, f10, f11⟩ := (unhide HK).cells
  go_wp2_with fail
  go_at_call 30
  refine (unhide H2 _).mono ?_
  rintro r w3 ⟨rfl, hb⟩
  replace HK := hide ((unhide HK).call hb)
  clear hb f0 f1 f2 f3 f4 f5 f6 f7 f8 f9 f10 f11
  obtain ⟨f0, f1, f2, f3, f4, f5, f6, f7, f8, f9, f10, f11⟩ := (unhide HK).cells
  go_wp2_with fail
  go_at_call 30
  refine (unhide H2 _).mono ?_
  rintro r w4 ⟨rfl, hb⟩
  replace HK := hide ((unhide HK).call hb)
  clear hb f0 f1 f2 f3 f4 f5 f6 f7 f8 f9 f10 f11
  obtain ⟨f0, f1, f2, f3, f4, f5, f6, f7, f8, f9, f10, f11⟩ := (unhide HK).cells
  go_wp2
  rw [unhide HX]
  go_region_held3 (fun u => Hid (Kp w P u) ∧ u.cell? ⟨w.heap.size, 0, none⟩ = some (.int .i64 (P 0)) ∧ u.cell? ⟨w.heap.size, 1, none⟩ = some (.int .i64 (P 1)) ∧ u.cell? ⟨w.heap.size, 2, none⟩ = some (.int .i64 (P 2)) ∧ u.cell? ⟨w.heap.size, 3, none⟩ = some (.int .i64 (P 3)) ∧ u.cell? ⟨w.heap.size, 4, none⟩ = some (.int .i64 (P 4)) ∧ u.cell? ⟨w.heap.size, 5, none⟩ = some (.int .i64 (P 5)) ∧ u.cell? ⟨w.heap.size, 6, none⟩ = some (.int .i64 (P 6)) ∧ u.cell? ⟨w.heap.size, 7, none⟩ = some (.int .i64 (P 7)) ∧ u.cell? ⟨w.heap.size, 8, none⟩ = some (.int .i64 (P 8)) ∧ u.cell? ⟨w.heap.size, 9, none⟩ = some (.int .i64 (P 9)) ∧ u.cell? ⟨w.heap.size, 10, none⟩ = some (.int .i64 (P 10)) ∧ u.cell? ⟨w.heap.size, 11, none⟩ = some (.int .i64 (P 11)))
    (with_reducible (first | exact (unhide HK).drew.js | exact (unhide J2).js | exact (unhide J1).js | exact ((unhide J2).alloc _).js | exact ((unhide J1).alloc _).js | exact (unhide HK).js))
    ((go_at_call 30; refine (unhide H2 _).mono ?_; rintro e w6 ⟨rfl, hb⟩; have J1 : Hid (Kp w P w6) := Kp.call (unhide (‹Hid (Kp w P _) ∧ _›).1) hb; clear hb))
  all_goals
    have jj := unhide (‹Hid (Kp w P _) ∧ _›).1
    go_wp2
    go_ret2
    exact ⟨⟨_, _, _, rfl, ihas_new3 _ _ _ _⟩, jj.2⟩

end Go.Proofs.Ytielammfimeedaa
