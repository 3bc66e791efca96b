/- DeviceScripts: one call of a script, at both devices. -/
import Derived.Test.YtikpmchjlpobdaaDScA
namespace Go.Proofs.Ytikpmchjlpobdaa
open Go.RowKit Go.Shelf
set_option linter.unusedVariables false

/-- A call of a script, cell by cell. -/
def opf (kd nn : Int) (da : Option Addr) (dl dc : Nat) (pa : Option Addr) (pl pc : Nat) : Nat → Value
  | 0 => .int .i64 kd
  | 1 => .int .i64 nn
  | 2 => .slice da dl dc
  | _ => .slice pa pl pc

/-- Write of both, as it will be had. -/
def SWr (w : World) (gd gw : Nat) : Prop := ∀ (u : World) (S T : Nat → Prop) (D : Dev), SJ w.heap.size w gd gw u S T D → ∀ (go : Nat) (f : Nat → Value), u.rowIs go 34 4 f → ¬ S go → ∀ (b : Int) (a : Option Addr) (len cap : Nat) (zs : List Int), Row w.heap.size w a len cap zs →
    Calls Try.prog 15 #[.pointer (some ⟨gd, 0, none⟩), .int .i64 b, .slice a len cap] u (SA w.heap.size w gd gw go f 16 #[.pointer (some ⟨gw, 0, none⟩), .int .i64 b, .slice a len cap])

/-- What stands behind the call's own copy. -/
structure SR (w : World) (gd gw go : Nat) (u : World) (kd nn : Int) (da : Option Addr) (dl dc : Nat) (pa : Option Addr) (pl pc : Nat) : Prop where
  c : u.rowIs go 34 4 (opf kd nn da dl dc pa pl pc)
  rd : Calls Try.prog 12 #[.pointer (some ⟨gd, 0, none⟩), .int .i64 nn] u fun e u1 => ∃ a1 l c1 q, e = .returned (.tuple #[.slice a1 l c1, .int .i64 q]) ∧ u1.rowIs go 34 4 (opf kd nn da dl dc pa pl pc) ∧
      Hid (Calls Try.prog 13 #[.pointer (some ⟨gw, 0, none⟩), .int .i64 nn] u1 fun e u2 => ∃ a2 c2, e = .returned (.tuple #[.slice a2 l c2, .int .i64 q]) ∧
        Hid (Calls Try.prog 14 #[.slice a1 l c1, .slice a2 l c2] u2 fun e u3 => e = .returned (.bool true) ∧ u2 = u3) ∧ Hid (∃ D, SD w.heap.size w gd gw u2 D))
  wr : Calls Try.prog 15 #[.pointer (some ⟨gd, 0, none⟩), .int .i64 nn, .slice da dl dc] u (SA w.heap.size w gd gw go (opf kd nn da dl dc pa pl pc) 16 #[.pointer (some ⟨gw, 0, none⟩), .int .i64 nn, .slice da dl dc])
  ld : Calls Try.prog 23 #[.pointer (some ⟨gd, 0, none⟩), .int .i64 nn, .slice da dl dc] u (SA w.heap.size w gd gw go (opf kd nn da dl dc pa pl pc) 24 #[.pointer (some ⟨gw, 0, none⟩), .int .i64 nn, .slice da dl dc])
  fl : Calls Try.prog 17 #[.pointer (some ⟨gd, 0, none⟩)] u (SA w.heap.size w gd gw go (opf kd nn da dl dc pa pl pc) 18 #[.pointer (some ⟨gw, 0, none⟩)])
  fu : Calls Try.prog 19 #[.pointer (some ⟨gd, 0, none⟩), .int .i64 nn] u (SA w.heap.size w gd gw go (opf kd nn da dl dc pa pl pc) 20 #[.pointer (some ⟨gw, 0, none⟩), .int .i64 nn])
  cr : Calls Try.prog 21 #[.pointer (some ⟨gd, 0, none⟩), .slice pa pl pc] u (SA w.heap.size w gd gw go (opf kd nn da dl dc pa pl pc) 22 #[.pointer (some ⟨gw, 0, none⟩), .slice pa pl pc])
  sd : ∃ D, SD w.heap.size w gd gw u D

theorem s_round {w : World} {gd gw : Nat} {wr : World} (HW : SWr w gd gw) (h : ∃ D, SD w.heap.size w gd gw wr D) {b off k : Nat} {o : OpD} (hb : b < w.heap.size) (ho : OpAt w b off k o) :
    ∃ kd nn da dl dc pa pl pc, wr.cell? ⟨b, off + k * 4, none⟩ = some (.int .i64 kd) ∧ wr.cell? ⟨b, off + k * 4 + 1, none⟩ = some (.int .i64 nn) ∧ wr.cell? ⟨b, off + k * 4 + 2, none⟩ = some (.slice da dl dc) ∧ wr.cell? ⟨b, off + k * 4 + 3, none⟩ = some (.slice pa pl pc) ∧
      Hid (SR w gd gw wr.heap.size (wr.alloc (.cells #[.int .i64 kd, .int .i64 nn, .slice da dl dc, .slice pa pl pc] 34)) kd nn da dl dc pa pl pc) := by
  obtain ⟨D, S, T, h⟩ := h
  have cl : ∀ q, wr.cell? ⟨b, q, none⟩ = w.cell? ⟨b, q, none⟩ := fun q => h.bel.cell (p := ⟨b, q, none⟩) hb
  refine ⟨o.kind, o.n, o.da, o.dl, o.dc, o.pa, o.pl, o.pc, (cl _).trans ho.c0, (cl _).trans ho.c1, (cl _).trans ho.c2, (cl _).trans ho.c3, ?_⟩
  have hS : ¬ S wr.heap.size := fun hx => Nat.lt_irrefl _ (h.dd.lt hx)
  have hg : (wr.alloc (.cells #[.int .i64 o.kind, .int .i64 o.n, .slice o.da o.dl o.dc, .slice o.pa o.pl o.pc] 34)).rowIs wr.heap.size 34 4 (opf o.kind o.n o.da o.dl o.dc o.pa o.pl o.pc) :=
    World.rowIs_alloc wr #[.int .i64 o.kind, .int .i64 o.n, .slice o.da o.dl o.dc, .slice o.pa o.pl o.pc] 34 (opf o.kind o.n o.da o.dl o.dc o.pa o.pl o.pc) (fun j hj => by
      have : j = 0 ∨ j = 1 ∨ j = 2 ∨ j = 3 := by simp at hj; omega
      rcases this with rfl | rfl | rfl | rfl <;> rfl)
  have h1 := h.later ((Below.refl wr.heap.size wr).alloc (Nat.le_refl _) (.cells #[.int .i64 o.kind, .int .i64 o.n, .slice o.da o.dl o.dc, .slice o.pa o.pl o.pc] 34))
  generalize wr.alloc (.cells #[.int .i64 o.kind, .int .i64 o.n, .slice o.da o.dl o.dc, .slice o.pa o.pl o.pc] 34) = u at *
  exact ⟨hg, s_read h1 hg hS o.n, HW u S T D h1 _ _ hg hS o.n o.da o.dl o.dc o.data ho.row, s_load h1 hg hS o.n o.da o.dl o.dc o.data ho.row, s_flush h1 hg hS, s_fuse h1 hg hS o.n ho.nb.2, s_crash h1 hg hS rfl o.pa o.pl o.pc o.picks ho.ints ho.pb, D, S, T, h1⟩

/-- What both tell of themselves, in the law's order. -/
structure SQ (w : World) (gd gw : Nat) (u : World) : Prop where
  q : ∃ (x n y : Int) (d : Bool),
    Calls Try.prog 25 #[.pointer (some ⟨gd, 0, none⟩)] u (fun e w' => e = .returned (.int .i64 x) ∧ u = w') ∧ Calls Try.prog 26 #[.pointer (some ⟨gw, 0, none⟩)] u (fun e w' => e = .returned (.int .i64 x) ∧ u = w') ∧
    Calls Try.prog 27 #[.pointer (some ⟨gd, 0, none⟩)] u (fun e w' => e = .returned (.int .i64 n) ∧ u = w') ∧ Calls Try.prog 28 #[.pointer (some ⟨gw, 0, none⟩)] u (fun e w' => e = .returned (.int .i64 n) ∧ u = w') ∧
    Calls Try.prog 29 #[.pointer (some ⟨gd, 0, none⟩)] u (fun e w' => e = .returned (.bool d) ∧ u = w') ∧ Calls Try.prog 30 #[.pointer (some ⟨gw, 0, none⟩)] u (fun e w' => e = .returned (.bool d) ∧ u = w') ∧
    Calls Try.prog 31 #[.pointer (some ⟨gd, 0, none⟩)] u (fun e w' => e = .returned (.int .i64 y) ∧ u = w') ∧ Calls Try.prog 32 #[.pointer (some ⟨gw, 0, none⟩)] u (fun e w' => e = .returned (.int .i64 y) ∧ u = w')
  wt : Calls Try.prog 34 #[.pointer (some ⟨gd, 0, none⟩)] u fun e u1 => ∃ a1 l c1, e = .returned (.slice a1 l c1) ∧
      Hid (Calls Try.prog 35 #[.pointer (some ⟨gw, 0, none⟩)] u1 fun e u2 => ∃ a2 c2, e = .returned (.slice a2 l c2) ∧
        Hid (Calls Try.prog 33 #[.slice a1 l c1, .slice a2 l c2] u2 fun e u3 => e = .returned (.bool true) ∧ Hid (∃ D, SD w.heap.size w gd gw u3 D)))

theorem s_q {w : World} {gd gw : Nat} {u : World} (h : ∃ D, SD w.heap.size w gd gw u D) : SQ w gd gw u := by
  obtain ⟨D, h⟩ := h
  obtain ⟨e0, e4, e5, ⟨h1, e1⟩, f0, f3, f4, ⟨h2, c2, f1⟩⟩ := s_asks h
  exact ⟨⟨_, _, _, _, block_dev gd u _ e0, rblock gw u _ f0, blocks_dev gd h1 _ u e1, rblocks gw h2 _ c2 u f1, dead_dev gd u _ e4, rdead gw u _ f3, writes_dev gd u _ e5, rwrites gw u _ f4⟩, s_waits h⟩

set_option maxRecDepth 100000 in
set_option maxHeartbeats 4000000 in
theorem scripts_walk0 (a0 a1 : Int) (a : Option Addr) (len cap : Nat) (w : World) (hO : OpsAt w a len) (HW0 : ∀ gd gw, SWr w gd gw) :
    Calls Try.prog 3 #[.int .i64 a0, .int .i64 a1, .slice a len cap] w fun e w' => e = .returned (.bool true) ∧ Below w.heap.size w w' := by
  have KW := hide (wakes_any w)
  have KN0 := hide (fun u hb h => s_new_bad a0 a1 w u hb h)
  have KN1 := hide (fun u hb h => s_new_ok a0 a1 w u hb h)
  have HW := hide HW0
  have HO := hide hO
  have hlen := hO.1
  clear hO HW0
  go_enter Try.func3, Try.ntmps3
  go_wp2_with fail
  go_at_call 9
  refine (unhide KW).mono ?_
  rintro e w1 ⟨rfl, h1⟩
  clear KW
  by_cases hE : newE a0 a1 = 0
  · have K2 := hide (unhide KN1 w1 h1 hE)
    clear h1 KN0 KN1 hE
    go_wp2_with fail
    go_at_call 10
    refine (unhide K2).mono ?_
    rintro e w2 ⟨gd, rfl, K3⟩
    clear K2
    go_wp2_with fail
    go_at_call 11
    refine (unhide K3).mono ?_
    rintro e w3 ⟨gw, rfl, HD⟩
    clear K3
    have HW1 := hide (unhide HW gd gw)
    clear HW
    have KB : Hid (∀ u, (∃ D, SD w.heap.size w gd gw u D) → Below w.heap.size w u) := fun u ⟨D, S, T, h⟩ => h.bel
    have KQ : Hid (∀ u, (∃ D, SD w.heap.size w gd gw u D) → SQ w gd gw u) := fun u h => s_q h
    go_upto_region 8 with fail
    go_loopw [11] (fun i wr => ∃ k : Nat, k ≤ len ∧ i = .int .i64 (k : Int) ∧ Hid (∃ D, SD w.heap.size w gd gw wr D)) (fun i _ => len - (intOf i).toNat)
    case atStart => exact ⟨0, by omega, rfl, HD⟩
    case round =>
      obtain ⟨k, hk, rfl, hA⟩ := hrel
      clear HD
      by_cases hlt : k < len
      · obtain ⟨b, off, rfl, hbl, hops⟩ := (unhide HO).2 (by omega)
        obtain ⟨o, ho⟩ := hops k hlt
        obtain ⟨kd, nn, da, dl, dc, pa, pl, pc, c0, c1, c2, c3, R⟩ := s_round (unhide HW1) (unhide hA) hbl ho
        clear ho hops hA HW1 HO KB
        go_upto_region 11 with fail
        generalize wr.alloc (.cells #[.int .i64 kd, .int .i64 nn, .slice da dl dc, .slice pa pl pc] 34) = u at *
        generalize wr.heap.size = go at *
        clear c0 c1 c2 c3
        have cc : ∀ v : World, v.rowIs go 34 4 (opf kd nn da dl dc pa pl pc) → v.cell? ⟨go, 0, none⟩ = some (.int .i64 kd) ∧ v.cell? ⟨go, 1, none⟩ = some (.int .i64 nn) ∧ v.cell? ⟨go, 2, none⟩ = some (.slice da dl dc) ∧ v.cell? ⟨go, 3, none⟩ = some (.slice pa pl pc) :=
          fun v h => ⟨h.cell (i := 0) (by omega), h.cell (i := 1) (by omega), h.cell (i := 2) (by omega), h.cell (i := 3) (by omega)⟩
        have CC := hide cc
        clear cc
        obtain ⟨c0, c1, c2, c3⟩ := unhide CC u (unhide R).c
        by_cases x1 : kd = 1
        · have y1 : (kd == 1) = true := by simpa using x1
          have K := hide (unhide R).rd
          clear x1 R KQ c2 c3
          go_wp2_with fail
          go_at_call 12
          refine (unhide K).mono ?_
          rintro e u1 ⟨a1, l, c1', q, rfl, hg, K1⟩
          clear K c0 c1 y1
          obtain ⟨c0, c1, c2, c3⟩ := unhide CC u1 hg
          clear hg CC c0 c2 c3
          go_wp2_with fail
          go_at_call 13
          refine (unhide K1).mono ?_
          rintro e u2 ⟨a2, c2', rfl, K2, hD⟩
          clear K1 c1
          go_wp2_with fail
          go_at_call 14
          refine (unhide K2).mono ?_
          rintro e u3 ⟨rfl, rfl⟩
          clear K2
          go_wp2_with fail
          exact ⟨⟨k + 1, by omega, by go_num, hD⟩, by simp [intOf]; omega⟩
        have y1 : (kd == 1) = false := by simpa using x1
        clear x1
        by_cases x2 : kd = 2
        · have y2 : (kd == 2) = true := by simpa using x2
          have K := hide (unhide R).wr
          clear x2 R KQ c3
          go_wp2_with fail
          go_at_call 15
          refine (unhide K).mono ?_
          rintro e u1 ⟨q, rfl, hg, K1⟩
          clear K c0 c1 c2 y1 y2
          obtain ⟨c0, c1, c2, c3⟩ := unhide CC u1 hg
          clear hg CC c0 c3
          go_wp2_with fail
          go_at_call 16
          refine (unhide K1).mono ?_
          rintro e u2 ⟨rfl, hD⟩
          clear K1
          go_wp2_with fail
          exact ⟨⟨k + 1, by omega, by go_num, hD⟩, by simp [intOf]; omega⟩
        have y2 : (kd == 2) = false := by simpa using x2
        clear x2
        by_cases x3 : kd = 3
        · have y3 : (kd == 3) = true := by simpa using x3
          have K := hide (unhide R).fl
          clear x3 R KQ c1 c2 c3
          go_wp2_with fail
          go_at_call 17
          refine (unhide K).mono ?_
          rintro e u1 ⟨q, rfl, hg, K1⟩
          clear K c0  y1 y2 y3
          obtain ⟨c0, c1, c2, c3⟩ := unhide CC u1 hg
          clear hg CC c0 c1 c2 c3
          go_wp2_with fail
          go_at_call 18
          refine (unhide K1).mono ?_
          rintro e u2 ⟨rfl, hD⟩
          clear K1
          go_wp2_with fail
          exact ⟨⟨k + 1, by omega, by go_num, hD⟩, by simp [intOf]; omega⟩
        have y3 : (kd == 3) = false := by simpa using x3
        clear x3
        by_cases x4 : kd = 4
        · have y4 : (kd == 4) = true := by simpa using x4
          have K := hide (unhide R).fu
          clear x4 R KQ c2 c3
          go_wp2_with fail
          go_at_call 19
          refine (unhide K).mono ?_
          rintro e u1 ⟨q, rfl, hg, K1⟩
          clear K c0 c1 y1 y2 y3 y4
          obtain ⟨c0, c1, c2, c3⟩ := unhide CC u1 hg
          clear hg CC c0 c2 c3
          go_wp2_with fail
          go_at_call 20
          refine (unhide K1).mono ?_
          rintro e u2 ⟨rfl, hD⟩
          clear K1
          go_wp2_with fail
          exact ⟨⟨k + 1, by omega, by go_num, hD⟩, by simp [intOf]; omega⟩
        have y4 : (kd == 4) = false := by simpa using x4
        clear x4
        by_cases x5 : kd = 5
        · have y5 : (kd == 5) = true := by simpa using x5
          have K := hide (unhide R).cr
          clear x5 R KQ c1 c2
          go_wp2_with fail
          go_at_call 21
          refine (unhide K).mono ?_
          rintro e u1 ⟨q, rfl, hg, K1⟩
          clear K c0 c3 y1 y2 y3 y4 y5
          obtain ⟨c0, c1, c2, c3⟩ := unhide CC u1 hg
          clear hg CC c0 c1 c2
          go_wp2_with fail
          go_at_call 22
          refine (unhide K1).mono ?_
          rintro e u2 ⟨rfl, hD⟩
          clear K1
          go_wp2_with fail
          exact ⟨⟨k + 1, by omega, by go_num, hD⟩, by simp [intOf]; omega⟩
        have y5 : (kd == 5) = false := by simpa using x5
        clear x5
        by_cases x6 : kd = 6
        · have y6 : (kd == 6) = true := by simpa using x6
          have K := hide (unhide R).ld
          clear x6 R KQ c3
          go_wp2_with fail
          go_at_call 23
          refine (unhide K).mono ?_
          rintro e u1 ⟨q, rfl, hg, K1⟩
          clear K c0 c1 c2 y1 y2 y3 y4 y5 y6
          obtain ⟨c0, c1, c2, c3⟩ := unhide CC u1 hg
          clear hg CC c0 c3
          go_wp2_with fail
          go_at_call 24
          refine (unhide K1).mono ?_
          rintro e u2 ⟨rfl, hD⟩
          clear K1
          go_wp2_with fail
          exact ⟨⟨k + 1, by omega, by go_num, hD⟩, by simp [intOf]; omega⟩
        have y6 : (kd == 6) = false := by simpa using x6
        clear x6
        obtain ⟨⟨x, n, y, d, q1, q2, q3, q4, q5, q6, q7, q8⟩, KT0⟩ := unhide KQ u (unhide R).sd
        have Q1 := hide q1
        have Q2 := hide q2
        have Q3 := hide q3
        have Q4 := hide q4
        have Q5 := hide q5
        have Q6 := hide q6
        have Q7 := hide q7
        have Q8 := hide q8
        have KT := hide KT0
        clear q1 q2 q3 q4 q5 q6 q7 q8 KT0 KQ R CC c1 c2 c3
        go_wp2_with fail
        go_at_call 25
        refine (unhide Q1).mono ?_
        rintro e u1 ⟨rfl, rfl⟩
        clear Q1 c0 y1 y2 y3 y4 y5 y6
        go_wp2_with fail
        go_at_call 26
        refine (unhide Q2).mono ?_
        rintro e u1 ⟨rfl, rfl⟩
        clear Q2
        go_wp2_with fail
        go_at_call 27
        refine (unhide Q3).mono ?_
        rintro e u1 ⟨rfl, rfl⟩
        clear Q3
        go_wp2_with fail
        go_at_call 28
        refine (unhide Q4).mono ?_
        rintro e u1 ⟨rfl, rfl⟩
        clear Q4
        go_wp2_with fail
        go_at_call 29
        refine (unhide Q5).mono ?_
        rintro e u1 ⟨rfl, rfl⟩
        clear Q5
        go_wp2_with fail
        go_at_call 30
        refine (unhide Q6).mono ?_
        rintro e u1 ⟨rfl, rfl⟩
        clear Q6
        go_wp2_with fail
        go_at_call 31
        refine (unhide Q7).mono ?_
        rintro e u1 ⟨rfl, rfl⟩
        clear Q7
        go_wp2_with fail
        go_at_call 32
        refine (unhide Q8).mono ?_
        rintro e u1 ⟨rfl, rfl⟩
        clear Q8
        go_wp2_with fail
        go_at_call 34
        refine (unhide KT).mono ?_
        rintro e u1 ⟨a1, l, c1, rfl, K1⟩
        clear KT
        go_wp2_with fail
        go_at_call 35
        refine (unhide K1).mono ?_
        rintro e u2 ⟨a2, c2, rfl, K2⟩
        clear K1
        go_wp2_with fail
        go_at_call 33
        refine (unhide K2).mono ?_
        rintro e u3 ⟨rfl, hD⟩
        clear K2
        go_wp2_with fail
        exact ⟨⟨k + 1, by omega, by go_num, hD⟩, by simp [intOf]; omega⟩
      · have d1 : ¬ (k : Int) < (len : Int) := by omega
        have XB := hide (unhide KB wr (unhide hA))
        clear KB hA HO KQ HW1
        go_wp2_with fail
        go_ret
        exact ⟨rfl, unhide XB⟩
  · have K2 := hide (unhide KN0 w1 h1 hE)
    clear h1 KN0 KN1 hE HW HO
    go_wp2_with fail
    go_at_call 10
    refine (unhide K2).mono ?_
    rintro e w2 ⟨q, rfl, K3⟩
    clear K2
    go_wp2_with fail
    go_at_call 11
    refine (unhide K3).mono ?_
    rintro e w3 ⟨rfl, HD⟩
    clear K3
    go_upto_region 8 with fail
    go_loopw [11] (fun i wr => i = .int .i64 0 ∧ Hid (Below w.heap.size w wr)) (fun i _ => 0)
    case atStart => exact ⟨rfl, HD⟩
    case round =>
      obtain ⟨rfl, hA⟩ := hrel
      clear HD
      by_cases hlt : 0 < len
      · have d1 : (0 : Int) < (len : Int) := by omega
        clear hlt
        go_wp2_with fail
        go_ret
        exact ⟨rfl, unhide hA⟩
      · have d1 : ¬ (0 : Int) < (len : Int) := by omega
        clear hlt
        go_wp2_with fail
        go_ret
        exact ⟨rfl, unhide hA⟩

end Go.Proofs.Ytikpmchjlpobdaa
