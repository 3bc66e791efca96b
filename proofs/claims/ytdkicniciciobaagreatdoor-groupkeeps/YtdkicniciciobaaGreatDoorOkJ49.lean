/- Joined: OLaw, ONil, OKpA, OKpB, OKeeps. -/
import Derived.Test.YtdkicniciciobaaGreatDoorOkJ48
import Derived.Test.YtdkicniciciobaaGreatDoorOkJ45
import Derived.Test.YtdkicniciciobaaGreatDoorOkJ2
import Derived.Test.YtdkicniciciobaaGreatDoorOkJ3
/- A law's own group: small, full, fresh; the contract of wakes. -/
namespace Go.Proofs.YtdkicniciciobaaGreatDoor
open Go.RowKit Go.Shelf Go.Maps
set_option linter.unusedVariables false
set_option maxRecDepth 100000

set_option maxRecDepth 100000 in
theorem gfull_any (x : Int) (w : World) :
    Calls Tryz.prog 19 #[.int .u8 x] w fun e w' => e = .returned (.slice (some ⟨w.heap.size, 0, none⟩) 64 64) ∧ Block w' w.heap.size (fl x) ∧ Below w.heap.size w w' := by
  have hmk : ∀ w : World, (Instr.makeSlice 49 (.int .i64 64) (.int .i64 64)).run Tryz.prog w = .ok (.slice (some ⟨w.heap.size, 0, none⟩) 64 64) (w.alloc (.cells (madeCells #[.int .u8 0] 64) 5)) := run_make_row' (P := Tryz.prog) 49 5 (.int .u8 0) 1 Tryz.underlying49 info5 rfl .i64 .i64 64 (by omega) (by omega)
  have B0 : Hid (Below w.heap.size w (w.alloc (.cells (madeCells #[.int .u8 0] 64) 5))) := (Below.refl _ w).alloc (Nat.le_refl _) _
  have I0 := hide (show Block (w.alloc (.cells (madeCells #[.int .u8 0] 64) 5)) w.heap.size (List.replicate 0 x ++ List.replicate (64 - 0) 0) by
    unfold Block
    rw [World.alloc_heap_new, ← Array.toArray_toList (xs := madeCells #[.int .u8 0] 64), toList_madeCells_one]
    simp)
  go_enter Tryz.func19, Tryz.ntmps19
  go_upto_region 3 with fail
  change Code.wp _ _ _ _ (w.alloc (.cells (madeCells #[.int .u8 0] 64) 5))
  generalize w.alloc (.cells (madeCells #[.int .u8 0] 64) 5) = w1 at *
  clear hmk
  go_loopw [4] (fun i wr => ∃ k : Nat, k ≤ 64 ∧ i = .int .i64 (k : Int) ∧ Hid (Block wr w.heap.size (List.replicate k x ++ List.replicate (64 - k) 0)) ∧ Hid (Below w.heap.size w wr)) (fun i _ => 64 - (intOf i).toNat)
  case atStart => exact ⟨0, Nat.zero_le _, rfl, I0, B0⟩
  case round =>
    obtain ⟨k, hk, rfl, hI, hX⟩ := hrel
    clear I0 B0
    by_cases hlt : k < 64
    · have c1 := (unhide hI).cell (i := k) (by simp; omega)
      have f1 := (unhide hI).free k
      have I2 := (unhide hI).set k x
      rw [fl_set x k hlt] at I2
      replace I2 := hide I2
      have X2 := hide ((unhide hX).setCell (p := ⟨w.heap.size, k, none⟩) (Nat.le_refl _) (.int .u8 x))
      generalize (List.replicate k x ++ List.replicate (64 - k) 0)[k]?.getD 0 = z at *
      clear hI hX
      generalize w.heap.size = g at *
      go_wp2_with fail
      exact ⟨⟨k + 1, by omega, by go_num, I2, X2⟩, by simp [intOf]; omega⟩
    · obtain rfl : k = 64 := by omega
      go_wp2_with fail
      go_ret
      refine ⟨rfl, ?_, unhide hX⟩
      have := unhide hI
      simpa [fl] using this

theorem gsmall_any (w : World) : Calls Tryz.prog 10 #[] w fun e w' => e = .returned (Pv sP) ∧ Below w.heap.size w w' := by
  have K : Hid (∀ u, Calls Tryz.prog 43 #[.int .i64 64, .int .i64 60, .int .i64 6, .int .i64 9] u fun e w' => e = .returned (.tuple #[Pv sP, .int .i64 0]) ∧ Below u.heap.size u w') := fun u => by
    have := refMake_any 64 60 6 9 u
    rw [sP_make] at this
    exact this
  have HZ := hide (Bl.new w #[.int .i64 0, .int .i64 0, .int .i64 0, .int .i64 0, .int .i64 0, .int .i64 0, .int .i64 0, .int .i64 0, .int .i64 0, .int .i64 0, .int .i64 0, .int .i64 0] 26)
  have HB := hide ((Below.refl w.heap.size w).alloc (Nat.le_refl _) (.cells #[.int .i64 0, .int .i64 0, .int .i64 0, .int .i64 0, .int .i64 0, .int .i64 0, .int .i64 0, .int .i64 0, .int .i64 0, .int .i64 0, .int .i64 0, .int .i64 0] 26))
  generalize sP = p at *
  go_enter Tryz.func10, Tryz.ntmps10
  go_wp2_with fail
  go_at_call 43
  refine (unhide K _).mono ?_
  rintro e w1 ⟨rfl, hb⟩
  have HZ2 := hide (((unhide HZ).call hb).alloc (.cells (Pc p) 26))
  have HB2 := hide (((unhide HB).trans (hb.mono (unhide HB).size)).alloc ((unhide HB).trans (hb.mono (unhide HB).size)).size (.cells (Pc p) 26))
  have HN := hide (Bl.new w1 (Pc p) 26)
  clear HZ HB hb K
  go_upto_region 2 with fail
  change Code.wp _ _ _ _ (w1.alloc (.cells (Pc p) 26))
  generalize w1.alloc (.cells (Pc p) 26) = w2 at *
  generalize w1.heap.size = g1 at *
  have z0 := (unhide HZ2).cell 0 (.int .i64 0) rfl
  have z1 := (unhide HZ2).cell 1 (.int .i64 0) rfl
  have z2 := (unhide HZ2).cell 2 (.int .i64 0) rfl
  have z3 := (unhide HZ2).cell 3 (.int .i64 0) rfl
  have z4 := (unhide HZ2).cell 4 (.int .i64 0) rfl
  have z5 := (unhide HZ2).cell 5 (.int .i64 0) rfl
  have z6 := (unhide HZ2).cell 6 (.int .i64 0) rfl
  have z7 := (unhide HZ2).cell 7 (.int .i64 0) rfl
  have z8 := (unhide HZ2).cell 8 (.int .i64 0) rfl
  have z9 := (unhide HZ2).cell 9 (.int .i64 0) rfl
  have z10 := (unhide HZ2).cell 10 (.int .i64 0) rfl
  have z11 := (unhide HZ2).cell 11 (.int .i64 0) rfl
  have n0 := (unhide HN).cell 0 (.int .i64 (p 0)) rfl
  have n1 := (unhide HN).cell 1 (.int .i64 (p 1)) rfl
  have n2 := (unhide HN).cell 2 (.int .i64 (p 2)) rfl
  have n3 := (unhide HN).cell 3 (.int .i64 (p 3)) rfl
  have n4 := (unhide HN).cell 4 (.int .i64 (p 4)) rfl
  have n5 := (unhide HN).cell 5 (.int .i64 (p 5)) rfl
  have n6 := (unhide HN).cell 6 (.int .i64 (p 6)) rfl
  have n7 := (unhide HN).cell 7 (.int .i64 (p 7)) rfl
  have n8 := (unhide HN).cell 8 (.int .i64 (p 8)) rfl
  have n9 := (unhide HN).cell 9 (.int .i64 (p 9)) rfl
  have n10 := (unhide HN).cell 10 (.int .i64 (p 10)) rfl
  have n11 := (unhide HN).cell 11 (.int .i64 (p 11)) rfl
  have fz := (unhide HZ2).free
  go_wp2_with fail
  have hW : Below w.heap.size w (setAll w2 w.heap.size 0 [.int .i64 (p 0), .int .i64 (p 1), .int .i64 (p 2), .int .i64 (p 3), .int .i64 (p 4), .int .i64 (p 5), .int .i64 (p 6), .int .i64 (p 7), .int .i64 (p 8), .int .i64 (p 9), .int .i64 (p 10), .int .i64 (p 11)]) := below_setAll (Nat.le_refl _) _ _ _ _ (unhide HB2)
  have hA := setAll_whole [.int .i64 (p 0), .int .i64 (p 1), .int .i64 (p 2), .int .i64 (p 3), .int .i64 (p 4), .int .i64 (p 5), .int .i64 (p 6), .int .i64 (p 7), .int .i64 (p 8), .int .i64 (p 9), .int .i64 (p 10), .int .i64 (p 11)] _ _ (unhide HZ2) rfl
  change bodyPost _ _ _ _ _ (setAll w2 w.heap.size 0 [.int .i64 (p 0), .int .i64 (p 1), .int .i64 (p 2), .int .i64 (p 3), .int .i64 (p 4), .int .i64 (p 5), .int .i64 (p 6), .int .i64 (p 7), .int .i64 (p 8), .int .i64 (p 9), .int .i64 (p 10), .int .i64 (p 11)])
  generalize setAll w2 w.heap.size 0 [.int .i64 (p 0), .int .i64 (p 1), .int .i64 (p 2), .int .i64 (p 3), .int .i64 (p 4), .int .i64 (p 5), .int .i64 (p 6), .int .i64 (p 7), .int .i64 (p 8), .int .i64 (p 9), .int .i64 (p 10), .int .i64 (p 11)] = wf at *
  refine bodyPost_ret (v := Pv p) ?_ rfl ⟨rfl, hW⟩
  simp [results, Tryz.results10, go_sem, hA.cell 0 _ rfl, hA.cell 1 _ rfl, hA.cell 2 _ rfl, hA.cell 3 _ rfl, hA.cell 4 _ rfl, hA.cell 5 _ rfl, hA.cell 6 _ rfl, hA.cell 7 _ rfl, hA.cell 8 _ rfl, hA.cell 9 _ rfl, hA.cell 10 _ rfl, hA.cell 11 _ rfl]


/-- A law's group, with its device; rows of the law beside it. -/
structure GL (B : Nat) (w : World) (g cg lg dg : Nat) (X : Grp) (C : Cac) (L : Lg) (D : Dev) (rows : List (Nat × Obj)) (u : World) (S : Nat → Prop) : Prop where
  gv : Gv u S g cg lg dg sP sG X C L D
  ge : ∀ k, S k → B ≤ k
  bel : Below B w u
  sz : B ≤ w.heap.size
  ro : ∀ x ∈ rows, u.heap[x.1]? = some x.2 ∧ ¬ S x.1

theorem GL.next {B : Nat} {w : World} {g cg lg dg : Nat} {X X' : Grp} {C C' : Cac} {L L' : Lg} {D D' : Dev} {rows : List (Nat × Obj)} {u u' : World} {S S' : Nat → Prop} (h : GL B w g cg lg dg X C L D rows u S) (hg : Gv u' S' g cg lg dg sP sG X' C' L' D') (hx : Nx S u S' u') : GL B w g cg lg dg X' C' L' D' rows u' S' :=
  ⟨hg, hx.base h.ge (Nat.le_trans h.sz h.bel.size), h.bel.trans (hx.below h.ge (Nat.le_trans h.sz h.bel.size)), h.sz, fun x hm => by
    obtain ⟨h1, h2⟩ := h.ro x hm
    obtain ⟨k1, k2, _⟩ := hx.keep (Array.getElem?_eq_some_iff.1 h1).1 h2
    exact ⟨k1.trans h1, k2⟩⟩

theorem GL.later {B : Nat} {w : World} {g cg lg dg : Nat} {X : Grp} {C : Cac} {L : Lg} {D : Dev} {rows : List (Nat × Obj)} {u u' : World} {S : Nat → Prop} (h : GL B w g cg lg dg X C L D rows u S) (hb : Below u.heap.size u u') : GL B w g cg lg dg X C L D rows u' S :=
  h.next (h.gv.below hb) ((Nx.refl S u).below' hb)

theorem GL.add {B : Nat} {w : World} {g cg lg dg : Nat} {X : Grp} {C : Cac} {L : Lg} {D : Dev} {rows : List (Nat × Obj)} {u : World} {S : Nat → Prop} (h : GL B w g cg lg dg X C L D rows u S) {k : Nat} {o : Obj} (h1 : u.heap[k]? = some o) (h2 : ¬ S k) : GL B w g cg lg dg X C L D ((k, o) :: rows) u S :=
  ⟨h.gv, h.ge, h.bel, h.sz, fun x hm => by
    rcases List.mem_cons.1 hm with e | e
    · subst e; exact ⟨h1, h2⟩
    · exact h.ro x e⟩

def GD (B : Nat) (w : World) (g dg : Nat) (X : Grp) (C : Cac) (L : Lg) (D : Dev) (rows : List (Nat × Obj)) (u : World) : Prop := ∃ cg lg S, GL B w g cg lg dg X C L D rows u S

theorem GD.later {B : Nat} {w : World} {g dg : Nat} {X : Grp} {C : Cac} {L : Lg} {D : Dev} {rows : List (Nat × Obj)} {u u' : World} (h : GD B w g dg X C L D rows u) (hb : Below u.heap.size u u') : GD B w g dg X C L D rows u' := by
  obtain ⟨cg, lg, S, h⟩ := h
  exact ⟨cg, lg, S, h.later hb⟩

theorem GD.bel {B : Nat} {w : World} {g dg : Nat} {X : Grp} {C : Cac} {L : Lg} {D : Dev} {rows : List (Nat × Obj)} {u : World} (h : GD B w g dg X C L D rows u) : Below B w u := by
  obtain ⟨cg, lg, S, h⟩ := h
  exact h.bel

theorem sL_seen : Seen (gmem 0) sG sL := .inr (.inl (by show 0 < 1; omega))

theorem sP_da : (sG.ib : Int) ≤ sP 11 ∧ sP 11 ≤ (sG.n : Int) := by
  have e : sP 11 = planOf 64 60 6 9 11 := by unfold sP; rw [makeP_ok sP_make]
  rw [e]
  decide

/-- New, Format, Open, a cache and a group behind each other. -/
theorem gfresh_chain (w u : World) (hT : Tab w) (hu : Below w.heap.size w u) (cap : Nat) (hc : 1 ≤ cap ∧ cap ≤ 512) (a : Option Addr) (len c : Nat) (ns : List Int) (hI : IHas w a len ns) (hn : len ≤ 17592186043904) (ha : a = none → c = 0 ∧ len = 0) :
    Calls Tryz.prog 44 #[.int .i64 (sP 0), .int .i64 (sP 1)] u fun e w1 => ∃ dg, e = .returned (.tuple #[.pointer (some ⟨dg, 0, none⟩), .int .i64 0]) ∧ Below u.heap.size u w1 ∧ Hid (∀ u1, Below w1.heap.size w1 u1 →
      Calls Tryz.prog 45 #[.pointer (some ⟨dg, 0, none⟩), Pv sP] u1 fun e w2 => e = .returned (.int .i64 0) ∧ Below u.heap.size u w2 ∧ Hid (∀ u2, Below w2.heap.size w2 u2 →
        Calls Tryz.prog 30 #[.pointer (some ⟨dg, 0, none⟩), Pv sP] u2 fun e w3 => ∃ lg, e = .returned (.tuple #[.pointer (some ⟨lg, 0, none⟩), .int .i64 0]) ∧ Below u.heap.size u w3 ∧ Hid (
          Calls Tryz.prog 46 #[.pointer (some ⟨dg, 0, none⟩), .int .i64 (cap : Int), .slice a len c] w3 fun e w4 => ∃ cg, e = .returned (.tuple #[.pointer (some ⟨cg, 0, none⟩), .int .i64 0]) ∧ Below u.heap.size u w4 ∧ Hid (
            Calls Tryz.prog 37 #[.pointer (some ⟨dg, 0, none⟩), .pointer (some ⟨lg, 0, none⟩), .pointer (some ⟨cg, 0, none⟩), Pv sP] w4 fun e w5 => ∃ g, e = .returned (.tuple #[.pointer (some ⟨g, 0, none⟩), .int .i64 0]) ∧ Hid (GD w.heap.size w g dg Grp.new (Cac.new cap ns) sL sD [] w5))))) := by
  have hTu : Tab u := hT.kept (hu.block 0 hT.lt)
  have hus := hu.size
  refine (fresh_chain u u hTu (Below.refl _ _)).mono ?_
  rintro e w1 ⟨dg, rfl, hb1, K1⟩
  refine ⟨dg, rfl, hb1, fun u1 hu1 => (unhide K1 u1 hu1).mono ?_⟩
  rintro e w2 ⟨rfl, hb2, K2⟩
  refine ⟨rfl, hb2, fun u2 hu2 => (unhide K2 u2 hu2).mono ?_⟩
  rintro e w3 ⟨lg, rfl, Y⟩
  obtain ⟨S3, l3⟩ := unhide Y
  obtain ⟨Sl, Sd, ml, lv⟩ := l3.lv
  have hw3 : Below w.heap.size w w3 := hu.trans (l3.bel.mono hus)
  have hI3 : IHas w3 a len ns := by
    refine ⟨hI.1, fun hp => ?_⟩
    obtain ⟨b, off, e, hcell⟩ := hI.2 hp
    refine ⟨b, off, e, fun j hj => (hw3.cell (p := ⟨b, off + j, none⟩) (hI.lt hp e)).trans (hcell j hj)⟩
  refine ⟨lg, rfl, l3.bel, (cnew_ok dg Sd sD cap a len c ns w3 lv.dd hc hI3 hn ha).mono ?_⟩
  rintro e w4 ⟨cg, rfl, Y4⟩
  obtain ⟨S4, k4, g4, b4⟩ := unhide Y4
  obtain ⟨S5, t5, x5⟩ := tri_of lv k4 g4 b4
  have h4 : Below u.heap.size u w4 := l3.bel.trans (b4.mono l3.bel.size)
  refine ⟨cg, rfl, h4, (gnew_ok t5 sL_seen sP_da).mono ?_⟩
  rintro e w5 ⟨g, rfl, Y5⟩
  obtain ⟨S6, g6, x6, _⟩ := unhide Y5
  have ge5 : ∀ k, S5 k → u.heap.size ≤ k := x5.base l3.ge l3.bel.size
  exact ⟨g, rfl, cg, lg, S6, g6, fun k hk => Nat.le_trans hus (x6.base ge5 h4.size k hk), (hu.trans (h4.mono hus)).trans ((x6.below ge5 h4.size).mono hus), Nat.le_refl _, fun x hx => by simp at hx⟩

set_option maxHeartbeats 1000000 in
theorem gfresh_any (w : World) (hT : Tab w) (cap : Nat) (hc : 1 ≤ cap ∧ cap ≤ 512) (a : Option Addr) (len c : Nat) (ns : List Int) (hI : IHas w a len ns) (hn : len ≤ 17592186043904) (ha : a = none → c = 0 ∧ len = 0) :
    Calls Tryz.prog 11 #[Pv sP, .int .i64 (cap : Int), .slice a len c] w fun e w' => ∃ dg g, e = .returned (.tuple #[.pointer (some ⟨dg, 0, none⟩), .pointer (some ⟨g, 0, none⟩)]) ∧ Hid (GD w.heap.size w g dg Grp.new (Cac.new cap ns) sL sD [] w') := by
  have K : Hid (∀ u, Below w.heap.size w u → _) := fun u hu => gfresh_chain w u hT hu cap hc a len c ns hI hn ha
  have HK := hide (Kp.start w sP)
  clear hT hI hn ha hc
  generalize sP = p at *
  generalize (cap : Int) = ci at *
  go_enter Tryz.func11, Tryz.ntmps11
  go_wp2_with fail
  go_at_call 44
  refine (unhide K _ (unhide HK).2).mono ?_
  rintro e w1 ⟨dg, rfl, hb1, K2⟩
  have HK1 := hide ((unhide HK).call hb1)
  have KF := hide (unhide K2 _ (Below.refl _ _))
  clear K K2 hb1
  obtain ⟨f0, f1, f2, f3, f4, f5, f6, f7, f8, f9, f10, f11⟩ := (unhide HK1).cells
  go_wp2_with fail
  go_at_call 45
  refine (unhide KF).mono ?_
  rintro e w2 ⟨rfl, hb2, K3⟩
  have HK2 := hide ((unhide HK).call hb2)
  have KO := hide (unhide K3 _ (Below.refl _ _))
  clear KF K3 hb2 HK1 f0 f1 f2 f3 f4 f5 f6 f7 f8 f9 f10 f11
  obtain ⟨f0, f1, f2, f3, f4, f5, f6, f7, f8, f9, f10, f11⟩ := (unhide HK2).cells
  go_wp2_with fail
  go_at_call 30
  refine (unhide KO).mono ?_
  rintro e w3 ⟨lg, rfl, hb3, KN⟩
  have HK3 := hide ((unhide HK).call hb3)
  clear KO hb3 HK2 f0 f1 f2 f3 f4 f5 f6 f7 f8 f9 f10 f11
  go_wp2_with fail
  go_at_call 46
  refine (unhide KN).mono ?_
  rintro e w4 ⟨cg, rfl, hb4, KG⟩
  have HK4 := hide ((unhide HK).call hb4)
  clear KN hb4 HK3
  obtain ⟨f0, f1, f2, f3, f4, f5, f6, f7, f8, f9, f10, f11⟩ := (unhide HK4).cells
  go_wp2_with fail
  go_at_call 37
  refine (unhide KG).mono ?_
  rintro e w5 ⟨g, rfl, X⟩
  clear KG HK HK4 f0 f1 f2 f3 f4 f5 f6 f7 f8 f9 f10 f11
  go_wp2_with fail
  go_ret2
  exact ⟨dg, g, rfl, X⟩

/-- No picks. -/
theorem ihas_none (w : World) : IHas w none 0 [] := ⟨rfl, fun h => absurd h (by omega)⟩

/-- Begin. -/
theorem g_begin {B : Nat} {w : World} {g dg : Nat} {X : Grp} {C : Cac} {L : Lg} {D : Dev} {rows : List (Nat × Obj)} {u : World} (h : GD B w g dg X C L D rows u) (hN : X.N = none) :
    Calls Tryz.prog 13 #[.pointer (some ⟨g, 0, none⟩)] u fun e u' => ∃ o, e = .returned (.tuple #[.pointer (some ⟨o, 0, none⟩), .int .i64 0]) ∧ Hid (GD B w g dg { X with N := some (fun _ => none), o := o } C L D rows u') := by
  obtain ⟨cg, lg, S, h⟩ := h
  refine (begin_ok h.gv hN).mono ?_
  rintro e u' ⟨o, rfl, Y⟩
  obtain ⟨S', g1, x1, _⟩ := unhide Y
  exact ⟨o, rfl, cg, lg, S', h.next g1 x1⟩

/-- Write of a whole block. -/
theorem g_write {B : Nat} {w : World} {g dg : Nat} {X : Grp} {C : Cac} {L : Lg} {D : Dev} {rows : List (Nat × Obj)} {u : World} (h : GD B w g dg X C L D rows u) {N : Nat → Option Nt} (eN : X.N = some N) (b : Nat) (hb : 11 ≤ b ∧ b < 60) (a : Option Addr) (cap : Nat) (zs : List Int) (hr : Row u.heap.size u a 64 cap zs) :
    Calls Tryz.prog 18 #[.pointer (some ⟨X.o, 0, none⟩), .int .i64 (b : Int), .slice a 64 cap] u fun e u' => e = .returned (.int .i64 0) ∧ Hid (GD B w g dg { X with N := some (noteN N b ⟨1, zs⟩) } C L D rows u') := by
  obtain ⟨cg, lg, S, h⟩ := h
  have e1 : notE sG (b : Int) ((sG.ib : Nat) : Int) 64 = 0 := by
    have h0 : rngE sG.n (b : Int) ((sG.ib : Nat) : Int) = 0 := by
      unfold rngE
      rw [if_neg]
      show ¬ ((b : Int) < 11 ∨ (60 : Int) ≤ (b : Int))
      omega
    unfold notE
    rw [if_pos h0, if_pos (show 64 = sG.blk from rfl)]
  have := owrite_any h.gv eN (b : Int) a 64 cap zs hr
  rw [e1, if_pos rfl] at this
  refine this.mono ?_
  rintro e u' ⟨rfl, Y⟩
  obtain ⟨S', g1, x1⟩ := unhide Y
  rw [show (b : Int).toNat = b by simp] at g1
  exact ⟨rfl, cg, lg, S', h.next g1 x1⟩

/-- End. -/
theorem g_end {B : Nat} {w : World} {g dg : Nat} {X : Grp} {C : Cac} {L : Lg} {D : Dev} {rows : List (Nat × Obj)} {u : World} (h : GD B w g dg X C L D rows u) {N : Nat → Option Nt} (eN : X.N = some N) :
    Calls Tryz.prog 24 #[.pointer (some ⟨X.o, 0, none⟩)] u fun e u' => e = .returned (.int .i64 (endR sG X N C L D).1) ∧ Hid (GD B w g dg (endR sG X N C L D).2.1 (endR sG X N C L D).2.2.1 (endR sG X N C L D).2.2.2.1 (endR sG X N C L D).2.2.2.2 rows u') := by
  obtain ⟨cg, lg, S, h⟩ := h
  refine (oend_any h.gv eN).mono ?_
  rintro e u' ⟨rfl, Y⟩
  obtain ⟨S', g1, x1, _⟩ := unhide Y
  exact ⟨rfl, cg, lg, S', h.next g1 x1⟩

/-- Read of the group. -/
theorem g_read {B : Nat} {w : World} {g dg : Nat} {X : Grp} {C : Cac} {L : Lg} {D : Dev} {rows : List (Nat × Obj)} {u : World} (h : GD B w g dg X C L D rows u) {b : Nat} (hb : b < 60) (he : grE X C L D b = 0) :
    Calls Tryz.prog 27 #[.pointer (some ⟨g, 0, none⟩), .int .i64 (b : Int)] u fun e u' => ∃ a c, e = .returned (.tuple #[.slice a 64 c, .int .i64 0]) ∧ Hid (Own u.heap.size u' a 64 c (grZ X C L D b) ∧ GD B w g dg X (grC X C L D b) L (grD X C L D b) rows u' ∧ u.heap.size ≤ u'.heap.size) := by
  obtain ⟨cg, lg, S, h⟩ := h
  refine (gread_ok h.gv hb he).mono ?_
  rintro e u' ⟨a, c, rfl, Y⟩
  obtain ⟨S', o1, g1, x1, _⟩ := unhide Y
  exact ⟨a, c, rfl, o1, ⟨cg, lg, S', h.next g1 x1⟩, x1.fr.size⟩

/-- Blocks. -/
theorem g_blocks {B : Nat} {w : World} {g dg : Nat} {X : Grp} {C : Cac} {L : Lg} {D : Dev} {rows : List (Nat × Obj)} {u : World} (h : GD B w g dg X C L D rows u) :
    Calls Tryz.prog 35 #[.pointer (some ⟨g, 0, none⟩)] u fun e u' => ∃ a c, e = .returned (.slice a (blkI 60 X.Q).length c) ∧ Hid (IHas u' a (blkI 60 X.Q).length (blkI 60 X.Q) ∧ GD B w g dg X C L D rows u' ∧ Below u.heap.size u u') := by
  obtain ⟨cg, lg, S, h⟩ := h
  obtain ⟨Sg, m, hg, _⟩ := h.gv.gr
  refine (blocks_any hg).mono ?_
  rintro e u' ⟨v, rfl, Y⟩
  obtain ⟨g1, b1⟩ := unhide Y
  obtain ⟨a, c, rfl⟩ := g1.shape
  exact ⟨a, c, rfl, (gr_ihas g1).1, ⟨cg, lg, S, h.later b1⟩, b1⟩

/-- What End of one written block leaves. -/
theorem end_one (o b : Nat) (z : List Int) (hb : b < 60) (C : Cac) (D : Dev) (L : Lg) : endR sG ⟨fun _ => none, fun _ => false, some (noteN (fun _ => none) b ⟨1, z⟩), o⟩ (noteN (fun _ => none) b ⟨1, z⟩) C L D = (0, ⟨fun j => if j = b then some z else none, fun _ => false, none, o⟩, C, L, D) := by
  have k1 : isK (noteN (fun _ => none) b ⟨1, z⟩) 1 = fun j => j == b := by
    funext j
    unfold isK noteN
    by_cases e : j = b <;> simp [e]
  have k2 : isK (noteN (fun _ => none) b ⟨1, z⟩) 2 = fun j => false := by
    funext j
    unfold isK noteN
    by_cases e : j = b <;> simp [e]
  have k3 : isK (noteN (fun _ => none) b ⟨1, z⟩) 3 = fun j => false := by
    funext j
    unfold isK noteN
    by_cases e : j = b <;> simp [e]
  have km : isM (noteN (fun _ => none) b ⟨1, z⟩) (fun _ => none) = fun j => j == b := by
    funext j
    unfold isM
    rw [k1]
    simp
  have l0 : lstX (fun _ => false) sG.n = [] := by decide
  have l1 : lstX (fun j => j == b) sG.n = [b] := by
    have : ∀ b : Fin 60, lstX (fun j => j == b.val) 60 = [b.val] := by decide +kernel
    exact this ⟨b, hb⟩
  have lp : pendL sG (fun _ => none) = [] := by decide
  have hz : ntZ (noteN (fun _ => none) b ⟨1, z⟩) b = z := by simp [ntZ, noteN]
  have h1 : ¬ sG.lg < sG.uses 1 := by decide
  generalize noteN (fun _ => none) b ⟨1, z⟩ = N at *
  have en : enR sG ⟨fun _ => none, fun _ => false, some N, o⟩ N C L D = (0, ⟨fun _ => none, fun _ => false, some N, o⟩, C, L, D) := by
    unfold enR
    rw [if_neg]
    simp only [km, l1, lp, List.length_nil, List.length_cons, Nat.zero_add]
    exact h1
  unfold endR
  rw [en, k1, l1]
  rw [if_neg (by simpa using h1), if_neg (by simp)]
  unfold enT
  simp only [k1, k2, k3, l0, l1, ptsE, ptsC, ptsD, freQ, freF, freC, ownQ, ne_eq, not_true_eq_false, if_false, hz]

set_option maxHeartbeats 1000000 in
theorem gwakes_any (w : World) (hT : Tab w) : Calls Tryz.prog 9 #[] w fun e w' => e = .returned (.bool true) ∧ Below w.heap.size w w' := by
  have K1 := hide (gsmall_any w)
  have K2 : Hid (∀ u, Below w.heap.size w u → Calls Tryz.prog 11 #[Pv sP, .int .i64 8, .slice none 0 0] u fun e w' => ∃ dg g, e = .returned (.tuple #[.pointer (some ⟨dg, 0, none⟩), .pointer (some ⟨g, 0, none⟩)]) ∧ Hid (GD u.heap.size u g dg Grp.new (Cac.new 8 []) sL sD [] w' ∧ Below w.heap.size w u)) := fun u hu => by
    refine (gfresh_any u (hT.kept (hu.block 0 hT.lt)) 8 (by omega) none 0 0 [] (ihas_none u) (by omega) (fun _ => ⟨rfl, rfl⟩)).mono ?_
    rintro e w' ⟨dg, g, rfl, Y⟩
    exact ⟨dg, g, rfl, unhide Y, hu⟩
  have K3 : Hid (∀ v g dg u, GD v.heap.size v g dg Grp.new (Cac.new 8 []) sL sD [] u → Calls Tryz.prog 13 #[.pointer (some ⟨g, 0, none⟩)] u fun e u1 => ∃ o, e = .returned (.tuple #[.pointer (some ⟨o, 0, none⟩), .int .i64 0]) ∧
      Hid (Calls Tryz.prog 19 #[.int .u8 5] u1 fun e u2 => ∃ k, e = .returned (.slice (some ⟨k, 0, none⟩) 64 64) ∧
        Hid (Calls Tryz.prog 18 #[.pointer (some ⟨o, 0, none⟩), .int .i64 20, .slice (some ⟨k, 0, none⟩) 64 64] u2 fun e u3 => e = .returned (.int .i64 0) ∧
          Hid (Calls Tryz.prog 24 #[.pointer (some ⟨o, 0, none⟩)] u3 fun e u4 => e = .returned (.int .i64 0) ∧
            Hid (Calls Tryz.prog 27 #[.pointer (some ⟨g, 0, none⟩), .int .i64 20] u4 fun e u5 => ∃ a c, e = .returned (.tuple #[.slice a 64 c, .int .i64 0]) ∧
              Hid (Calls Tryz.prog 19 #[.int .u8 5] u5 fun e u6 => ∃ k, e = .returned (.slice (some ⟨k, 0, none⟩) 64 64) ∧
                Hid (Calls Tryz.prog 22 #[.slice a 64 c, .slice (some ⟨k, 0, none⟩) 64 64] u6 fun e u7 => e = .returned (.bool true) ∧
                  Hid (Calls Tryz.prog 35 #[.pointer (some ⟨g, 0, none⟩)] u7 fun e u8 => ∃ a c, e = .returned (.slice a 1 c) ∧
                    Hid (∀ u9, u9 = u8.alloc (.cells #[.int .i64 20] 3) → Calls Tryz.prog 42 #[.slice a 1 c, .slice (some ⟨u8.heap.size, 0, none⟩) 1 1] u9 fun e u10 => e = .returned (.bool true) ∧ Hid (Below v.heap.size v u10)))))))))) := fun v g dg u h => by
    refine (g_begin h rfl).mono ?_
    rintro e u1 ⟨o, rfl, Y1⟩
    refine ⟨o, rfl, (gfull_any 5 u1).mono ?_⟩
    rintro e u2 ⟨rfl, B2, b2⟩
    refine ⟨_, rfl, (g_write ((unhide Y1).later b2) rfl 20 (by omega) (some ⟨u1.heap.size, 0, none⟩) 64 (fl 5) (full_row (by omega) (by omega) B2)).mono ?_⟩
    rintro e u3 ⟨rfl, Y3⟩
    have he := g_end (X := ⟨fun _ => none, fun _ => false, some (noteN (fun _ => none) 20 ⟨1, fl 5⟩), o⟩) (unhide Y3) rfl
    rw [end_one o 20 (fl 5) (by omega)] at he
    refine ⟨rfl, he.mono ?_⟩
    rintro e u4 ⟨rfl, Y4⟩
    refine ⟨rfl, (g_read (b := 20) (unhide Y4) (by omega) rfl).mono ?_⟩
    rintro e u5 ⟨a, c, rfl, Y5⟩
    obtain ⟨o5, g5, _⟩ := unhide Y5
    refine ⟨a, c, rfl, (gfull_any 5 u5).mono ?_⟩
    rintro e u6 ⟨rfl, B6, b6⟩
    refine ⟨_, rfl, (same_true a (some ⟨u5.heap.size, 0, none⟩) 64 c 64 (fl 5) u6 (o5.has.later b6) (full_row (by omega) (by omega) B6).has).mono ?_⟩
    rintro e u7 ⟨rfl, rfl⟩
    refine ⟨rfl, (g_blocks (g5.later b6)).mono ?_⟩
    rintro e u8 ⟨a8, c8, rfl, Y8⟩
    obtain ⟨i8, g8, b8⟩ := unhide Y8
    have eB : blkI 60 (fun j => if j = 20 then some (fl 5) else none) = [20] := by
      have : blkL 60 (fun j => if j = 20 then some (fl 5) else none) = [20] := by
        have e2 : (fun b => ((if b = 20 then some (fl 5) else none : Option (List Int))).isSome) = fun b => b == 20 := by
          funext j
          by_cases e : j = 20 <;> simp [e]
        unfold blkL
        rw [e2]
        decide
      unfold blkI
      rw [this]
      rfl
    have i8' : IHas u8 a8 1 [20] := by
      have := i8
      show IHas u8 a8 [(20 : Int)].length [20]
      rw [← eB]
      exact i8
    refine ⟨a8, c8, ?_, fun u9 e9 => ?_⟩
    · show Ending.returned (Value.slice a8 (blkI 60 (fun j => if j = 20 then some (fl 5) else none)).length c8) = _
      rw [eB]
      rfl
    · have ba : Below u8.heap.size u8 u9 := by rw [e9]; exact (Below.refl _ _).alloc (Nat.le_refl _) _
      have i9 : IHas u9 a8 1 [20] := by
        refine ⟨i8'.1, fun hp => ?_⟩
        obtain ⟨b, off, e, hcell⟩ := i8'.2 hp
        exact ⟨b, off, e, fun j hj => (ba.cell (p := ⟨b, off + j, none⟩) (i8'.lt hp e)).trans (hcell j hj)⟩
      have n9 : IHas u9 (some ⟨u8.heap.size, 0, none⟩) 1 [20] := by
        refine ⟨rfl, fun _ => ⟨u8.heap.size, 0, rfl, fun j hj => ?_⟩⟩
        have ej : j = 0 := by omega
        subst ej
        rw [e9]
        exact (Bl.new u8 #[.int .i64 20] 3).cell 0 _ rfl
      refine (sameInts_any a8 (some ⟨u8.heap.size, 0, none⟩) 1 c8 1 [20] u9 i9 n9 (by omega)).mono ?_
      rintro e u10 ⟨rfl, q, rfl⟩
      exact ⟨rfl, below_drewN (g8.later ba).bel q⟩
  clear hT
  generalize sP = p at *
  go_enter Tryz.func9, Tryz.ntmps9
  go_wp2_with fail
  go_at_call 10
  refine (unhide K1).mono ?_
  rintro e w1 ⟨rfl, hb1⟩
  have KF := hide (unhide K2 _ hb1)
  clear K1 K2 hb1
  go_wp2_with fail
  go_at_call 11
  refine (unhide KF).mono ?_
  rintro e w2 ⟨dg, g, rfl, X⟩
  have KB := hide (unhide K3 _ _ _ _ (unhide X).1)
  have BW := hide (unhide X).2
  clear KF K3 X
  go_wp2_with fail
  go_at_call 13
  refine (unhide KB).mono ?_
  rintro e u1 ⟨o, rfl, K4⟩
  clear KB
  go_wp2_with fail
  go_at_call 19
  refine (unhide K4).mono ?_
  rintro e u2 ⟨k, rfl, K5⟩
  clear K4
  go_wp2_with fail
  go_at_call 18
  refine (unhide K5).mono ?_
  rintro e u3 ⟨rfl, K6⟩
  clear K5
  go_wp2_with fail
  go_at_call 24
  refine (unhide K6).mono ?_
  rintro e u4 ⟨rfl, K7⟩
  clear K6
  go_wp2_with fail
  go_at_call 27
  refine (unhide K7).mono ?_
  rintro e u5 ⟨a, c, rfl, K8⟩
  clear K7
  go_wp2_with fail
  go_at_call 19
  refine (unhide K8).mono ?_
  rintro e u6 ⟨k2, rfl, K9⟩
  clear K8
  go_wp2_with fail
  go_at_call 22
  refine (unhide K9).mono ?_
  rintro e u7 ⟨rfl, K10⟩
  clear K9
  go_wp2_with fail
  go_at_call 35
  refine (unhide K10).mono ?_
  rintro e u8 ⟨a8, c8, rfl, K11⟩
  clear K10
  go_wp2_with fail
  go_at_call 42
  refine (unhide K11 _ rfl).mono ?_
  rintro e u9 ⟨rfl, Z⟩
  clear K11
  go_wp2_with fail
  go_ret
  exact ⟨rfl, (unhide BW).trans ((unhide Z).mono (unhide BW).size)⟩

end Go.Proofs.YtdkicniciciobaaGreatDoor

/- The walk of GroupNil. -/
namespace Go.Proofs.YtdkicniciciobaaGreatDoor
open Go.RowKit Go.Shelf Go.Maps
set_option linter.unusedVariables false
set_option maxRecDepth 100000

end Go.Proofs.YtdkicniciciobaaGreatDoor

/- GroupKeeps: its memory and its calls. -/
namespace Go.Proofs.YtdkicniciciobaaGreatDoor
open Go.RowKit Go.Shelf Go.Maps
set_option linter.unusedVariables false
set_option maxRecDepth 100000

/-- The group that the law has. -/
def GE (w : World) (g dg : Nat) (X : Grp) (C : Cac) (L : Lg) (D : Dev) (u : World) (S : Nat → Prop) : Prop := 0 < w.heap.size ∧ ∃ cg lg, GL w.heap.size w g cg lg dg X C L D [] u S

theorem GE.lt {w : World} {g dg : Nat} {X : Grp} {C : Cac} {L : Lg} {D : Dev} {u : World} {S : Nat → Prop} (h : GE w g dg X C L D u S) {k : Nat} (hk : S k) : k < u.heap.size := by
  obtain ⟨_, cg, lg, h⟩ := h
  exact h.gv.lt hk

theorem GE.bel {w : World} {g dg : Nat} {X : Grp} {C : Cac} {L : Lg} {D : Dev} {u : World} {S : Nat → Prop} (h : GE w g dg X C L D u S) : Below w.heap.size w u := by
  obtain ⟨_, cg, lg, h⟩ := h
  exact h.bel

/-- Other blocks of the law turn. -/
theorem GE.kept {w : World} {g dg : Nat} {X : Grp} {C : Cac} {L : Lg} {D : Dev} {u u' : World} {S : Nat → Prop} (h : GE w g dg X C L D u S) (hb : Below w.heap.size u u') (hk : ∀ k, S k → u'.heap[k]? = u.heap[k]?) : GE w g dg X C L D u' S := by
  obtain ⟨h0, cg, lg, h⟩ := h
  obtain ⟨Sg, Sc, Sl, Sd, m, mk, ml, a⟩ := h.gv
  exact ⟨h0, cg, lg, (a.keptAll hk (hb.block 0 h0) hb.size).gv, h.ge, h.bel.trans hb, h.sz, fun x hx => by simp at hx⟩

theorem GE.later {w : World} {g dg : Nat} {X : Grp} {C : Cac} {L : Lg} {D : Dev} {u u' : World} {S : Nat → Prop} (h : GE w g dg X C L D u S) (hb : Below u.heap.size u u') : GE w g dg X C L D u' S :=
  h.kept (hb.mono h.bel.size) (fun k hk => hb.block k (h.lt hk))

/-- .. and the rows r and s. -/
structure GQ (w : World) (g dg gr gs : Nat) (X : Grp) (C : Cac) (L : Lg) (D : Dev) (u : World) (S : Nat → Prop) (zr zs : List Int) : Prop where
  ge : GE w g dg X C L D u S
  br : Block u gr zr
  lr : zr.length = 68
  nr : ¬ S gr
  rB : w.heap.size ≤ gr
  bs : Block u gs zs
  ls : zs.length = 68
  ns : ¬ S gs
  sB : w.heap.size ≤ gs
  ne : gr ≠ gs

theorem GQ.later {w : World} {g dg gr gs : Nat} {X : Grp} {C : Cac} {L : Lg} {D : Dev} {u u' : World} {S : Nat → Prop} {zr zs : List Int} (h : GQ w g dg gr gs X C L D u S zr zs) (hb : Below u.heap.size u u') : GQ w g dg gr gs X C L D u' S zr zs :=
  ⟨h.ge.later hb, h.br.below hb h.br.lt, h.lr, h.nr, h.rB, h.bs.below hb h.bs.lt, h.ls, h.ns, h.sB, h.ne⟩

theorem GQ.storeR {w : World} {g dg gr gs : Nat} {X : Grp} {C : Cac} {L : Lg} {D : Dev} {u : World} {S : Nat → Prop} {zr zs : List Int} (h : GQ w g dg gr gs X C L D u S zr zs) (k : Nat) (y : Int) : GQ w g dg gr gs X C L D (u.setCell ⟨gr, k, none⟩ (.int .u8 y)) S (zr.set k y) zs :=
  ⟨h.ge.kept ((Below.refl _ u).setCell (p := ⟨gr, k, none⟩) h.rB _) (fun j hj => Below.heap_setCell _ _ _ _ (fun e => h.nr (by have e' : j = gr := e; rw [← e']; exact hj))), h.br.set k y, by rw [List.length_set]; exact h.lr, h.nr, h.rB,
    (Below.heap_setCell _ _ _ _ (fun e => h.ne (Eq.symm e))).trans h.bs, h.ls, h.ns, h.sB, h.ne⟩

theorem GQ.storeS {w : World} {g dg gr gs : Nat} {X : Grp} {C : Cac} {L : Lg} {D : Dev} {u : World} {S : Nat → Prop} {zr zs : List Int} (h : GQ w g dg gr gs X C L D u S zr zs) (k : Nat) (y : Int) : GQ w g dg gr gs X C L D (u.setCell ⟨gs, k, none⟩ (.int .u8 y)) S zr (zs.set k y) :=
  ⟨h.ge.kept ((Below.refl _ u).setCell (p := ⟨gs, k, none⟩) h.sB _) (fun j hj => Below.heap_setCell _ _ _ _ (fun e => h.ns (by have e' : j = gs := e; rw [← e']; exact hj))),
    (Below.heap_setCell _ _ _ _ (fun e => h.ne e)).trans h.br, h.lr, h.nr, h.rB, h.bs.set k y, by rw [List.length_set]; exact h.ls, h.ns, h.sB, h.ne⟩

theorem GQ.next {w : World} {g dg gr gs : Nat} {X X' : Grp} {C C' : Cac} {L L' : Lg} {D D' : Dev} {u u' : World} {S S' : Nat → Prop} {zr zs : List Int} (h : GQ w g dg gr gs X C L D u S zr zs) (hg : GE w g dg X' C' L' D' u' S') (hx : Nx S u S' u') : GQ w g dg gr gs X' C' L' D' u' S' zr zs :=
  have kr := hx.keep h.br.lt h.nr
  have ks := hx.keep h.bs.lt h.ns
  ⟨hg, kr.1.trans h.br, h.lr, kr.2.1, h.rB, ks.1.trans h.bs, h.ls, ks.2.1, h.sB, h.ne⟩

/-- A row that is not the group's. -/
def RO (w u : World) (S : Nat → Prop) (x : Int) (t : Trip) : Prop := t.2.1 = 64 ∧ Own w.heap.size u t.1 t.2.1 t.2.2 (fl x) ∧ ∀ k, t.1 = some ⟨k, 0, none⟩ → ¬ S k

theorem RO.next {w u u' : World} {S S' : Nat → Prop} {x : Int} {t : Trip} (h : RO w u S x t) (hx : Nx S u S' u') : RO w u' S' x t :=
  ⟨h.1, h.2.1.kept (fun k e => (hx.keep (h.2.1.lt e).1 (h.2.2 k e)).1), fun k e => (hx.keep (h.2.1.lt e).1 (h.2.2 k e)).2.1⟩

/-- What was answered. -/
structure AN (w : World) (g dg gr gs : Nat) (x : Int) (X : Grp) (C : Cac) (L : Lg) (D : Dev) (ts : List Trip) (u : World) (S : Nat → Prop) (zr zs : List Int) : Prop where
  q : GQ w g dg gr gs X C L D u S zr zs
  rr : ∀ t ∈ ts, RO w u S x t
  pw : (ts ++ ([(some ⟨gr, 0, none⟩, 64, 68), (some ⟨gs, 0, none⟩, 64, 68)] : List Trip)).Pairwise Aside

theorem AN.next {w : World} {g dg gr gs : Nat} {x : Int} {X X' : Grp} {C C' : Cac} {L L' : Lg} {D D' : Dev} {ts : List Trip} {u u' : World} {S S' : Nat → Prop} {zr zs : List Int} (h : AN w g dg gr gs x X C L D ts u S zr zs) (hg : GE w g dg X' C' L' D' u' S') (hx : Nx S u S' u') : AN w g dg gr gs x X' C' L' D' ts u' S' zr zs :=
  ⟨h.q.next hg hx, fun t ht => (h.rr t ht).next hx, h.pw⟩

theorem AN.later {w : World} {g dg gr gs : Nat} {x : Int} {X : Grp} {C : Cac} {L : Lg} {D : Dev} {ts : List Trip} {u u' : World} {S : Nat → Prop} {zr zs : List Int} (h : AN w g dg gr gs x X C L D ts u S zr zs) (hb : Below u.heap.size u u') : AN w g dg gr gs x X C L D ts u' S zr zs :=
  h.next (h.q.ge.later hb) ((Nx.refl S u).below' hb)

theorem AN.start {w : World} {g dg gr gs : Nat} {x : Int} {X : Grp} {C : Cac} {L : Lg} {D : Dev} {u : World} {S : Nat → Prop} {zr zs : List Int} (h : GQ w g dg gr gs X C L D u S zr zs) : AN w g dg gr gs x X C L D [] u S zr zs :=
  ⟨h, fun t ht => by simp at ht, by
    simp only [List.nil_append, List.pairwise_cons, List.mem_cons, List.not_mem_nil, or_false, forall_eq, false_implies, implies_true, List.Pairwise.nil, and_true]
    intro k e e'
    cases e
    cases e'
    exact h.ne rfl⟩

theorem AN.add {w : World} {g dg gr gs : Nat} {x : Int} {X X' : Grp} {C C' : Cac} {L L' : Lg} {D D' : Dev} {ts : List Trip} {u u' : World} {S S' : Nat → Prop} {zr zs : List Int} (h : AN w g dg gr gs x X C L D ts u S zr zs) (hg : GE w g dg X' C' L' D' u' S') (hx : Nx S u S' u') {a : Option Addr} {c : Nat} (ho : Own u.heap.size u' a 64 c (fl x)) (hn : ∀ k, a = some ⟨k, 0, none⟩ → ¬ S' k) : AN w g dg gr gs x X' C' L' D' (ts ++ [(a, 64, c)]) u' S' zr zs := by
  have h1 := h.next hg hx
  have hs := h.q.ge.bel.size
  refine ⟨h1.q, fun t ht => ?_, ?_⟩
  · rcases List.mem_append.1 ht with e | e
    · exact h1.rr t e
    · obtain rfl := List.mem_singleton.1 e
      exact ⟨rfl, ho.base hs, hn⟩
  · have hp := List.pairwise_append.1 h.pw
    have asn : ∀ t : Trip, (∀ k, t.1 = some ⟨k, 0, none⟩ → k < u.heap.size) → Aside (a, 64, c) t ∧ Aside t (a, 64, c) := fun t ht =>
      ⟨fun k e e' => by have := (ho.lt e).2.1; have := ht k e'; omega, fun k e e' => by have := (ho.lt e').2.1; have := ht k e; omega⟩
    rw [List.append_assoc]
    refine List.pairwise_append.2 ⟨hp.1, ?_, fun t ht b hb => ?_⟩
    · show ((a, 64, c) :: [(some ⟨gr, 0, none⟩, 64, 68), (some ⟨gs, 0, none⟩, 64, 68)] : List Trip).Pairwise Aside
      refine List.pairwise_cons.2 ⟨fun t ht => ?_, hp.2.1⟩
      simp only [List.mem_cons, List.not_mem_nil, or_false] at ht
      rcases ht with rfl | rfl
      · exact (asn _ (fun k e => by cases e; exact h.q.br.lt)).1
      · exact (asn _ (fun k e => by cases e; exact h.q.bs.lt)).1
    · rcases List.mem_append.1 hb with e | e
      · obtain rfl := List.mem_singleton.1 e
        exact (asn t (fun k e => ((h.rr t ht).2.1.lt e).1)).2
      · exact hp.2.2 t ht b e

/-- Read of the operation. -/
theorem a_oread {w : World} {g dg gr gs : Nat} {x : Int} {X : Grp} {C : Cac} {L : Lg} {D : Dev} {ts : List Trip} {u : World} {S : Nat → Prop} {zr zs : List Int} (h : AN w g dg gr gs x X C L D ts u S zr zs) {N : Nat → Option Nt} (eN : X.N = some N) {b : Nat} (hb : b < 60) {t : Nt} (et : N b = some t) (hk : t.k = 1 ∨ t.k = 2) (hz : t.z = fl x) :
    Calls Tryz.prog 21 #[.pointer (some ⟨X.o, 0, none⟩), .int .i64 (b : Int)] u fun e u' => ∃ a c, e = .returned (.tuple #[.slice a 64 c, .int .i64 0]) ∧ Hid (∃ S', AN w g dg gr gs x X C L D (ts ++ [(a, 64, c)]) u' S' zr zs) := by
  obtain ⟨h0, cg, lg, hl⟩ := h.q.ge
  refine (oread_note hl.gv eN hb et hk).mono ?_
  rintro e u' ⟨a, c, rfl, Y⟩
  obtain ⟨S', o1, g1, x1, n1⟩ := unhide Y
  rw [hz] at o1
  exact ⟨a, c, rfl, S', h.add ⟨h0, cg, lg, hl.next g1 x1⟩ x1 o1 n1⟩

/-- Read of the group. -/
theorem a_gread {w : World} {g dg gr gs : Nat} {x : Int} {X : Grp} {C : Cac} {L : Lg} {D : Dev} {ts : List Trip} {u : World} {S : Nat → Prop} {zr zs : List Int} (h : AN w g dg gr gs x X C L D ts u S zr zs) {b : Nat} (hb : b < 60) (he : grE X C L D b = 0) (hz : grZ X C L D b = fl x) :
    Calls Tryz.prog 27 #[.pointer (some ⟨g, 0, none⟩), .int .i64 (b : Int)] u fun e u' => ∃ a c, e = .returned (.tuple #[.slice a 64 c, .int .i64 0]) ∧ Hid (∃ S', AN w g dg gr gs x X (grC X C L D b) L (grD X C L D b) (ts ++ [(a, 64, c)]) u' S' zr zs) := by
  obtain ⟨h0, cg, lg, hl⟩ := h.q.ge
  refine (gread_ok hl.gv hb he).mono ?_
  rintro e u' ⟨a, c, rfl, Y⟩
  obtain ⟨S', o1, g1, x1, n1⟩ := unhide Y
  rw [hz] at o1
  exact ⟨a, c, rfl, S', h.add ⟨h0, cg, lg, hl.next g1 x1⟩ x1 o1 n1⟩

/-- End. -/
theorem a_end {w : World} {g dg gr gs : Nat} {x : Int} {X : Grp} {C : Cac} {L : Lg} {D : Dev} {ts : List Trip} {u : World} {S : Nat → Prop} {zr zs : List Int} (h : AN w g dg gr gs x X C L D ts u S zr zs) {N : Nat → Option Nt} (eN : X.N = some N) :
    Calls Tryz.prog 24 #[.pointer (some ⟨X.o, 0, none⟩)] u fun e u' => e = .returned (.int .i64 (endR sG X N C L D).1) ∧ Hid (∃ S', AN w g dg gr gs x (endR sG X N C L D).2.1 (endR sG X N C L D).2.2.1 (endR sG X N C L D).2.2.2.1 (endR sG X N C L D).2.2.2.2 ts u' S' zr zs) := by
  obtain ⟨h0, cg, lg, hl⟩ := h.q.ge
  refine (oend_any hl.gv eN).mono ?_
  rintro e u' ⟨rfl, Y⟩
  obtain ⟨S', g1, x1, _⟩ := unhide Y
  exact ⟨rfl, S', h.next ⟨h0, cg, lg, hl.next g1 x1⟩ x1⟩

/-- Blocks. -/
theorem a_blocks {w : World} {g dg gr gs : Nat} {x : Int} {X : Grp} {C : Cac} {L : Lg} {D : Dev} {ts : List Trip} {u : World} {S : Nat → Prop} {zr zs : List Int} (h : AN w g dg gr gs x X C L D ts u S zr zs) (hq : (blkI 60 X.Q).length = 1) :
    Calls Tryz.prog 35 #[.pointer (some ⟨g, 0, none⟩)] u fun e u' => ∃ a c, e = .returned (.slice a 1 c) ∧ Hid ((∃ xs, IOwn u.heap.size u' a 1 c xs) ∧ Below u.heap.size u u' ∧ AN w g dg gr gs x X C L D ts u' S zr zs) := by
  obtain ⟨h0, cg, lg, hl⟩ := h.q.ge
  obtain ⟨Sg, m, hg, _⟩ := hl.gv.gr
  refine (blocks_any hg).mono ?_
  rintro e u' ⟨v, rfl, Y⟩
  obtain ⟨g1, b1⟩ := unhide Y
  obtain ⟨a, c, rfl, o1⟩ := g1.own
  rw [show (blkI sG.n X.Q).length = 1 from hq] at o1 ⊢
  exact ⟨a, c, rfl, ⟨_, o1⟩, b1, h.later b1⟩

theorem otrip_mem {ts : List Trip} {B Lb k : Nat} (h : FA.T (listsOf B Lb ts) k) : ∃ t ∈ ts, t.1 = some ⟨k, 0, none⟩ := by
  obtain ⟨p, hp, hA⟩ := h
  have hp' : p < ts.length := hp
  have : (tripAt ts p).1 = some ⟨k, 0, none⟩ := hA
  rw [tripAt_eq hp'] at this
  exact ⟨_, List.getElem_mem hp', this⟩

theorem oitrip_mem {ts : List FA.ITrip} {B Lb k : Nat} (h : FA.TI (FA.ilistsOf B Lb ts) k) : ∃ t ∈ ts, t.1 = some ⟨k, 0, none⟩ := by
  obtain ⟨p, hp, hA⟩ := h
  have hp' : p < ts.length := hp
  have : (FA.itripAt ts p).1 = some ⟨k, 0, none⟩ := hA
  rw [FA.itripAt_eq hp'] at this
  exact ⟨_, List.getElem_mem hp', this⟩

/-- A row of bytes, and a row of numbers, that is not the group's. -/
def OB (w u : World) (S : Nat → Prop) (t : Trip) : Prop := ∃ xs, Own w.heap.size u t.1 t.2.1 t.2.2 xs ∧ t.2.1 ≤ 10000 ∧ ∀ k, t.1 = some ⟨k, 0, none⟩ → ¬ S k

def OI (w u : World) (S : Nat → Prop) (t : FA.ITrip) : Prop := ∃ xs, IOwn w.heap.size u t.1 t.2.1 t.2.2 xs ∧ t.2.1 ≤ 10000 ∧ ∀ k, t.1 = some ⟨k, 0, none⟩ → ¬ S k

theorem OB.later {w u u' : World} {S : Nat → Prop} {t : Trip} (h : OB w u S t) (hb : Below u.heap.size u u') : OB w u' S t := by
  obtain ⟨xs, h1, h2⟩ := h
  exact ⟨xs, h1.below hb (Nat.le_refl _), h2⟩

theorem OI.later {w u u' : World} {S : Nat → Prop} {t : FA.ITrip} (h : OI w u S t) (hb : Below u.heap.size u u') : OI w u' S t := by
  obtain ⟨xs, h1, h2⟩ := h
  exact ⟨xs, h1.below hb (Nat.le_refl _), h2⟩

theorem oblock_own {u : World} {g B : Nat} {zs : List Int} (h : Block u g zs) (hB : B ≤ g) {n c : Nat} (hn : n ≤ c) (hc : zs.length = c) (hm : c ≤ 10000) : Own B u (some ⟨g, 0, none⟩) n c (zs.take n) :=
  ⟨by simp; omega, hn, by unfold maxLen; omega, .inr ⟨g, _, rfl, hB, h, by simp [hc], by simp [List.map_take]⟩⟩

theorem AN.ob {w : World} {g dg gr gs : Nat} {x : Int} {X : Grp} {C : Cac} {L : Lg} {D : Dev} {ts : List Trip} {u : World} {S : Nat → Prop} {zr zs : List Int} (h : AN w g dg gr gs x X C L D ts u S zr zs) : ∀ t ∈ ts ++ ([(some ⟨gr, 0, none⟩, 64, 68), (some ⟨gs, 0, none⟩, 64, 68)] : List Trip), OB w u S t := by
  intro t ht
  rcases List.mem_append.1 ht with e | e
  · obtain ⟨h1, h2, h3⟩ := h.rr t e
    exact ⟨_, h2, by omega, h3⟩
  · simp only [List.mem_cons, List.not_mem_nil, or_false] at e
    rcases e with rfl | rfl
    · exact ⟨_, oblock_own (n := 64) (c := 68) h.q.br h.q.rB (by decide) h.q.lr (by decide), (by show (64 : Nat) ≤ 10000; omega), fun k e => by cases e; exact h.q.nr⟩
    · exact ⟨_, oblock_own (n := 64) (c := 68) h.q.bs h.q.sB (by decide) h.q.ls (by decide), (by show (64 : Nat) ≤ 10000; omega), fun k e => by cases e; exact h.q.ns⟩

/-- BytesApart of rows of the law. -/
theorem o_bapart {w : World} {g dg : Nat} {X : Grp} {C : Cac} {L : Lg} {D : Dev} {u : World} {S : Nat → Prop} (h : GE w g dg X C L D u S) (ts : List Trip) (is : List FA.ITrip) (hts : ∀ t ∈ ts, OB w u S t) (his : ∀ t ∈ is, OI w u S t) (N : Nat) (hN : ts.length = N) (hN6 : N ≤ 64) (hp : ts.Pairwise Aside) (Lb : Nat) (hLb : Lb = u.heap.size) :
    Calls Tryz.prog 40 #[.slice (some ⟨Lb, 0, none⟩) N N] (u.alloc (.cells (ts.map sval).toArray 49)) fun e w1 => e = .returned (.bool true) ∧ Hid (GE w g dg X C L D w1 S ∧ ∀ t ∈ is, OI w w1 S t) := by
  subst hLb
  have hb := (Below.refl u.heap.size u).alloc (Nat.le_refl _) (.cells (ts.map sval).toArray 49)
  have hnew : (u.alloc (.cells (ts.map sval).toArray 49)).heap[u.heap.size]? = some (.cells (ts.map sval).toArray 49 (0, 0)) := World.alloc_heap_new _ _
  have h1 := h.later hb
  have t1 : ∀ t ∈ ts, OB w (u.alloc (.cells (ts.map sval).toArray 49)) S t := fun t ht => (hts t ht).later hb
  have i1 : ∀ t ∈ is, OI w (u.alloc (.cells (ts.map sval).toArray 49)) S t := fun t ht => (his t ht).later hb
  have hsz := h.bel.size
  generalize u.alloc (.cells (ts.map sval).toArray 49) = v at *
  refine (FA.apart_list w.heap.size u.heap.size N ts v hN hN6 (fun t ht => ?_) hsz hp hnew (fun t ht => ?_)).mono ?_
  · obtain ⟨xs, _, h2, _⟩ := t1 t ht
    omega
  · obtain ⟨xs, h2, _⟩ := t1 t ht
    exact ⟨xs, h2⟩
  · rintro e w1 ⟨rfl, z1, z2⟩
    refine ⟨rfl, h1.kept z1 (fun k hk => z2 k (h1.lt hk) (fun hT => ?_)), fun t ht => ?_⟩
    · obtain ⟨t, ht, e⟩ := otrip_mem hT
      obtain ⟨_, _, _, h3⟩ := t1 t ht
      exact h3 k e hk
    · obtain ⟨xs, o1, o2⟩ := i1 t ht
      refine ⟨xs, o1.kept (fun k e => z2 k (o1.lt e).1 (fun hT => ?_)), o2⟩
      obtain ⟨t', ht', e'⟩ := otrip_mem hT
      obtain ⟨_, h3, _⟩ := t1 t' ht'
      obtain ⟨c1, hc1⟩ := (h3.lt e').2.2
      obtain ⟨c2, hc2⟩ := (o1.lt e).2.2
      rw [hc1] at hc2
      simp at hc2

/-- IntsApart of rows of the law. -/
theorem o_iapart {w : World} {g dg : Nat} {X : Grp} {C : Cac} {L : Lg} {D : Dev} {u : World} {S : Nat → Prop} (h : GE w g dg X C L D u S) (is : List FA.ITrip) (his : ∀ t ∈ is, OI w u S t) (N : Nat) (hN : is.length = N) (hN6 : N ≤ 64) (hp : is.Pairwise FA.IAside) (Lb : Nat) (hLb : Lb = u.heap.size) :
    Calls Tryz.prog 41 #[.slice (some ⟨Lb, 0, none⟩) N N] (u.alloc (.cells (is.map isval).toArray 22)) fun e w1 => e = .returned (.bool true) ∧ Hid (GE w g dg X C L D w1 S) := by
  subst hLb
  have hb := (Below.refl u.heap.size u).alloc (Nat.le_refl _) (.cells (is.map isval).toArray 22)
  have hnew : (u.alloc (.cells (is.map isval).toArray 22)).heap[u.heap.size]? = some (.cells (is.map isval).toArray 22 (0, 0)) := World.alloc_heap_new _ _
  have h1 := h.later hb
  have i1 : ∀ t ∈ is, OI w (u.alloc (.cells (is.map isval).toArray 22)) S t := fun t ht => (his t ht).later hb
  have hsz := h.bel.size
  generalize u.alloc (.cells (is.map isval).toArray 22) = v at *
  refine (FA.iapart_list w.heap.size u.heap.size N is v hN hN6 (fun t ht => ?_) hsz hp hnew (fun t ht => ?_)).mono ?_
  · obtain ⟨xs, _, h2, _⟩ := i1 t ht
    omega
  · obtain ⟨xs, h2, _⟩ := i1 t ht
    exact ⟨xs, h2⟩
  · rintro e w1 ⟨rfl, z1, z2⟩
    refine ⟨rfl, h1.kept z1 (fun k hk => z2 k (h1.lt hk) (fun hT => ?_))⟩
    obtain ⟨t, ht, e⟩ := oitrip_mem hT
    obtain ⟨_, _, _, h3⟩ := i1 t ht
    exact h3 k e hk

/-- What End of one written block and one of data leaves. -/
theorem end_two (o : Nat) (z : List Int) (D : Dev) (L : Lg) :
    endR sG ⟨fun _ => none, fun _ => false, some (noteN (noteN (fun _ => none) 30 ⟨1, z⟩) 31 ⟨2, z⟩), o⟩ (noteN (noteN (fun _ => none) 30 ⟨1, z⟩) 31 ⟨2, z⟩) (Cac.new 3 []) L D = (0, ⟨fun j => if j = 30 then some z else none, fun _ => false, none, o⟩, (Cac.new 3 []).set 31 ⟨z, true, 0⟩, L, D) := by
  have k1 : isK (noteN (noteN (fun _ => none) 30 ⟨1, z⟩) 31 ⟨2, z⟩) 1 = fun j => j == 30 := by
    funext j
    unfold isK noteN
    by_cases e : j = 31
    · subst e; simp
    · by_cases e2 : j = 30
      · subst e2; simp
      · simp [e, e2]
  have k2 : isK (noteN (noteN (fun _ => none) 30 ⟨1, z⟩) 31 ⟨2, z⟩) 2 = fun j => j == 31 := by
    funext j
    unfold isK noteN
    by_cases e : j = 31
    · subst e; simp
    · by_cases e2 : j = 30
      · subst e2; simp
      · simp [e, e2]
  have k3 : isK (noteN (noteN (fun _ => none) 30 ⟨1, z⟩) 31 ⟨2, z⟩) 3 = fun j => false := by
    funext j
    unfold isK noteN
    by_cases e : j = 31
    · subst e; simp
    · by_cases e2 : j = 30
      · subst e2; simp
      · simp [e, e2]
  have km : isM (noteN (noteN (fun _ => none) 30 ⟨1, z⟩) 31 ⟨2, z⟩) (fun _ => none) = fun j => j == 30 := by
    funext j
    unfold isM
    rw [k1]
    simp
  have l0 : lstX (fun _ => false) sG.n = [] := by decide
  have l1 : lstX (fun j => j == 30) sG.n = [30] := by decide
  have l2 : lstX (fun j => j == 31) sG.n = [31] := by decide
  have lp : pendL sG (fun _ => none) = [] := by decide
  have hz1 : ntZ (noteN (noteN (fun _ => none) 30 ⟨1, z⟩) 31 ⟨2, z⟩) 30 = z := by simp [ntZ, noteN]
  have hz2 : ntZ (noteN (noteN (fun _ => none) 30 ⟨1, z⟩) 31 ⟨2, z⟩) 31 = z := by simp [ntZ, noteN]
  have h1 : ¬ sG.lg < sG.uses 1 := by decide
  generalize noteN (noteN (fun _ => none) 30 ⟨1, z⟩) 31 ⟨2, z⟩ = N at *
  have hh : ((Cac.new 3 []).those D.n fHeld).length < (Cac.new 3 []).cap := by
    have : (Cac.new 3 []).those D.n fHeld = [] := by
      unfold Cac.those
      refine List.filter_eq_nil_iff.2 (fun b _ => ?_)
      simp [Cac.new]
    rw [this]
    show 0 < 3
    omega
  have hl : (Cac.new 3 []).L 31 = none := rfl
  have e1 : (Cac.new 3 []).rmE D = 0 := if_pos hh
  have e2 : (Cac.new 3 []).rmC D = Cac.new 3 [] := if_pos hh
  have e3 : (Cac.new 3 []).rmD D = D := if_pos hh
  have p1 : (Cac.new 3 []).ptE D 31 = 0 := by simp [Cac.ptE, hl, e1]
  have p2 : (Cac.new 3 []).ptC D 31 z = (Cac.new 3 []).set 31 ⟨z, true, 0⟩ := by simp [Cac.ptC, hl, e1, e2]
  have p3 : (Cac.new 3 []).ptD D 31 = D := by simp [Cac.ptD, hl, e3]
  have en : enR sG ⟨fun _ => none, fun _ => false, some N, o⟩ N (Cac.new 3 []) L D = (0, ⟨fun _ => none, fun _ => false, some N, o⟩, Cac.new 3 [], L, D) := by
    unfold enR
    rw [if_neg]
    simp only [km, l1, lp, List.length_nil, List.length_cons, Nat.zero_add]
    exact h1
  unfold endR
  rw [en, k1, l1]
  rw [if_neg (by simpa using h1), if_neg (by simp)]
  unfold enT
  simp only [k1, k2, k3, l0, l1, l2, ptsE, ptsC, ptsD, freQ, freF, freC, ownQ, hz1, hz2, p1, p2, p3, ne_eq, not_true_eq_false, if_true, if_false]

end Go.Proofs.YtdkicniciciobaaGreatDoor

/- GroupKeeps: its calls behind each other. -/
namespace Go.Proofs.YtdkicniciciobaaGreatDoor
open Go.RowKit Go.Shelf Go.Maps
set_option linter.unusedVariables false
set_option maxRecDepth 100000

theorem GD.base {w w1 : World} {g dg : Nat} {X : Grp} {C : Cac} {L : Lg} {D : Dev} {rows : List (Nat × Obj)} {u : World} (hb : Below w.heap.size w w1) (h : GD w1.heap.size w1 g dg X C L D rows u) : GD w.heap.size w g dg X C L D rows u := by
  obtain ⟨cg, lg, S, h⟩ := h
  exact ⟨cg, lg, S, h.gv, fun k hk => Nat.le_trans hb.size (h.ge k hk), hb.trans (h.bel.mono hb.size), Nat.le_refl _, h.ro⟩

/-- Data of a whole block. -/
theorem g_data {B : Nat} {w : World} {g dg : Nat} {X : Grp} {C : Cac} {L : Lg} {D : Dev} {rows : List (Nat × Obj)} {u : World} (h : GD B w g dg X C L D rows u) {N : Nat → Option Nt} (eN : X.N = some N) (b : Nat) (hb : sP 11 ≤ (b : Int) ∧ b < 60) (a : Option Addr) (cap : Nat) (zs : List Int) (hr : Row u.heap.size u a 64 cap zs) :
    Calls Tryz.prog 20 #[.pointer (some ⟨X.o, 0, none⟩), .int .i64 (b : Int), .slice a 64 cap] u fun e u' => e = .returned (.int .i64 0) ∧ Hid (GD B w g dg { X with N := some (noteN N b ⟨2, zs⟩) } C L D rows u') := by
  obtain ⟨cg, lg, S, h⟩ := h
  have e1 : notE sG (b : Int) (sP 11) 64 = 0 := by
    have h0 : rngE sG.n (b : Int) (sP 11) = 0 := by
      unfold rngE
      rw [if_neg]
      show ¬ ((b : Int) < sP 11 ∨ (60 : Int) ≤ (b : Int))
      omega
    unfold notE
    rw [if_pos h0, if_pos (show 64 = sG.blk from rfl)]
  have := odata_any h.gv eN (b : Int) a 64 cap zs hr
  rw [e1, if_pos rfl] at this
  refine this.mono ?_
  rintro e u' ⟨rfl, Y⟩
  obtain ⟨S', g1, x1⟩ := unhide Y
  rw [show (b : Int).toNat = b by simp] at g1
  exact ⟨rfl, cg, lg, S', h.next g1 x1⟩

theorem sP_31 : sP 11 ≤ ((31 : Nat) : Int) := by
  have e : sP 11 = planOf 64 60 6 9 11 := by unfold sP; rw [makeP_ok sP_make]
  rw [e]
  decide

def nt2 (x : Int) : Nat → Option Nt := noteN (noteN (fun _ => none) 30 ⟨1, fl x⟩) 31 ⟨2, fl x⟩

def X2 (x : Int) (o : Nat) : Grp := ⟨fun _ => none, fun _ => false, some (nt2 x), o⟩

def X3 (x : Int) (o : Nat) : Grp := ⟨fun j => if j = 30 then some (fl x) else none, fun _ => false, none, o⟩

def C3 (x : Int) : Cac := (Cac.new 3 []).set 31 ⟨fl x, true, 0⟩

/-- From Begin to Data. -/
theorem o_begin {w : World} {g dg : Nat} {x : Int} {u : World} (h : GD w.heap.size w g dg Grp.new (Cac.new 3 []) sL sD [] u) (h0 : 0 < w.heap.size) (hx0 : 0 ≤ x) (hx1 : x ≤ 255) :
    Calls Tryz.prog 13 #[.pointer (some ⟨g, 0, none⟩)] u fun e u1 => ∃ o, e = .returned (.tuple #[.pointer (some ⟨o, 0, none⟩), .int .i64 0]) ∧ Hid (
      Calls Tryz.prog 19 #[.int .u8 x] u1 fun e u2 => ∃ gf, e = .returned (.slice (some ⟨gf, 0, none⟩) 64 64) ∧ Hid (
        Calls Tryz.prog 38 #[.slice (some ⟨gf, 0, none⟩) 64 64] u2 fun e u3 => ∃ gr, e = .returned (.slice (some ⟨gr, 0, none⟩) 64 68) ∧ Hid (
          Calls Tryz.prog 19 #[.int .u8 x] u3 fun e u4 => ∃ gh, e = .returned (.slice (some ⟨gh, 0, none⟩) 64 64) ∧ Hid (
            Calls Tryz.prog 38 #[.slice (some ⟨gh, 0, none⟩) 64 64] u4 fun e u5 => ∃ gs, e = .returned (.slice (some ⟨gs, 0, none⟩) 64 68) ∧ Hid (
              Calls Tryz.prog 18 #[.pointer (some ⟨o, 0, none⟩), .int .i64 30, .slice (some ⟨gr, 0, none⟩) 64 68] u5 fun e u6 => e = .returned (.int .i64 0) ∧ Hid (
                Calls Tryz.prog 20 #[.pointer (some ⟨o, 0, none⟩), .int .i64 31, .slice (some ⟨gs, 0, none⟩) 64 68] u6 fun e u7 => e = .returned (.int .i64 0) ∧ Hid (∃ S, GQ w g dg gr gs (X2 x o) (Cac.new 3 []) sL sD u7 S (rm (fl x) 4) (rm (fl x) 4)))))))) := by
  refine (g_begin h rfl).mono ?_
  rintro e u1 ⟨o, rfl, Y1⟩
  refine ⟨o, rfl, (gfull_any x u1).mono ?_⟩
  rintro e u2 ⟨rfl, B2, b2⟩
  refine ⟨_, rfl, (roomy_any _ 64 64 (fl x) u2 (full_row hx0 hx1 B2)).mono ?_⟩
  rintro e u3 ⟨rfl, B3, b3⟩
  refine ⟨_, rfl, (gfull_any x u3).mono ?_⟩
  rintro e u4 ⟨rfl, B4, b4⟩
  refine ⟨_, rfl, (roomy_any _ 64 64 (fl x) u4 (full_row hx0 hx1 B4)).mono ?_⟩
  rintro e u5 ⟨rfl, B5, b5⟩
  refine ⟨_, rfl, ?_⟩
  obtain ⟨cg, lg, S, g1⟩ := unhide Y1
  have s2 := b2.size
  have s3 := b3.size
  have s4 := b4.size
  have s5 := b5.size
  have l3 := B3.lt
  have l5 := B5.lt
  have sw := g1.bel.size
  have nS : ∀ k, u1.heap.size ≤ k → ¬ S k := fun k hk hS => by have := g1.gv.lt hS; omega
  have R5 : Block u5 u2.heap.size (rm (fl x) 4) := (B3.below b4 l3).below b5 (by omega)
  have g5 := (((g1.later b2).later b3).later b4).later b5
  have ga := (g5.add R5 (nS _ s2)).add B5 (nS _ (by omega))
  refine (g_write (X := { Grp.new with N := some (fun _ => none), o := o }) ⟨cg, lg, S, ga⟩ rfl 30 (by omega) _ 68 (fl x) (room_row R5 (fl_len x) (by omega) (fl_byt hx0 hx1))).mono ?_
  rintro e u6 ⟨rfl, Y6⟩
  refine ⟨rfl, ?_⟩
  have y6 := unhide Y6
  have B6 : Block u6 u4.heap.size (rm (fl x) 4) := by
    obtain ⟨_, _, _, z⟩ := y6
    exact (z.ro _ (List.mem_cons_self ..)).1
  refine (g_data (X := { Grp.new with N := some (noteN (fun _ => none) 30 ⟨1, fl x⟩), o := o }) y6 rfl 31 ⟨sP_31, by omega⟩ _ 68 (fl x) (room_row B6 (fl_len x) (by omega) (fl_byt hx0 hx1))).mono ?_
  rintro e u7 ⟨rfl, Y7⟩
  obtain ⟨cg7, lg7, S7, z⟩ := unhide Y7
  have q1 := z.ro _ (List.mem_cons_self ..)
  have q2 := z.ro _ (List.mem_cons_of_mem _ (List.mem_cons_self ..))
  have hlen : (rm (fl x) 4).length = 68 := by rw [rm_length _ _ (Nat.le_refl _), fl_len]
  exact ⟨rfl, S7, ⟨h0, cg7, lg7, z.gv, z.ge, z.bel, z.sz, fun y hy => by simp at hy⟩, q2.1, hlen, q2.2, by omega, q1.1, hlen, q1.2, by omega, by omega⟩

/-- Kept, twice. -/
theorem o_kept {w : World} {g dg gr gs : Nat} {x : Int} {X : Grp} {C : Cac} {L : Lg} {D : Dev} {u : World} {S : Nat → Prop} (h : GQ w g dg gr gs X C L D u S (rm (fl x) 4) (rm (fl x) 4)) :
    Calls Tryz.prog 19 #[.int .u8 x] u fun e u1 => ∃ gf, e = .returned (.slice (some ⟨gf, 0, none⟩) 64 64) ∧ Hid (
      Calls Tryz.prog 39 #[.slice (some ⟨gr, 0, none⟩) 64 68, .slice (some ⟨gf, 0, none⟩) 64 64] u1 fun e u2 => e = .returned (.bool true) ∧ Hid (
        Calls Tryz.prog 19 #[.int .u8 x] u2 fun e u3 => ∃ gh, e = .returned (.slice (some ⟨gh, 0, none⟩) 64 64) ∧ Hid (
          Calls Tryz.prog 39 #[.slice (some ⟨gs, 0, none⟩) 64 68, .slice (some ⟨gh, 0, none⟩) 64 64] u3 fun e u4 => e = .returned (.bool true) ∧ Hid (∃ S zr zs, GQ w g dg gr gs X C L D u4 S zr zs)))) := by
  refine (gfull_any x u).mono ?_
  rintro e u1 ⟨rfl, B1, b1⟩
  have h1 := h.later b1
  refine ⟨_, rfl, (kept_any gr _ 64 64 (fl x) u1 (by omega) h1.br (B1.has (fl_len x))).mono ?_⟩
  rintro e u2 ⟨rfl, b2⟩
  have h2 := h1.later b2
  refine ⟨rfl, (gfull_any x u2).mono ?_⟩
  rintro e u3 ⟨rfl, B3, b3⟩
  have h3 := h2.later b3
  refine ⟨_, rfl, (kept_any gs _ 64 64 (fl x) u3 (by omega) h3.bs (B3.has (fl_len x))).mono ?_⟩
  rintro e u4 ⟨rfl, b4⟩
  exact ⟨rfl, S, _, _, h3.later b4⟩

theorem x3_read (x : Int) (o : Nat) (L : Lg) (D : Dev) : grE (X3 x o) (C3 x) L D 30 = 0 ∧ grZ (X3 x o) (C3 x) L D 30 = fl x ∧ grC (X3 x o) (C3 x) L D 30 = C3 x ∧ grD (X3 x o) (C3 x) L D 30 = D := ⟨rfl, rfl, rfl, rfl⟩

theorem x3_data (x : Int) (o : Nat) (D : Dev) : grE (X3 x o) (C3 x) sL D 31 = 0 ∧ grZ (X3 x o) (C3 x) sL D 31 = fl x ∧ grC (X3 x o) (C3 x) sL D 31 = C3 x ∧ grD (X3 x o) (C3 x) sL D 31 = D := ⟨rfl, rfl, rfl, rfl⟩

theorem x3_blk (x : Int) (o : Nat) : (blkI 60 (X3 x o).Q).length = 1 := by
  have : (fun b => ((X3 x o).Q b).isSome) = fun b => b == 30 := by
    funext b
    show (if b = 30 then some (fl x) else none).isSome = _
    by_cases e : b = 30 <;> simp [e]
  unfold blkI blkL
  rw [this]
  decide

/-- All answers, and the lists of blocks. -/
structure AK (w : World) (g dg gr gs : Nat) (x : Int) (o : Nat) (ts : List Trip) (i1 i2 : FA.ITrip) (u : World) (S : Nat → Prop) (zr zs : List Int) : Prop where
  an : AN w g dg gr gs x (X3 x o) (C3 x) sL sD ts u S zr zs
  oi : ∀ t ∈ [i1, i2], OI w u S t
  ap : [i1, i2].Pairwise FA.IAside

theorem AK.later {w : World} {g dg gr gs : Nat} {x : Int} {o : Nat} {ts : List Trip} {i1 i2 : FA.ITrip} {u u' : World} {S : Nat → Prop} {zr zs : List Int} (h : AK w g dg gr gs x o ts i1 i2 u S zr zs) (hb : Below u.heap.size u u') : AK w g dg gr gs x o ts i1 i2 u' S zr zs :=
  ⟨h.an.later hb, fun t ht => (h.oi t ht).later hb, h.ap⟩

/-- Three Reads of the operation, End, three Reads of the group, Blocks twice. -/
theorem o_answers {w : World} {g dg gr gs : Nat} {x : Int} {o : Nat} {u : World} {S : Nat → Prop} {zr zs : List Int} (h : GQ w g dg gr gs (X2 x o) (Cac.new 3 []) sL sD u S zr zs) :
    Calls Tryz.prog 21 #[.pointer (some ⟨o, 0, none⟩), .int .i64 30] u fun e u1 => ∃ a0 c0, e = .returned (.tuple #[.slice a0 64 c0, .int .i64 0]) ∧ Hid (
      Calls Tryz.prog 21 #[.pointer (some ⟨o, 0, none⟩), .int .i64 31] u1 fun e u2 => ∃ a1 c1, e = .returned (.tuple #[.slice a1 64 c1, .int .i64 0]) ∧ Hid (
        Calls Tryz.prog 21 #[.pointer (some ⟨o, 0, none⟩), .int .i64 30] u2 fun e u3 => ∃ a2 c2, e = .returned (.tuple #[.slice a2 64 c2, .int .i64 0]) ∧ Hid (
          Calls Tryz.prog 24 #[.pointer (some ⟨o, 0, none⟩)] u3 fun e u4 => e = .returned (.int .i64 0) ∧ Hid (
            Calls Tryz.prog 27 #[.pointer (some ⟨g, 0, none⟩), .int .i64 30] u4 fun e u5 => ∃ a3 c3, e = .returned (.tuple #[.slice a3 64 c3, .int .i64 0]) ∧ Hid (
              Calls Tryz.prog 27 #[.pointer (some ⟨g, 0, none⟩), .int .i64 30] u5 fun e u6 => ∃ a4 c4, e = .returned (.tuple #[.slice a4 64 c4, .int .i64 0]) ∧ Hid (
                Calls Tryz.prog 27 #[.pointer (some ⟨g, 0, none⟩), .int .i64 31] u6 fun e u7 => ∃ a5 c5, e = .returned (.tuple #[.slice a5 64 c5, .int .i64 0]) ∧ Hid (
                  Calls Tryz.prog 35 #[.pointer (some ⟨g, 0, none⟩)] u7 fun e u8 => ∃ m1 n1, e = .returned (.slice m1 1 n1) ∧ Hid (
                    Calls Tryz.prog 35 #[.pointer (some ⟨g, 0, none⟩)] u8 fun e u9 => ∃ m2 n2, e = .returned (.slice m2 1 n2) ∧ Hid (∃ S, AK w g dg gr gs x o [(a0, 64, c0), (a1, 64, c1), (a2, 64, c2), (a3, 64, c3), (a4, 64, c4), (a5, 64, c5)] (m1, 1, n1) (m2, 1, n2) u9 S zr zs))))))))) := by
  have e30 : nt2 x 30 = some ⟨1, fl x⟩ := rfl
  have e31 : nt2 x 31 = some ⟨2, fl x⟩ := rfl
  refine (a_oread (X := X2 x o) (AN.start h) rfl (b := 30) (by omega) e30 (.inl rfl) rfl).mono ?_
  rintro e u1 ⟨a0, c0, rfl, Y1⟩
  obtain ⟨S1, y1⟩ := unhide Y1
  refine ⟨a0, c0, rfl, (a_oread (X := X2 x o) y1 rfl (b := 31) (by omega) e31 (.inr rfl) rfl).mono ?_⟩
  rintro e u2 ⟨a1, c1, rfl, Y2⟩
  obtain ⟨S2, y2⟩ := unhide Y2
  refine ⟨a1, c1, rfl, (a_oread (X := X2 x o) y2 rfl (b := 30) (by omega) e30 (.inl rfl) rfl).mono ?_⟩
  rintro e u3 ⟨a2, c2, rfl, Y3⟩
  obtain ⟨S3, y3⟩ := unhide Y3
  have ye := a_end (X := X2 x o) y3 (N := nt2 x) rfl
  rw [show endR sG (X2 x o) (nt2 x) (Cac.new 3 []) sL sD = (0, X3 x o, C3 x, sL, sD) from end_two o (fl x) sD sL] at ye
  refine ⟨a2, c2, rfl, ye.mono ?_⟩
  rintro e u4 ⟨rfl, Y4⟩
  obtain ⟨S4, y4⟩ := unhide Y4
  refine ⟨rfl, (a_gread y4 (b := 30) (by omega) (x3_read x o _ _).1 (x3_read x o _ _).2.1).mono ?_⟩
  rintro e u5 ⟨a3, c3, rfl, Y5⟩
  obtain ⟨S5, y5⟩ := unhide Y5
  rw [(x3_read x o sL sD).2.2.1, (x3_read x o sL sD).2.2.2] at y5
  refine ⟨a3, c3, rfl, (a_gread y5 (b := 30) (by omega) (x3_read x o _ _).1 (x3_read x o _ _).2.1).mono ?_⟩
  rintro e u6 ⟨a4, c4, rfl, Y6⟩
  obtain ⟨S6, y6⟩ := unhide Y6
  rw [(x3_read x o sL sD).2.2.1, (x3_read x o sL sD).2.2.2] at y6
  refine ⟨a4, c4, rfl, (a_gread y6 (b := 31) (by omega) (x3_data x o _).1 (x3_data x o _).2.1).mono ?_⟩
  rintro e u7 ⟨a5, c5, rfl, Y7⟩
  obtain ⟨S7, y7⟩ := unhide Y7
  rw [(x3_data x o sD).2.2.1, (x3_data x o sD).2.2.2] at y7
  refine ⟨a5, c5, rfl, (a_blocks y7 (x3_blk x o)).mono ?_⟩
  rintro e u8 ⟨m1, n1, rfl, Y8⟩
  obtain ⟨⟨xs1, o1⟩, b8, y8⟩ := unhide Y8
  refine ⟨m1, n1, rfl, (a_blocks y8 (x3_blk x o)).mono ?_⟩
  rintro e u9 ⟨m2, n2, rfl, Y9⟩
  obtain ⟨⟨xs2, o2⟩, b9, y9⟩ := unhide Y9
  have s7 := y7.q.ge.bel.size
  have s8 := b8.size
  have nS : ∀ k, u7.heap.size ≤ k → ¬ S7 k := fun k hk hS => by have := y7.q.ge.lt hS; omega
  refine ⟨m2, n2, rfl, S7, y9, fun t ht => ?_, ?_⟩
  · simp only [List.mem_cons, List.not_mem_nil, or_false] at ht
    rcases ht with rfl | rfl
    · exact ⟨_, (o1.base s7).below b9 (Nat.le_refl _), (by show (1 : Nat) ≤ 10000; omega), fun k e => nS k (o1.lt e).2.1⟩
    · exact ⟨_, o2.base (by omega), (by show (1 : Nat) ≤ 10000; omega), fun k e => nS k (by have := (o2.lt e).2.1; omega)⟩
  · simp only [List.pairwise_cons, List.mem_cons, List.not_mem_nil, or_false, forall_eq, false_implies, implies_true, List.Pairwise.nil, and_true]
    exact FA.iaside_of o1 o2 (Nat.le_refl _)

/-- full and SameBytes, whatever row. -/
theorem o_same1 {w : World} {g dg gr gs : Nat} {x : Int} {o : Nat} {ts : List Trip} {i1 i2 : FA.ITrip} {u : World} {S : Nat → Prop} {zr zs : List Int} (h : AK w g dg gr gs x o ts i1 i2 u S zr zs) {a : Option Addr} {c : Nat} (hm : (a, 64, c) ∈ ts) :
    Calls Tryz.prog 19 #[.int .u8 x] u fun e u1 => ∃ gf, e = .returned (.slice (some ⟨gf, 0, none⟩) 64 64) ∧ Hid (
      Calls Tryz.prog 22 #[.slice a 64 c, .slice (some ⟨gf, 0, none⟩) 64 64] u1 fun e u2 => e = .returned (.bool true) ∧ u1 = u2 ∧ Hid (AK w g dg gr gs x o ts i1 i2 u1 S zr zs)) := by
  refine (gfull_any x u).mono ?_
  rintro e u1 ⟨rfl, B1, b1⟩
  have h1 := h.later b1
  refine ⟨_, rfl, (same_true a _ 64 c 64 (fl x) u1 (h1.an.rr _ hm).2.1.has (B1.has (fl_len x))).mono ?_⟩
  rintro e u2 ⟨rfl, rfl⟩
  exact ⟨rfl, rfl, h1⟩

/-- Four of them. -/
theorem o_same {w : World} {g dg gr gs : Nat} {x : Int} {o : Nat} {i1 i2 : FA.ITrip} {u : World} {S : Nat → Prop} {zr zs : List Int} {a0 a1 a2 a3 a4 a5 : Option Addr} {c0 c1 c2 c3 c4 c5 : Nat} (h : AK w g dg gr gs x o [(a0, 64, c0), (a1, 64, c1), (a2, 64, c2), (a3, 64, c3), (a4, 64, c4), (a5, 64, c5)] i1 i2 u S zr zs) :
    Calls Tryz.prog 19 #[.int .u8 x] u fun e u1 => ∃ gf, e = .returned (.slice (some ⟨gf, 0, none⟩) 64 64) ∧ Hid (
      Calls Tryz.prog 22 #[.slice a0 64 c0, .slice (some ⟨gf, 0, none⟩) 64 64] u1 fun e u2 => e = .returned (.bool true) ∧ Hid (
        Calls Tryz.prog 19 #[.int .u8 x] u2 fun e u3 => ∃ gf, e = .returned (.slice (some ⟨gf, 0, none⟩) 64 64) ∧ Hid (
          Calls Tryz.prog 22 #[.slice a1 64 c1, .slice (some ⟨gf, 0, none⟩) 64 64] u3 fun e u4 => e = .returned (.bool true) ∧ Hid (
            Calls Tryz.prog 19 #[.int .u8 x] u4 fun e u5 => ∃ gf, e = .returned (.slice (some ⟨gf, 0, none⟩) 64 64) ∧ Hid (
              Calls Tryz.prog 22 #[.slice a3 64 c3, .slice (some ⟨gf, 0, none⟩) 64 64] u5 fun e u6 => e = .returned (.bool true) ∧ Hid (
                Calls Tryz.prog 19 #[.int .u8 x] u6 fun e u7 => ∃ gf, e = .returned (.slice (some ⟨gf, 0, none⟩) 64 64) ∧ Hid (
                  Calls Tryz.prog 22 #[.slice a5 64 c5, .slice (some ⟨gf, 0, none⟩) 64 64] u7 fun e u8 => e = .returned (.bool true) ∧
                    Hid (AK w g dg gr gs x o [(a0, 64, c0), (a1, 64, c1), (a2, 64, c2), (a3, 64, c3), (a4, 64, c4), (a5, 64, c5)] i1 i2 u8 S zr zs)))))))) := by
  refine (o_same1 h (a := a0) (c := c0) (by simp)).mono ?_
  rintro e u1 ⟨gf, rfl, K⟩
  refine ⟨gf, rfl, (unhide K).mono ?_⟩
  rintro e u2 ⟨rfl, rfl, k⟩
  refine ⟨rfl, (o_same1 (unhide k) (a := a1) (c := c1) (by simp)).mono ?_⟩
  rintro e u3 ⟨gf, rfl, K⟩
  refine ⟨gf, rfl, (unhide K).mono ?_⟩
  rintro e u4 ⟨rfl, rfl, k⟩
  refine ⟨rfl, (o_same1 (unhide k) (a := a3) (c := c3) (by simp)).mono ?_⟩
  rintro e u5 ⟨gf, rfl, K⟩
  refine ⟨gf, rfl, (unhide K).mono ?_⟩
  rintro e u6 ⟨rfl, rfl, k⟩
  refine ⟨rfl, (o_same1 (unhide k) (a := a5) (c := c5) (by simp)).mono ?_⟩
  rintro e u7 ⟨gf, rfl, K⟩
  refine ⟨gf, rfl, (unhide K).mono ?_⟩
  rintro e u8 ⟨rfl, rfl, k⟩
  exact ⟨rfl, k⟩

/-- From BytesApart on. -/
theorem o_tail {w : World} {g dg gr gs : Nat} {x : Int} {o : Nat} {u : World} {S : Nat → Prop} {zr zs : List Int} {a0 a1 a2 a3 a4 a5 m1 m2 : Option Addr} {c0 c1 c2 c3 c4 c5 n1 n2 : Nat} (h : AK w g dg gr gs x o [(a0, 64, c0), (a1, 64, c1), (a2, 64, c2), (a3, 64, c3), (a4, 64, c4), (a5, 64, c5)] (m1, 1, n1) (m2, 1, n2) u S zr zs) :
    ∀ K, K = u.heap.size → Calls Tryz.prog 40 #[.slice (some ⟨K, 0, none⟩) 8 8] (u.alloc (.cells #[.slice a0 64 c0, .slice a1 64 c1, .slice a2 64 c2, .slice a3 64 c3, .slice a4 64 c4, .slice a5 64 c5, .slice (some ⟨gr, 0, none⟩) 64 68, .slice (some ⟨gs, 0, none⟩) 64 68] 49)) fun e u1 => e = .returned (.bool true) ∧
      Hid (∀ K, K = u1.heap.size → Calls Tryz.prog 41 #[.slice (some ⟨K, 0, none⟩) 2 2] (u1.alloc (.cells #[.slice m1 1 n1, .slice m2 1 n2] 22)) fun e u2 => e = .returned (.bool true) ∧
        Hid (Calls Tryz.prog 27 #[.pointer (some ⟨g, 0, none⟩), .int .i64 30] u2 fun e u3 => ∃ a c, e = .returned (.tuple #[.slice a 64 c, .int .i64 0]) ∧
          Hid (Calls Tryz.prog 19 #[.int .u8 x] u3 fun e u4 => ∃ gf, e = .returned (.slice (some ⟨gf, 0, none⟩) 64 64) ∧
            Hid (Calls Tryz.prog 22 #[.slice a 64 c, .slice (some ⟨gf, 0, none⟩) 64 64] u4 fun e u5 => e = .returned (.bool true) ∧ Hid (Below w.heap.size w u5))))) := by
  intro K hK
  refine (o_bapart h.an.q.ge [(a0, 64, c0), (a1, 64, c1), (a2, 64, c2), (a3, 64, c3), (a4, 64, c4), (a5, 64, c5), (some ⟨gr, 0, none⟩, 64, 68), (some ⟨gs, 0, none⟩, 64, 68)] [(m1, 1, n1), (m2, 1, n2)] h.an.ob h.oi 8 rfl (by omega) h.an.pw K hK).mono ?_
  rintro e u1 ⟨rfl, X1⟩
  refine ⟨rfl, fun K hK => (o_iapart (unhide X1).1 [(m1, 1, n1), (m2, 1, n2)] (unhide X1).2 2 rfl (by omega) h.ap K hK).mono ?_⟩
  rintro e u2 ⟨rfl, Y2⟩
  obtain ⟨h0, cg, lg, hl⟩ := unhide Y2
  refine ⟨rfl, (g_read (b := 30) ⟨cg, lg, S, hl⟩ (by omega) (x3_read x o _ _).1).mono ?_⟩
  rintro e u3 ⟨a, c, rfl, Y3⟩
  obtain ⟨o3, g3, s3⟩ := unhide Y3
  rw [(x3_read x o sL sD).2.1] at o3
  refine ⟨a, c, rfl, (gfull_any x u3).mono ?_⟩
  rintro e u4 ⟨rfl, B4, b4⟩
  refine ⟨_, rfl, (same_true a _ 64 c 64 (fl x) u4 (o3.below b4 (Nat.le_refl _)).has (B4.has (fl_len x))).mono ?_⟩
  rintro e u5 ⟨rfl, rfl⟩
  exact ⟨rfl, (g3.later b4).bel⟩

end Go.Proofs.YtdkicniciciobaaGreatDoor

/- GroupKeeps' walk. -/
namespace Go.Proofs.YtdkicniciciobaaGreatDoor
open Go.RowKit Go.Shelf Go.Maps
set_option linter.unusedVariables false
set_option maxRecDepth 100000

set_option maxHeartbeats 8000000 in
theorem gkeeps_walk (x y : Int) (w : World) (hx0 : 0 ≤ x) (hx1 : x ≤ 255) (hT : Tab w) : Calls Tryz.prog 7 #[.int .u8 x, .int .u8 y] w fun e w' => e = .returned (.bool true) ∧ Below w.heap.size w w' := by
  have K1 := hide (gwakes_any w hT)
  have KS : Hid (∀ u, Calls Tryz.prog 10 #[] u fun e w' => e = .returned (Pv sP) ∧ Hid (Below u.heap.size u w')) := fun u => gsmall_any u
  have KF : Hid (∀ u, Below w.heap.size w u → Calls Tryz.prog 11 #[Pv sP, .int .i64 3, .slice none 0 0] u fun e w' => ∃ dg g, e = .returned (.tuple #[.pointer (some ⟨dg, 0, none⟩), .pointer (some ⟨g, 0, none⟩)]) ∧ Hid (GD w.heap.size w g dg Grp.new (Cac.new 3 []) sL sD [] w')) := fun u hu => by
    refine (gfresh_any u (hT.kept (hu.block 0 hT.lt)) 3 (by omega) none 0 0 [] (ihas_none u) (by omega) (fun _ => ⟨rfl, rfl⟩)).mono ?_
    rintro e w' ⟨dg, g, rfl, Y⟩
    exact ⟨dg, g, rfl, GD.base hu (unhide Y)⟩
  have KB : Hid (∀ g dg u, GD w.heap.size w g dg Grp.new (Cac.new 3 []) sL sD [] u → _) := fun g dg u h => o_begin h hT.lt hx0 hx1
  clear hT hx0 hx1
  generalize sP = p at *
  go_enter Tryz.func7, Tryz.ntmps7
  go_wp2_with fail
  go_at_call 9
  refine (unhide K1).mono ?_
  rintro e w1 ⟨rfl, x1⟩
  have Z1 := hide x1
  clear K1 x1
  have KS1 := hide (unhide KS w1)
  clear KS
  go_wp2_with fail
  go_at_call 10
  refine (unhide KS1).mono ?_
  rintro e w2 ⟨rfl, hb2⟩
  have Z2 := hide ((unhide Z1).trans ((unhide hb2).mono (unhide Z1).size))
  have KF1 := hide (unhide KF w2 (unhide Z2))
  clear KS1 KF hb2 Z1 Z2
  go_wp2_with fail
  go_at_call 11
  refine (unhide KF1).mono ?_
  rintro e u0 ⟨dg, g, rfl, XW⟩
  have C0 := hide (unhide KB g dg u0 (unhide XW))
  clear KF1 XW KB
  go_wp2_with fail
  go_at_call 13
  refine (unhide C0).mono ?_
  rintro e u1 ⟨o, rfl, C1⟩
  clear C0
  go_wp2_with fail
  go_at_call 19
  refine (unhide C1).mono ?_
  rintro e u2 ⟨gf, rfl, C2⟩
  clear C1
  go_wp2_with fail
  go_at_call 38
  refine (unhide C2).mono ?_
  rintro e u3 ⟨gr, rfl, C3⟩
  clear C2
  go_wp2_with fail
  go_at_call 19
  refine (unhide C3).mono ?_
  rintro e u4 ⟨gh, rfl, C4⟩
  clear C3
  go_wp2_with fail
  go_at_call 38
  refine (unhide C4).mono ?_
  rintro e u5 ⟨gs, rfl, C5⟩
  clear C4
  go_wp2_with fail
  go_at_call 18
  refine (unhide C5).mono ?_
  rintro e u6 ⟨rfl, C6⟩
  clear C5
  go_wp2_with fail
  go_at_call 20
  refine (unhide C6).mono ?_
  rintro e u7 ⟨rfl, X7⟩
  clear C6
  obtain ⟨S7, q7⟩ := unhide X7
  have C7 := hide (o_kept q7)
  clear X7 q7
  go_wp2_with fail
  go_at_call 19
  refine (unhide C7).mono ?_
  rintro e v1 ⟨gf1, rfl, C8⟩
  clear C7
  go_wp2_with fail
  go_at_call 39
  refine (unhide C8).mono ?_
  rintro e v2 ⟨rfl, C9⟩
  clear C8
  go_wp2_with fail
  go_at_call 19
  refine (unhide C9).mono ?_
  rintro e v3 ⟨gf3, rfl, C10⟩
  clear C9
  go_wp2_with fail
  go_at_call 39
  refine (unhide C10).mono ?_
  rintro e v4 ⟨rfl, X11⟩
  clear C10
  go_upto_region 12 with fail
  go_loopw [13] (fun i wr => ∃ k : Nat, k ≤ 64 ∧ i = .int .i64 (k : Int) ∧ Hid (∃ S zr zs, GQ w g dg gr gs (X2 x o) (Cac.new 3 []) sL sD wr S zr zs)) (fun i _ => 64 - (intOf i).toNat)
  case atStart => exact ⟨0, by omega, rfl, X11⟩
  case round =>
    obtain ⟨j, hj, rfl, XQ⟩ := hrel
    clear X11
    obtain ⟨S, zr, zs, kq⟩ := unhide XQ
    by_cases hlt2 : j < 64
    · have c1 := kq.br.cell (i := j) (by rw [kq.lr]; omega)
      have f1 := kq.br.free j
      have k2 := kq.storeR j y
      have c2 := k2.bs.cell (i := j) (by rw [k2.ls]; omega)
      have f2 := k2.bs.free j
      have H2 : Hid (∃ S zr zs, GQ w g dg gr gs (X2 x o) (Cac.new 3 []) sL sD ((wr.setCell ⟨gr, j, none⟩ (.int .u8 y)).setCell ⟨gs, j, none⟩ (.int .u8 y)) S zr zs) := ⟨_, _, _, k2.storeS j y⟩
      generalize zr[j]?.getD 0 = z1 at *
      generalize zs[j]?.getD 0 = z2 at *
      clear kq k2 XQ
      go_wp2_with fail
      exact ⟨⟨j + 1, by omega, by go_num, H2⟩, by simp [intOf]; omega⟩
    · have nj : ¬ (j : Int) < 64 := by omega
      have C12 := hide (o_answers kq)
      clear XQ kq
      go_wp2_with fail
      go_at_call 21
      refine (unhide C12).mono ?_
      rintro e t1 ⟨a0, c0, rfl, C13⟩
      clear C12
      go_wp2_with fail
      go_at_call 21
      refine (unhide C13).mono ?_
      rintro e t2 ⟨a1, c1, rfl, C14⟩
      clear C13
      go_wp2_with fail
      go_at_call 21
      refine (unhide C14).mono ?_
      rintro e t3 ⟨a2, c2, rfl, C15⟩
      clear C14
      go_wp2_with fail
      go_at_call 24
      refine (unhide C15).mono ?_
      rintro e t4 ⟨rfl, C16⟩
      clear C15
      go_wp2_with fail
      go_at_call 27
      refine (unhide C16).mono ?_
      rintro e t5 ⟨a3, c3, rfl, C17⟩
      clear C16
      go_wp2_with fail
      go_at_call 27
      refine (unhide C17).mono ?_
      rintro e t6 ⟨a4, c4, rfl, C18⟩
      clear C17
      go_wp2_with fail
      go_at_call 27
      refine (unhide C18).mono ?_
      rintro e t7 ⟨a5, c5, rfl, C19⟩
      clear C18
      go_wp2_with fail
      go_at_call 35
      refine (unhide C19).mono ?_
      rintro e t8 ⟨m1, n1, rfl, C20⟩
      clear C19
      go_wp2_with fail
      go_at_call 35
      refine (unhide C20).mono ?_
      rintro e t9 ⟨m2, n2, rfl, X20⟩
      clear C20
      obtain ⟨S9, k9⟩ := unhide X20
      have D0 := hide (o_same k9)
      clear X20 k9
      go_wp2_with fail
      go_at_call 19
      refine (unhide D0).mono ?_
      rintro e r1 ⟨h1, rfl, D1⟩
      clear D0
      go_wp2_with fail
      go_at_call 22
      refine (unhide D1).mono ?_
      rintro e r2 ⟨rfl, D2⟩
      clear D1
      go_wp2_with fail
      go_at_call 19
      refine (unhide D2).mono ?_
      rintro e r3 ⟨h3, rfl, D3⟩
      clear D2
      go_wp2_with fail
      go_at_call 22
      refine (unhide D3).mono ?_
      rintro e r4 ⟨rfl, D4⟩
      clear D3
      go_wp2_with fail
      go_at_call 19
      refine (unhide D4).mono ?_
      rintro e r5 ⟨h5, rfl, D5⟩
      clear D4
      go_wp2_with fail
      go_at_call 22
      refine (unhide D5).mono ?_
      rintro e r6 ⟨rfl, D6⟩
      clear D5
      go_wp2_with fail
      go_at_call 19
      refine (unhide D6).mono ?_
      rintro e r7 ⟨h7, rfl, D7⟩
      clear D6
      go_wp2_with fail
      go_at_call 22
      refine (unhide D7).mono ?_
      rintro e r8 ⟨rfl, D8⟩
      clear D7
      have E0 := hide (o_tail (unhide D8) r8.heap.size rfl)
      clear D8
      go_wp2_with fail
      go_at_call 40
      refine (unhide E0).mono ?_
      rintro e r9 ⟨rfl, E1⟩
      have E2 := hide (unhide E1 r9.heap.size rfl)
      clear E0 E1
      go_wp2_with fail
      go_at_call 41
      refine (unhide E2).mono ?_
      rintro e q1 ⟨rfl, E3⟩
      clear E2
      go_wp2_with fail
      go_at_call 27
      refine (unhide E3).mono ?_
      rintro e q2 ⟨a6, c6, rfl, E4⟩
      clear E3
      go_wp2_with fail
      go_at_call 19
      refine (unhide E4).mono ?_
      rintro e q3 ⟨h9, rfl, E5⟩
      clear E4
      go_wp2_with fail
      go_at_call 22
      refine (unhide E5).mono ?_
      rintro e q4 ⟨rfl, E6⟩
      clear E5
      go_wp2_with fail
      go_ret
      exact ⟨rfl, unhide E6⟩

end Go.Proofs.YtdkicniciciobaaGreatDoor

