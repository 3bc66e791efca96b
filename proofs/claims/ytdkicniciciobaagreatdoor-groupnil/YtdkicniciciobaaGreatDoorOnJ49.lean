/- Joined: OLaw, ONil. -/
import Derived.Test.YtdkicniciciobaaGreatDoorOnJ48
import Derived.Test.YtdkicniciciobaaGreatDoorOnJ44
import Derived.Test.YtdkicniciciobaaGreatDoorOnJ2
/- A law's own group: small, full, fresh; the contract of wakes. -/
namespace Go.Proofs.YtdkicniciciobaaGreatDoor
open Go.RowKit Go.Shelf Go.Maps
set_option linter.unusedVariables false
set_option maxRecDepth 100000

set_option maxRecDepth 100000 in
theorem gfull_any (x : Int) (w : World) :
    Calls Tryz.prog 19 #[.int .u8 x] w fun e w' => e = .returned (.slice (some ⟨w.heap.size, 0, none⟩) 64 64) ∧ Block w' w.heap.size (fl x) ∧ Below w.heap.size w w' := by
  have hmk : ∀ w : World, (Instr.makeSlice 49 (.int .i64 64) (.int .i64 64)).run Tryz.prog w = .ok (.slice (some ⟨w.heap.size, 0, none⟩) 64 64) (w.alloc (.cells (madeCells #[.int .u8 0] 64) 5)) := run_make_row' (P := Tryz.prog) 49 5 (.int .u8 0) 1 Tryz.underlying49 info5 rfl .i64 .i64 64 (by omega) (by omega)
  have B0 : Hid (Below w.heap.size w (w.alloc (.cells (madeCells #[.int .u8 0] 64) 5))) := (Below.refl _ w).alloc (Nat.le_refl _) _
  have I0 := hide (show Block (w.alloc (.cells (madeCells #[.int .u8 0] 64) 5)) w.heap.size (List.replicate 0 x ++ List.replicate (64 - 0) 0) by
    unfold Block
    rw [World.alloc_heap_new, ← Array.toArray_toList (xs := madeCells #[.int .u8 0] 64), toList_madeCells_one]
    simp)
  go_enter Tryz.func19, Tryz.ntmps19
  go_upto_region 3 with fail
  change Code.wp _ _ _ _ (w.alloc (.cells (madeCells #[.int .u8 0] 64) 5))
  generalize w.alloc (.cells (madeCells #[.int .u8 0] 64) 5) = w1 at *
  clear hmk
  go_loopw [4] (fun i wr => ∃ k : Nat, k ≤ 64 ∧ i = .int .i64 (k : Int) ∧ Hid (Block wr w.heap.size (List.replicate k x ++ List.replicate (64 - k) 0)) ∧ Hid (Below w.heap.size w wr)) (fun i _ => 64 - (intOf i).toNat)
  case atStart => exact ⟨0, Nat.zero_le _, rfl, I0, B0⟩
  case round =>
    obtain ⟨k, hk, rfl, hI, hX⟩ := hrel
    clear I0 B0
    by_cases hlt : k < 64
    · have c1 := (unhide hI).cell (i := k) (by simp; omega)
      have f1 := (unhide hI).free k
      have I2 := (unhide hI).set k x
      rw [fl_set x k hlt] at I2
      replace I2 := hide I2
      have X2 := hide ((unhide hX).setCell (p := ⟨w.heap.size, k, none⟩) (Nat.le_refl _) (.int .u8 x))
      generalize (List.replicate k x ++ List.replicate (64 - k) 0)[k]?.getD 0 = z at *
      clear hI hX
      generalize w.heap.size = g at *
      go_wp2_with fail
      exact ⟨⟨k + 1, by omega, by go_num, I2, X2⟩, by simp [intOf]; omega⟩
    · obtain rfl : k = 64 := by omega
      go_wp2_with fail
      go_ret
      refine ⟨rfl, ?_, unhide hX⟩
      have := unhide hI
      simpa [fl] using this

theorem gsmall_any (w : World) : Calls Tryz.prog 10 #[] w fun e w' => e = .returned (Pv sP) ∧ Below w.heap.size w w' := by
  have K : Hid (∀ u, Calls Tryz.prog 43 #[.int .i64 64, .int .i64 60, .int .i64 6, .int .i64 9] u fun e w' => e = .returned (.tuple #[Pv sP, .int .i64 0]) ∧ Below u.heap.size u w') := fun u => by
    have := refMake_any 64 60 6 9 u
    rw [sP_make] at this
    exact this
  have HZ := hide (Bl.new w #[.int .i64 0, .int .i64 0, .int .i64 0, .int .i64 0, .int .i64 0, .int .i64 0, .int .i64 0, .int .i64 0, .int .i64 0, .int .i64 0, .int .i64 0, .int .i64 0] 26)
  have HB := hide ((Below.refl w.heap.size w).alloc (Nat.le_refl _) (.cells #[.int .i64 0, .int .i64 0, .int .i64 0, .int .i64 0, .int .i64 0, .int .i64 0, .int .i64 0, .int .i64 0, .int .i64 0, .int .i64 0, .int .i64 0, .int .i64 0] 26))
  generalize sP = p at *
  go_enter Tryz.func10, Tryz.ntmps10
  go_wp2_with fail
  go_at_call 43
  refine (unhide K _).mono ?_
  rintro e w1 ⟨rfl, hb⟩
  have HZ2 := hide (((unhide HZ).call hb).alloc (.cells (Pc p) 26))
  have HB2 := hide (((unhide HB).trans (hb.mono (unhide HB).size)).alloc ((unhide HB).trans (hb.mono (unhide HB).size)).size (.cells (Pc p) 26))
  have HN := hide (Bl.new w1 (Pc p) 26)
  clear HZ HB hb K
  go_upto_region 2 with fail
  change Code.wp _ _ _ _ (w1.alloc (.cells (Pc p) 26))
  generalize w1.alloc (.cells (Pc p) 26) = w2 at *
  generalize w1.heap.size = g1 at *
  have z0 := (unhide HZ2).cell 0 (.int .i64 0) rfl
  have z1 := (unhide HZ2).cell 1 (.int .i64 0) rfl
  have z2 := (unhide HZ2).cell 2 (.int .i64 0) rfl
  have z3 := (unhide HZ2).cell 3 (.int .i64 0) rfl
  have z4 := (unhide HZ2).cell 4 (.int .i64 0) rfl
  have z5 := (unhide HZ2).cell 5 (.int .i64 0) rfl
  have z6 := (unhide HZ2).cell 6 (.int .i64 0) rfl
  have z7 := (unhide HZ2).cell 7 (.int .i64 0) rfl
  have z8 := (unhide HZ2).cell 8 (.int .i64 0) rfl
  have z9 := (unhide HZ2).cell 9 (.int .i64 0) rfl
  have z10 := (unhide HZ2).cell 10 (.int .i64 0) rfl
  have z11 := (unhide HZ2).cell 11 (.int .i64 0) rfl
  have n0 := (unhide HN).cell 0 (.int .i64 (p 0)) rfl
  have n1 := (unhide HN).cell 1 (.int .i64 (p 1)) rfl
  have n2 := (unhide HN).cell 2 (.int .i64 (p 2)) rfl
  have n3 := (unhide HN).cell 3 (.int .i64 (p 3)) rfl
  have n4 := (unhide HN).cell 4 (.int .i64 (p 4)) rfl
  have n5 := (unhide HN).cell 5 (.int .i64 (p 5)) rfl
  have n6 := (unhide HN).cell 6 (.int .i64 (p 6)) rfl
  have n7 := (unhide HN).cell 7 (.int .i64 (p 7)) rfl
  have n8 := (unhide HN).cell 8 (.int .i64 (p 8)) rfl
  have n9 := (unhide HN).cell 9 (.int .i64 (p 9)) rfl
  have n10 := (unhide HN).cell 10 (.int .i64 (p 10)) rfl
  have n11 := (unhide HN).cell 11 (.int .i64 (p 11)) rfl
  have fz := (unhide HZ2).free
  go_wp2_with fail
  have hW : Below w.heap.size w (setAll w2 w.heap.size 0 [.int .i64 (p 0), .int .i64 (p 1), .int .i64 (p 2), .int .i64 (p 3), .int .i64 (p 4), .int .i64 (p 5), .int .i64 (p 6), .int .i64 (p 7), .int .i64 (p 8), .int .i64 (p 9), .int .i64 (p 10), .int .i64 (p 11)]) := below_setAll (Nat.le_refl _) _ _ _ _ (unhide HB2)
  have hA := setAll_whole [.int .i64 (p 0), .int .i64 (p 1), .int .i64 (p 2), .int .i64 (p 3), .int .i64 (p 4), .int .i64 (p 5), .int .i64 (p 6), .int .i64 (p 7), .int .i64 (p 8), .int .i64 (p 9), .int .i64 (p 10), .int .i64 (p 11)] _ _ (unhide HZ2) rfl
  change bodyPost _ _ _ _ _ (setAll w2 w.heap.size 0 [.int .i64 (p 0), .int .i64 (p 1), .int .i64 (p 2), .int .i64 (p 3), .int .i64 (p 4), .int .i64 (p 5), .int .i64 (p 6), .int .i64 (p 7), .int .i64 (p 8), .int .i64 (p 9), .int .i64 (p 10), .int .i64 (p 11)])
  generalize setAll w2 w.heap.size 0 [.int .i64 (p 0), .int .i64 (p 1), .int .i64 (p 2), .int .i64 (p 3), .int .i64 (p 4), .int .i64 (p 5), .int .i64 (p 6), .int .i64 (p 7), .int .i64 (p 8), .int .i64 (p 9), .int .i64 (p 10), .int .i64 (p 11)] = wf at *
  refine bodyPost_ret (v := Pv p) ?_ rfl ⟨rfl, hW⟩
  simp [results, Tryz.results10, go_sem, hA.cell 0 _ rfl, hA.cell 1 _ rfl, hA.cell 2 _ rfl, hA.cell 3 _ rfl, hA.cell 4 _ rfl, hA.cell 5 _ rfl, hA.cell 6 _ rfl, hA.cell 7 _ rfl, hA.cell 8 _ rfl, hA.cell 9 _ rfl, hA.cell 10 _ rfl, hA.cell 11 _ rfl]


/-- A law's group, with its device; rows of the law beside it. -/
structure GL (B : Nat) (w : World) (g cg lg dg : Nat) (X : Grp) (C : Cac) (L : Lg) (D : Dev) (rows : List (Nat × Obj)) (u : World) (S : Nat → Prop) : Prop where
  gv : Gv u S g cg lg dg sP sG X C L D
  ge : ∀ k, S k → B ≤ k
  bel : Below B w u
  sz : B ≤ w.heap.size
  ro : ∀ x ∈ rows, u.heap[x.1]? = some x.2 ∧ ¬ S x.1

theorem GL.next {B : Nat} {w : World} {g cg lg dg : Nat} {X X' : Grp} {C C' : Cac} {L L' : Lg} {D D' : Dev} {rows : List (Nat × Obj)} {u u' : World} {S S' : Nat → Prop} (h : GL B w g cg lg dg X C L D rows u S) (hg : Gv u' S' g cg lg dg sP sG X' C' L' D') (hx : Nx S u S' u') : GL B w g cg lg dg X' C' L' D' rows u' S' :=
  ⟨hg, hx.base h.ge (Nat.le_trans h.sz h.bel.size), h.bel.trans (hx.below h.ge (Nat.le_trans h.sz h.bel.size)), h.sz, fun x hm => by
    obtain ⟨h1, h2⟩ := h.ro x hm
    obtain ⟨k1, k2, _⟩ := hx.keep (Array.getElem?_eq_some_iff.1 h1).1 h2
    exact ⟨k1.trans h1, k2⟩⟩

theorem GL.later {B : Nat} {w : World} {g cg lg dg : Nat} {X : Grp} {C : Cac} {L : Lg} {D : Dev} {rows : List (Nat × Obj)} {u u' : World} {S : Nat → Prop} (h : GL B w g cg lg dg X C L D rows u S) (hb : Below u.heap.size u u') : GL B w g cg lg dg X C L D rows u' S :=
  h.next (h.gv.below hb) ((Nx.refl S u).below' hb)

theorem GL.add {B : Nat} {w : World} {g cg lg dg : Nat} {X : Grp} {C : Cac} {L : Lg} {D : Dev} {rows : List (Nat × Obj)} {u : World} {S : Nat → Prop} (h : GL B w g cg lg dg X C L D rows u S) {k : Nat} {o : Obj} (h1 : u.heap[k]? = some o) (h2 : ¬ S k) : GL B w g cg lg dg X C L D ((k, o) :: rows) u S :=
  ⟨h.gv, h.ge, h.bel, h.sz, fun x hm => by
    rcases List.mem_cons.1 hm with e | e
    · subst e; exact ⟨h1, h2⟩
    · exact h.ro x e⟩

def GD (B : Nat) (w : World) (g dg : Nat) (X : Grp) (C : Cac) (L : Lg) (D : Dev) (rows : List (Nat × Obj)) (u : World) : Prop := ∃ cg lg S, GL B w g cg lg dg X C L D rows u S

theorem GD.later {B : Nat} {w : World} {g dg : Nat} {X : Grp} {C : Cac} {L : Lg} {D : Dev} {rows : List (Nat × Obj)} {u u' : World} (h : GD B w g dg X C L D rows u) (hb : Below u.heap.size u u') : GD B w g dg X C L D rows u' := by
  obtain ⟨cg, lg, S, h⟩ := h
  exact ⟨cg, lg, S, h.later hb⟩

theorem GD.bel {B : Nat} {w : World} {g dg : Nat} {X : Grp} {C : Cac} {L : Lg} {D : Dev} {rows : List (Nat × Obj)} {u : World} (h : GD B w g dg X C L D rows u) : Below B w u := by
  obtain ⟨cg, lg, S, h⟩ := h
  exact h.bel

theorem sL_seen : Seen (gmem 0) sG sL := .inr (.inl (by show 0 < 1; omega))

theorem sP_da : (sG.ib : Int) ≤ sP 11 ∧ sP 11 ≤ (sG.n : Int) := by
  have e : sP 11 = planOf 64 60 6 9 11 := by unfold sP; rw [makeP_ok sP_make]
  rw [e]
  decide

/-- New, Format, Open, a cache and a group behind each other. -/
theorem gfresh_chain (w u : World) (hT : Tab w) (hu : Below w.heap.size w u) (cap : Nat) (hc : 1 ≤ cap ∧ cap ≤ 512) (a : Option Addr) (len c : Nat) (ns : List Int) (hI : IHas w a len ns) (hn : len ≤ 17592186043904) (ha : a = none → c = 0 ∧ len = 0) :
    Calls Tryz.prog 44 #[.int .i64 (sP 0), .int .i64 (sP 1)] u fun e w1 => ∃ dg, e = .returned (.tuple #[.pointer (some ⟨dg, 0, none⟩), .int .i64 0]) ∧ Below u.heap.size u w1 ∧ Hid (∀ u1, Below w1.heap.size w1 u1 →
      Calls Tryz.prog 45 #[.pointer (some ⟨dg, 0, none⟩), Pv sP] u1 fun e w2 => e = .returned (.int .i64 0) ∧ Below u.heap.size u w2 ∧ Hid (∀ u2, Below w2.heap.size w2 u2 →
        Calls Tryz.prog 30 #[.pointer (some ⟨dg, 0, none⟩), Pv sP] u2 fun e w3 => ∃ lg, e = .returned (.tuple #[.pointer (some ⟨lg, 0, none⟩), .int .i64 0]) ∧ Below u.heap.size u w3 ∧ Hid (
          Calls Tryz.prog 46 #[.pointer (some ⟨dg, 0, none⟩), .int .i64 (cap : Int), .slice a len c] w3 fun e w4 => ∃ cg, e = .returned (.tuple #[.pointer (some ⟨cg, 0, none⟩), .int .i64 0]) ∧ Below u.heap.size u w4 ∧ Hid (
            Calls Tryz.prog 37 #[.pointer (some ⟨dg, 0, none⟩), .pointer (some ⟨lg, 0, none⟩), .pointer (some ⟨cg, 0, none⟩), Pv sP] w4 fun e w5 => ∃ g, e = .returned (.tuple #[.pointer (some ⟨g, 0, none⟩), .int .i64 0]) ∧ Hid (GD w.heap.size w g dg Grp.new (Cac.new cap ns) sL sD [] w5))))) := by
  have hTu : Tab u := hT.kept (hu.block 0 hT.lt)
  have hus := hu.size
  refine (fresh_chain u u hTu (Below.refl _ _)).mono ?_
  rintro e w1 ⟨dg, rfl, hb1, K1⟩
  refine ⟨dg, rfl, hb1, fun u1 hu1 => (unhide K1 u1 hu1).mono ?_⟩
  rintro e w2 ⟨rfl, hb2, K2⟩
  refine ⟨rfl, hb2, fun u2 hu2 => (unhide K2 u2 hu2).mono ?_⟩
  rintro e w3 ⟨lg, rfl, Y⟩
  obtain ⟨S3, l3⟩ := unhide Y
  obtain ⟨Sl, Sd, ml, lv⟩ := l3.lv
  have hw3 : Below w.heap.size w w3 := hu.trans (l3.bel.mono hus)
  have hI3 : IHas w3 a len ns := by
    refine ⟨hI.1, fun hp => ?_⟩
    obtain ⟨b, off, e, hcell⟩ := hI.2 hp
    refine ⟨b, off, e, fun j hj => (hw3.cell (p := ⟨b, off + j, none⟩) (hI.lt hp e)).trans (hcell j hj)⟩
  refine ⟨lg, rfl, l3.bel, (cnew_ok dg Sd sD cap a len c ns w3 lv.dd hc hI3 hn ha).mono ?_⟩
  rintro e w4 ⟨cg, rfl, Y4⟩
  obtain ⟨S4, k4, g4, b4⟩ := unhide Y4
  obtain ⟨S5, t5, x5⟩ := tri_of lv k4 g4 b4
  have h4 : Below u.heap.size u w4 := l3.bel.trans (b4.mono l3.bel.size)
  refine ⟨cg, rfl, h4, (gnew_ok t5 sL_seen sP_da).mono ?_⟩
  rintro e w5 ⟨g, rfl, Y5⟩
  obtain ⟨S6, g6, x6, _⟩ := unhide Y5
  have ge5 : ∀ k, S5 k → u.heap.size ≤ k := x5.base l3.ge l3.bel.size
  exact ⟨g, rfl, cg, lg, S6, g6, fun k hk => Nat.le_trans hus (x6.base ge5 h4.size k hk), (hu.trans (h4.mono hus)).trans ((x6.below ge5 h4.size).mono hus), Nat.le_refl _, fun x hx => by simp at hx⟩

set_option maxHeartbeats 1000000 in
theorem gfresh_any (w : World) (hT : Tab w) (cap : Nat) (hc : 1 ≤ cap ∧ cap ≤ 512) (a : Option Addr) (len c : Nat) (ns : List Int) (hI : IHas w a len ns) (hn : len ≤ 17592186043904) (ha : a = none → c = 0 ∧ len = 0) :
    Calls Tryz.prog 11 #[Pv sP, .int .i64 (cap : Int), .slice a len c] w fun e w' => ∃ dg g, e = .returned (.tuple #[.pointer (some ⟨dg, 0, none⟩), .pointer (some ⟨g, 0, none⟩)]) ∧ Hid (GD w.heap.size w g dg Grp.new (Cac.new cap ns) sL sD [] w') := by
  have K : Hid (∀ u, Below w.heap.size w u → _) := fun u hu => gfresh_chain w u hT hu cap hc a len c ns hI hn ha
  have HK := hide (Kp.start w sP)
  clear hT hI hn ha hc
  generalize sP = p at *
  generalize (cap : Int) = ci at *
  go_enter Tryz.func11, Tryz.ntmps11
  go_wp2_with fail
  go_at_call 44
  refine (unhide K _ (unhide HK).2).mono ?_
  rintro e w1 ⟨dg, rfl, hb1, K2⟩
  have HK1 := hide ((unhide HK).call hb1)
  have KF := hide (unhide K2 _ (Below.refl _ _))
  clear K K2 hb1
  obtain ⟨f0, f1, f2, f3, f4, f5, f6, f7, f8, f9, f10, f11⟩ := (unhide HK1).cells
  go_wp2_with fail
  go_at_call 45
  refine (unhide KF).mono ?_
  rintro e w2 ⟨rfl, hb2, K3⟩
  have HK2 := hide ((unhide HK).call hb2)
  have KO := hide (unhide K3 _ (Below.refl _ _))
  clear KF K3 hb2 HK1 f0 f1 f2 f3 f4 f5 f6 f7 f8 f9 f10 f11
  obtain ⟨f0, f1, f2, f3, f4, f5, f6, f7, f8, f9, f10, f11⟩ := (unhide HK2).cells
  go_wp2_with fail
  go_at_call 30
  refine (unhide KO).mono ?_
  rintro e w3 ⟨lg, rfl, hb3, KN⟩
  have HK3 := hide ((unhide HK).call hb3)
  clear KO hb3 HK2 f0 f1 f2 f3 f4 f5 f6 f7 f8 f9 f10 f11
  go_wp2_with fail
  go_at_call 46
  refine (unhide KN).mono ?_
  rintro e w4 ⟨cg, rfl, hb4, KG⟩
  have HK4 := hide ((unhide HK).call hb4)
  clear KN hb4 HK3
  obtain ⟨f0, f1, f2, f3, f4, f5, f6, f7, f8, f9, f10, f11⟩ := (unhide HK4).cells
  go_wp2_with fail
  go_at_call 37
  refine (unhide KG).mono ?_
  rintro e w5 ⟨g, rfl, X⟩
  clear KG HK HK4 f0 f1 f2 f3 f4 f5 f6 f7 f8 f9 f10 f11
  go_wp2_with fail
  go_ret2
  exact ⟨dg, g, rfl, X⟩

/-- No picks. -/
theorem ihas_none (w : World) : IHas w none 0 [] := ⟨rfl, fun h => absurd h (by omega)⟩

/-- Begin. -/
theorem g_begin {B : Nat} {w : World} {g dg : Nat} {X : Grp} {C : Cac} {L : Lg} {D : Dev} {rows : List (Nat × Obj)} {u : World} (h : GD B w g dg X C L D rows u) (hN : X.N = none) :
    Calls Tryz.prog 13 #[.pointer (some ⟨g, 0, none⟩)] u fun e u' => ∃ o, e = .returned (.tuple #[.pointer (some ⟨o, 0, none⟩), .int .i64 0]) ∧ Hid (GD B w g dg { X with N := some (fun _ => none), o := o } C L D rows u') := by
  obtain ⟨cg, lg, S, h⟩ := h
  refine (begin_ok h.gv hN).mono ?_
  rintro e u' ⟨o, rfl, Y⟩
  obtain ⟨S', g1, x1, _⟩ := unhide Y
  exact ⟨o, rfl, cg, lg, S', h.next g1 x1⟩

/-- Write of a whole block. -/
theorem g_write {B : Nat} {w : World} {g dg : Nat} {X : Grp} {C : Cac} {L : Lg} {D : Dev} {rows : List (Nat × Obj)} {u : World} (h : GD B w g dg X C L D rows u) {N : Nat → Option Nt} (eN : X.N = some N) (b : Nat) (hb : 11 ≤ b ∧ b < 60) (a : Option Addr) (cap : Nat) (zs : List Int) (hr : Row u.heap.size u a 64 cap zs) :
    Calls Tryz.prog 18 #[.pointer (some ⟨X.o, 0, none⟩), .int .i64 (b : Int), .slice a 64 cap] u fun e u' => e = .returned (.int .i64 0) ∧ Hid (GD B w g dg { X with N := some (noteN N b ⟨1, zs⟩) } C L D rows u') := by
  obtain ⟨cg, lg, S, h⟩ := h
  have e1 : notE sG (b : Int) ((sG.ib : Nat) : Int) 64 = 0 := by
    have h0 : rngE sG.n (b : Int) ((sG.ib : Nat) : Int) = 0 := by
      unfold rngE
      rw [if_neg]
      show ¬ ((b : Int) < 11 ∨ (60 : Int) ≤ (b : Int))
      omega
    unfold notE
    rw [if_pos h0, if_pos (show 64 = sG.blk from rfl)]
  have := owrite_any h.gv eN (b : Int) a 64 cap zs hr
  rw [e1, if_pos rfl] at this
  refine this.mono ?_
  rintro e u' ⟨rfl, Y⟩
  obtain ⟨S', g1, x1⟩ := unhide Y
  rw [show (b : Int).toNat = b by simp] at g1
  exact ⟨rfl, cg, lg, S', h.next g1 x1⟩

/-- End. -/
theorem g_end {B : Nat} {w : World} {g dg : Nat} {X : Grp} {C : Cac} {L : Lg} {D : Dev} {rows : List (Nat × Obj)} {u : World} (h : GD B w g dg X C L D rows u) {N : Nat → Option Nt} (eN : X.N = some N) :
    Calls Tryz.prog 24 #[.pointer (some ⟨X.o, 0, none⟩)] u fun e u' => e = .returned (.int .i64 (endR sG X N C L D).1) ∧ Hid (GD B w g dg (endR sG X N C L D).2.1 (endR sG X N C L D).2.2.1 (endR sG X N C L D).2.2.2.1 (endR sG X N C L D).2.2.2.2 rows u') := by
  obtain ⟨cg, lg, S, h⟩ := h
  refine (oend_any h.gv eN).mono ?_
  rintro e u' ⟨rfl, Y⟩
  obtain ⟨S', g1, x1, _⟩ := unhide Y
  exact ⟨rfl, cg, lg, S', h.next g1 x1⟩

/-- Read of the group. -/
theorem g_read {B : Nat} {w : World} {g dg : Nat} {X : Grp} {C : Cac} {L : Lg} {D : Dev} {rows : List (Nat × Obj)} {u : World} (h : GD B w g dg X C L D rows u) {b : Nat} (hb : b < 60) (he : grE X C L D b = 0) :
    Calls Tryz.prog 27 #[.pointer (some ⟨g, 0, none⟩), .int .i64 (b : Int)] u fun e u' => ∃ a c, e = .returned (.tuple #[.slice a 64 c, .int .i64 0]) ∧ Hid (Own u.heap.size u' a 64 c (grZ X C L D b) ∧ GD B w g dg X (grC X C L D b) L (grD X C L D b) rows u' ∧ u.heap.size ≤ u'.heap.size) := by
  obtain ⟨cg, lg, S, h⟩ := h
  refine (gread_ok h.gv hb he).mono ?_
  rintro e u' ⟨a, c, rfl, Y⟩
  obtain ⟨S', o1, g1, x1, _⟩ := unhide Y
  exact ⟨a, c, rfl, o1, ⟨cg, lg, S', h.next g1 x1⟩, x1.fr.size⟩

/-- Blocks. -/
theorem g_blocks {B : Nat} {w : World} {g dg : Nat} {X : Grp} {C : Cac} {L : Lg} {D : Dev} {rows : List (Nat × Obj)} {u : World} (h : GD B w g dg X C L D rows u) :
    Calls Tryz.prog 35 #[.pointer (some ⟨g, 0, none⟩)] u fun e u' => ∃ a c, e = .returned (.slice a (blkI 60 X.Q).length c) ∧ Hid (IHas u' a (blkI 60 X.Q).length (blkI 60 X.Q) ∧ GD B w g dg X C L D rows u' ∧ Below u.heap.size u u') := by
  obtain ⟨cg, lg, S, h⟩ := h
  obtain ⟨Sg, m, hg, _⟩ := h.gv.gr
  refine (blocks_any hg).mono ?_
  rintro e u' ⟨v, rfl, Y⟩
  obtain ⟨g1, b1⟩ := unhide Y
  obtain ⟨a, c, rfl⟩ := g1.shape
  exact ⟨a, c, rfl, (gr_ihas g1).1, ⟨cg, lg, S, h.later b1⟩, b1⟩

/-- What End of one written block leaves. -/
theorem end_one (o b : Nat) (z : List Int) (hb : b < 60) (C : Cac) (D : Dev) (L : Lg) : endR sG ⟨fun _ => none, fun _ => false, some (noteN (fun _ => none) b ⟨1, z⟩), o⟩ (noteN (fun _ => none) b ⟨1, z⟩) C L D = (0, ⟨fun j => if j = b then some z else none, fun _ => false, none, o⟩, C, L, D) := by
  have k1 : isK (noteN (fun _ => none) b ⟨1, z⟩) 1 = fun j => j == b := by
    funext j
    unfold isK noteN
    by_cases e : j = b <;> simp [e]
  have k2 : isK (noteN (fun _ => none) b ⟨1, z⟩) 2 = fun j => false := by
    funext j
    unfold isK noteN
    by_cases e : j = b <;> simp [e]
  have k3 : isK (noteN (fun _ => none) b ⟨1, z⟩) 3 = fun j => false := by
    funext j
    unfold isK noteN
    by_cases e : j = b <;> simp [e]
  have km : isM (noteN (fun _ => none) b ⟨1, z⟩) (fun _ => none) = fun j => j == b := by
    funext j
    unfold isM
    rw [k1]
    simp
  have l0 : lstX (fun _ => false) sG.n = [] := by decide
  have l1 : lstX (fun j => j == b) sG.n = [b] := by
    have : ∀ b : Fin 60, lstX (fun j => j == b.val) 60 = [b.val] := by decide +kernel
    exact this ⟨b, hb⟩
  have lp : pendL sG (fun _ => none) = [] := by decide
  have hz : ntZ (noteN (fun _ => none) b ⟨1, z⟩) b = z := by simp [ntZ, noteN]
  have h1 : ¬ sG.lg < sG.uses 1 := by decide
  generalize noteN (fun _ => none) b ⟨1, z⟩ = N at *
  have en : enR sG ⟨fun _ => none, fun _ => false, some N, o⟩ N C L D = (0, ⟨fun _ => none, fun _ => false, some N, o⟩, C, L, D) := by
    unfold enR
    rw [if_neg]
    simp only [km, l1, lp, List.length_nil, List.length_cons, Nat.zero_add]
    exact h1
  unfold endR
  rw [en, k1, l1]
  rw [if_neg (by simpa using h1), if_neg (by simp)]
  unfold enT
  simp only [k1, k2, k3, l0, l1, ptsE, ptsC, ptsD, freQ, freF, freC, ownQ, ne_eq, not_true_eq_false, if_false, hz]

set_option maxHeartbeats 1000000 in
theorem gwakes_any (w : World) (hT : Tab w) : Calls Tryz.prog 9 #[] w fun e w' => e = .returned (.bool true) ∧ Below w.heap.size w w' := by
  have K1 := hide (gsmall_any w)
  have K2 : Hid (∀ u, Below w.heap.size w u → Calls Tryz.prog 11 #[Pv sP, .int .i64 8, .slice none 0 0] u fun e w' => ∃ dg g, e = .returned (.tuple #[.pointer (some ⟨dg, 0, none⟩), .pointer (some ⟨g, 0, none⟩)]) ∧ Hid (GD u.heap.size u g dg Grp.new (Cac.new 8 []) sL sD [] w' ∧ Below w.heap.size w u)) := fun u hu => by
    refine (gfresh_any u (hT.kept (hu.block 0 hT.lt)) 8 (by omega) none 0 0 [] (ihas_none u) (by omega) (fun _ => ⟨rfl, rfl⟩)).mono ?_
    rintro e w' ⟨dg, g, rfl, Y⟩
    exact ⟨dg, g, rfl, unhide Y, hu⟩
  have K3 : Hid (∀ v g dg u, GD v.heap.size v g dg Grp.new (Cac.new 8 []) sL sD [] u → Calls Tryz.prog 13 #[.pointer (some ⟨g, 0, none⟩)] u fun e u1 => ∃ o, e = .returned (.tuple #[.pointer (some ⟨o, 0, none⟩), .int .i64 0]) ∧
      Hid (Calls Tryz.prog 19 #[.int .u8 5] u1 fun e u2 => ∃ k, e = .returned (.slice (some ⟨k, 0, none⟩) 64 64) ∧
        Hid (Calls Tryz.prog 18 #[.pointer (some ⟨o, 0, none⟩), .int .i64 20, .slice (some ⟨k, 0, none⟩) 64 64] u2 fun e u3 => e = .returned (.int .i64 0) ∧
          Hid (Calls Tryz.prog 24 #[.pointer (some ⟨o, 0, none⟩)] u3 fun e u4 => e = .returned (.int .i64 0) ∧
            Hid (Calls Tryz.prog 27 #[.pointer (some ⟨g, 0, none⟩), .int .i64 20] u4 fun e u5 => ∃ a c, e = .returned (.tuple #[.slice a 64 c, .int .i64 0]) ∧
              Hid (Calls Tryz.prog 19 #[.int .u8 5] u5 fun e u6 => ∃ k, e = .returned (.slice (some ⟨k, 0, none⟩) 64 64) ∧
                Hid (Calls Tryz.prog 22 #[.slice a 64 c, .slice (some ⟨k, 0, none⟩) 64 64] u6 fun e u7 => e = .returned (.bool true) ∧
                  Hid (Calls Tryz.prog 35 #[.pointer (some ⟨g, 0, none⟩)] u7 fun e u8 => ∃ a c, e = .returned (.slice a 1 c) ∧
                    Hid (∀ u9, u9 = u8.alloc (.cells #[.int .i64 20] 3) → Calls Tryz.prog 42 #[.slice a 1 c, .slice (some ⟨u8.heap.size, 0, none⟩) 1 1] u9 fun e u10 => e = .returned (.bool true) ∧ Hid (Below v.heap.size v u10)))))))))) := fun v g dg u h => by
    refine (g_begin h rfl).mono ?_
    rintro e u1 ⟨o, rfl, Y1⟩
    refine ⟨o, rfl, (gfull_any 5 u1).mono ?_⟩
    rintro e u2 ⟨rfl, B2, b2⟩
    refine ⟨_, rfl, (g_write ((unhide Y1).later b2) rfl 20 (by omega) (some ⟨u1.heap.size, 0, none⟩) 64 (fl 5) (full_row (by omega) (by omega) B2)).mono ?_⟩
    rintro e u3 ⟨rfl, Y3⟩
    have he := g_end (X := ⟨fun _ => none, fun _ => false, some (noteN (fun _ => none) 20 ⟨1, fl 5⟩), o⟩) (unhide Y3) rfl
    rw [end_one o 20 (fl 5) (by omega)] at he
    refine ⟨rfl, he.mono ?_⟩
    rintro e u4 ⟨rfl, Y4⟩
    refine ⟨rfl, (g_read (b := 20) (unhide Y4) (by omega) rfl).mono ?_⟩
    rintro e u5 ⟨a, c, rfl, Y5⟩
    obtain ⟨o5, g5, _⟩ := unhide Y5
    refine ⟨a, c, rfl, (gfull_any 5 u5).mono ?_⟩
    rintro e u6 ⟨rfl, B6, b6⟩
    refine ⟨_, rfl, (same_true a (some ⟨u5.heap.size, 0, none⟩) 64 c 64 (fl 5) u6 (o5.has.later b6) (full_row (by omega) (by omega) B6).has).mono ?_⟩
    rintro e u7 ⟨rfl, rfl⟩
    refine ⟨rfl, (g_blocks (g5.later b6)).mono ?_⟩
    rintro e u8 ⟨a8, c8, rfl, Y8⟩
    obtain ⟨i8, g8, b8⟩ := unhide Y8
    have eB : blkI 60 (fun j => if j = 20 then some (fl 5) else none) = [20] := by
      have : blkL 60 (fun j => if j = 20 then some (fl 5) else none) = [20] := by
        have e2 : (fun b => ((if b = 20 then some (fl 5) else none : Option (List Int))).isSome) = fun b => b == 20 := by
          funext j
          by_cases e : j = 20 <;> simp [e]
        unfold blkL
        rw [e2]
        decide
      unfold blkI
      rw [this]
      rfl
    have i8' : IHas u8 a8 1 [20] := by
      have := i8
      show IHas u8 a8 [(20 : Int)].length [20]
      rw [← eB]
      exact i8
    refine ⟨a8, c8, ?_, fun u9 e9 => ?_⟩
    · show Ending.returned (Value.slice a8 (blkI 60 (fun j => if j = 20 then some (fl 5) else none)).length c8) = _
      rw [eB]
      rfl
    · have ba : Below u8.heap.size u8 u9 := by rw [e9]; exact (Below.refl _ _).alloc (Nat.le_refl _) _
      have i9 : IHas u9 a8 1 [20] := by
        refine ⟨i8'.1, fun hp => ?_⟩
        obtain ⟨b, off, e, hcell⟩ := i8'.2 hp
        exact ⟨b, off, e, fun j hj => (ba.cell (p := ⟨b, off + j, none⟩) (i8'.lt hp e)).trans (hcell j hj)⟩
      have n9 : IHas u9 (some ⟨u8.heap.size, 0, none⟩) 1 [20] := by
        refine ⟨rfl, fun _ => ⟨u8.heap.size, 0, rfl, fun j hj => ?_⟩⟩
        have ej : j = 0 := by omega
        subst ej
        rw [e9]
        exact (Bl.new u8 #[.int .i64 20] 3).cell 0 _ rfl
      refine (sameInts_any a8 (some ⟨u8.heap.size, 0, none⟩) 1 c8 1 [20] u9 i9 n9 (by omega)).mono ?_
      rintro e u10 ⟨rfl, q, rfl⟩
      exact ⟨rfl, below_drewN (g8.later ba).bel q⟩
  clear hT
  generalize sP = p at *
  go_enter Tryz.func9, Tryz.ntmps9
  go_wp2_with fail
  go_at_call 10
  refine (unhide K1).mono ?_
  rintro e w1 ⟨rfl, hb1⟩
  have KF := hide (unhide K2 _ hb1)
  clear K1 K2 hb1
  go_wp2_with fail
  go_at_call 11
  refine (unhide KF).mono ?_
  rintro e w2 ⟨dg, g, rfl, X⟩
  have KB := hide (unhide K3 _ _ _ _ (unhide X).1)
  have BW := hide (unhide X).2
  clear KF K3 X
  go_wp2_with fail
  go_at_call 13
  refine (unhide KB).mono ?_
  rintro e u1 ⟨o, rfl, K4⟩
  clear KB
  go_wp2_with fail
  go_at_call 19
  refine (unhide K4).mono ?_
  rintro e u2 ⟨k, rfl, K5⟩
  clear K4
  go_wp2_with fail
  go_at_call 18
  refine (unhide K5).mono ?_
  rintro e u3 ⟨rfl, K6⟩
  clear K5
  go_wp2_with fail
  go_at_call 24
  refine (unhide K6).mono ?_
  rintro e u4 ⟨rfl, K7⟩
  clear K6
  go_wp2_with fail
  go_at_call 27
  refine (unhide K7).mono ?_
  rintro e u5 ⟨a, c, rfl, K8⟩
  clear K7
  go_wp2_with fail
  go_at_call 19
  refine (unhide K8).mono ?_
  rintro e u6 ⟨k2, rfl, K9⟩
  clear K8
  go_wp2_with fail
  go_at_call 22
  refine (unhide K9).mono ?_
  rintro e u7 ⟨rfl, K10⟩
  clear K9
  go_wp2_with fail
  go_at_call 35
  refine (unhide K10).mono ?_
  rintro e u8 ⟨a8, c8, rfl, K11⟩
  clear K10
  go_wp2_with fail
  go_at_call 42
  refine (unhide K11 _ rfl).mono ?_
  rintro e u9 ⟨rfl, Z⟩
  clear K11
  go_wp2_with fail
  go_ret
  exact ⟨rfl, (unhide BW).trans ((unhide Z).mono (unhide BW).size)⟩

end Go.Proofs.YtdkicniciciobaaGreatDoor

/- The walk of GroupNil. -/
namespace Go.Proofs.YtdkicniciciobaaGreatDoor
open Go.RowKit Go.Shelf Go.Maps
set_option linter.unusedVariables false
set_option maxRecDepth 100000

/-- Abort: the operation's block is beside the group from then on. -/
theorem g_abort {B : Nat} {w : World} {g dg : Nat} {X : Grp} {C : Cac} {L : Lg} {D : Dev} {rows : List (Nat × Obj)} {u : World} (h : GD B w g dg X C L D rows u) {N : Nat → Option Nt} (eN : X.N = some N) :
    Calls Tryz.prog 23 #[.pointer (some ⟨X.o, 0, none⟩)] u fun e u' => e = .returned (.int .i64 0) ∧ Hid (∃ c, GD B w g dg { X with N := none } C L D ((X.o, .cells c 102 (0, 0)) :: rows) u' ∧ ∀ v : World, v.heap[X.o]? = some (.cells c 102 (0, 0)) → v.rowIs X.o 102 2 (ocell g none)) := by
  obtain ⟨cg, lg, S, h⟩ := h
  refine (oabort_any h.gv eN).mono ?_
  rintro e u' ⟨rfl, Y⟩
  obtain ⟨S', g1, x1, ⟨c, hc, r⟩, no⟩ := unhide Y
  exact ⟨rfl, c, ⟨cg, lg, S', (h.next g1 x1).add hc no⟩, fun v hv => ⟨c, hv, r⟩⟩

/-- End of an operation that has done nothing. -/
theorem end_none (o : Nat) (C : Cac) (D : Dev) (L : Lg) : endR sG ⟨fun _ => none, fun _ => false, some (fun _ => none), o⟩ (fun _ => none) C L D = (0, ⟨fun _ => none, fun _ => false, none, o⟩, C, L, D) := by
  have k : ∀ n, isK (fun _ => none) n = fun j => false := fun n => by funext j; rfl
  have km : isM (fun _ => none) (fun _ => none) = fun j => false := by funext j; rfl
  have l0 : lstX (fun _ => false) sG.n = [] := by decide
  have lp : pendL sG (fun _ => none) = [] := by decide
  have h0 : ¬ sG.lg < sG.uses 0 := by decide
  have en : enR sG ⟨fun _ => none, fun _ => false, some (fun _ => none), o⟩ (fun _ => none) C L D = (0, ⟨fun _ => none, fun _ => false, some (fun _ => none), o⟩, C, L, D) := by
    unfold enR
    rw [if_neg]
    simp only [km, l0, lp, List.length_nil, Nat.zero_add]
    exact h0
  unfold endR
  rw [en, k, l0]
  rw [if_neg (by simpa using h0), if_neg (by simp)]
  unfold enT
  simp only [k, l0, ptsE, ptsC, ptsD, freQ, freF, freC, ownQ, ne_eq, not_true_eq_false, if_false]

/-- The calls of the living group. -/
theorem nil_live {v : World} {g dg : Nat} {u : World} (h : GD v.heap.size v g dg Grp.new (Cac.new 3 []) sL sD [] u) :
    Calls Tryz.prog 13 #[.pointer (some ⟨g, 0, none⟩)] u fun e u1 => ∃ o, e = .returned (.tuple #[.pointer (some ⟨o, 0, none⟩), .int .i64 0]) ∧
      Hid (Calls Tryz.prog 13 #[.pointer (some ⟨g, 0, none⟩)] u1 fun e u2 => e = .returned (.tuple #[.pointer none, .int .i64 17]) ∧
        Hid (Calls Tryz.prog 25 #[.pointer (some ⟨g, 0, none⟩)] u2 fun e u3 => e = .returned (.int .i64 17) ∧
          Hid (Calls Tryz.prog 23 #[.pointer (some ⟨o, 0, none⟩)] u3 fun e u4 => e = .returned (.int .i64 0) ∧
            Hid (Calls Tryz.prog 13 #[.pointer (some ⟨g, 0, none⟩)] u4 fun e u5 => ∃ o2, e = .returned (.tuple #[.pointer (some ⟨o2, 0, none⟩), .int .i64 0]) ∧
              Hid (Calls Tryz.prog 21 #[.pointer (some ⟨o, 0, none⟩), .int .i64 30] u5 fun e u6 => e = .returned (.tuple #[.slice none 0 0, .int .i64 22]) ∧
                Hid (Calls Tryz.prog 19 #[.int .u8 1] u6 fun e u7 => ∃ k, e = .returned (.slice (some ⟨k, 0, none⟩) 64 64) ∧
                  Hid (Calls Tryz.prog 18 #[.pointer (some ⟨o, 0, none⟩), .int .i64 30, .slice (some ⟨k, 0, none⟩) 64 64] u7 fun e u8 => e = .returned (.int .i64 22) ∧
                    Hid (Calls Tryz.prog 24 #[.pointer (some ⟨o, 0, none⟩)] u8 fun e u9 => e = .returned (.int .i64 22) ∧
                      Hid (Calls Tryz.prog 24 #[.pointer (some ⟨o2, 0, none⟩)] u9 fun e u10 => e = .returned (.int .i64 0) ∧ Hid (Below v.heap.size v u10)))))))))) := by
  refine (g_begin h rfl).mono ?_
  rintro e u1 ⟨o, rfl, Y1⟩
  refine ⟨o, rfl, ?_⟩
  have y1 := unhide Y1
  obtain ⟨cg, lg, S1, h1⟩ := y1
  refine Calls.mono (by obtain ⟨_, _, hg, _⟩ := h1.gv.gr; exact begin_busy hg rfl) ?_
  rintro e u2 ⟨rfl, rfl⟩
  refine ⟨rfl, (pcommit_busy h1.gv rfl).mono ?_⟩
  rintro e u3 ⟨rfl, rfl⟩
  refine ⟨rfl, (g_abort (X := ⟨fun _ => none, fun _ => false, some (fun _ => none), o⟩) ⟨cg, lg, S1, h1⟩ rfl).mono ?_⟩
  rintro e u4 ⟨rfl, Y4⟩
  obtain ⟨c, g4, r4⟩ := unhide Y4
  refine ⟨rfl, (g_begin g4 rfl).mono ?_⟩
  rintro e u5 ⟨o2, rfl, Y5⟩
  obtain ⟨cg5, lg5, S5, h5⟩ := unhide Y5
  have ov : ∀ u S, GL v.heap.size v g cg5 lg5 dg { (⟨fun _ => none, fun _ => false, none, o⟩ : Grp) with N := some (fun _ => none), o := o2 } (Cac.new 3 []) sL sD [(o, .cells c 102 (0, 0))] u S → Over u S g o := fun u S hg => by
    obtain ⟨k1, k2⟩ := hg.ro (o, .cells c 102 (0, 0)) (by simp)
    exact ⟨r4 u k1, k2⟩
  refine ⟨o2, rfl, (oread_over h5.gv (ov _ _ h5) (.int .i64 30)).mono ?_⟩
  rintro e u6 ⟨rfl, rfl⟩
  refine ⟨rfl, (gfull_any 1 u5).mono ?_⟩
  rintro e u7 ⟨rfl, B7, b7⟩
  have h7 := h5.later b7
  refine ⟨_, rfl, (owrite_over h7.gv (ov _ _ h7) (.int .i64 30) _).mono ?_⟩
  rintro e u8 ⟨rfl, rfl⟩
  refine ⟨rfl, (oend_over h7.gv (ov _ _ h7)).mono ?_⟩
  rintro e u9 ⟨rfl, rfl⟩
  have he := g_end (X := ⟨fun _ => none, fun _ => false, some (fun _ => none), o2⟩) ⟨cg5, lg5, S5, h7⟩ rfl
  rw [end_none o2] at he
  refine ⟨rfl, he.mono ?_⟩
  rintro e u10 ⟨rfl, Y10⟩
  exact ⟨rfl, (unhide Y10).bel⟩

set_option maxHeartbeats 2000000 in
theorem gnil_walk (w : World) (hT : Tab w) : Calls Tryz.prog 6 #[] w fun e w' => e = .returned (.bool true) ∧ Below w.heap.size w w' := by
  have K1 := hide (gwakes_any w hT)
  have KT : Hid (∀ u, Below w.heap.size w u → Tab u) := fun u hu => hT.kept (hu.block 0 hT.lt)
  have KN : Hid (∀ u, Calls Tryz.prog 10 #[] u fun e w' => e = .returned (Pv sP) ∧ Hid (Below u.heap.size u w')) := fun u => gsmall_any u
  have KF : Hid (∀ u, Tab u → Calls Tryz.prog 11 #[Pv sP, .int .i64 3, .slice none 0 0] u fun e w' => ∃ dg g, e = .returned (.tuple #[.pointer (some ⟨dg, 0, none⟩), .pointer (some ⟨g, 0, none⟩)]) ∧ Hid (GD u.heap.size u g dg Grp.new (Cac.new 3 []) sL sD [] w')) := fun u hu => gfresh_any u hu 3 (by omega) none 0 0 [] (ihas_none u) (by omega) (fun _ => ⟨rfl, rfl⟩)
  have KV : Hid (∀ v g dg u, GD v.heap.size v g dg Grp.new (Cac.new 3 []) sL sD [] u → _) := fun v g dg u h => nil_live h
  have KA : Hid (∀ u, Calls Tryz.prog 37 #[.pointer none, .pointer none, .pointer none, Pv sP] u fun e w' => e = .returned (.tuple #[.pointer none, .int .i64 1]) ∧ Hid (Below u.heap.size u w')) := fun u => gnew_arg sP u
  clear hT
  generalize sP = p at *
  go_enter Tryz.func6, Tryz.ntmps6
  go_wp2_with fail
  go_at_call 9
  refine (unhide K1).mono ?_
  rintro e w1 ⟨rfl, hb1⟩
  have B1 := hide hb1
  have C1 := hide (begin_nil w1)
  have C2 := hide (gread_nil (.int .i64 0) w1)
  have C3 := hide (pcommit_nil w1)
  have C4 := hide (settle_nil w1)
  have C5 := hide (gout_nil (.slice none 0 0) w1)
  have C6 := hide (oread_nil (.int .i64 0) w1)
  have C7 := hide (owrite_nil (.int .i64 0) (.slice none 0 0) w1)
  have C8 := hide (odata_nil (.int .i64 0) (.slice none 0 0) w1)
  have C9 := hide (ofree_nil (.int .i64 0) w1)
  have C10 := hide (oabort_nil w1)
  have C11 := hide (oend_nil w1)
  have C12 := hide (blocks_nil w1)
  have C13 := hide (kept_nil (.int .i64 0) w1)
  have KS := hide (unhide KN w1)
  clear K1 hb1
  go_wp2_with fail
  go_at_call 13
  refine (unhide C1).mono ?_
  rintro e w' ⟨rfl, rfl⟩
  clear C1
  go_wp2_with fail
  go_at_call 27
  refine (unhide C2).mono ?_
  rintro e w' ⟨rfl, rfl⟩
  clear C2
  go_wp2_with fail
  go_at_call 25
  refine (unhide C3).mono ?_
  rintro e w' ⟨rfl, rfl⟩
  clear C3
  go_wp2_with fail
  go_at_call 26
  refine (unhide C4).mono ?_
  rintro e w' ⟨rfl, rfl⟩
  clear C4
  go_wp2_with fail
  go_at_call 33
  refine (unhide C5).mono ?_
  rintro e w' ⟨rfl, rfl⟩
  clear C5
  go_wp2_with fail
  go_at_call 21
  refine (unhide C6).mono ?_
  rintro e w' ⟨rfl, rfl⟩
  clear C6
  go_wp2_with fail
  go_at_call 18
  refine (unhide C7).mono ?_
  rintro e w' ⟨rfl, rfl⟩
  clear C7
  go_wp2_with fail
  go_at_call 20
  refine (unhide C8).mono ?_
  rintro e w' ⟨rfl, rfl⟩
  clear C8
  go_wp2_with fail
  go_at_call 34
  refine (unhide C9).mono ?_
  rintro e w' ⟨rfl, rfl⟩
  clear C9
  go_wp2_with fail
  go_at_call 23
  refine (unhide C10).mono ?_
  rintro e w' ⟨rfl, rfl⟩
  clear C10
  go_wp2_with fail
  go_at_call 24
  refine (unhide C11).mono ?_
  rintro e w' ⟨rfl, rfl⟩
  clear C11
  go_wp2_with fail
  go_at_call 35
  refine (unhide C12).mono ?_
  rintro e w' ⟨rfl, rfl⟩
  clear C12
  go_wp2_with fail
  go_at_call 36
  refine (unhide C13).mono ?_
  rintro e w' ⟨rfl, rfl⟩
  clear C13
  go_wp2_with fail
  go_at_call 10
  refine (unhide KS).mono ?_
  rintro e w2 ⟨rfl, hb2⟩
  have B2 := hide ((unhide B1).trans ((unhide hb2).mono (unhide B1).size))
  have KF1 := hide (unhide KF w2 (unhide KT w2 (unhide B2)))
  clear KS hb2
  go_wp2_with fail
  go_at_call 11
  refine (unhide KF1).mono ?_
  rintro e w3 ⟨dg, g, rfl, Y⟩
  have L1 := hide (unhide KV _ _ _ _ (unhide Y))
  clear KF1 Y KV KF
  go_wp2_with fail
  go_at_call 13
  refine (unhide L1).mono ?_
  rintro e u1 ⟨o, rfl, L2⟩
  clear L1
  go_wp2_with fail
  go_at_call 13
  refine (unhide L2).mono ?_
  rintro e u2 ⟨rfl, L3⟩
  clear L2
  go_wp2_with fail
  go_at_call 25
  refine (unhide L3).mono ?_
  rintro e u3 ⟨rfl, L4⟩
  clear L3
  go_wp2_with fail
  go_at_call 23
  refine (unhide L4).mono ?_
  rintro e u4 ⟨rfl, L5⟩
  clear L4
  go_wp2_with fail
  go_at_call 13
  refine (unhide L5).mono ?_
  rintro e u5 ⟨o2, rfl, L6⟩
  clear L5
  go_wp2_with fail
  go_at_call 21
  refine (unhide L6).mono ?_
  rintro e u6 ⟨rfl, L7⟩
  clear L6
  go_wp2_with fail
  go_at_call 19
  refine (unhide L7).mono ?_
  rintro e u7 ⟨k, rfl, L8⟩
  clear L7
  go_wp2_with fail
  go_at_call 18
  refine (unhide L8).mono ?_
  rintro e u8 ⟨rfl, L9⟩
  clear L8
  go_wp2_with fail
  go_at_call 24
  refine (unhide L9).mono ?_
  rintro e u9 ⟨rfl, L10⟩
  clear L9
  go_wp2_with fail
  go_at_call 24
  refine (unhide L10).mono ?_
  rintro e u10 ⟨rfl, Z10⟩
  have B3 := hide ((unhide B2).trans ((unhide Z10).mono (unhide B2).size))
  have KS2 := hide (unhide KN u10)
  clear L10 B1
  go_wp2_with fail
  go_at_call 10
  refine (unhide KS2).mono ?_
  rintro e u11 ⟨rfl, Z11⟩
  have B4 := hide ((unhide B3).trans ((unhide Z11).mono (unhide B3).size))
  have KA1 := hide (unhide KA u11)
  clear KS2
  go_wp2_with fail
  go_at_call 37
  refine (unhide KA1).mono ?_
  rintro e u12 ⟨rfl, Z12⟩
  have B5 := hide ((unhide B4).trans ((unhide Z12).mono (unhide B4).size))
  clear KA1
  go_wp2_with fail
  go_ret
  exact ⟨rfl, unhide B5⟩

end Go.Proofs.YtdkicniciciobaaGreatDoor

