/- Joined: OLaw, OMathA, OMathB, OMathC, ONil, OKpA, OKpB, OReadA. -/
import Derived.Test.YtdkicniciciobaaGreatDoorOrJ47
import Derived.Test.YtdkicniciciobaaGreatDoorOrJ43
import Derived.Test.YtdkicniciciobaaGreatDoorOrJ1
import Derived.Test.YtdkicniciciobaaGreatDoorOrJ46
import Derived.Test.YtdkicniciciobaaGreatDoorOrJ38
/- A law's own group: small, full, fresh; the contract of wakes. -/
namespace Go.Proofs.YtdkicniciciobaaGreatDoor
open Go.RowKit Go.Shelf Go.Maps
set_option linter.unusedVariables false
set_option maxRecDepth 100000

set_option maxRecDepth 100000 in
theorem gfull_any (x : Int) (w : World) :
    Calls Tryz.prog 19 #[.int .u8 x] w fun e w' => e = .returned (.slice (some ⟨w.heap.size, 0, none⟩) 64 64) ∧ Block w' w.heap.size (fl x) ∧ Below w.heap.size w w' := by
  have hmk : ∀ w : World, (Instr.makeSlice 49 (.int .i64 64) (.int .i64 64)).run Tryz.prog w = .ok (.slice (some ⟨w.heap.size, 0, none⟩) 64 64) (w.alloc (.cells (madeCells #[.int .u8 0] 64) 5)) := run_make_row' (P := Tryz.prog) 49 5 (.int .u8 0) 1 Tryz.underlying49 info5 rfl .i64 .i64 64 (by omega) (by omega)
  have B0 : Hid (Below w.heap.size w (w.alloc (.cells (madeCells #[.int .u8 0] 64) 5))) := (Below.refl _ w).alloc (Nat.le_refl _) _
  have I0 := hide (show Block (w.alloc (.cells (madeCells #[.int .u8 0] 64) 5)) w.heap.size (List.replicate 0 x ++ List.replicate (64 - 0) 0) by
    unfold Block
    rw [World.alloc_heap_new, ← Array.toArray_toList (xs := madeCells #[.int .u8 0] 64), toList_madeCells_one]
    simp)
  go_enter Tryz.func19, Tryz.ntmps19
  go_upto_region 3 with fail
  change Code.wp _ _ _ _ (w.alloc (.cells (madeCells #[.int .u8 0] 64) 5))
  generalize w.alloc (.cells (madeCells #[.int .u8 0] 64) 5) = w1 at *
  clear hmk
  go_loopw [4] (fun i wr => ∃ k : Nat, k ≤ 64 ∧ i = .int .i64 (k : Int) ∧ Hid (Block wr w.heap.size (List.replicate k x ++ List.replicate (64 - k) 0)) ∧ Hid (Below w.heap.size w wr)) (fun i _ => 64 - (intOf i).toNat)
  case atStart => exact ⟨0, Nat.zero_le _, rfl, I0, B0⟩
  case round =>
    obtain ⟨k, hk, rfl, hI, hX⟩ := hrel
    clear I0 B0
    by_cases hlt : k < 64
    · have c1 := (unhide hI).cell (i := k) (by simp; omega)
      have f1 := (unhide hI).free k
      have I2 := (unhide hI).set k x
      rw [fl_set x k hlt] at I2
      replace I2 := hide I2
      have X2 := hide ((unhide hX).setCell (p := ⟨w.heap.size, k, none⟩) (Nat.le_refl _) (.int .u8 x))
      generalize (List.replicate k x ++ List.replicate (64 - k) 0)[k]?.getD 0 = z at *
      clear hI hX
      generalize w.heap.size = g at *
      go_wp2_with fail
      exact ⟨⟨k + 1, by omega, by go_num, I2, X2⟩, by simp [intOf]; omega⟩
    · obtain rfl : k = 64 := by omega
      go_wp2_with fail
      go_ret
      refine ⟨rfl, ?_, unhide hX⟩
      have := unhide hI
      simpa [fl] using this

theorem gsmall_any (w : World) : Calls Tryz.prog 10 #[] w fun e w' => e = .returned (Pv sP) ∧ Below w.heap.size w w' := by
  have K : Hid (∀ u, Calls Tryz.prog 43 #[.int .i64 64, .int .i64 60, .int .i64 6, .int .i64 9] u fun e w' => e = .returned (.tuple #[Pv sP, .int .i64 0]) ∧ Below u.heap.size u w') := fun u => by
    have := refMake_any 64 60 6 9 u
    rw [sP_make] at this
    exact this
  have HZ := hide (Bl.new w #[.int .i64 0, .int .i64 0, .int .i64 0, .int .i64 0, .int .i64 0, .int .i64 0, .int .i64 0, .int .i64 0, .int .i64 0, .int .i64 0, .int .i64 0, .int .i64 0] 26)
  have HB := hide ((Below.refl w.heap.size w).alloc (Nat.le_refl _) (.cells #[.int .i64 0, .int .i64 0, .int .i64 0, .int .i64 0, .int .i64 0, .int .i64 0, .int .i64 0, .int .i64 0, .int .i64 0, .int .i64 0, .int .i64 0, .int .i64 0] 26))
  generalize sP = p at *
  go_enter Tryz.func10, Tryz.ntmps10
  go_wp2_with fail
  go_at_call 43
  refine (unhide K _).mono ?_
  rintro e w1 ⟨rfl, hb⟩
  have HZ2 := hide (((unhide HZ).call hb).alloc (.cells (Pc p) 26))
  have HB2 := hide (((unhide HB).trans (hb.mono (unhide HB).size)).alloc ((unhide HB).trans (hb.mono (unhide HB).size)).size (.cells (Pc p) 26))
  have HN := hide (Bl.new w1 (Pc p) 26)
  clear HZ HB hb K
  go_upto_region 2 with fail
  change Code.wp _ _ _ _ (w1.alloc (.cells (Pc p) 26))
  generalize w1.alloc (.cells (Pc p) 26) = w2 at *
  generalize w1.heap.size = g1 at *
  have z0 := (unhide HZ2).cell 0 (.int .i64 0) rfl
  have z1 := (unhide HZ2).cell 1 (.int .i64 0) rfl
  have z2 := (unhide HZ2).cell 2 (.int .i64 0) rfl
  have z3 := (unhide HZ2).cell 3 (.int .i64 0) rfl
  have z4 := (unhide HZ2).cell 4 (.int .i64 0) rfl
  have z5 := (unhide HZ2).cell 5 (.int .i64 0) rfl
  have z6 := (unhide HZ2).cell 6 (.int .i64 0) rfl
  have z7 := (unhide HZ2).cell 7 (.int .i64 0) rfl
  have z8 := (unhide HZ2).cell 8 (.int .i64 0) rfl
  have z9 := (unhide HZ2).cell 9 (.int .i64 0) rfl
  have z10 := (unhide HZ2).cell 10 (.int .i64 0) rfl
  have z11 := (unhide HZ2).cell 11 (.int .i64 0) rfl
  have n0 := (unhide HN).cell 0 (.int .i64 (p 0)) rfl
  have n1 := (unhide HN).cell 1 (.int .i64 (p 1)) rfl
  have n2 := (unhide HN).cell 2 (.int .i64 (p 2)) rfl
  have n3 := (unhide HN).cell 3 (.int .i64 (p 3)) rfl
  have n4 := (unhide HN).cell 4 (.int .i64 (p 4)) rfl
  have n5 := (unhide HN).cell 5 (.int .i64 (p 5)) rfl
  have n6 := (unhide HN).cell 6 (.int .i64 (p 6)) rfl
  have n7 := (unhide HN).cell 7 (.int .i64 (p 7)) rfl
  have n8 := (unhide HN).cell 8 (.int .i64 (p 8)) rfl
  have n9 := (unhide HN).cell 9 (.int .i64 (p 9)) rfl
  have n10 := (unhide HN).cell 10 (.int .i64 (p 10)) rfl
  have n11 := (unhide HN).cell 11 (.int .i64 (p 11)) rfl
  have fz := (unhide HZ2).free
  go_wp2_with fail
  have hW : Below w.heap.size w (setAll w2 w.heap.size 0 [.int .i64 (p 0), .int .i64 (p 1), .int .i64 (p 2), .int .i64 (p 3), .int .i64 (p 4), .int .i64 (p 5), .int .i64 (p 6), .int .i64 (p 7), .int .i64 (p 8), .int .i64 (p 9), .int .i64 (p 10), .int .i64 (p 11)]) := below_setAll (Nat.le_refl _) _ _ _ _ (unhide HB2)
  have hA := setAll_whole [.int .i64 (p 0), .int .i64 (p 1), .int .i64 (p 2), .int .i64 (p 3), .int .i64 (p 4), .int .i64 (p 5), .int .i64 (p 6), .int .i64 (p 7), .int .i64 (p 8), .int .i64 (p 9), .int .i64 (p 10), .int .i64 (p 11)] _ _ (unhide HZ2) rfl
  change bodyPost _ _ _ _ _ (setAll w2 w.heap.size 0 [.int .i64 (p 0), .int .i64 (p 1), .int .i64 (p 2), .int .i64 (p 3), .int .i64 (p 4), .int .i64 (p 5), .int .i64 (p 6), .int .i64 (p 7), .int .i64 (p 8), .int .i64 (p 9), .int .i64 (p 10), .int .i64 (p 11)])
  generalize setAll w2 w.heap.size 0 [.int .i64 (p 0), .int .i64 (p 1), .int .i64 (p 2), .int .i64 (p 3), .int .i64 (p 4), .int .i64 (p 5), .int .i64 (p 6), .int .i64 (p 7), .int .i64 (p 8), .int .i64 (p 9), .int .i64 (p 10), .int .i64 (p 11)] = wf at *
  refine bodyPost_ret (v := Pv p) ?_ rfl ⟨rfl, hW⟩
  simp [results, Tryz.results10, go_sem, hA.cell 0 _ rfl, hA.cell 1 _ rfl, hA.cell 2 _ rfl, hA.cell 3 _ rfl, hA.cell 4 _ rfl, hA.cell 5 _ rfl, hA.cell 6 _ rfl, hA.cell 7 _ rfl, hA.cell 8 _ rfl, hA.cell 9 _ rfl, hA.cell 10 _ rfl, hA.cell 11 _ rfl]


/-- A law's group, with its device; rows of the law beside it. -/
structure GL (B : Nat) (w : World) (g cg lg dg : Nat) (X : Grp) (C : Cac) (L : Lg) (D : Dev) (rows : List (Nat × Obj)) (u : World) (S : Nat → Prop) : Prop where
  gv : Gv u S g cg lg dg sP sG X C L D
  ge : ∀ k, S k → B ≤ k
  bel : Below B w u
  sz : B ≤ w.heap.size
  ro : ∀ x ∈ rows, u.heap[x.1]? = some x.2 ∧ ¬ S x.1

theorem GL.next {B : Nat} {w : World} {g cg lg dg : Nat} {X X' : Grp} {C C' : Cac} {L L' : Lg} {D D' : Dev} {rows : List (Nat × Obj)} {u u' : World} {S S' : Nat → Prop} (h : GL B w g cg lg dg X C L D rows u S) (hg : Gv u' S' g cg lg dg sP sG X' C' L' D') (hx : Nx S u S' u') : GL B w g cg lg dg X' C' L' D' rows u' S' :=
  ⟨hg, hx.base h.ge (Nat.le_trans h.sz h.bel.size), h.bel.trans (hx.below h.ge (Nat.le_trans h.sz h.bel.size)), h.sz, fun x hm => by
    obtain ⟨h1, h2⟩ := h.ro x hm
    obtain ⟨k1, k2, _⟩ := hx.keep (Array.getElem?_eq_some_iff.1 h1).1 h2
    exact ⟨k1.trans h1, k2⟩⟩

theorem GL.later {B : Nat} {w : World} {g cg lg dg : Nat} {X : Grp} {C : Cac} {L : Lg} {D : Dev} {rows : List (Nat × Obj)} {u u' : World} {S : Nat → Prop} (h : GL B w g cg lg dg X C L D rows u S) (hb : Below u.heap.size u u') : GL B w g cg lg dg X C L D rows u' S :=
  h.next (h.gv.below hb) ((Nx.refl S u).below' hb)

theorem GL.add {B : Nat} {w : World} {g cg lg dg : Nat} {X : Grp} {C : Cac} {L : Lg} {D : Dev} {rows : List (Nat × Obj)} {u : World} {S : Nat → Prop} (h : GL B w g cg lg dg X C L D rows u S) {k : Nat} {o : Obj} (h1 : u.heap[k]? = some o) (h2 : ¬ S k) : GL B w g cg lg dg X C L D ((k, o) :: rows) u S :=
  ⟨h.gv, h.ge, h.bel, h.sz, fun x hm => by
    rcases List.mem_cons.1 hm with e | e
    · subst e; exact ⟨h1, h2⟩
    · exact h.ro x e⟩

def GD (B : Nat) (w : World) (g dg : Nat) (X : Grp) (C : Cac) (L : Lg) (D : Dev) (rows : List (Nat × Obj)) (u : World) : Prop := ∃ cg lg S, GL B w g cg lg dg X C L D rows u S

theorem GD.later {B : Nat} {w : World} {g dg : Nat} {X : Grp} {C : Cac} {L : Lg} {D : Dev} {rows : List (Nat × Obj)} {u u' : World} (h : GD B w g dg X C L D rows u) (hb : Below u.heap.size u u') : GD B w g dg X C L D rows u' := by
  obtain ⟨cg, lg, S, h⟩ := h
  exact ⟨cg, lg, S, h.later hb⟩

theorem GD.bel {B : Nat} {w : World} {g dg : Nat} {X : Grp} {C : Cac} {L : Lg} {D : Dev} {rows : List (Nat × Obj)} {u : World} (h : GD B w g dg X C L D rows u) : Below B w u := by
  obtain ⟨cg, lg, S, h⟩ := h
  exact h.bel

theorem sL_seen : Seen (gmem 0) sG sL := .inr (.inl (by show 0 < 1; omega))

theorem sP_da : (sG.ib : Int) ≤ sP 11 ∧ sP 11 ≤ (sG.n : Int) := by
  have e : sP 11 = planOf 64 60 6 9 11 := by unfold sP; rw [makeP_ok sP_make]
  rw [e]
  decide

/-- New, Format, Open, a cache and a group behind each other. -/
theorem gfresh_chain (w u : World) (hT : Tab w) (hu : Below w.heap.size w u) (cap : Nat) (hc : 1 ≤ cap ∧ cap ≤ 512) (a : Option Addr) (len c : Nat) (ns : List Int) (hI : IHas w a len ns) (hn : len ≤ 17592186043904) (ha : a = none → c = 0 ∧ len = 0) :
    Calls Tryz.prog 44 #[.int .i64 (sP 0), .int .i64 (sP 1)] u fun e w1 => ∃ dg, e = .returned (.tuple #[.pointer (some ⟨dg, 0, none⟩), .int .i64 0]) ∧ Below u.heap.size u w1 ∧ Hid (∀ u1, Below w1.heap.size w1 u1 →
      Calls Tryz.prog 45 #[.pointer (some ⟨dg, 0, none⟩), Pv sP] u1 fun e w2 => e = .returned (.int .i64 0) ∧ Below u.heap.size u w2 ∧ Hid (∀ u2, Below w2.heap.size w2 u2 →
        Calls Tryz.prog 30 #[.pointer (some ⟨dg, 0, none⟩), Pv sP] u2 fun e w3 => ∃ lg, e = .returned (.tuple #[.pointer (some ⟨lg, 0, none⟩), .int .i64 0]) ∧ Below u.heap.size u w3 ∧ Hid (
          Calls Tryz.prog 46 #[.pointer (some ⟨dg, 0, none⟩), .int .i64 (cap : Int), .slice a len c] w3 fun e w4 => ∃ cg, e = .returned (.tuple #[.pointer (some ⟨cg, 0, none⟩), .int .i64 0]) ∧ Below u.heap.size u w4 ∧ Hid (
            Calls Tryz.prog 37 #[.pointer (some ⟨dg, 0, none⟩), .pointer (some ⟨lg, 0, none⟩), .pointer (some ⟨cg, 0, none⟩), Pv sP] w4 fun e w5 => ∃ g, e = .returned (.tuple #[.pointer (some ⟨g, 0, none⟩), .int .i64 0]) ∧ Hid (GD w.heap.size w g dg Grp.new (Cac.new cap ns) sL sD [] w5))))) := by
  have hTu : Tab u := hT.kept (hu.block 0 hT.lt)
  have hus := hu.size
  refine (fresh_chain u u hTu (Below.refl _ _)).mono ?_
  rintro e w1 ⟨dg, rfl, hb1, K1⟩
  refine ⟨dg, rfl, hb1, fun u1 hu1 => (unhide K1 u1 hu1).mono ?_⟩
  rintro e w2 ⟨rfl, hb2, K2⟩
  refine ⟨rfl, hb2, fun u2 hu2 => (unhide K2 u2 hu2).mono ?_⟩
  rintro e w3 ⟨lg, rfl, Y⟩
  obtain ⟨S3, l3⟩ := unhide Y
  obtain ⟨Sl, Sd, ml, lv⟩ := l3.lv
  have hw3 : Below w.heap.size w w3 := hu.trans (l3.bel.mono hus)
  have hI3 : IHas w3 a len ns := by
    refine ⟨hI.1, fun hp => ?_⟩
    obtain ⟨b, off, e, hcell⟩ := hI.2 hp
    refine ⟨b, off, e, fun j hj => (hw3.cell (p := ⟨b, off + j, none⟩) (hI.lt hp e)).trans (hcell j hj)⟩
  refine ⟨lg, rfl, l3.bel, (cnew_ok dg Sd sD cap a len c ns w3 lv.dd hc hI3 hn ha).mono ?_⟩
  rintro e w4 ⟨cg, rfl, Y4⟩
  obtain ⟨S4, k4, g4, b4⟩ := unhide Y4
  obtain ⟨S5, t5, x5⟩ := tri_of lv k4 g4 b4
  have h4 : Below u.heap.size u w4 := l3.bel.trans (b4.mono l3.bel.size)
  refine ⟨cg, rfl, h4, (gnew_ok t5 sL_seen sP_da).mono ?_⟩
  rintro e w5 ⟨g, rfl, Y5⟩
  obtain ⟨S6, g6, x6, _⟩ := unhide Y5
  have ge5 : ∀ k, S5 k → u.heap.size ≤ k := x5.base l3.ge l3.bel.size
  exact ⟨g, rfl, cg, lg, S6, g6, fun k hk => Nat.le_trans hus (x6.base ge5 h4.size k hk), (hu.trans (h4.mono hus)).trans ((x6.below ge5 h4.size).mono hus), Nat.le_refl _, fun x hx => by simp at hx⟩

set_option maxHeartbeats 1000000 in
theorem gfresh_any (w : World) (hT : Tab w) (cap : Nat) (hc : 1 ≤ cap ∧ cap ≤ 512) (a : Option Addr) (len c : Nat) (ns : List Int) (hI : IHas w a len ns) (hn : len ≤ 17592186043904) (ha : a = none → c = 0 ∧ len = 0) :
    Calls Tryz.prog 11 #[Pv sP, .int .i64 (cap : Int), .slice a len c] w fun e w' => ∃ dg g, e = .returned (.tuple #[.pointer (some ⟨dg, 0, none⟩), .pointer (some ⟨g, 0, none⟩)]) ∧ Hid (GD w.heap.size w g dg Grp.new (Cac.new cap ns) sL sD [] w') := by
  have K : Hid (∀ u, Below w.heap.size w u → _) := fun u hu => gfresh_chain w u hT hu cap hc a len c ns hI hn ha
  have HK := hide (Kp.start w sP)
  clear hT hI hn ha hc
  generalize sP = p at *
  generalize (cap : Int) = ci at *
  go_enter Tryz.func11, Tryz.ntmps11
  go_wp2_with fail
  go_at_call 44
  refine (unhide K _ (unhide HK).2).mono ?_
  rintro e w1 ⟨dg, rfl, hb1, K2⟩
  have HK1 := hide ((unhide HK).call hb1)
  have KF := hide (unhide K2 _ (Below.refl _ _))
  clear K K2 hb1
  obtain ⟨f0, f1, f2, f3, f4, f5, f6, f7, f8, f9, f10, f11⟩ := (unhide HK1).cells
  go_wp2_with fail
  go_at_call 45
  refine (unhide KF).mono ?_
  rintro e w2 ⟨rfl, hb2, K3⟩
  have HK2 := hide ((unhide HK).call hb2)
  have KO := hide (unhide K3 _ (Below.refl _ _))
  clear KF K3 hb2 HK1 f0 f1 f2 f3 f4 f5 f6 f7 f8 f9 f10 f11
  obtain ⟨f0, f1, f2, f3, f4, f5, f6, f7, f8, f9, f10, f11⟩ := (unhide HK2).cells
  go_wp2_with fail
  go_at_call 30
  refine (unhide KO).mono ?_
  rintro e w3 ⟨lg, rfl, hb3, KN⟩
  have HK3 := hide ((unhide HK).call hb3)
  clear KO hb3 HK2 f0 f1 f2 f3 f4 f5 f6 f7 f8 f9 f10 f11
  go_wp2_with fail
  go_at_call 46
  refine (unhide KN).mono ?_
  rintro e w4 ⟨cg, rfl, hb4, KG⟩
  have HK4 := hide ((unhide HK).call hb4)
  clear KN hb4 HK3
  obtain ⟨f0, f1, f2, f3, f4, f5, f6, f7, f8, f9, f10, f11⟩ := (unhide HK4).cells
  go_wp2_with fail
  go_at_call 37
  refine (unhide KG).mono ?_
  rintro e w5 ⟨g, rfl, X⟩
  clear KG HK HK4 f0 f1 f2 f3 f4 f5 f6 f7 f8 f9 f10 f11
  go_wp2_with fail
  go_ret2
  exact ⟨dg, g, rfl, X⟩

/-- No picks. -/
theorem ihas_none (w : World) : IHas w none 0 [] := ⟨rfl, fun h => absurd h (by omega)⟩

/-- Begin. -/
theorem g_begin {B : Nat} {w : World} {g dg : Nat} {X : Grp} {C : Cac} {L : Lg} {D : Dev} {rows : List (Nat × Obj)} {u : World} (h : GD B w g dg X C L D rows u) (hN : X.N = none) :
    Calls Tryz.prog 13 #[.pointer (some ⟨g, 0, none⟩)] u fun e u' => ∃ o, e = .returned (.tuple #[.pointer (some ⟨o, 0, none⟩), .int .i64 0]) ∧ Hid (GD B w g dg { X with N := some (fun _ => none), o := o } C L D rows u') := by
  obtain ⟨cg, lg, S, h⟩ := h
  refine (begin_ok h.gv hN).mono ?_
  rintro e u' ⟨o, rfl, Y⟩
  obtain ⟨S', g1, x1, _⟩ := unhide Y
  exact ⟨o, rfl, cg, lg, S', h.next g1 x1⟩

/-- Write of a whole block. -/
theorem g_write {B : Nat} {w : World} {g dg : Nat} {X : Grp} {C : Cac} {L : Lg} {D : Dev} {rows : List (Nat × Obj)} {u : World} (h : GD B w g dg X C L D rows u) {N : Nat → Option Nt} (eN : X.N = some N) (b : Nat) (hb : 11 ≤ b ∧ b < 60) (a : Option Addr) (cap : Nat) (zs : List Int) (hr : Row u.heap.size u a 64 cap zs) :
    Calls Tryz.prog 18 #[.pointer (some ⟨X.o, 0, none⟩), .int .i64 (b : Int), .slice a 64 cap] u fun e u' => e = .returned (.int .i64 0) ∧ Hid (GD B w g dg { X with N := some (noteN N b ⟨1, zs⟩) } C L D rows u') := by
  obtain ⟨cg, lg, S, h⟩ := h
  have e1 : notE sG (b : Int) ((sG.ib : Nat) : Int) 64 = 0 := by
    have h0 : rngE sG.n (b : Int) ((sG.ib : Nat) : Int) = 0 := by
      unfold rngE
      rw [if_neg]
      show ¬ ((b : Int) < 11 ∨ (60 : Int) ≤ (b : Int))
      omega
    unfold notE
    rw [if_pos h0, if_pos (show 64 = sG.blk from rfl)]
  have := owrite_any h.gv eN (b : Int) a 64 cap zs hr
  rw [e1, if_pos rfl] at this
  refine this.mono ?_
  rintro e u' ⟨rfl, Y⟩
  obtain ⟨S', g1, x1⟩ := unhide Y
  rw [show (b : Int).toNat = b by simp] at g1
  exact ⟨rfl, cg, lg, S', h.next g1 x1⟩

/-- End. -/
theorem g_end {B : Nat} {w : World} {g dg : Nat} {X : Grp} {C : Cac} {L : Lg} {D : Dev} {rows : List (Nat × Obj)} {u : World} (h : GD B w g dg X C L D rows u) {N : Nat → Option Nt} (eN : X.N = some N) :
    Calls Tryz.prog 24 #[.pointer (some ⟨X.o, 0, none⟩)] u fun e u' => e = .returned (.int .i64 (endR sG X N C L D).1) ∧ Hid (GD B w g dg (endR sG X N C L D).2.1 (endR sG X N C L D).2.2.1 (endR sG X N C L D).2.2.2.1 (endR sG X N C L D).2.2.2.2 rows u') := by
  obtain ⟨cg, lg, S, h⟩ := h
  refine (oend_any h.gv eN).mono ?_
  rintro e u' ⟨rfl, Y⟩
  obtain ⟨S', g1, x1, _⟩ := unhide Y
  exact ⟨rfl, cg, lg, S', h.next g1 x1⟩

/-- Read of the group. -/
theorem g_read {B : Nat} {w : World} {g dg : Nat} {X : Grp} {C : Cac} {L : Lg} {D : Dev} {rows : List (Nat × Obj)} {u : World} (h : GD B w g dg X C L D rows u) {b : Nat} (hb : b < 60) (he : grE X C L D b = 0) :
    Calls Tryz.prog 27 #[.pointer (some ⟨g, 0, none⟩), .int .i64 (b : Int)] u fun e u' => ∃ a c, e = .returned (.tuple #[.slice a 64 c, .int .i64 0]) ∧ Hid (Own u.heap.size u' a 64 c (grZ X C L D b) ∧ GD B w g dg X (grC X C L D b) L (grD X C L D b) rows u' ∧ u.heap.size ≤ u'.heap.size) := by
  obtain ⟨cg, lg, S, h⟩ := h
  refine (gread_ok h.gv hb he).mono ?_
  rintro e u' ⟨a, c, rfl, Y⟩
  obtain ⟨S', o1, g1, x1, _⟩ := unhide Y
  exact ⟨a, c, rfl, o1, ⟨cg, lg, S', h.next g1 x1⟩, x1.fr.size⟩

/-- Blocks. -/
theorem g_blocks {B : Nat} {w : World} {g dg : Nat} {X : Grp} {C : Cac} {L : Lg} {D : Dev} {rows : List (Nat × Obj)} {u : World} (h : GD B w g dg X C L D rows u) :
    Calls Tryz.prog 35 #[.pointer (some ⟨g, 0, none⟩)] u fun e u' => ∃ a c, e = .returned (.slice a (blkI 60 X.Q).length c) ∧ Hid (IHas u' a (blkI 60 X.Q).length (blkI 60 X.Q) ∧ GD B w g dg X C L D rows u' ∧ Below u.heap.size u u') := by
  obtain ⟨cg, lg, S, h⟩ := h
  obtain ⟨Sg, m, hg, _⟩ := h.gv.gr
  refine (blocks_any hg).mono ?_
  rintro e u' ⟨v, rfl, Y⟩
  obtain ⟨g1, b1⟩ := unhide Y
  obtain ⟨a, c, rfl⟩ := g1.shape
  exact ⟨a, c, rfl, (gr_ihas g1).1, ⟨cg, lg, S, h.later b1⟩, b1⟩

/-- What End of one written block leaves. -/
theorem end_one (o b : Nat) (z : List Int) (hb : b < 60) (C : Cac) (D : Dev) (L : Lg) : endR sG ⟨fun _ => none, fun _ => false, some (noteN (fun _ => none) b ⟨1, z⟩), o⟩ (noteN (fun _ => none) b ⟨1, z⟩) C L D = (0, ⟨fun j => if j = b then some z else none, fun _ => false, none, o⟩, C, L, D) := by
  have k1 : isK (noteN (fun _ => none) b ⟨1, z⟩) 1 = fun j => j == b := by
    funext j
    unfold isK noteN
    by_cases e : j = b <;> simp [e]
  have k2 : isK (noteN (fun _ => none) b ⟨1, z⟩) 2 = fun j => false := by
    funext j
    unfold isK noteN
    by_cases e : j = b <;> simp [e]
  have k3 : isK (noteN (fun _ => none) b ⟨1, z⟩) 3 = fun j => false := by
    funext j
    unfold isK noteN
    by_cases e : j = b <;> simp [e]
  have km : isM (noteN (fun _ => none) b ⟨1, z⟩) (fun _ => none) = fun j => j == b := by
    funext j
    unfold isM
    rw [k1]
    simp
  have l0 : lstX (fun _ => false) sG.n = [] := by decide
  have l1 : lstX (fun j => j == b) sG.n = [b] := by
    have : ∀ b : Fin 60, lstX (fun j => j == b.val) 60 = [b.val] := by decide +kernel
    exact this ⟨b, hb⟩
  have lp : pendL sG (fun _ => none) = [] := by decide
  have hz : ntZ (noteN (fun _ => none) b ⟨1, z⟩) b = z := by simp [ntZ, noteN]
  have h1 : ¬ sG.lg < sG.uses 1 := by decide
  generalize noteN (fun _ => none) b ⟨1, z⟩ = N at *
  have en : enR sG ⟨fun _ => none, fun _ => false, some N, o⟩ N C L D = (0, ⟨fun _ => none, fun _ => false, some N, o⟩, C, L, D) := by
    unfold enR
    rw [if_neg]
    simp only [km, l1, lp, List.length_nil, List.length_cons, Nat.zero_add]
    exact h1
  unfold endR
  rw [en, k1, l1]
  rw [if_neg (by simpa using h1), if_neg (by simp)]
  unfold enT
  simp only [k1, k2, k3, l0, l1, ptsE, ptsC, ptsD, freQ, freF, freC, ownQ, ne_eq, not_true_eq_false, if_false, hz]

set_option maxHeartbeats 1000000 in
theorem gwakes_any (w : World) (hT : Tab w) : Calls Tryz.prog 9 #[] w fun e w' => e = .returned (.bool true) ∧ Below w.heap.size w w' := by
  have K1 := hide (gsmall_any w)
  have K2 : Hid (∀ u, Below w.heap.size w u → Calls Tryz.prog 11 #[Pv sP, .int .i64 8, .slice none 0 0] u fun e w' => ∃ dg g, e = .returned (.tuple #[.pointer (some ⟨dg, 0, none⟩), .pointer (some ⟨g, 0, none⟩)]) ∧ Hid (GD u.heap.size u g dg Grp.new (Cac.new 8 []) sL sD [] w' ∧ Below w.heap.size w u)) := fun u hu => by
    refine (gfresh_any u (hT.kept (hu.block 0 hT.lt)) 8 (by omega) none 0 0 [] (ihas_none u) (by omega) (fun _ => ⟨rfl, rfl⟩)).mono ?_
    rintro e w' ⟨dg, g, rfl, Y⟩
    exact ⟨dg, g, rfl, unhide Y, hu⟩
  have K3 : Hid (∀ v g dg u, GD v.heap.size v g dg Grp.new (Cac.new 8 []) sL sD [] u → Calls Tryz.prog 13 #[.pointer (some ⟨g, 0, none⟩)] u fun e u1 => ∃ o, e = .returned (.tuple #[.pointer (some ⟨o, 0, none⟩), .int .i64 0]) ∧
      Hid (Calls Tryz.prog 19 #[.int .u8 5] u1 fun e u2 => ∃ k, e = .returned (.slice (some ⟨k, 0, none⟩) 64 64) ∧
        Hid (Calls Tryz.prog 18 #[.pointer (some ⟨o, 0, none⟩), .int .i64 20, .slice (some ⟨k, 0, none⟩) 64 64] u2 fun e u3 => e = .returned (.int .i64 0) ∧
          Hid (Calls Tryz.prog 24 #[.pointer (some ⟨o, 0, none⟩)] u3 fun e u4 => e = .returned (.int .i64 0) ∧
            Hid (Calls Tryz.prog 27 #[.pointer (some ⟨g, 0, none⟩), .int .i64 20] u4 fun e u5 => ∃ a c, e = .returned (.tuple #[.slice a 64 c, .int .i64 0]) ∧
              Hid (Calls Tryz.prog 19 #[.int .u8 5] u5 fun e u6 => ∃ k, e = .returned (.slice (some ⟨k, 0, none⟩) 64 64) ∧
                Hid (Calls Tryz.prog 22 #[.slice a 64 c, .slice (some ⟨k, 0, none⟩) 64 64] u6 fun e u7 => e = .returned (.bool true) ∧
                  Hid (Calls Tryz.prog 35 #[.pointer (some ⟨g, 0, none⟩)] u7 fun e u8 => ∃ a c, e = .returned (.slice a 1 c) ∧
                    Hid (∀ u9, u9 = u8.alloc (.cells #[.int .i64 20] 3) → Calls Tryz.prog 42 #[.slice a 1 c, .slice (some ⟨u8.heap.size, 0, none⟩) 1 1] u9 fun e u10 => e = .returned (.bool true) ∧ Hid (Below v.heap.size v u10)))))))))) := fun v g dg u h => by
    refine (g_begin h rfl).mono ?_
    rintro e u1 ⟨o, rfl, Y1⟩
    refine ⟨o, rfl, (gfull_any 5 u1).mono ?_⟩
    rintro e u2 ⟨rfl, B2, b2⟩
    refine ⟨_, rfl, (g_write ((unhide Y1).later b2) rfl 20 (by omega) (some ⟨u1.heap.size, 0, none⟩) 64 (fl 5) (full_row (by omega) (by omega) B2)).mono ?_⟩
    rintro e u3 ⟨rfl, Y3⟩
    have he := g_end (X := ⟨fun _ => none, fun _ => false, some (noteN (fun _ => none) 20 ⟨1, fl 5⟩), o⟩) (unhide Y3) rfl
    rw [end_one o 20 (fl 5) (by omega)] at he
    refine ⟨rfl, he.mono ?_⟩
    rintro e u4 ⟨rfl, Y4⟩
    refine ⟨rfl, (g_read (b := 20) (unhide Y4) (by omega) rfl).mono ?_⟩
    rintro e u5 ⟨a, c, rfl, Y5⟩
    obtain ⟨o5, g5, _⟩ := unhide Y5
    refine ⟨a, c, rfl, (gfull_any 5 u5).mono ?_⟩
    rintro e u6 ⟨rfl, B6, b6⟩
    refine ⟨_, rfl, (same_true a (some ⟨u5.heap.size, 0, none⟩) 64 c 64 (fl 5) u6 (o5.has.later b6) (full_row (by omega) (by omega) B6).has).mono ?_⟩
    rintro e u7 ⟨rfl, rfl⟩
    refine ⟨rfl, (g_blocks (g5.later b6)).mono ?_⟩
    rintro e u8 ⟨a8, c8, rfl, Y8⟩
    obtain ⟨i8, g8, b8⟩ := unhide Y8
    have eB : blkI 60 (fun j => if j = 20 then some (fl 5) else none) = [20] := by
      have : blkL 60 (fun j => if j = 20 then some (fl 5) else none) = [20] := by
        have e2 : (fun b => ((if b = 20 then some (fl 5) else none : Option (List Int))).isSome) = fun b => b == 20 := by
          funext j
          by_cases e : j = 20 <;> simp [e]
        unfold blkL
        rw [e2]
        decide
      unfold blkI
      rw [this]
      rfl
    have i8' : IHas u8 a8 1 [20] := by
      have := i8
      show IHas u8 a8 [(20 : Int)].length [20]
      rw [← eB]
      exact i8
    refine ⟨a8, c8, ?_, fun u9 e9 => ?_⟩
    · show Ending.returned (Value.slice a8 (blkI 60 (fun j => if j = 20 then some (fl 5) else none)).length c8) = _
      rw [eB]
      rfl
    · have ba : Below u8.heap.size u8 u9 := by rw [e9]; exact (Below.refl _ _).alloc (Nat.le_refl _) _
      have i9 : IHas u9 a8 1 [20] := by
        refine ⟨i8'.1, fun hp => ?_⟩
        obtain ⟨b, off, e, hcell⟩ := i8'.2 hp
        exact ⟨b, off, e, fun j hj => (ba.cell (p := ⟨b, off + j, none⟩) (i8'.lt hp e)).trans (hcell j hj)⟩
      have n9 : IHas u9 (some ⟨u8.heap.size, 0, none⟩) 1 [20] := by
        refine ⟨rfl, fun _ => ⟨u8.heap.size, 0, rfl, fun j hj => ?_⟩⟩
        have ej : j = 0 := by omega
        subst ej
        rw [e9]
        exact (Bl.new u8 #[.int .i64 20] 3).cell 0 _ rfl
      refine (sameInts_any a8 (some ⟨u8.heap.size, 0, none⟩) 1 c8 1 [20] u9 i9 n9 (by omega)).mono ?_
      rintro e u10 ⟨rfl, q, rfl⟩
      exact ⟨rfl, below_drewN (g8.later ba).bel q⟩
  clear hT
  generalize sP = p at *
  go_enter Tryz.func9, Tryz.ntmps9
  go_wp2_with fail
  go_at_call 10
  refine (unhide K1).mono ?_
  rintro e w1 ⟨rfl, hb1⟩
  have KF := hide (unhide K2 _ hb1)
  clear K1 K2 hb1
  go_wp2_with fail
  go_at_call 11
  refine (unhide KF).mono ?_
  rintro e w2 ⟨dg, g, rfl, X⟩
  have KB := hide (unhide K3 _ _ _ _ (unhide X).1)
  have BW := hide (unhide X).2
  clear KF K3 X
  go_wp2_with fail
  go_at_call 13
  refine (unhide KB).mono ?_
  rintro e u1 ⟨o, rfl, K4⟩
  clear KB
  go_wp2_with fail
  go_at_call 19
  refine (unhide K4).mono ?_
  rintro e u2 ⟨k, rfl, K5⟩
  clear K4
  go_wp2_with fail
  go_at_call 18
  refine (unhide K5).mono ?_
  rintro e u3 ⟨rfl, K6⟩
  clear K5
  go_wp2_with fail
  go_at_call 24
  refine (unhide K6).mono ?_
  rintro e u4 ⟨rfl, K7⟩
  clear K6
  go_wp2_with fail
  go_at_call 27
  refine (unhide K7).mono ?_
  rintro e u5 ⟨a, c, rfl, K8⟩
  clear K7
  go_wp2_with fail
  go_at_call 19
  refine (unhide K8).mono ?_
  rintro e u6 ⟨k2, rfl, K9⟩
  clear K8
  go_wp2_with fail
  go_at_call 22
  refine (unhide K9).mono ?_
  rintro e u7 ⟨rfl, K10⟩
  clear K9
  go_wp2_with fail
  go_at_call 35
  refine (unhide K10).mono ?_
  rintro e u8 ⟨a8, c8, rfl, K11⟩
  clear K10
  go_wp2_with fail
  go_at_call 42
  refine (unhide K11 _ rfl).mono ?_
  rintro e u9 ⟨rfl, Z⟩
  clear K11
  go_wp2_with fail
  go_ret
  exact ⟨rfl, (unhide BW).trans ((unhide Z).mono (unhide BW).size)⟩

end Go.Proofs.YtdkicniciciobaaGreatDoor

/- A log and a cache on a device that lives. -/
namespace Go.Proofs.YtdkicniciciobaaGreatDoor
open Go.RowKit Go.Shelf
set_option linter.unusedVariables false

/-- The log L stands on D, which lives; writes of others may wait. -/
structure Su (G : Geo) (L : Lg) (D : Dev) : Prop where
  live : D.Live
  ld : L.dead = false
  n : D.n = G.n
  inv : ∃ Ps, Inv G D.rd L Ps
  q : ∀ b z, L.Q b = some z → G.ib ≤ b ∧ b < G.n

theorem St.su {G : Geo} {L : Lg} {D : Dev} (h : St G L D) : Su G L D := ⟨h.live, h.ld, h.n, h.inv, h.q⟩

/-- Blocks that are not the log's turn. -/
theorem Su.turn {G : Geo} (hG : G.Ok) {L : Lg} {D D' : Dev} (h : Su G L D) (hl : D'.Live) (hn : D'.n = D.n) (hr : ∀ j, j < G.ib → D'.rd j = D.rd j) : Su G L D' := by
  obtain ⟨Ps, hI⟩ := h.inv
  have := hG.ibn
  exact ⟨hl, h.ld, hn.trans h.n, ⟨Ps, hI.congr hG (hr 1 (by omega)) (fun i _ => hr _ (hG.ring _).2.1)⟩, h.q⟩

/-- Apply. -/
theorem Su.apl {G : Geo} (hG : G.Ok) {L : Lg} {D : Dev} (h : Su G L D) : apE G L D = 0 ∧ Su G (apL G L D) (apD G L D) ∧ (apL G L D).h.used = 0 ∧ (apL G L D).h.seq = L.h.seq ∧ (apL G L D).Q = (fun _ => none) ∧ (∀ j, G.ib ≤ j → j < G.n → (apD G L D).rd j = (L.Q j).getD (D.rd j)) := by
  obtain ⟨Ps, hI⟩ := h.inv
  have hib := hG.ibn
  unfold apE apL apD
  by_cases h0 : L.h.used = 0
  · rw [if_pos h0, if_pos h0, if_pos h0]
    have hn := hI.none h0
    exact ⟨rfl, h, h0, rfl, hn, fun j _ _ => by rw [hn]; rfl⟩
  · have hr := h.live.run (aplS G L)
    rw [if_neg h0, if_neg h0, if_neg h0, if_pos hr.1]
    have hrd := run_rd (aplS G L) D hr.1
    refine ⟨hr.1, ⟨hr.2, h.ld, (runD_n _ _).1.trans h.n, ⟨[], ?_⟩, fun b z hb => by cases hb⟩, rfl, rfl, rfl, fun j h1 h2 => ?_⟩
    · rw [hrd]
      exact hI.apply hG _
    · rw [hrd]
      unfold aplS
      rw [rdS_append, rdS_stl]
      show (if j = 1 then _ else rdS (homeS (pendW G L.Q)) D.rd j) = _
      rw [if_neg (by omega), home_rd G L.Q D.rd j h2]

theorem Su.aply {G : Geo} (hG : G.Ok) {L : Lg} {D : Dev} (h : Su G L D) : aplyE G L D = 0 ∧ aplyL G L D = apL G L D ∧ aplyD G L D = apD G L D := by
  have := (h.apl hG).1
  unfold aplyE aplyL aplyD
  have hnd : ¬ (L.dead = true) := by rw [h.ld]; decide
  rw [if_neg hnd, if_neg hnd, if_neg hnd, this]
  unfold Lg.met
  rw [if_neg (by decide)]
  exact ⟨rfl, rfl, rfl⟩

/-- A commit for which there is room. -/
theorem Su.com0 {G : Geo} (hG : G.Ok) {L : Lg} {D : Dev} (h : Su G L D) {W : Wl} (hW : Good G L W) (hu : L.h.used + G.uses W.length ≤ G.lg) : cmE0 G L W D = 0 ∧ Su G (cmL0 G L W D) (cmD0 G L W D) ∧ cmL0 G L W D = ⟨G.after L.h W.length, setW L.Q W, false⟩ ∧ (∀ j, G.ib ≤ j → j < G.n → (cmD0 G L W D).rd j = D.rd j) := by
  obtain ⟨Ps, hI⟩ := h.inv
  have hr := h.live.run (comS G L W)
  have hrd := run_rd (comS G L W) D hr.1
  have hib := hG.ibn
  unfold cmE0 cmL0 cmD0
  rw [if_pos hr.1, h.ld]
  refine ⟨hr.1, ⟨hr.2, rfl, (runD_n _ _).1.trans h.n, ⟨_, by rw [hrd]; exact hI.commit hG W hW.b hW.q hu false⟩, setW_keys W L.Q hW.keys h.q⟩, rfl, fun j h1 h2 => ?_⟩
  rw [hrd]
  unfold comS
  rw [rdS_append, rdS_stl]
  show (if j = 1 then _ else rdS (partsS G L.h.seq (L.h.tail + L.h.used) W) D.rd j) = _
  rw [if_neg (by omega)]
  exact (parts_std hG W L.h.seq (L.h.tail + L.h.used) D.rd hW.b hW.q hW.u).2 j (fun i _ => by have := (hG.ring (L.h.tail + L.h.used + i)).2.1; omega)

theorem wl_vOf (G : Geo) (W : Wl) : wl (vOf G W) = W := by
  unfold wl vOf
  rw [List.map_map]
  conv => rhs; rw [← List.map_id W]
  refine List.map_congr_left (fun x _ => ?_)
  show ((x.1 : Int).toNat, x.2) = x
  simp

theorem wv_vOf (G : Geo) (W : Wl) : wv (vOf G W) = W.map (fun x => ((x.1 : Int), G.blk)) := by
  unfold wv vOf
  rw [List.map_map]
  rfl

/-- The group's list is not refused. -/
theorem vOf_ok {G : Geo} {Q : Nat → Option (List Int)} (hQ : ∀ b z, Q b = some z → G.ib ≤ b) (hu : G.uses (pendL G Q).length ≤ G.lg) {s : Nat} (hs : s + G.parts (pendL G Q).length ≤ 4294967295) : lstE G s (wv (vOf G (pendW G Q))) = 0 := by
  have e1 : (wv (vOf G (pendW G Q))).map (·.1) = (pendL G Q).map (fun b : Nat => (b : Int)) := by
    rw [wv_vOf, List.map_map]
    unfold pendW
    rw [List.map_map]
    rfl
  have e2 : (wv (vOf G (pendW G Q))).length = (pendL G Q).length := by rw [wv_vOf, List.length_map, pendW_len]
  have hb : blkE G ((pendL G Q).map (fun b : Nat => (b : Int))) = 0 := by
    unfold blkE
    rw [if_pos, if_pos]
    · refine List.Pairwise.map _ (fun a b hab => ?_) (List.Pairwise.filter _ List.nodup_range)
      exact fun e => hab (by omega)
    · refine List.all_eq_true.2 (fun x hx => ?_)
      obtain ⟨b, hb, rfl⟩ := List.mem_map.1 hx
      obtain ⟨h1, h2⟩ := pendL_mem.1 hb
      obtain ⟨z, hz⟩ := Option.isSome_iff_exists.1 h2
      have := hQ b z hz
      exact decide_eq_true (by omega)
  unfold lstE
  rw [if_pos, e1, if_pos hb, e2, if_neg (by omega), if_neg (by omega)]
  refine List.all_eq_true.2 (fun x hx => ?_)
  rw [wv_vOf] at hx
  obtain ⟨y, _, rfl⟩ := List.mem_map.1 hx
  exact decide_eq_true rfl

/-- Commit of a group's blocks, where there is room. -/
theorem Su.cmt {G : Geo} (hG : G.Ok) {L : Lg} {D : Dev} (h : Su G L D) {Q : Nat → Option (List Int)} (hQ : ∀ b z, Q b = some z → G.ib ≤ b) (h0 : (pendL G Q).length ≠ 0) (hu : L.h.used + G.uses (pendL G Q).length ≤ G.lg) (hs : L.h.seq + G.parts (pendL G Q).length ≤ 4294967295) :
    cmtE G L (vOf G (pendW G Q)) D = 0 ∧ Su G (cmtL G L (vOf G (pendW G Q)) D) (cmtD G L (vOf G (pendW G Q)) D) ∧ cmtL G L (vOf G (pendW G Q)) D = ⟨G.after L.h (pendL G Q).length, setW L.Q (pendW G Q), false⟩ ∧ (∀ j, G.ib ≤ j → j < G.n → (cmtD G L (vOf G (pendW G Q)) D).rd j = D.rd j) := by
  obtain ⟨Ps, hI⟩ := h.inv
  have hl := vOf_ok hQ (by omega) hs
  have hg := good_of hI.ok.seq hl
  rw [wl_vOf] at hg
  have hlen : (vOf G (pendW G Q)).length = (pendL G Q).length := by unfold vOf; rw [List.length_map, pendW_len]
  have hnd : ¬ (L.dead = true) := by rw [h.ld]; decide
  have hr : ¬ (G.lg - L.h.used < G.uses (pendW G Q).length) := by rw [pendW_len]; omega
  obtain ⟨c1, c2, c3, c4⟩ := h.com0 hG hg (by rw [pendW_len]; exact hu)
  rw [pendW_len] at c3
  unfold cmtE cmtL cmtD
  rw [if_pos hl, if_pos hl, if_pos hl, if_neg hnd, if_neg hnd, if_neg hnd, if_neg (by rw [hlen]; exact h0), if_neg (by rw [hlen]; exact h0), if_neg (by rw [hlen]; exact h0), wl_vOf]
  unfold cmE cmL cmD
  rw [if_neg hr, if_neg hr, if_neg hr, c1]
  unfold Lg.met
  rw [if_neg (by decide)]
  exact ⟨rfl, c2, c3, c4⟩

/-- Blocks of no line are not written when room is made, or lines are written out. -/
theorem wb_far (C : Cac) {D : Dev} (h : D.ali) (b : Nat) {j : Nat} (hj : j ≠ b) : (C.wbD D b).rd j = D.rd j := by
  rw [wb_rd C h b j, if_neg hj]

theorem rm_far (C : Cac) {D : Dev} (h : D.ali) {m : Nat} (hp : ∀ b l, C.L b = some l → m ≤ b) {j : Nat} (hj : j < m) : (C.rmD D).rd j = D.rd j := by
  unfold Cac.rmD
  by_cases hl : (C.those D.n fHeld).length < C.cap
  · rw [if_pos hl]
  · rw [if_neg hl]
    by_cases h0 : C.those D.n fLoose = []
    · rw [if_pos h0]
    · rw [if_neg h0]
      obtain ⟨v1, l, v2, v3⟩ := vic_facts h0
      have := hp _ _ v2
      exact wb_far C.next h _ (by omega)

theorem out_far : ∀ (s : List Nat) (C : Cac) (D : Dev), D.ali → ∀ {j : Nat}, (∀ b ∈ s, j ≠ b) → (outD s C D).rd j = D.rd j
  | [], C, D, h, j, hs => rfl
  | b :: s, C, D, h, j, hs => by
    obtain ⟨b1, b2, _, _⟩ := wb_L C h b
    unfold outD
    rw [if_pos b1, out_far s _ _ b2 (fun c hc => hs c (by simp [hc])), wb_far C h b (hs b (by simp))]

/-- Clean of a list. -/
theorem setW_or' : ∀ (W : Wl) (Q : Nat → Option (List Int)) (j : Nat), setW Q W j = (setW (fun _ => none) W j).or (Q j)
  | [], Q, j => by simp [setW]
  | x :: r, Q, j => by
    show setW (fun j => if j = x.1 then some x.2 else Q j) r j = (setW (fun j => if j = x.1 then some x.2 else none) r j).or (Q j)
    rw [setW_or' r (fun j => if j = x.1 then some x.2 else Q j) j, setW_or' r (fun j => if j = x.1 then some x.2 else none) j]
    cases setW (fun _ => none) r j with
    | some z => simp
    | none => by_cases e : j = x.1 <;> simp [e]

def lnC (o : Option (List Int)) (l : Ln) : Ln := match o with | some z => ⟨z, false, l.p⟩ | none => l

theorem clnC_L : ∀ (W : Wl) (C : Cac) (j : Nat), (clnC W C).L j = (C.L j).map (lnC (setW (fun _ => none) W j))
  | [], C, j => by
    show C.L j = _
    cases C.L j <;> rfl
  | x :: r, C, j => by
    show (clnC r (C.cl x.1 x.2)).L j = _
    rw [clnC_L r _ j]
    have e : (setW (fun _ => none) (x :: r) j) = (setW (fun _ => none) r j).or (if j = x.1 then some x.2 else none) := setW_or' r _ j
    rw [e]
    have hL : (C.cl x.1 x.2).L j = if j = x.1 then (C.L j).map (fun l => ⟨x.2, false, l.p⟩) else C.L j := by
      unfold Cac.cl
      cases hl : C.L x.1 with
      | none =>
        by_cases e : j = x.1
        · subst e; simp [hl]
        · simp [e]
      | some l =>
        unfold Cac.set
        by_cases e : j = x.1
        · subst e; simp [hl]
        · simp [e]
    rw [hL]
    by_cases e2 : j = x.1
    · rw [if_pos e2, if_pos e2]
      cases C.L j with
      | none => rfl
      | some l =>
        cases setW (fun _ => none) r j with
        | none => rfl
        | some z => rfl
    · rw [if_neg e2, if_neg e2]
      cases setW (fun _ => none) r j <;> rfl

theorem clnC_cap : ∀ (W : Wl) (C : Cac), (clnC W C).cap = C.cap
  | [], C => rfl
  | x :: r, C => by
    show (clnC r (C.cl x.1 x.2)).cap = _
    rw [clnC_cap r]
    unfold Cac.cl
    cases C.L x.1 <;> rfl

end Go.Proofs.YtdkicniciciobaaGreatDoor

/- What a group holds while its device lives. -/
namespace Go.Proofs.YtdkicniciciobaaGreatDoor
open Go.RowKit Go.Shelf
set_option linter.unusedVariables false

/-- What the group tells of block b. -/
def gval (X : Grp) (C : Cac) (L : Lg) (D : Dev) (b : Nat) : List Int := match X.Q b with | some z => z | none => match L.Q b with | some z => z | none => C.val D b

/-- A group, its cache and its log on a device that lives; E are the blocks that are logged. -/
structure Gs (G : Geo) (E : Nat → Bool) (X : Grp) (C : Cac) (L : Lg) (D : Dev) : Prop where
  su : Su G L D
  cl : C.cln D
  hm : cnt (C.wants fHeld) D.n ≤ C.cap
  c1 : 1 ≤ C.cap
  pn : ∀ b l, C.L b = some l → l.p = 0 ∧ G.ib ≤ b
  xq : ∀ b z, X.Q b = some z → G.ib ≤ b ∧ E b = true
  lq : ∀ b z, L.Q b = some z → E b = true
  ne : G.uses (pendL G X.Q).length ≤ G.lg

theorem Gs.ali {G : Geo} {E : Nat → Bool} {X : Grp} {C : Cac} {L : Lg} {D : Dev} (h : Gs G E X C L D) : D.ali := h.su.live

/-- Room can be made. -/
theorem Gs.room {G : Geo} {E : Nat → Bool} {X : Grp} {C : Cac} {L : Lg} {D : Dev} (h : Gs G E X C L D) (b : Nat) : C.L b ≠ none ∨ cnt (C.wants fHeld) D.n < C.cap ∨ C.those D.n fLoose ≠ [] := by
  by_cases hl : cnt (C.wants fHeld) D.n < C.cap
  · exact .inr (.inl hl)
  · refine .inr (.inr (fun e => ?_))
    have h1 := h.hm
    have h2 := h.c1
    have h3 := (those_nil_iff C D.n fLoose).1 e
    have h4 : cnt (C.wants fHeld) D.n ≤ cnt (C.wants fLoose) D.n := cnt_mono (fun j hj hw => by
      unfold Cac.wants at hw ⊢
      cases hl : C.L j with
      | none => rw [hl] at hw; cases hw
      | some l =>
        have := (h.pn j l hl).1
        simp [fLoose, this])
    omega

/-- Read. -/
theorem Gs.read {G : Geo} (hG : G.Ok) {E : Nat → Bool} {X : Grp} {C : Cac} {L : Lg} {D : Dev} (h : Gs G E X C L D) {b : Nat} (hb : G.ib ≤ b) (hb2 : b < G.n) :
    grE X C L D b = 0 ∧ grZ X C L D b = gval X C L D b ∧ Gs G E X (grC X C L D b) L (grD X C L D b) ∧ ∀ j, j < G.n → gval X (grC X C L D b) L (grD X C L D b) j = gval X C L D j := by
  unfold grE grZ grC grD
  cases hx : X.Q b with
  | some z => exact ⟨rfl, by simp [gval, hx], h, fun _ _ => rfl⟩
  | none =>
    cases hl : L.Q b with
    | some z => exact ⟨rfl, by simp [gval, hx, hl], h, fun _ _ => rfl⟩
    | none =>
      simp only
      have hn := h.su.n
      obtain ⟨g1, g2, g3, g4, g5, g6, g7, g8, g9, g10⟩ := gt_facts C h.ali h.cl (b := b) (by omega) h.hm (h.room b)
      have hfar : ∀ j, j < G.ib → (C.gtD D b).rd j = D.rd j := fun j hj => by
        unfold Cac.gtD
        cases C.L b with
        | some l => rfl
        | none => exact rm_far C h.ali (fun b l e => (h.pn b l e).2) hj
      refine ⟨g1, by simp [gval, hx, hl]; exact g6, ⟨h.su.turn hG g2 g3.1 hfar, g5, by rw [g3.1, g4]; exact g10, by rw [g4]; exact h.c1, fun j l e => ?_, h.xq, h.lq, h.ne⟩, fun j hj => ?_⟩
      · rcases g8 j with x | x | ⟨x, l2, x2, x3, _⟩
        · rw [x] at e; exact h.pn j l e
        · rw [x.1] at e; cases e
        · rw [x, x2] at e
          cases e
          exact ⟨x3, by omega⟩
      · unfold gval
        rw [g7 j (by omega)]

/-- All that is dirty is written. -/
theorem Gs.co {G : Geo} (hG : G.Ok) {E : Nat → Bool} {X : Grp} {C : Cac} {L : Lg} {D : Dev} (h : Gs G E X C L D) :
    coE C D = 0 ∧ Gs G E X (coC C D) L (coD C D) ∧ ∀ j, j < G.n → gval X (coC C D) L (coD C D) j = gval X C L D j := by
  have hn := h.su.n
  obtain ⟨o1, o2, o3, o4, o5, o6, o7⟩ := out_facts (C.those D.n fDirty) C D h.ali h.cl (fun b hb => (Cac.mem_those.1 hb).1)
  have hfar : ∀ j, j < G.ib → (coD C D).rd j = D.rd j := fun j hj => out_far _ C D h.ali (fun b hb => by
    have h2 := (Cac.mem_those.1 hb).2
    unfold Cac.wants at h2
    cases hl : C.L b with
    | none => rw [hl] at h2; cases h2
    | some l => have := (h.pn b l hl).2; omega)
  refine ⟨o1, ⟨h.su.turn hG o2 o3.1 hfar, o5, ?_, ?_, fun j l e => ?_, h.xq, h.lq, h.ne⟩, fun j hj => ?_⟩
  · have e1 : (coD C D).n = D.n := o3.1
    have e2 : (coC C D).cap = C.cap := o4
    rw [e1, e2]
    refine Nat.le_trans (Nat.le_of_eq (cnt_congr (fun j _ => ?_))) h.hm
    unfold Cac.wants
    rw [show (coC C D).L j = _ from o7 j]
    cases C.L j <;> rfl
  · have e2 : (coC C D).cap = C.cap := o4
    rw [e2]
    exact h.c1
  · rw [show (coC C D).L j = _ from o7 j] at e
    cases hl : C.L j with
    | none => rw [hl] at e; cases e
    | some l0 =>
      rw [hl] at e
      simp at e
      subst e
      have := h.pn j l0 hl
      split <;> exact this
  · unfold gval
    have := o6 j (by omega)
    rw [show (coC C D).val (coD C D) j = _ from this]

/-- The device is flushed. -/
theorem Gs.fl {G : Geo} (hG : G.Ok) {E : Nat → Bool} {X : Grp} {C : Cac} {L : Lg} {D : Dev} (h : Gs G E X C L D) : D.wE = 0 ∧ Gs G E X C L D.fD ∧ ∀ j, gval X C L D.fD j = gval X C L D j := by
  have hw := h.su.live.wE
  have hr : D.fD.rd = D.rd := ap_rd hw .f
  have hn : D.fD.n = D.n := (runD_n [.f] D).1 ▸ by show D.fD.n = _; show _ = (if D.wE = 0 then D.fD else D.fD).n; split <;> rfl
  have hl : D.fD.Live := h.su.live.ap .f
  refine ⟨hw, ⟨h.su.turn hG hl hn (fun j _ => by rw [hr]), fun b l hb => by rw [hr]; exact h.cl b l (by omega), by rw [hn]; exact h.hm, h.c1, h.pn, h.xq, h.lq, h.ne⟩, fun j => ?_⟩
  unfold gval Cac.val
  rw [hr]

/-- What is pending is applied, and told to the cache. -/
theorem Gs.aply {G : Geo} (hG : G.Ok) {E : Nat → Bool} {X : Grp} {C : Cac} {L : Lg} {D : Dev} (h : Gs G E X C L D) :
    aplyE G L D = 0 ∧ Gs G E X (gapC G C L D) (aplyL G L D) (aplyD G L D) ∧ (aplyL G L D).h.used = 0 ∧ (aplyL G L D).h.seq = L.h.seq ∧ (aplyL G L D).Q = (fun _ => none) ∧ ∀ j, G.ib ≤ j → j < G.n → gval X (gapC G C L D) (aplyL G L D) (aplyD G L D) j = gval X C L D j := by
  obtain ⟨a1, a2, a3⟩ := h.su.aply hG
  obtain ⟨b1, b2, b3, b4, b5, b6⟩ := h.su.apl hG
  have hn := h.su.n
  have e1 : gapC G C L D = clnC (pendW G L.Q) C := if_pos a1
  have hL : ∀ j, j < G.n → (clnC (pendW G L.Q) C).L j = (C.L j).map (lnC (L.Q j)) := fun j hj => by rw [clnC_L, setW_pend G L.Q hj]
  rw [a2, a3, e1]
  refine ⟨a1, ⟨b2, fun j l hj e hd => ?_, ?_, by rw [clnC_cap]; exact h.c1, fun j l e => ?_, h.xq, fun b z e => (by rw [b5] at e; cases e), h.ne⟩, b3, b4, b5, fun j hj hj2 => ?_⟩
  · rw [b2.n] at hj
    rw [hL j hj] at e
    cases hl : C.L j with
    | none => rw [hl] at e; cases e
    | some l0 =>
      rw [hl] at e
      simp at e
      rw [b6 j (h.pn j l0 hl).2 hj]
      subst e
      cases hq : L.Q j with
      | none =>
        rw [hq] at hd
        exact h.cl j l0 (by omega) hl hd
      | some z => rfl
  · rw [b2.n, ← hn, clnC_cap]
    refine Nat.le_trans (Nat.le_of_eq (cnt_congr (fun j hj => ?_))) h.hm
    unfold Cac.wants
    rw [hL j (by omega)]
    cases C.L j <;> rfl
  · rw [clnC_L] at e
    cases hl : C.L j with
    | none => rw [hl] at e; cases e
    | some l0 =>
      rw [hl] at e
      simp at e
      subst e
      have := h.pn j l0 hl
      unfold lnC
      split <;> exact this
  · unfold gval
    rw [b5]
    cases X.Q j with
    | some z => rfl
    | none =>
      simp only
      unfold Cac.val
      rw [hL j hj2, b6 j hj hj2]
      cases hq : L.Q j with
      | none => cases C.L j <;> rfl
      | some z => cases C.L j <;> rfl

/-- The group's blocks are committed, where there is room. -/
theorem Gs.cmt {G : Geo} (hG : G.Ok) {E : Nat → Bool} {X : Grp} {C : Cac} {L : Lg} {D : Dev} (h : Gs G E X C L D) (h0 : (pendL G X.Q).length ≠ 0) (hu : L.h.used + G.uses (pendL G X.Q).length ≤ G.lg) (hs : L.h.seq + G.parts (pendL G X.Q).length ≤ 4294967295) :
    cmtE G L (vOf G (pendW G X.Q)) D = 0 ∧ Gs G E X.clr C (cmtL G L (vOf G (pendW G X.Q)) D) (cmtD G L (vOf G (pendW G X.Q)) D) ∧ (cmtL G L (vOf G (pendW G X.Q)) D).h.seq = L.h.seq + G.parts (pendL G X.Q).length ∧ ∀ j, G.ib ≤ j → j < G.n → gval X.clr C (cmtL G L (vOf G (pendW G X.Q)) D) (cmtD G L (vOf G (pendW G X.Q)) D) j = gval X C L D j := by
  obtain ⟨c1, c2, c3, c4⟩ := h.su.cmt hG (fun b z e => (h.xq b z e).1) h0 hu hs
  have hn := h.su.n
  have e0 : pendL G (fun _ => none) = [] := by unfold pendL; simp
  have eQ : ∀ j, j < G.n → (cmtL G L (vOf G (pendW G X.Q)) D).Q j = (X.Q j).or (L.Q j) := fun j hj => by
    rw [c3]
    show setW L.Q (pendW G X.Q) j = _
    rw [setW_or', setW_pend G X.Q hj]
  refine ⟨c1, ⟨c2, fun j l hj e hd => ?_, ?_, h.c1, h.pn, fun b z e => (by cases e), fun b z e => ?_, ?_⟩, by rw [c3]; rfl, fun j hj hj2 => ?_⟩
  · rw [c2.n] at hj
    rw [c4 j (h.pn j l e).2 hj]
    exact h.cl j l (by omega) e hd
  · rw [c2.n, ← hn]; exact h.hm
  · have hb := (c2.q b z e).2
    rw [eQ b hb] at e
    cases hx : X.Q b with
    | some y => exact (h.xq b y hx).2
    | none =>
      rw [hx] at e
      exact h.lq b z e
  · show G.uses (pendL G (fun _ => none)).length ≤ G.lg
    rw [e0]
    have := h.ne
    simp [Geo.uses, Geo.parts_zero hG]
  · unfold gval
    show (match (cmtL G L (vOf G (pendW G X.Q)) D).Q j with | some z => z | none => C.val (cmtD G L (vOf G (pendW G X.Q)) D) j) = _
    rw [eQ j hj2]
    cases hx : X.Q j with
    | some z => rfl
    | none =>
      cases hl : L.Q j with
      | some z => rfl
      | none =>
        show C.val _ j = C.val _ j
        unfold Cac.val
        rw [c4 j hj hj2]

theorem Gs.clr {G : Geo} (hG : G.Ok) {E : Nat → Bool} {X : Grp} {C : Cac} {L : Lg} {D : Dev} (h : Gs G E X C L D) (h0 : (pendL G X.Q).length = 0) : Gs G E X.clr C L D ∧ ∀ j, j < G.n → gval X.clr C L D j = gval X C L D j := by
  have e0 : pendL G (fun _ => none) = [] := by unfold pendL; simp
  refine ⟨⟨h.su, h.cl, h.hm, h.c1, h.pn, fun b z e => (by cases e), h.lq, ?_⟩, fun j hj => ?_⟩
  · show G.uses (pendL G (fun _ => none)).length ≤ G.lg
    rw [e0]
    simp [Geo.uses, Geo.parts_zero hG]
  · have : X.Q j = none := by
      cases hx : X.Q j with
      | none => rfl
      | some z =>
        have : j ∈ pendL G X.Q := pendL_mem.2 ⟨hj, by rw [hx]; rfl⟩
        rw [List.length_eq_zero_iff.1 h0] at this
        simp at this
    unfold gval
    rw [this]
    rfl

/-- Commit. -/
theorem Gs.cmm {G : Geo} (hG : G.Ok) {E : Nat → Bool} {X : Grp} {C : Cac} {L : Lg} {D : Dev} (h : Gs G E X C L D) (hs : L.h.seq + G.parts (pendL G X.Q).length ≤ 4294967295) :
    (Go.Proofs.YtdkicniciciobaaGreatDoor.cmm G X C L D).1 = 0 ∧ Gs G E X.clr (Go.Proofs.YtdkicniciciobaaGreatDoor.cmm G X C L D).2.1 (Go.Proofs.YtdkicniciciobaaGreatDoor.cmm G X C L D).2.2.1 (Go.Proofs.YtdkicniciciobaaGreatDoor.cmm G X C L D).2.2.2 ∧ (Go.Proofs.YtdkicniciciobaaGreatDoor.cmm G X C L D).2.2.1.h.seq ≤ L.h.seq + G.lg ∧ ∀ j, G.ib ≤ j → j < G.n → gval X.clr (Go.Proofs.YtdkicniciciobaaGreatDoor.cmm G X C L D).2.1 (Go.Proofs.YtdkicniciciobaaGreatDoor.cmm G X C L D).2.2.1 (Go.Proofs.YtdkicniciciobaaGreatDoor.cmm G X C L D).2.2.2 j = gval X C L D j := by
  obtain ⟨o1, o2, o3⟩ := h.co hG
  have hpl : G.parts (pendL G X.Q).length ≤ G.lg := by have := h.ne; unfold Geo.uses at this; omega
  unfold Go.Proofs.YtdkicniciciobaaGreatDoor.cmm
  rw [if_neg (by simpa using o1)]
  by_cases h0 : (pendL G X.Q).length = 0
  · rw [if_pos h0]
    obtain ⟨f1, f2, f3⟩ := o2.fl hG
    obtain ⟨g1, g2⟩ := f2.clr hG h0
    exact ⟨f1, g1, by show L.h.seq ≤ _; omega, fun j hj hj2 => (g2 j hj2).trans ((f3 j).trans (o3 j hj2))⟩
  · rw [if_neg h0]
    by_cases hr : G.lg - L.h.used < G.uses (pendL G X.Q).length
    · rw [if_pos hr]
      obtain ⟨a1, a2, a3, a4, a5, a6⟩ := o2.aply hG
      rw [if_neg (by simpa using a1)]
      obtain ⟨c1, c2, c3, c4⟩ := a2.cmt hG h0 (by rw [a3]; have := h.ne; omega) (by rw [a4]; exact hs)
      refine ⟨c1, c2, ?_, fun j hj hj2 => (c4 j hj hj2).trans ((a6 j hj hj2).trans (o3 j hj2))⟩
      show (cmtL G (aplyL G L (coD C D)) (vOf G (pendW G X.Q)) (aplyD G L (coD C D))).h.seq ≤ _
      rw [c3, a4]
      omega
    · rw [if_neg hr]
      obtain ⟨Ps, hI⟩ := h.su.inv
      have hus := hI.ok.used
      obtain ⟨c1, c2, c3, c4⟩ := o2.cmt hG h0 (by omega) hs
      refine ⟨c1, c2, ?_, fun j hj hj2 => (c4 j hj hj2).trans (o3 j hj2)⟩
      show (cmtL G L (vOf G (pendW G X.Q)) (coD C D)).h.seq ≤ _
      rw [c3]
      omega

/-- Settle. -/
theorem Gs.stt {G : Geo} (hG : G.Ok) {E : Nat → Bool} {X : Grp} {C : Cac} {L : Lg} {D : Dev} (h : Gs G E X C L D) (hs : L.h.seq + G.parts (pendL G X.Q).length ≤ 4294967295) :
    (Go.Proofs.YtdkicniciciobaaGreatDoor.stt G X C L D).1 = 0 ∧ (Go.Proofs.YtdkicniciciobaaGreatDoor.stt G X C L D).2.1 = X.clr ∧ Gs G E X.clr (Go.Proofs.YtdkicniciciobaaGreatDoor.stt G X C L D).2.2.1 (Go.Proofs.YtdkicniciciobaaGreatDoor.stt G X C L D).2.2.2.1 (Go.Proofs.YtdkicniciciobaaGreatDoor.stt G X C L D).2.2.2.2 ∧ (Go.Proofs.YtdkicniciciobaaGreatDoor.stt G X C L D).2.2.2.1.h.seq ≤ L.h.seq + G.lg ∧ ∀ j, G.ib ≤ j → j < G.n → gval X.clr (Go.Proofs.YtdkicniciciobaaGreatDoor.stt G X C L D).2.2.1 (Go.Proofs.YtdkicniciciobaaGreatDoor.stt G X C L D).2.2.2.1 (Go.Proofs.YtdkicniciciobaaGreatDoor.stt G X C L D).2.2.2.2 j = gval X C L D j := by
  obtain ⟨c1, c2, c3, c4⟩ := h.cmm hG hs
  obtain ⟨a1, a2, a3, a4, a5, a6⟩ := c2.aply hG
  unfold Go.Proofs.YtdkicniciciobaaGreatDoor.stt
  rw [if_pos c1]
  exact ⟨a1, rfl, a2, by show (aplyL G _ _).h.seq ≤ _; rw [a4]; exact c3, fun j hj hj2 => (a6 j hj hj2).trans (c4 j hj hj2)⟩

end Go.Proofs.YtdkicniciciobaaGreatDoor

/- End, on a device that lives. -/
namespace Go.Proofs.YtdkicniciciobaaGreatDoor
open Go.RowKit Go.Shelf
set_option linter.unusedVariables false

/-- The notes of an operation: blocks of E are written, others are data; none is freed. -/
structure Nk (G : Geo) (E : Nat → Bool) (N : Nat → Option Nt) : Prop where
  k : ∀ b t, N b = some t → G.ib ≤ b ∧ b < G.n ∧ (t.k = 1 ∧ E b = true ∨ t.k = 2 ∧ E b = false)
  u : G.uses (lstX (isK N 1) G.n).length ≤ G.lg

/-- Blocks of data are put. -/
theorem Gs.pts {G : Geo} (hG : G.Ok) {E : Nat → Bool} {X : Grp} {L : Lg} (N : Nat → Option Nt) : ∀ (s : List Nat) (C : Cac) (D : Dev), Gs G E X C L D → (∀ b ∈ s, G.ib ≤ b ∧ b < G.n) →
    ptsE N s C D = 0 ∧ Gs G E X (ptsC N s C D) L (ptsD N s C D) ∧ ∀ j, j < G.n → (ptsC N s C D).val (ptsD N s C D) j = if j ∈ s then ntZ N j else C.val D j
  | [], C, D, h, hs => ⟨rfl, h, fun j _ => by simp [ptsC, ptsD]⟩
  | b :: s, C, D, h, hs => by
    have hb := hs b (by simp)
    have hn := h.su.n
    obtain ⟨p1, p2, p3, p4, p5, p6, p7, p8, p9⟩ := pt_facts C h.ali h.cl (b := b) (by omega) (ntZ N b) h.hm (h.room b)
    have hfar : ∀ j, j < G.ib → (C.ptD D b).rd j = D.rd j := fun j hj => by
      unfold Cac.ptD
      cases C.L b with
      | some l => rfl
      | none => exact rm_far C h.ali (fun b l e => (h.pn b l e).2) hj
    have h1 : Gs G E X (C.ptC D b (ntZ N b)) L (C.ptD D b) := by
      refine ⟨h.su.turn hG p2 p3.1 hfar, p5, by rw [p3.1, p4]; exact p9, by rw [p4]; exact h.c1, fun j l e => ?_, h.xq, h.lq, h.ne⟩
      by_cases ej : j = b
      · subst ej
        obtain ⟨l2, e2, e3⟩ := p8
        rw [e2] at e
        cases e
        refine ⟨?_, hb.1⟩
        rw [e3]
        cases hl : C.L j with
        | none => rfl
        | some l0 => exact (h.pn j l0 hl).1
      · rcases p7 j ej with x | x
        · rw [x] at e; exact h.pn j l e
        · rw [x] at e; cases e
    obtain ⟨q1, q2, q3⟩ := Gs.pts hG N s _ _ h1 (fun c hc => hs c (by simp [hc]))
    unfold ptsE ptsC ptsD
    rw [if_pos p1, if_pos p1, if_pos p1]
    refine ⟨q1, q2, fun j hj => ?_⟩
    rw [q3 j hj, p6 j (by omega)]
    by_cases e1 : j ∈ s
    · simp [e1]
    · by_cases e2 : j = b
      · subst e2; simp [e1]
      · simp [e1, e2]

theorem ownQ_at (N : Nat → Option Nt) : ∀ (s : List Nat) (Q : Nat → Option (List Int)) (j : Nat), ownQ N s Q j = if j ∈ s then some (ntZ N j) else Q j
  | [], Q, j => by simp [ownQ]
  | b :: s, Q, j => by
    unfold ownQ
    rw [ownQ_at N s _ j]
    by_cases e1 : j ∈ s
    · simp [e1]
    · by_cases e2 : j = b
      · subst e2; simp [e1]
      · simp [e1, e2]

theorem lstX_mem {p : Nat → Bool} {n j : Nat} : j ∈ lstX p n ↔ j < n ∧ p j = true := by simp [lstX]

/-- How many blocks the group has then. -/
theorem own_len (G : Geo) (N : Nat → Option Nt) (Q : Nat → Option (List Int)) : (pendL G (ownQ N (lstX (isK N 1) G.n) Q)).length = (pendL G Q).length + (lstX (isM N Q) G.n).length := by
  have hp := cnt_part (fun b => (ownQ N (lstX (isK N 1) G.n) Q b).isSome) (fun b => (Q b).isSome) G.n
  have e1 : cnt (fun j => (ownQ N (lstX (isK N 1) G.n) Q j).isSome && (Q j).isSome) G.n = (pendL G Q).length := by
    refine cnt_congr (fun j hj => ?_)
    rw [ownQ_at]
    cases hq : Q j with
    | none => simp
    | some z => by_cases e : j ∈ lstX (isK N 1) G.n <;> simp [e]
  have e2 : cnt (fun j => (ownQ N (lstX (isK N 1) G.n) Q j).isSome && !(Q j).isSome) G.n = (lstX (isM N Q) G.n).length := by
    refine cnt_congr (fun j hj => ?_)
    rw [ownQ_at]
    unfold isM
    cases hq : Q j with
    | some z => simp
    | none =>
      by_cases e : isK N 1 j = true
      · have : j ∈ lstX (isK N 1) G.n := lstX_mem.2 ⟨hj, e⟩
        simp [this, e]
      · have : ¬ j ∈ lstX (isK N 1) G.n := fun h => e (lstX_mem.1 h).2
        simp [this, e]
  have e3 : (pendL G (ownQ N (lstX (isK N 1) G.n) Q)).length = cnt (fun b => (ownQ N (lstX (isK N 1) G.n) Q b).isSome) G.n := rfl
  omega

/-- The room that is made ahead. -/
theorem Gs.enR {G : Geo} (hG : G.Ok) {E : Nat → Bool} {X : Grp} {C : Cac} {L : Lg} {D : Dev} {N : Nat → Option Nt} (h : Gs G E X C L D) (hN : Nk G E N) (hs : L.h.seq + G.parts (pendL G X.Q).length ≤ 4294967295) :
    ∃ X' C' L' D', Go.Proofs.YtdkicniciciobaaGreatDoor.enR G X N C L D = (0, X', C', L', D') ∧ X'.o = X.o ∧ Gs G E X' C' L' D' ∧ L'.h.seq ≤ L.h.seq + G.lg ∧ G.uses ((pendL G X'.Q).length + (lstX (isM N X'.Q) G.n).length) ≤ G.lg ∧ ∀ j, G.ib ≤ j → j < G.n → gval X' C' L' D' j = gval X C L D j := by
  unfold Go.Proofs.YtdkicniciciobaaGreatDoor.enR
  by_cases hr : G.lg < G.uses ((pendL G X.Q).length + (lstX (isM N X.Q) G.n).length)
  · rw [if_pos hr]
    obtain ⟨c1, c2, c3, c4⟩ := h.cmm hG hs
    rw [c1, if_pos rfl]
    refine ⟨_, _, _, _, rfl, rfl, c2, c3, ?_, c4⟩
    have e0 : pendL G X.clr.Q = [] := by show pendL G (fun _ => none) = []; unfold pendL; simp
    have e1 : isM N X.clr.Q = isK N 1 := by funext j; show (isK N 1 j && true) = _; simp
    rw [e0, e1]
    simpa using hN.u
  · rw [if_neg hr]
    exact ⟨_, _, _, _, rfl, rfl, h, by omega, by omega, fun _ _ _ => rfl⟩

/-- End. -/
theorem Gs.fin {G : Geo} (hG : G.Ok) {E : Nat → Bool} {X : Grp} {C : Cac} {L : Lg} {D : Dev} {N : Nat → Option Nt} (h : Gs G E X C L D) (hN : Nk G E N) (hs : L.h.seq + G.parts (pendL G X.Q).length ≤ 4294967295) :
    ∃ X' C' L' D', endR G X N C L D = (0, X', C', L', D') ∧ X'.N = none ∧ X'.o = X.o ∧ Gs G E X' C' L' D' ∧ L'.h.seq ≤ L.h.seq + G.lg ∧ ∀ j, G.ib ≤ j → j < G.n → gval X' C' L' D' j = (match N j with | some t => t.z | none => gval X C L D j) := by
  obtain ⟨X1, C1, L1, D1, e1, eo, h1, s1, u1, v1⟩ := h.enR hG hN hs
  have k3 : lstX (isK N 3) G.n = [] := by
    unfold lstX
    refine List.filter_eq_nil_iff.2 (fun b _ hb => ?_)
    obtain ⟨t, e, k⟩ := isK_some hb
    have := (hN.k b t e).2.2
    omega
  have d2 : ∀ b ∈ lstX (isK N 2) G.n, G.ib ≤ b ∧ b < G.n := fun b hb => by
    obtain ⟨t, e, _⟩ := isK_some (lstX_mem.1 hb).2
    have := hN.k b t e
    omega
  obtain ⟨p1, p2, p3⟩ := Gs.pts hG N _ C1 D1 h1 d2
  have hu := hN.u
  unfold endR
  rw [if_neg (by omega), e1, if_neg (by simp)]
  unfold enT
  simp only
  rw [if_neg (by simpa using p1), k3]
  refine ⟨_, _, _, _, rfl, rfl, eo, ⟨p2.su, p2.cl, p2.hm, p2.c1, p2.pn, fun b z e => ?_, p2.lq, ?_⟩, s1, fun j hj hj2 => ?_⟩
  · have e : ownQ N (lstX (isK N 1) G.n) X1.Q b = some z := e
    rw [ownQ_at] at e
    by_cases hm : b ∈ lstX (isK N 1) G.n
    · obtain ⟨t, et, kt⟩ := isK_some (lstX_mem.1 hm).2
      have := hN.k b t et
      refine ⟨this.1, ?_⟩
      rcases this.2.2 with x | x
      · exact x.2
      · omega
    · rw [if_neg hm] at e
      exact h1.xq b z e
  · show G.uses (pendL G (ownQ N (lstX (isK N 1) G.n) X1.Q)).length ≤ G.lg
    rw [own_len]
    exact u1
  · show gval ⟨ownQ N (lstX (isK N 1) G.n) X1.Q, _, none, _⟩ (ptsC N (lstX (isK N 2) G.n) C1 D1) L1 (ptsD N (lstX (isK N 2) G.n) C1 D1) j = _
    unfold gval
    simp only
    rw [ownQ_at, p3 j hj2]
    have hv := v1 j hj hj2
    cases hN' : N j with
    | none =>
      have m1 : ¬ j ∈ lstX (isK N 1) G.n := fun hm => by
        have := (lstX_mem.1 hm).2
        unfold isK at this
        rw [hN'] at this
        cases this
      have m2 : ¬ j ∈ lstX (isK N 2) G.n := fun hm => by
        have := (lstX_mem.1 hm).2
        unfold isK at this
        rw [hN'] at this
        cases this
      rw [if_neg m1, if_neg m2]
      exact hv
    | some t =>
      have hz : ntZ N j = t.z := by unfold ntZ; rw [hN']
      rcases (hN.k j t hN').2.2 with ⟨k1, k2⟩ | ⟨k1, k2⟩
      · have m1 : j ∈ lstX (isK N 1) G.n := lstX_mem.2 ⟨hj2, by unfold isK; rw [hN']; simp [k1]⟩
        rw [if_pos m1, hz]
      · have m1 : ¬ j ∈ lstX (isK N 1) G.n := fun hm => by
          have := (lstX_mem.1 hm).2
          unfold isK at this
          rw [hN'] at this
          simp [k1] at this
        have m2 : j ∈ lstX (isK N 2) G.n := lstX_mem.2 ⟨hj2, by unfold isK; rw [hN']; simp [k1]⟩
        have xn : X1.Q j = none := by
          cases hx : X1.Q j with
          | none => rfl
          | some z => have := (h1.xq j z hx).2; rw [k2] at this; cases this
        have ln : L1.Q j = none := by
          cases hx : L1.Q j with
          | none => rfl
          | some z => have := h1.lq j z hx; rw [k2] at this; cases this
        rw [if_neg m1, if_pos m2, xn, ln, hz]

end Go.Proofs.YtdkicniciciobaaGreatDoor

/- The walk of GroupNil. -/
namespace Go.Proofs.YtdkicniciciobaaGreatDoor
open Go.RowKit Go.Shelf Go.Maps
set_option linter.unusedVariables false
set_option maxRecDepth 100000

end Go.Proofs.YtdkicniciciobaaGreatDoor

/- GroupKeeps: its memory and its calls. -/
namespace Go.Proofs.YtdkicniciciobaaGreatDoor
open Go.RowKit Go.Shelf Go.Maps
set_option linter.unusedVariables false
set_option maxRecDepth 100000

theorem oblock_own {u : World} {g B : Nat} {zs : List Int} (h : Block u g zs) (hB : B ≤ g) {n c : Nat} (hn : n ≤ c) (hc : zs.length = c) (hm : c ≤ 10000) : Own B u (some ⟨g, 0, none⟩) n c (zs.take n) :=
  ⟨by simp; omega, hn, by unfold maxLen; omega, .inr ⟨g, _, rfl, hB, h, by simp [hc], by simp [List.map_take]⟩⟩

end Go.Proofs.YtdkicniciciobaaGreatDoor

/- GroupKeeps: its calls behind each other. -/
namespace Go.Proofs.YtdkicniciciobaaGreatDoor
open Go.RowKit Go.Shelf Go.Maps
set_option linter.unusedVariables false
set_option maxRecDepth 100000

def nt2 (x : Int) : Nat → Option Nt := noteN (noteN (fun _ => none) 30 ⟨1, fl x⟩) 31 ⟨2, fl x⟩

def X2 (x : Int) (o : Nat) : Grp := ⟨fun _ => none, fun _ => false, some (nt2 x), o⟩

def X3 (x : Int) (o : Nat) : Grp := ⟨fun j => if j = 30 then some (fl x) else none, fun _ => false, none, o⟩

def C3 (x : Int) : Cac := (Cac.new 3 []).set 31 ⟨fl x, true, 0⟩

end Go.Proofs.YtdkicniciciobaaGreatDoor

/- GroupReads: its memory and its calls. -/
namespace Go.Proofs.YtdkicniciciobaaGreatDoor
open Go.RowKit Go.Shelf Go.Maps
set_option linter.unusedVariables false
set_option maxRecDepth 100000

/-- Blocks that the law writes; the others are data. -/
def ev (b : Nat) : Bool := b % 2 == 0

/-- The law's row. -/
def hl (H : Nat → Int) : List Int := (List.range 60).map H

theorem hl_len (H : Nat → Int) : (hl H).length = 60 := by simp [hl]

theorem hl_at (H : Nat → Int) {j : Nat} (hj : j < 60) : (hl H)[j]?.getD 0 = H j := by simp [hl, hj]

theorem hl_set (H : Nat → Int) {j : Nat} (hj : j < 60) (v : Int) : (hl H).set j v = hl (fun i => if i = j then v else H i) := by
  refine List.ext_getElem? (fun i => ?_)
  rw [List.getElem?_set]
  by_cases e : j = i
  · subst e
    simp [hl, hj]
  · rw [if_neg e]
    unfold hl
    by_cases hi : i < 60
    · simp [hi, Ne.symm e]
    · simp [hi]

theorem Gs.opn {G : Geo} {E : Nat → Bool} {X X' : Grp} {C : Cac} {L : Lg} {D : Dev} (h : Gs G E X C L D) (e : X'.Q = X.Q) : Gs G E X' C L D :=
  ⟨h.su, h.cl, h.hm, h.c1, h.pn, by rw [e]; exact h.xq, h.lq, by rw [e]; exact h.ne⟩

theorem gval_opn {X X' : Grp} {C : Cac} {L : Lg} {D : Dev} (e : X'.Q = X.Q) (j : Nat) : gval X' C L D j = gval X C L D j := by
  unfold gval
  rw [e]

/-- The group that the law has, and its row of bytes. -/
structure RG (w : World) (g dg : Nat) (X : Grp) (C : Cac) (L : Lg) (D : Dev) (rows : List (Nat × Obj)) (i gh ch : Nat) (H : Nat → Int) (u : World) (S : Nat → Prop) : Prop where
  gl : ∃ cg lg, GL w.heap.size w g cg lg dg X C L D rows u S
  gs : Gs sG ev X C L D
  sq : L.h.seq ≤ i
  vl : ∀ j, 16 ≤ j → j < 60 → gval X C L D j = fl (H j)
  hv : Own w.heap.size u (some ⟨gh, 0, none⟩) 60 ch (hl H)
  nh : ¬ S gh
  hb : ∀ j, 0 ≤ H j ∧ H j ≤ 255

theorem RG.lt {w : World} {g dg : Nat} {X : Grp} {C : Cac} {L : Lg} {D : Dev} {rows : List (Nat × Obj)} {i gh ch : Nat} {H : Nat → Int} {u : World} {S : Nat → Prop} (h : RG w g dg X C L D rows i gh ch H u S) {k : Nat} (hk : S k) : k < u.heap.size := by
  obtain ⟨cg, lg, z⟩ := h.gl
  exact z.gv.lt hk

theorem RG.bel {w : World} {g dg : Nat} {X : Grp} {C : Cac} {L : Lg} {D : Dev} {rows : List (Nat × Obj)} {i gh ch : Nat} {H : Nat → Int} {u : World} {S : Nat → Prop} (h : RG w g dg X C L D rows i gh ch H u S) : Below w.heap.size w u := by
  obtain ⟨cg, lg, z⟩ := h.gl
  exact z.bel

theorem RG.later {w : World} {g dg : Nat} {X : Grp} {C : Cac} {L : Lg} {D : Dev} {rows : List (Nat × Obj)} {i gh ch : Nat} {H : Nat → Int} {u u' : World} {S : Nat → Prop} (h : RG w g dg X C L D rows i gh ch H u S) (hb : Below u.heap.size u u') : RG w g dg X C L D rows i gh ch H u' S := by
  obtain ⟨cg, lg, z⟩ := h.gl
  exact ⟨⟨cg, lg, z.later hb⟩, h.gs, h.sq, h.vl, h.hv.below hb (Nat.le_refl _), h.nh, h.hb⟩

/-- No operation is open. -/
def RS (w : World) (g dg : Nat) (rows : List (Nat × Obj)) (i gh ch : Nat) (H : Nat → Int) (u : World) : Prop := ∃ X C L D S, RG w g dg X C L D rows i gh ch H u S ∧ X.N = none

theorem RS.bel {w : World} {g dg : Nat} {rows : List (Nat × Obj)} {i gh ch : Nat} {H : Nat → Int} {u : World} (h : RS w g dg rows i gh ch H u) : Below w.heap.size w u := by
  obtain ⟨X, C, L, D, S, h, e⟩ := h
  exact h.bel

theorem RS.row {w : World} {g dg : Nat} {rows : List (Nat × Obj)} {i gh ch : Nat} {H : Nat → Int} {u : World} (h : RS w g dg rows i gh ch H u) {x : Nat × Obj} (hx : x ∈ rows) : u.heap[x.1]? = some x.2 := by
  obtain ⟨X, C, L, D, S, h, e⟩ := h
  obtain ⟨cg, lg, z⟩ := h.gl
  exact (z.ro x hx).1

/-- A new row beside it. -/
theorem RS.add {w : World} {g dg : Nat} {rows : List (Nat × Obj)} {i gh ch : Nat} {H : Nat → Int} {u : World} (h : RS w g dg rows i gh ch H u) (o : Obj) : RS w g dg ((u.heap.size, o) :: rows) i gh ch H (u.alloc o) := by
  obtain ⟨X, C, L, D, S, h, e⟩ := h
  have hb : Below u.heap.size u (u.alloc o) := (Below.refl _ _).alloc (Nat.le_refl _) o
  have h1 := h.later hb
  obtain ⟨cg, lg, z⟩ := h1.gl
  exact ⟨X, C, L, D, S, ⟨⟨cg, lg, z.add (World.alloc_heap_new u o) (fun hs => Nat.lt_irrefl _ (h.lt hs))⟩, h1.gs, h1.sq, h1.vl, h1.hv, h1.nh, h1.hb⟩, e⟩

/-- A row is forgotten; the bound of the number grows. -/
theorem RS.drop {w : World} {g dg : Nat} {x : Nat × Obj} {rows : List (Nat × Obj)} {i i' gh ch : Nat} {H : Nat → Int} {u : World} (h : RS w g dg (x :: rows) i gh ch H u) (hi : i ≤ i') : RS w g dg rows i' gh ch H u := by
  obtain ⟨X, C, L, D, S, h, e⟩ := h
  obtain ⟨cg, lg, z⟩ := h.gl
  exact ⟨X, C, L, D, S, ⟨⟨cg, lg, z.gv, z.ge, z.bel, z.sz, fun y hy => z.ro y (List.mem_cons_of_mem _ hy)⟩, h.gs, Nat.le_trans h.sq hi, h.vl, h.hv, h.nh, h.hb⟩, e⟩

theorem RG.next {w : World} {g dg : Nat} {X X' : Grp} {C C' : Cac} {L L' : Lg} {D D' : Dev} {rows : List (Nat × Obj)} {i i' gh ch : Nat} {H : Nat → Int} {u u' : World} {S S' : Nat → Prop} (h : RG w g dg X C L D rows i gh ch H u S) (hg : ∃ cg lg, GL w.heap.size w g cg lg dg X' C' L' D' rows u' S') (hx : Nx S u S' u') (hs : Gs sG ev X' C' L' D') (hq : L'.h.seq ≤ i') (hv : ∀ j, 16 ≤ j → j < 60 → gval X' C' L' D' j = gval X C L D j) : RG w g dg X' C' L' D' rows i' gh ch H u' S' :=
  have k := hx.keep (h.hv.lt rfl).1 h.nh
  ⟨hg, hs, hq, fun j h1 h2 => (hv j h1 h2).trans (h.vl j h1 h2), h.hv.kept (fun q e => by cases e; exact k.1), k.2.1, h.hb⟩

theorem Gs.seq {X : Grp} {C : Cac} {L : Lg} {D : Dev} (h : Gs sG ev X C L D) {i : Nat} (hq : L.h.seq ≤ i) (hi : i ≤ 4000) : L.h.seq + sG.parts (pendL sG X.Q).length ≤ 4294967295 := by
  have := h.ne
  have e : sG.lg = 9 := rfl
  unfold Geo.uses at this
  omega

/-- Commit. -/
theorem r_commit {w : World} {g dg : Nat} {rows : List (Nat × Obj)} {i gh ch : Nat} {H : Nat → Int} {u : World} (h : RS w g dg rows i gh ch H u) (hi : i ≤ 4000) :
    Calls Tryz.prog 25 #[.pointer (some ⟨g, 0, none⟩)] u fun e u' => e = .returned (.int .i64 0) ∧ Hid (RS w g dg rows (i + 9) gh ch H u') := by
  obtain ⟨X, C, L, D, S, h, eN⟩ := h
  obtain ⟨cg, lg, z⟩ := h.gl
  obtain ⟨c1, c2, c3, c4⟩ := h.gs.cmm sG_ok (h.gs.seq h.sq hi)
  have := pcommit_any z.gv eN
  rw [c1, if_pos rfl] at this
  refine this.mono ?_
  rintro e u' ⟨rfl, Y⟩
  obtain ⟨S', g1, x1⟩ := unhide Y
  have hq : sG.lg = 9 := rfl
  have := h.sq
  exact ⟨rfl, _, _, _, _, S', h.next ⟨cg, lg, z.next g1 x1⟩ x1 c2 (by omega) (fun j h1 h2 => c4 j (by show 11 ≤ j; omega) h2), eN⟩

/-- Settle. -/
theorem r_settle {w : World} {g dg : Nat} {rows : List (Nat × Obj)} {i gh ch : Nat} {H : Nat → Int} {u : World} (h : RS w g dg rows i gh ch H u) (hi : i ≤ 4000) :
    Calls Tryz.prog 26 #[.pointer (some ⟨g, 0, none⟩)] u fun e u' => e = .returned (.int .i64 0) ∧ Hid (RS w g dg rows (i + 9) gh ch H u') := by
  obtain ⟨X, C, L, D, S, h, eN⟩ := h
  obtain ⟨cg, lg, z⟩ := h.gl
  obtain ⟨c1, c0, c2, c3, c4⟩ := h.gs.stt sG_ok (h.gs.seq h.sq hi)
  have := settle_any' z.gv eN
  rw [c1, c0] at this
  refine this.mono ?_
  rintro e u' ⟨rfl, Y⟩
  obtain ⟨S', g1, x1⟩ := unhide Y
  have hq : sG.lg = 9 := rfl
  have := h.sq
  exact ⟨rfl, _, _, _, _, S', h.next ⟨cg, lg, z.next g1 x1⟩ x1 c2 (by omega) (fun j h1 h2 => c4 j (by show 11 ≤ j; omega) h2), eN⟩

/-- Read of the group, full, SameBytes. -/
theorem r_gread {w : World} {g dg : Nat} {rows : List (Nat × Obj)} {i gh ch : Nat} {H : Nat → Int} {u : World} (h : RS w g dg rows i gh ch H u) {b : Nat} (hb : 16 ≤ b) (hb2 : b < 60) :
    Calls Tryz.prog 27 #[.pointer (some ⟨g, 0, none⟩), .int .i64 (b : Int)] u fun e u1 => ∃ a c, e = .returned (.tuple #[.slice a 64 c, .int .i64 0]) ∧ u1.cell? ⟨gh, b, none⟩ = some (.int .u8 (H b)) ∧
      Hid (Calls Tryz.prog 19 #[.int .u8 (H b)] u1 fun e u2 => ∃ k, e = .returned (.slice (some ⟨k, 0, none⟩) 64 64) ∧
        Hid (Calls Tryz.prog 22 #[.slice a 64 c, .slice (some ⟨k, 0, none⟩) 64 64] u2 fun e u3 => e = .returned (.bool true) ∧ Hid (RS w g dg rows i gh ch H u3))) := by
  obtain ⟨X, C, L, D, S, h, eN⟩ := h
  obtain ⟨cg, lg, z⟩ := h.gl
  obtain ⟨r1, r2, r3, r4⟩ := h.gs.read sG_ok (b := b) (by show 11 ≤ b; omega) hb2
  rw [h.vl b hb hb2] at r2
  have := gread_ok z.gv hb2 r1
  rw [r2] at this
  refine this.mono ?_
  rintro e u1 ⟨a, c, rfl, Y⟩
  obtain ⟨S', o1, g1, x1, n1⟩ := unhide Y
  have h1 := h.next (i' := i) ⟨cg, lg, z.next g1 x1⟩ x1 r3 h.sq (fun j _ hj => r4 j hj)
  obtain ⟨q, e, _, hc, _⟩ := h1.hv.cell (j := b) hb2
  cases e
  rw [hl_at H hb2] at hc
  refine ⟨a, c, rfl, hc, (gfull_any (H b) u1).mono ?_⟩
  rintro e u2 ⟨rfl, B2, b2⟩
  refine ⟨_, rfl, (same_true a _ 64 c 64 (fl (H b)) u2 (o1.below b2 (Nat.le_refl _)).has (B2.has (fl_len _))).mono ?_⟩
  rintro e u3 ⟨rfl, rfl⟩
  exact ⟨rfl, _, _, _, _, S', h1.later b2, eN⟩

/-- What the notes of the open operation are. -/
structure NN (N : Nat → Option Nt) (H H2 : Nat → Int) (n : Nat) : Prop where
  kk : ∀ b t, N b = some t → 16 ≤ b ∧ b < 60 ∧ t.z = fl (H2 b) ∧ (t.k = 1 ∧ ev b = true ∨ t.k = 2 ∧ ev b = false)
  nn : ∀ b, N b = none → H2 b = H b
  cc : (lstX (isK N 1) 60).length ≤ n
  bb : ∀ j, 0 ≤ H2 j ∧ H2 j ≤ 255

theorem NN.nk {N : Nat → Option Nt} {H H2 : Nat → Int} {k : Nat} (h : NN N H H2 k) (hk : k ≤ 4) : Nk sG ev N := by
  refine ⟨fun b t e => ?_, ?_⟩
  · obtain ⟨h1, h2, _, h4⟩ := h.kk b t e
    exact ⟨by show 11 ≤ b; omega, h2, h4⟩
  · have := h.cc
    have hc : (lstX (isK N 1) sG.n).length ≤ 4 := by show (lstX (isK N 1) 60).length ≤ 4; omega
    generalize (lstX (isK N 1) sG.n).length = m at *
    have : ∀ m : Fin 5, sG.uses m.val ≤ sG.lg := by decide
    exact this ⟨m, by omega⟩

theorem NN.note {N : Nat → Option Nt} {H H2 : Nat → Int} {k : Nat} (h : NN N H H2 k) {b : Nat} (hb : 16 ≤ b ∧ b < 60) {v : Int} (hv : 0 ≤ v ∧ v ≤ 255) {t : Nat} (ht : t = 1 ∧ ev b = true ∨ t = 2 ∧ ev b = false) : NN (noteN N b ⟨t, fl v⟩) H (fun i => if i = b then v else H2 i) (k + 1) := by
  refine ⟨fun c x e => ?_, fun c e => ?_, ?_, fun j => ?_⟩
  · unfold noteN at e
    by_cases ec : c = b
    · rw [if_pos ec] at e
      cases e
      subst ec
      exact ⟨hb.1, hb.2, by simp, ht⟩
    · rw [if_neg ec] at e
      obtain ⟨h1, h2, h3, h4⟩ := h.kk c x e
      exact ⟨h1, h2, by simp only [if_neg ec]; exact h3, h4⟩
  · unfold noteN at e
    by_cases ec : c = b
    · rw [if_pos ec] at e; cases e
    · rw [if_neg ec] at e
      simp only [if_neg ec]
      exact h.nn c e
  · have e1 : isK (noteN N b ⟨t, fl v⟩) 1 = fun j => if j = b then (t == 1) else isK N 1 j := by
      funext j
      unfold isK noteN
      by_cases ej : j = b
      · simp [ej]
      · simp [ej]
    rw [e1]
    have hu := cnt_upd (isK N 1) b (t == 1) 60 hb.2
    have hc := h.cc
    have e2 : (lstX (isK N 1) 60).length = cnt (isK N 1) 60 := rfl
    have e3 : (lstX (fun j => if j = b then (t == 1) else isK N 1 j) 60).length = cnt (fun j => if j = b then (t == 1) else isK N 1 j) 60 := rfl
    have : (if (t == 1) = true then 1 else 0) ≤ 1 := by split <;> omega
    omega
  · show 0 ≤ (if j = b then v else H2 j) ∧ (if j = b then v else H2 j) ≤ 255
    by_cases ej : j = b
    · rw [if_pos ej]; exact hv
    · rw [if_neg ej]; exact h.bb j

/-- An operation is open; the row now is the law's. -/
def RPo (w : World) (g dg o : Nat) (rows : List (Nat × Obj)) (i gh ch : Nat) (H : Nat → Int) (gn cn : Nat) (H2 : Nat → Int) (k : Nat) (u : World) : Prop :=
  ∃ X C L D S N, RG w g dg X C L D rows i gh ch H u S ∧ X.N = some N ∧ X.o = o ∧ Own w.heap.size u (some ⟨gn, 0, none⟩) 60 cn (hl H2) ∧ ¬ S gn ∧ gn ≠ gh ∧ NN N H H2 k ∧ (∀ x ∈ rows, x.1 ≠ gn)

theorem RPo.bel {w : World} {g dg o : Nat} {rows : List (Nat × Obj)} {i gh ch : Nat} {H : Nat → Int} {gn cn : Nat} {H2 : Nat → Int} {k : Nat} {u : World} (h : RPo w g dg o rows i gh ch H gn cn H2 k u) : Below w.heap.size w u := by
  obtain ⟨X, C, L, D, S, N, h, _⟩ := h
  exact h.bel

theorem RPo.row {w : World} {g dg o : Nat} {rows : List (Nat × Obj)} {i gh ch : Nat} {H : Nat → Int} {gn cn : Nat} {H2 : Nat → Int} {k : Nat} {u : World} (h : RPo w g dg o rows i gh ch H gn cn H2 k u) {x : Nat × Obj} (hx : x ∈ rows) : u.heap[x.1]? = some x.2 := by
  obtain ⟨X, C, L, D, S, N, h, _⟩ := h
  obtain ⟨cg, lg, z⟩ := h.gl
  exact (z.ro x hx).1

/-- append([]byte{}, y...). -/
theorem o_app {w : World} {a : Option Addr} {n c : Nat} {zs : List Int} (h : Has w a n zs) (hn : n ≤ 10000) :
    ∃ a' c' w', (∀ ty, (Builtin.append_ #[49, 49] ty #[.slice (some ⟨w.heap.size, 0, none⟩) 0 0, .slice a n c]).run Tryz.prog (w.alloc (.cells #[] 5)) = .ok (.slice a' n c') w') ∧ Own w.heap.size w' a' n c' zs ∧ Below w.heap.size w w' := by
  have hb : Below w.heap.size w (w.alloc (.cells #[] 5)) := (Below.refl _ _).alloc (Nat.le_refl _) _
  have ho : Own w.heap.size (w.alloc (.cells #[] 5)) (some ⟨w.heap.size, 0, none⟩) 0 0 [] := ⟨rfl, Nat.le_refl _, by unfold maxLen; omega, .inr ⟨w.heap.size, #[], rfl, Nat.le_refl _, World.alloc_heap_new _ _, rfl, rfl⟩⟩
  obtain ⟨a', c', w', hr, hO, _, hB⟩ := run_append_bytes ho hb.size c (h.later hb) (by omega)
  rw [Nat.zero_add] at hr hO
  rw [List.nil_append] at hO
  exact ⟨a', c', w', hr, hO, hb.trans hB⟩

/-- Begin, and append([]byte{}, have...). -/
theorem r_begin {w : World} {g dg : Nat} {rows : List (Nat × Obj)} {i gh ch : Nat} {H : Nat → Int} {u : World} (h : RS w g dg rows i gh ch H u) :
    Calls Tryz.prog 13 #[.pointer (some ⟨g, 0, none⟩)] u fun e u1 => ∃ o, e = .returned (.tuple #[.pointer (some ⟨o, 0, none⟩), .int .i64 0]) ∧
      Hid (∃ gn cn u2, Hid (∀ ty, (Builtin.append_ #[49, 49] ty #[.slice (some ⟨u1.heap.size, 0, none⟩) 0 0, .slice (some ⟨gh, 0, none⟩) 60 ch]).run Tryz.prog (u1.alloc (.cells #[] 5)) = .ok (.slice (some ⟨gn, 0, none⟩) 60 cn) u2) ∧ Hid (RPo w g dg o rows i gh ch H gn cn H 0 u2)) := by
  obtain ⟨X, C, L, D, S, h, eN⟩ := h
  obtain ⟨cg, lg, z⟩ := h.gl
  refine (begin_ok z.gv eN).mono ?_
  rintro e u1 ⟨o, rfl, Y⟩
  obtain ⟨S', g1, x1, _⟩ := unhide Y
  have h1 := h.next (i' := i) ⟨cg, lg, z.next g1 x1⟩ x1 (h.gs.opn rfl) h.sq (fun j _ _ => gval_opn rfl j)
  obtain ⟨a', c', u2, r2, o2, b2⟩ := o_app (c := ch) h1.hv.has (by omega)
  obtain ⟨gn, e, hg, _, _⟩ := o2.cell (j := 0) (by omega)
  cases e
  have h2 := h1.later b2
  refine ⟨o, rfl, gn, c', u2, r2, _, _, _, _, S', _, h2, rfl, rfl, o2.base h1.bel.size, fun hs => ?_, fun e => ?_, ⟨fun b t e => (by cases e), fun b _ => rfl, ?_, h.hb⟩, fun x hx e => ?_⟩
  · have := h1.lt hs; omega
  · have := (h1.hv.lt rfl).1; omega
  · have : isK (fun _ => none) 1 = fun _ => false := by funext j; rfl
    rw [this]
    decide
  · obtain ⟨cg1, lg1, z1⟩ := h1.gl
    have := (Array.getElem?_eq_some_iff.1 (z1.ro x hx).1).1
    omega

/-- Abort. -/
theorem r_abort {w : World} {g dg o : Nat} {rows : List (Nat × Obj)} {i gh ch : Nat} {H : Nat → Int} {gn cn : Nat} {H2 : Nat → Int} {k : Nat} {u : World} (h : RPo w g dg o rows i gh ch H gn cn H2 k u) :
    Calls Tryz.prog 23 #[.pointer (some ⟨o, 0, none⟩)] u fun e u' => e = .returned (.int .i64 0) ∧ Hid (RS w g dg rows i gh ch H u') := by
  obtain ⟨X, C, L, D, S, N, h, eN, eo, o1, n1, ne, nn, _⟩ := h
  obtain ⟨cg, lg, z⟩ := h.gl
  subst eo
  refine (oabort_any z.gv eN).mono ?_
  rintro e u' ⟨rfl, Y⟩
  obtain ⟨S', g1, x1, _⟩ := unhide Y
  exact ⟨rfl, _, _, _, _, S', h.next ⟨cg, lg, z.next g1 x1⟩ x1 (h.gs.opn rfl) h.sq (fun j _ _ => gval_opn rfl j), rfl⟩

/-- End. -/
theorem r_end {w : World} {g dg o : Nat} {rows : List (Nat × Obj)} {i gh ch : Nat} {H : Nat → Int} {gn cn : Nat} {H2 : Nat → Int} {k : Nat} {u : World} (h : RPo w g dg o rows i gh ch H gn cn H2 k u) (hk : k ≤ 4) (hi : i ≤ 4000) :
    Calls Tryz.prog 24 #[.pointer (some ⟨o, 0, none⟩)] u fun e u' => e = .returned (.int .i64 0) ∧ Hid (RS w g dg rows (i + 9) gn cn H2 u') := by
  obtain ⟨X, C, L, D, S, N, h, eN, eo, o1, n1, ne, nn, _⟩ := h
  obtain ⟨cg, lg, z⟩ := h.gl
  subst eo
  obtain ⟨X', C', L', D', e1, e2, e3, f1, f2, f3⟩ := h.gs.fin sG_ok (nn.nk hk) (h.gs.seq h.sq hi)
  have := oend_any z.gv eN
  rw [e1] at this
  refine this.mono ?_
  rintro e u' ⟨rfl, Y⟩
  obtain ⟨S', g1, x1, _⟩ := unhide Y
  have kp := x1.keep (o1.lt rfl).1 n1
  have hq : sG.lg = 9 := rfl
  have := h.sq
  refine ⟨rfl, X', C', L', D', S', ⟨⟨cg, lg, z.next g1 x1⟩, f1, by omega, fun j h1 h2 => ?_, o1.kept (fun q e => by cases e; exact kp.1), kp.2.1, nn.bb⟩, e2⟩
  rw [f3 j (by show 11 ≤ j; omega) h2]
  cases hN : N j with
  | none =>
    show gval X C L D j = _
    rw [h.vl j h1 h2, nn.nn j hN]
  | some t => exact (nn.kk j t hN).2.2.1

/-- full, Write or Data, the store, Read, full, SameBytes. -/
def StepE (w : World) (g dg o : Nat) (rows : List (Nat × Obj)) (i gh ch : Nat) (H : Nat → Int) (gn cn : Nat) (H2 : Nat → Int) (k : Nat) (b : Nat) (v : Int) (u2 : World) : Prop :=
  (∃ v0, u2.cell? ⟨gn, b, none⟩ = some (.int .u8 v0)) ∧ u2.frozen? ⟨gn, b, none⟩ = false ∧ (∀ x ∈ rows, u2.heap[x.1]? = some x.2) ∧ Below w.heap.size w u2 ∧
    Calls Tryz.prog 21 #[.pointer (some ⟨o, 0, none⟩), .int .i64 (b : Int)] (u2.setCell ⟨gn, b, none⟩ (.int .u8 v)) fun e u3 => ∃ a c, e = .returned (.tuple #[.slice a 64 c, .int .i64 0]) ∧ u3.cell? ⟨gn, b, none⟩ = some (.int .u8 v) ∧
      Hid (Calls Tryz.prog 19 #[.int .u8 v] u3 fun e u4 => ∃ q, e = .returned (.slice (some ⟨q, 0, none⟩) 64 64) ∧
        Hid (Calls Tryz.prog 22 #[.slice a 64 c, .slice (some ⟨q, 0, none⟩) 64 64] u4 fun e u5 => e = .returned (.bool true) ∧ Hid (RPo w g dg o rows i gh ch H gn cn (fun i => if i = b then v else H2 i) (k + 1) u5)))

/-- What follows a note. -/
theorem r_noted {w : World} {g dg o : Nat} {rows : List (Nat × Obj)} {i gh ch : Nat} {H : Nat → Int} {gn cn : Nat} {H2 : Nat → Int} {k b : Nat} {v : Int} {X : Grp} {C : Cac} {L : Lg} {D : Dev} {S : Nat → Prop} {N : Nat → Option Nt} {u2 : World} (h : RG w g dg X C L D rows i gh ch H u2 S) {t : Nat} (eN : X.N = some (noteN N b ⟨t, fl v⟩)) (ht : t = 1 ∨ t = 2) (eo : X.o = o) (o1 : Own w.heap.size u2 (some ⟨gn, 0, none⟩) 60 cn (hl H2)) (n1 : ¬ S gn) (ne : gn ≠ gh) (nn : NN (noteN N b ⟨t, fl v⟩) H (fun i => if i = b then v else H2 i) (k + 1)) (hr : ∀ x ∈ rows, x.1 ≠ gn) (h0 : 0 < w.heap.size) (hb : b < 60) :
    StepE w g dg o rows i gh ch H gn cn H2 k b v u2 := by
  obtain ⟨cg, lg, z⟩ := h.gl
  obtain ⟨q, e, hq, c1, f1⟩ := o1.cell (j := b) hb
  cases e
  have bb : Below w.heap.size u2 (u2.setCell ⟨gn, b, none⟩ (.int .u8 v)) := (Below.refl _ _).setCell (p := ⟨gn, b, none⟩) hq _
  have kept : ∀ j, j ≠ gn → (u2.setCell ⟨gn, b, none⟩ (.int .u8 v)).heap[j]? = u2.heap[j]? := fun j hj => Below.heap_setCell _ _ _ _ hj
  obtain ⟨Sg, Sc, Sl, Sd, m, mk, ml, az⟩ := z.gv
  have zs : GL w.heap.size w g cg lg dg X C L D rows (u2.setCell ⟨gn, b, none⟩ (.int .u8 v)) S :=
    ⟨(az.keptAll (fun j hj => kept j (fun e => n1 (by rw [← e]; exact hj))) (kept 0 (by omega)) bb.size).gv, z.ge, z.bel.trans bb, z.sz, fun x hx => ⟨(kept x.1 (hr x hx)).trans (z.ro x hx).1, (z.ro x hx).2⟩⟩
  have os := o1.set b v
  rw [hl_set H2 hb] at os
  have hs : RG w g dg X C L D rows i gh ch H (u2.setCell ⟨gn, b, none⟩ (.int .u8 v)) S := ⟨⟨cg, lg, zs⟩, h.gs, h.sq, h.vl, h.hv.kept (fun q e => by cases e; exact kept _ ne.symm), h.nh, h.hb⟩
  refine ⟨⟨_, c1⟩, f1, fun x hx => (z.ro x hx).1, z.bel, ?_⟩
  subst eo
  refine (oread_note zs.gv eN (b := b) hb (t := ⟨t, fl v⟩) (by simp [noteN]) ht).mono ?_
  rintro e u3 ⟨a, c, rfl, Y⟩
  obtain ⟨S', oa, g1, x1, _⟩ := unhide Y
  have h3 := hs.next (i' := i) ⟨cg, lg, zs.next g1 x1⟩ x1 h.gs h.sq (fun j _ _ => rfl)
  have kp := x1.keep (os.lt rfl).1 n1
  have o3 := os.kept (w' := u3) (fun q e => by cases e; exact kp.1)
  obtain ⟨q, e, _, c3, _⟩ := o3.cell (j := b) hb
  cases e
  rw [hl_at _ hb] at c3
  simp only [if_pos] at c3
  refine ⟨a, c, rfl, c3, (gfull_any v u3).mono ?_⟩
  rintro e u4 ⟨rfl, B4, b4⟩
  refine ⟨_, rfl, (same_true a _ 64 c 64 (fl v) u4 (oa.below b4 (Nat.le_refl _)).has (B4.has (fl_len _))).mono ?_⟩
  rintro e u5 ⟨rfl, rfl⟩
  exact ⟨rfl, X, C, L, D, S', _, h3.later b4, eN, rfl, o3.below b4 (Nat.le_refl _), kp.2.1, ne, nn, hr⟩

theorem r_write {w : World} {g dg o : Nat} {rows : List (Nat × Obj)} {i gh ch : Nat} {H : Nat → Int} {gn cn : Nat} {H2 : Nat → Int} {k : Nat} {u : World} (h : RPo w g dg o rows i gh ch H gn cn H2 k u) {b : Nat} (hb : 16 ≤ b ∧ b < 60) (he : ev b = true) {v : Int} (hv : 0 ≤ v ∧ v ≤ 255) (h0 : 0 < w.heap.size) :
    Calls Tryz.prog 19 #[.int .u8 v] u fun e u1 => ∃ q, e = .returned (.slice (some ⟨q, 0, none⟩) 64 64) ∧
      Hid (Calls Tryz.prog 18 #[.pointer (some ⟨o, 0, none⟩), .int .i64 (b : Int), .slice (some ⟨q, 0, none⟩) 64 64] u1 fun e u2 => e = .returned (.int .i64 0) ∧ Hid (StepE w g dg o rows i gh ch H gn cn H2 k b v u2)) := by
  obtain ⟨X, C, L, D, S, N, h, eN, eo, o1, n1, ne, nn, hr⟩ := h
  refine (gfull_any v u).mono ?_
  rintro e u1 ⟨rfl, B1, b1⟩
  have h1 := h.later b1
  have o1' := o1.below b1 (Nat.le_refl _)
  obtain ⟨cg, lg, z⟩ := h1.gl
  have e1 : notE sG (b : Int) ((sG.ib : Nat) : Int) 64 = 0 := by
    have h0 : rngE sG.n (b : Int) ((sG.ib : Nat) : Int) = 0 := by
      unfold rngE
      rw [if_neg]
      show ¬ ((b : Int) < 11 ∨ (60 : Int) ≤ (b : Int))
      omega
    unfold notE
    rw [if_pos h0, if_pos (show 64 = sG.blk from rfl)]
  have := owrite_any z.gv eN (b : Int) _ 64 64 (fl v) (full_row hv.1 hv.2 B1)
  rw [e1, if_pos rfl, eo] at this
  refine ⟨_, rfl, this.mono ?_⟩
  rintro e u2 ⟨rfl, Y⟩
  obtain ⟨S', g1, x1⟩ := unhide Y
  rw [show (b : Int).toNat = b by simp] at g1
  have kp := x1.keep (o1'.lt rfl).1 n1
  exact ⟨rfl, r_noted (h1.next (i' := i) ⟨cg, lg, z.next g1 x1⟩ x1 (h1.gs.opn rfl) h1.sq (fun j _ _ => gval_opn rfl j)) rfl (.inl rfl) rfl (o1'.kept (fun q e => by cases e; exact kp.1)) kp.2.1 ne (nn.note hb hv (.inl ⟨rfl, he⟩)) hr h0 hb.2⟩

theorem r_data {w : World} {g dg o : Nat} {rows : List (Nat × Obj)} {i gh ch : Nat} {H : Nat → Int} {gn cn : Nat} {H2 : Nat → Int} {k : Nat} {u : World} (h : RPo w g dg o rows i gh ch H gn cn H2 k u) {b : Nat} (hb : 16 ≤ b ∧ b < 60) (he : ev b = false) {v : Int} (hv : 0 ≤ v ∧ v ≤ 255) (h0 : 0 < w.heap.size) :
    Calls Tryz.prog 19 #[.int .u8 v] u fun e u1 => ∃ q, e = .returned (.slice (some ⟨q, 0, none⟩) 64 64) ∧
      Hid (Calls Tryz.prog 20 #[.pointer (some ⟨o, 0, none⟩), .int .i64 (b : Int), .slice (some ⟨q, 0, none⟩) 64 64] u1 fun e u2 => e = .returned (.int .i64 0) ∧ Hid (StepE w g dg o rows i gh ch H gn cn H2 k b v u2)) := by
  obtain ⟨X, C, L, D, S, N, h, eN, eo, o1, n1, ne, nn, hr⟩ := h
  refine (gfull_any v u).mono ?_
  rintro e u1 ⟨rfl, B1, b1⟩
  have h1 := h.later b1
  have o1' := o1.below b1 (Nat.le_refl _)
  obtain ⟨cg, lg, z⟩ := h1.gl
  have s16 : sP 11 = 16 := by
    have e : sP 11 = planOf 64 60 6 9 11 := by unfold sP; rw [makeP_ok sP_make]
    rw [e]
    decide
  have e1 : notE sG (b : Int) (sP 11) 64 = 0 := by
    have h0 : rngE sG.n (b : Int) (sP 11) = 0 := by
      unfold rngE
      rw [if_neg]
      rw [s16]
      show ¬ ((b : Int) < 16 ∨ (60 : Int) ≤ (b : Int))
      omega
    unfold notE
    rw [if_pos h0, if_pos (show 64 = sG.blk from rfl)]
  have := odata_any z.gv eN (b : Int) _ 64 64 (fl v) (full_row hv.1 hv.2 B1)
  rw [e1, if_pos rfl, eo] at this
  refine ⟨_, rfl, this.mono ?_⟩
  rintro e u2 ⟨rfl, Y⟩
  obtain ⟨S', g1, x1⟩ := unhide Y
  rw [show (b : Int).toNat = b by simp] at g1
  have kp := x1.keep (o1'.lt rfl).1 n1
  exact ⟨rfl, r_noted (h1.next (i' := i) ⟨cg, lg, z.next g1 x1⟩ x1 (h1.gs.opn rfl) h1.sq (fun j _ _ => gval_opn rfl j)) rfl (.inr rfl) rfl (o1'.kept (fun q e => by cases e; exact kp.1)) kp.2.1 ne (nn.note hb hv (.inr ⟨rfl, he⟩)) hr h0 hb.2⟩

/-- The group that fresh makes, and a row of noughts. -/
theorem r_start {w u u' : World} {g dg cap gp : Nat} {ns : List Int} {po : Obj} (hu : Below w.heap.size w u) (hp : u.heap[gp]? = some po) (h : GD u.heap.size u g dg Grp.new (Cac.new cap ns) sL sD [] u') (hc : 1 ≤ cap) :
    RS w g dg [(gp, po)] 1 u'.heap.size 60 (fun _ => 0) (u'.alloc (.cells (madeCells #[.int .u8 0] 60) 5)) := by
  obtain ⟨cg, lg, S, h⟩ := h
  have hb : Below u'.heap.size u' (u'.alloc (.cells (madeCells #[.int .u8 0] 60) 5)) := (Below.refl _ _).alloc (Nat.le_refl _) _
  have B0 : Block (u'.alloc (.cells (madeCells #[.int .u8 0] 60) 5)) u'.heap.size (hl (fun _ => 0)) := by
    unfold Block
    rw [World.alloc_heap_new, ← Array.toArray_toList (xs := madeCells #[.int .u8 0] 60), toList_madeCells_one]
    rfl
  have hlt : gp < u.heap.size := (Array.getElem?_eq_some_iff.1 hp).1
  have hus := hu.size
  have h1 : GL w.heap.size w g cg lg dg Grp.new (Cac.new cap ns) sL sD [(gp, po)] u' S :=
    ⟨h.gv, fun k hk => Nat.le_trans hus (h.ge k hk), hu.trans (h.bel.mono hus), Nat.le_refl _, fun x hx => by
      obtain rfl := List.mem_singleton.1 hx
      exact ⟨(h.bel.block gp hlt).trans hp, fun hs => by have := h.ge gp hs; omega⟩⟩
  have hz := h1.bel.size
  refine ⟨Grp.new, Cac.new cap ns, sL, sD, S, ⟨⟨cg, lg, h1.later hb⟩, ⟨sL_st.su, fun b l _ e => (by cases e), ?_, hc, fun b l e => (by cases e), fun b z e => (by cases e), fun b z e => (by cases e), ?_⟩, Nat.le_refl _, fun j hj hj2 => ?_, ?_, fun hs => ?_, fun j => by omega⟩, rfl⟩
  · have : cnt ((Cac.new cap ns).wants fHeld) sD.n ≤ cnt (fun _ => false) sD.n := cnt_mono (fun b _ hw => by cases hw)
    have h0 : cnt (fun _ => false) sD.n = 0 := by rw [sD_live.2.2.1]; decide
    omega
  · show sG.uses (pendL sG (fun _ => none)).length ≤ sG.lg
    decide
  · show sD.rd j = fl 0
    rw [show sD.rd = rdS (whS sG hd1) (Dev.new 64 60).rd from run_rd _ _ sD_run]
    show (if j = 1 then _ else (Dev.new 64 60).rd j) = _
    rw [if_neg (by omega)]
    rfl
  · have := oblock_own (n := 60) (c := 60) B0 (B := w.heap.size) hz (by omega) (hl_len _) (by omega)
    rwa [List.take_of_length_le (by rw [hl_len]; omega)] at this
  · have := h.gv.lt hs
    omega

theorem rand31 (x : Int) : bits .and .i64 x 31 = x % 32 := kand_mask x 5 (by omega)

theorem rand1 (x : Int) : bits .and .i64 x 1 = x % 2 := kand_mask x 1 (by omega)

end Go.Proofs.YtdkicniciciobaaGreatDoor

