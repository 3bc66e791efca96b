/- Joined: RWop, RWop2, RWop3, RWop4. -/
import Derived.Test.YtadnlljknocbbaaGreatDoorWoJ49
import Derived.Test.YtadnlljknocbbaaGreatDoorWoCOpenH
/- The walk of WalOpens. -/
namespace Go.Proofs.YtadnlljknocbbaaGreatDoor
open Go.RowKit Go.Shelf Go.Maps
set_option linter.unusedVariables false
set_option maxRecDepth 100000

/-- No device can be made. -/
theorem opens_none (P : Nat → Int) (a : Option Addr) (len cap : Nat) (n x y : Int) (w : World) (hT : Tab w)
    (KN : ∀ u, Calls Tryz.prog 34 #[Pv P, .int .i64 n] u fun e w' => e = .returned (.tuple #[.int .i64 x, .int .i64 y]) ∧ Below u.heap.size u w')
    (KR : ∀ u, Calls Tryz.prog 35 #[Pv P, .int .i64 n] u fun e w' => e = .returned (.tuple #[.int .i64 x, .int .i64 y]) ∧ Below u.heap.size u w')
    (hE : newE (P 0) (P 1) ≠ 0) (hq : ¬ 20000 < wrap64 (P 0 * P 1)) :
    Calls Tryz.prog 4 #[Pv P, .slice a len cap, .int .i64 n] w fun e w' => e = .returned (.bool true) ∧ Below w.heap.size w w' := by
  have HK := hide (Kp.start w P)
  have K0 : Hid (∀ u, Below w.heap.size w u → _) := fun u hu => wakes_any u (hT.kept (hu.block 0 hT.lt))
  have K1 := hide KN
  have K2 := hide KR
  have K3 : Hid (∀ u, _) := fun u => new_bad (P 0) (P 1) u hE
  have K4 : Hid (∀ u, _) := fun u => rnew_bad (P 0) (P 1) u hE
  have K5 : Hid (∀ u, _) := fun u => open_err none P 1 (by decide) u (fun u' _ => refuses_none P u')
  have K6 : Hid (∀ u, _) := fun u => format_nil P u
  have e2 : IntKind.i64.wrap (P 0 * P 1) = wrap64 (P 0 * P 1) := by rw [IntKind.wrap_i64]; unfold wrap64; omega
  clear KN KR hE hT
  generalize newE (P 0) (P 1) = E at *
  generalize hqq : wrap64 (P 0 * P 1) = q at *
  go_enter Tryz.func4, Tryz.ntmps4
  go_wp2_with fail
  go_at_call 9
  refine (unhide K0 _ (unhide HK).2).mono ?_
  rintro e w1 ⟨rfl, hb⟩
  replace HK := hide ((unhide HK).call hb)
  clear hb K0
  obtain ⟨f0, f1, f2, f3, f4, f5, f6, f7, f8, f9, f10, f11⟩ := (unhide HK).cells
  go_wp2_with fail
  go_at_call 34
  refine (unhide K1 _).mono ?_
  rintro e w2 ⟨rfl, hb⟩
  replace HK := hide ((unhide HK).call hb)
  clear hb K1 f0 f1 f2 f3 f4 f5 f6 f7 f8 f9 f10 f11
  obtain ⟨f0, f1, f2, f3, f4, f5, f6, f7, f8, f9, f10, f11⟩ := (unhide HK).cells
  go_wp2_with fail
  go_at_call 35
  refine (unhide K2 _).mono ?_
  rintro e w3 ⟨rfl, hb⟩
  replace HK := hide ((unhide HK).call hb)
  clear hb K2 f0 f1 f2 f3 f4 f5 f6 f7 f8 f9 f10 f11
  have f0 := (unhide HK).1.cell 0 (by omega)
  have f1 := (unhide HK).1.cell 1 (by omega)
  go_wp2_with fail
  go_at_call 36
  refine (unhide K3 _).mono ?_
  rintro e w4 ⟨rfl, hb⟩
  replace HK := hide ((unhide HK).call hb)
  clear hb K3 f0 f1
  have f0 := (unhide HK).1.cell 0 (by omega)
  have f1 := (unhide HK).1.cell 1 (by omega)
  go_wp2_with fail
  go_at_call 12
  refine (unhide K4 _).mono ?_
  rintro e w5 ⟨rfl, rfl⟩
  clear K4 f0 f1
  obtain ⟨f0, f1, f2, f3, f4, f5, f6, f7, f8, f9, f10, f11⟩ := (unhide HK).cells
  go_wp2_with fail
  go_at_call 23
  refine (unhide K5 _).mono ?_
  rintro e w6 ⟨rfl, hb⟩
  replace HK := hide ((unhide HK).call hb)
  clear hb K5 f0 f1 f2 f3 f4 f5 f6 f7 f8 f9 f10 f11
  obtain ⟨f0, f1, f2, f3, f4, f5, f6, f7, f8, f9, f10, f11⟩ := (unhide HK).cells
  go_wp2_with fail
  go_at_call 37
  refine (unhide K6 _).mono ?_
  rintro e w7 ⟨rfl, hb⟩
  replace HK := hide ((unhide HK).call hb)
  clear hb K6 f0 f1 f2 f3 f4 f5 f6 f7 f8 f9 f10 f11
  go_wp2
  go_ret
  exact ⟨rfl, (unhide HK).2⟩

end Go.Proofs.YtadnlljknocbbaaGreatDoor

/- The walk of WalOpens where a device can be made. -/
namespace Go.Proofs.YtadnlljknocbbaaGreatDoor
open Go.RowKit Go.Shelf Go.Maps
set_option linter.unusedVariables false
set_option maxRecDepth 100000

/-- In the loop: the list's blocks are loaded into both. -/
def LJ2 (W0 : World) (dg rg : Nat) (b0 n0 : Nat) (u : World) : Prop := ∃ D, M2 W0 u dg rg D D ∧ D.blk = b0 ∧ D.n = n0

theorem LJ2.bel {W0 : World} {dg rg b0 n0 : Nat} {u : World} (h : LJ2 W0 dg rg b0 n0 u) : Below W0.heap.size W0 u := by
  obtain ⟨D, h, _⟩ := h
  exact h.bel

theorem LJ2.later {W0 : World} {dg rg b0 n0 : Nat} {u u' : World} (h : LJ2 W0 dg rg b0 n0 u) (hb : Below u.heap.size u u') : LJ2 W0 dg rg b0 n0 u' := by
  obtain ⟨D, h, r⟩ := h
  exact ⟨D, h.later hb, r⟩

/-- Between the two Loads. -/
def LH2 (W0 : World) (dg rg : Nat) (b0 n0 : Nat) (b : Int) (len : Nat) (zs : List Int) (u : World) : Prop := ∃ D, M2 W0 u dg rg (ldD D b len zs) D ∧ D.blk = b0 ∧ D.n = n0

theorem LH2.bel {W0 : World} {dg rg b0 n0 len : Nat} {b : Int} {zs : List Int} {u : World} (h : LH2 W0 dg rg b0 n0 b len zs u) : Below W0.heap.size W0 u := by
  obtain ⟨D, h, _⟩ := h
  exact h.bel

theorem LH2.later {W0 : World} {dg rg b0 n0 len : Nat} {b : Int} {zs : List Int} {u u' : World} (h : LH2 W0 dg rg b0 n0 b len zs u) (hb : Below u.heap.size u u') : LH2 W0 dg rg b0 n0 b len zs u' := by
  obtain ⟨D, h, r⟩ := h
  exact ⟨D, h.later hb, r⟩

theorem lj_load {W0 : World} {dg rg b0 n0 : Nat} {u : World} (h : LJ2 W0 dg rg b0 n0 u) (b : Int) (a : Option Addr) (len cap : Nat) (zs : List Int) (hr : Row W0.heap.size W0 a len cap zs) :
    Calls Tryz.prog 24 #[.pointer (some ⟨dg, 0, none⟩), .int .i64 b, .slice a len cap] u fun e u' => ∃ E, e = .returned (.int .i64 E) ∧ Hid (LH2 W0 dg rg b0 n0 b len zs u') := by
  obtain ⟨D, h, r⟩ := h
  refine (j_load h b a len cap zs hr).mono ?_
  rintro e u' ⟨rfl, X⟩
  exact ⟨_, rfl, D, unhide X, r⟩

theorem lj_rload {W0 : World} {dg rg b0 n0 : Nat} {u : World} (b : Int) (a : Option Addr) (len cap : Nat) (zs : List Int) (h : LH2 W0 dg rg b0 n0 b len zs u) (hr : Row W0.heap.size W0 a len cap zs) :
    Calls Tryz.prog 25 #[.pointer (some ⟨rg, 0, none⟩), .int .i64 b, .slice a len cap] u fun e u' => ∃ E, e = .returned (.int .i64 E) ∧ Hid (LJ2 W0 dg rg b0 n0 u') := by
  obtain ⟨D, h, r1, r2⟩ := h
  refine (j_rload h b a len cap zs hr).mono ?_
  rintro e u' ⟨rfl, X⟩
  obtain ⟨k1, k2⟩ := ldD_n D b len zs
  exact ⟨_, rfl, ldD D b len zs, unhide X, by rw [k2, r1], by rw [k1, r2]⟩

/-- What Open answers on both: an error, or a log of each. -/
def OpnB (P : Nat → Int) (W0 : World) (dg rg : Nat) (b0 n0 : Nat) (u : World) : Prop :=
  Calls Tryz.prog 23 #[.pointer (some ⟨dg, 0, none⟩), Pv P] u fun e u1 => (∃ E : Int, E ≠ 0 ∧ e = .returned (.tuple #[.pointer none, .int .i64 E]) ∧ Hid (LJ2 W0 dg rg b0 n0 u1) ∧ Hid (Calls Tryz.prog 14 #[.pointer (some ⟨rg, 0, none⟩), Pv P] u1 fun e u2 => e = .returned (.tuple #[.pointer none, .int .i64 E]) ∧ Hid (LJ2 W0 dg rg b0 n0 u2))) ∨
    (∃ g, e = .returned (.tuple #[.pointer (some ⟨g, 0, none⟩), .int .i64 0]) ∧ Hid (LJ2 W0 dg rg b0 n0 u1) ∧ Hid (Calls Tryz.prog 14 #[.pointer (some ⟨rg, 0, none⟩), Pv P] u1 fun e u2 => ∃ xg, e = .returned (.tuple #[.pointer (some ⟨xg, 0, none⟩), .int .i64 0]) ∧ Hid (LJ2 W0 dg rg b0 n0 u2) ∧
      Hid (∃ Sl S dg' rg' G L m V pv, LgM u2 Sl g dg' P G L m ∧ RlM u2 S xg rg' P G L V pv)))

theorem opn_good {W0 : World} (hT : Tab W0) {P : Nat → Int} {G : Geo} (hP : PG P G) {dg rg : Nat} {u : World} (h : LJ2 W0 dg rg G.blk G.n u) : OpnB P W0 dg rg G.blk G.n u := by
  obtain ⟨D, h, r1, r2⟩ := h
  refine (j_open h hT hP r1 r2).mono ?_
  rintro e u1 (⟨hE, rfl, X⟩ | ⟨hE, g, rfl, X⟩)
  · refine .inl ⟨_, hE, rfl, ⟨D, unhide X, r1, r2⟩, (j_ropen (unhide X) hP r1 r2).mono ?_⟩
    rintro e u2 (⟨_, rfl, b⟩ | ⟨h0, _⟩)
    · exact ⟨rfl, D, (unhide X).later (unhide b), r1, r2⟩
    · exact absurd h0 hE
  · obtain ⟨L, hp, ⟨Sl, m, hl⟩, hM⟩ := unhide X
    refine .inr ⟨g, rfl, ⟨D, hM, r1, r2⟩, (j_ropen hM hP r1 r2).mono ?_⟩
    rintro e u2 (⟨h0, _⟩ | ⟨_, xg, rfl, Y⟩)
    · exact absurd hE h0
    · obtain ⟨b, L', V, pv, hp', hr⟩ := unhide Y
      obtain rfl : L = L' := Option.some.inj (hp.symm.trans hp')
      exact ⟨xg, rfl, ⟨D, hM.later b, r1, r2⟩, Sl, _, dg, rg, G, L, m, V, pv, lgm_below hl b, hr⟩

theorem opn_form {W0 : World} {P : Nat → Int} (hP : checkE P ≠ 0) {dg rg b0 n0 : Nat} {u : World} (h : LJ2 W0 dg rg b0 n0 u) : OpnB P W0 dg rg b0 n0 u := by
  refine (open_err (some ⟨dg, 0, none⟩) P 4 (by decide) u (fun u' _ => refuses_form P dg u' hP)).mono ?_
  rintro e u1 ⟨rfl, b⟩
  refine .inl ⟨4, by decide, rfl, h.later b, (ropen_err (some ⟨rg, 0, none⟩) P 4 (by decide) u1 (fun u' _ => fit_form P rg u' hP)).mono ?_⟩
  rintro e u2 ⟨rfl, b2⟩
  exact ⟨rfl, (h.later b).later b2⟩

/-- Format on both. -/
def FmtB (P : Nat → Int) (W0 : World) (dg rg : Nat) (b0 n0 : Nat) (FE : Int) (u : World) : Prop :=
  Calls Tryz.prog 37 #[.pointer (some ⟨dg, 0, none⟩), Pv P] u fun e u1 => e = .returned (.int .i64 FE) ∧ Hid (Below W0.heap.size W0 u1) ∧ Hid (Calls Tryz.prog 13 #[.pointer (some ⟨rg, 0, none⟩), Pv P] u1 fun e u2 => e = .returned (.int .i64 FE) ∧ Hid (LJ2 W0 dg rg b0 n0 u2))

theorem fmt_good {W0 : World} (hT : Tab W0) {P : Nat → Int} {G : Geo} (hP : PG P G) {dg rg : Nat} {u : World} {D : Dev} (h : M2 W0 u dg rg D D) (r1 : D.blk = G.blk) (r2 : D.n = G.n) : FmtB P W0 dg rg G.blk G.n (runE (whS G hd1) D) u := by
  refine (j_format h hT hP r1 r2).mono ?_
  rintro e u1 ⟨rfl, X⟩
  refine ⟨rfl, (unhide X).bel, (j_rformat (unhide X) hP r1 r2).mono ?_⟩
  rintro e u2 ⟨rfl, Y⟩
  obtain ⟨k1, k2⟩ := runD_n (whS G hd1) D
  exact ⟨rfl, _, unhide Y, by rw [k2, r1], by rw [k1, r2]⟩

theorem fmt_form {W0 : World} {P : Nat → Int} (hP : checkE P ≠ 0) {dg rg b0 n0 : Nat} {u : World} (h : LJ2 W0 dg rg b0 n0 u) : FmtB P W0 dg rg b0 n0 4 u := by
  refine (format_err (some ⟨dg, 0, none⟩) P 4 (by decide) u (fun u' _ => refuses_form P dg u' hP)).mono ?_
  rintro e u1 ⟨rfl, b⟩
  refine ⟨rfl, (h.later b).bel, (rformat_err (some ⟨rg, 0, none⟩) P 4 (by decide) u1 (fun u' _ => fit_form P rg u' hP)).mono ?_⟩
  rintro e u2 ⟨rfl, b2⟩
  exact ⟨rfl, (h.later b).later b2⟩

theorem lj_alike {W0 : World} {dg rg b0 n0 : Nat} {u : World} (h : LJ2 W0 dg rg b0 n0 u) :
    Calls Tryz.prog 33 #[.pointer (some ⟨dg, 0, none⟩), .pointer (some ⟨rg, 0, none⟩)] u fun e u' => e = .returned (.bool true) ∧ Hid (Below u.heap.size u u') := by
  obtain ⟨D, h, _⟩ := h
  exact j_alike h

end Go.Proofs.YtadnlljknocbbaaGreatDoor

/- The walk of WalOpens where a device can be made: the law itself. -/
namespace Go.Proofs.YtadnlljknocbbaaGreatDoor
open Go.RowKit Go.Shelf Go.Maps
set_option linter.unusedVariables false
set_option maxRecDepth 100000

set_option maxHeartbeats 8000000 in
theorem opens_dev (P : Nat → Int) (a : Option Addr) (len cap : Nat) (V : List Wr) (n x y FE : Int) (b0 n0 : Nat) (w : World) (hA : WArg w a len cap V) (hT : Tab w)
    (KN : ∀ u, Calls Tryz.prog 34 #[Pv P, .int .i64 n] u fun e w' => e = .returned (.tuple #[.int .i64 x, .int .i64 y]) ∧ Below u.heap.size u w')
    (KR : ∀ u, Calls Tryz.prog 35 #[Pv P, .int .i64 n] u fun e w' => e = .returned (.tuple #[.int .i64 x, .int .i64 y]) ∧ Below u.heap.size u w')
    (hE : newE (P 0) (P 1) = 0) (hq : ¬ 20000 < wrap64 (P 0 * P 1))
    (KF : ∀ W0 dg rg u, Below w.heap.size w W0 → M2 W0 u dg rg (Dev.new (P 0).toNat (P 1).toNat) (Dev.new (P 0).toNat (P 1).toNat) → FmtB P W0 dg rg b0 n0 FE u)
    (KO : ∀ W0 dg rg u, Below w.heap.size w W0 → LJ2 W0 dg rg b0 n0 u → OpnB P W0 dg rg b0 n0 u) :
    Calls Tryz.prog 4 #[Pv P, .slice a len cap, .int .i64 n] w fun e w' => e = .returned (.bool true) ∧ Below w.heap.size w w' := by
  have HK := hide (Kp.start w P)
  have K0 : Hid (∀ u, Below w.heap.size w u → _) := fun u hu => wakes_any u (hT.kept (hu.block 0 hT.lt))
  have K1 := hide KN
  have K2 := hide KR
  have K3 : Hid (∀ u, _) := fun u => j_new u (P 0) (P 1) hE
  have K4 := hide KF
  have K5 := hide KO
  have HV : Hid (∀ u, Below w.heap.size w u → WHas u a len V) := fun u hu => hA.has.later hu
  have hl := hA.lb
  have e2 : IntKind.i64.wrap (P 0 * P 1) = wrap64 (P 0 * P 1) := by rw [IntKind.wrap_i64]; unfold wrap64; omega
  clear KN KR hE hT KF KO hA
  generalize hqq : wrap64 (P 0 * P 1) = q at *
  go_enter Tryz.func4, Tryz.ntmps4
  go_wp2_with fail
  go_at_call 9
  refine (unhide K0 _ (unhide HK).2).mono ?_
  rintro e w1 ⟨rfl, hb⟩
  replace HK := hide ((unhide HK).call hb)
  clear hb K0
  obtain ⟨f0, f1, f2, f3, f4, f5, f6, f7, f8, f9, f10, f11⟩ := (unhide HK).cells
  go_wp2_with fail
  go_at_call 34
  refine (unhide K1 _).mono ?_
  rintro e w2 ⟨rfl, hb⟩
  replace HK := hide ((unhide HK).call hb)
  clear hb K1 f0 f1 f2 f3 f4 f5 f6 f7 f8 f9 f10 f11
  obtain ⟨f0, f1, f2, f3, f4, f5, f6, f7, f8, f9, f10, f11⟩ := (unhide HK).cells
  go_wp2_with fail
  go_at_call 35
  refine (unhide K2 _).mono ?_
  rintro e W0 ⟨rfl, hb⟩
  replace HK := hide ((unhide HK).call hb)
  clear hb K2 f0 f1 f2 f3 f4 f5 f6 f7 f8 f9 f10 f11
  have f0 := (unhide HK).1.cell 0 (by omega)
  have f1 := (unhide HK).1.cell 1 (by omega)
  go_wp2_with fail
  go_at_call 36
  refine (unhide K3 _).mono ?_
  rintro e w4 ⟨dg, rfl, B4, K6⟩
  clear K3 f0 f1 hqq e2 hq
  have f0 := ((unhide HK).call B4.out).1.cell 0 (by omega)
  have f1 := ((unhide HK).call B4.out).1.cell 1 (by omega)
  go_wp2_with fail
  go_at_call 12
  refine (unhide K6).mono ?_
  rintro e w5 ⟨rg, rfl, HM⟩
  clear K6 f0 f1 B4
  have KK : Hid (∀ u, Below W0.heap.size W0 u → Kp w P u) := fun u hu => (unhide HK).call hu
  have K7 := hide (unhide K4 W0 dg rg w5 (unhide HK).2 (unhide HM))
  obtain ⟨f0, f1, f2, f3, f4, f5, f6, f7, f8, f9, f10, f11⟩ := (unhide KK _ (unhide HM).bel).cells
  clear K4 HM
  go_wp2_with fail
  go_at_call 37
  refine (unhide K7).mono ?_
  rintro e w6 ⟨rfl, B6, K8⟩
  clear K7 f0 f1 f2 f3 f4 f5 f6 f7 f8 f9 f10 f11
  obtain ⟨f0, f1, f2, f3, f4, f5, f6, f7, f8, f9, f10, f11⟩ := (unhide KK _ (unhide B6)).cells
  go_wp2_with fail
  go_at_call 13
  refine (unhide K8).mono ?_
  rintro e w7 ⟨rfl, J7⟩
  clear K8 B6 f0 f1 f2 f3 f4 f5 f6 f7 f8 f9 f10 f11
  go_wp2_with fail
  go_at_call 33
  refine (lj_alike (unhide J7)).mono ?_
  rintro e w8 ⟨rfl, B8⟩
  have J8 : Hid (LJ2 W0 dg rg b0 n0 w8) := (unhide J7).later (unhide B8)
  clear J7 B8
  have HV0 : Hid (WHas W0 a len V) := unhide HV W0 (unhide HK).2
  go_upto_region 22 with fail
  go_loopw [16] (fun i wr => ∃ k : Nat, k ≤ len ∧ i = .int .i64 (k : Int) ∧ Hid (LJ2 W0 dg rg b0 n0 wr)) (fun i _ => len - (intOf i).toNat)
  case atStart => exact ⟨0, Nat.zero_le _, rfl, J8⟩
  case round =>
    obtain ⟨k, hk, rfl, hJ⟩ := hrel
    clear J8
    by_cases hlt : k < len
    · obtain ⟨kb, off, rfl, hkb, hc⟩ := (unhide HV0).cel (by omega)
      obtain ⟨c1, c2⟩ := hc k hlt
      have hrow := (unhide HV0).row k hlt
      generalize (wat V k).b = b at *
      generalize (wat V k).da = da at *
      generalize (wat V k).dl = dl at *
      generalize (wat V k).dc = dc at *
      generalize (wat V k).z = zs at *
      have CS : Hid (∀ u, Below W0.heap.size W0 u → u.cell? ⟨kb, off + k * 2, none⟩ = some (.int .i64 b) ∧ u.cell? ⟨kb, off + k * 2 + 1, none⟩ = some (.slice da dl dc)) := fun u hu => ⟨(hu.cell (p := ⟨kb, off + k * 2, none⟩) hkb).trans c1, (hu.cell (p := ⟨kb, off + k * 2 + 1, none⟩) hkb).trans c2⟩
      have KL : Hid (∀ u, LJ2 W0 dg rg b0 n0 u → _) := fun u h => lj_load h b da dl dc zs hrow
      have KRL : Hid (∀ u, LH2 W0 dg rg b0 n0 b dl zs u → _) := fun u h => lj_rload b da dl dc zs h hrow
      have Jd : Hid (LJ2 W0 dg rg b0 n0 wr.drew) := (unhide hJ).later ((Below.refl _ _).drew)
      have B0 := hide (unhide hJ).bel
      have B0d := hide (unhide Jd).bel
      have j1 : (k : Int) < (len : Int) := by omega
      have i0 : (0 : Int) ≤ (k : Int) := by omega
      have HL1 := hide hlt
      clear hc c1 c2 hrow hkb hlt hJ
      go_upto_region 24 with fail
      go_cut [] from 109 to 138 (fun wx => Hid (LH2 W0 dg rg b0 n0 b dl zs wx))
      case first =>
        go_region_held3 (fun u => u.cell? ⟨kb, off + k * 2, none⟩ = some (.int .i64 b) ∧ u.cell? ⟨kb, off + k * 2 + 1, none⟩ = some (.slice da dl dc))
          (with_reducible (first | exact unhide CS _ (unhide B0d) | exact unhide CS _ (unhide B0) | exact unhide CS _ (unhide B1)))
          ((go_at_call 24; refine (unhide KL _ (unhide Jd)).mono ?_; rintro e w9 ⟨E, rfl, H9⟩; have B1 : Hid (Below W0.heap.size W0 w9) := (unhide H9).bel))
        all_goals
          go_wp2_with fail
          go_meet
          exact H9
      case rest =>
        have H9 := hcut
        have Hd : Hid (LH2 W0 dg rg b0 n0 b dl zs wc.drew) := (unhide H9).later ((Below.refl _ _).drew)
        have B2 := hide (unhide H9).bel
        have B2d := hide (unhide Hd).bel
        clear hcut KL Jd B0 B0d
        go_upto_region 25 with fail
        have hlt := HL1.out
        go_region_held3 (fun u => u.cell? ⟨kb, off + k * 2, none⟩ = some (.int .i64 b) ∧ u.cell? ⟨kb, off + k * 2 + 1, none⟩ = some (.slice da dl dc))
          (with_reducible (first | exact unhide CS _ (unhide B2d) | exact unhide CS _ (unhide B2) | exact unhide CS _ (unhide B3)))
          ((go_at_call 25; refine (unhide KRL _ (unhide Hd)).mono ?_; rintro e w9 ⟨E, rfl, H10⟩; have B3 : Hid (Below W0.heap.size W0 w9) := (unhide H10).bel))
        all_goals
          go_wp2_with fail
          go_roundw
          case rel => exact ⟨k + 1, by omega, by go_num, H10⟩
          case measure => simp [intOf]; omega
    · have j1 : ¬ (k : Int) < (len : Int) := by omega
      have KO := hide (unhide K5 W0 dg rg wr (unhide HK).2 (unhide hJ))
      obtain ⟨f0, f1, f2, f3, f4, f5, f6, f7, f8, f9, f10, f11⟩ := (unhide KK _ (unhide hJ).bel).cells
      clear K5 HV HV0 hlt hk
      go_upto_region 26 with fail
      clear j1
      go_wp2_with fail
      go_at_call 23
      refine (unhide KO).mono ?_
      rintro e w9 (⟨E, hE, rfl, J9, KR⟩ | ⟨g, rfl, J9, KR⟩)
      · clear KO f0 f1 f2 f3 f4 f5 f6 f7 f8 f9 f10 f11
        obtain ⟨f0, f1, f2, f3, f4, f5, f6, f7, f8, f9, f10, f11⟩ := (unhide KK _ (unhide J9).bel).cells
        go_wp2_with fail
        go_at_call 14
        refine (unhide KR).mono ?_
        rintro e w10 ⟨rfl, J10⟩
        clear KR J9 f0 f1 f2 f3 f4 f5 f6 f7 f8 f9 f10 f11
        go_wp2_with fail
        go_at_call 33
        refine (lj_alike (unhide J10)).mono ?_
        rintro e w11 ⟨rfl, B11⟩
        have BB := hide ((unhide KK _ ((unhide J10).later (unhide B11)).bel).2)
        clear J10 B11 KK HK
        go_wp2
        go_ret
        exact ⟨rfl, unhide BB⟩
      · clear KO f0 f1 f2 f3 f4 f5 f6 f7 f8 f9 f10 f11
        obtain ⟨f0, f1, f2, f3, f4, f5, f6, f7, f8, f9, f10, f11⟩ := (unhide KK _ (unhide J9).bel).cells
        go_wp2_with fail
        go_at_call 14
        refine (unhide KR).mono ?_
        rintro e w10 ⟨xg, rfl, J10, Z⟩
        clear KR J9 f0 f1 f2 f3 f4 f5 f6 f7 f8 f9 f10 f11
        go_wp2_with fail
        go_at_call 33
        refine (lj_alike (unhide J10)).mono ?_
        rintro e w11 ⟨rfl, B11⟩
        obtain ⟨Sl, S, dg', rg', G, L, m, V', pv, l1, l2⟩ := unhide Z
        have KP := hide (j_final (lgm_below l1 (unhide B11)) (l2.below (unhide B11)))
        have q : ∀ u : World, (binOp .eql 57 (Hv L.h.fn) (Hv L.h.fn)).run Tryz.prog u = .ok (.bool true) u := fun u => eql_plan_yesH (fun _ _ => rfl) u
        have J11 := hide ((unhide J10).later (unhide B11))
        generalize L.h.fn = fn at *
        clear l1 l2 Z J10 B11
        go_wp2_with fail
        go_at_call 27
        refine (unhide KP).mono ?_
        rintro e w12 ⟨pa, N, pc, rfl, KP2⟩
        clear KP
        go_wp2_with fail
        go_at_call 28
        refine (unhide KP2).mono ?_
        rintro e w13 ⟨pa2, pc2, rfl, KP3⟩
        clear KP2
        go_wp2_with fail
        go_at_call 26
        refine (unhide KP3).mono ?_
        rintro e w14 ⟨rfl, KP4⟩
        clear KP3
        go_wp2_with fail
        go_at_call 31
        refine (unhide KP4).mono ?_
        rintro e w15 ⟨rfl, KP5⟩
        clear KP4
        go_wp2_with fail
        go_at_call 32
        refine (unhide KP5).mono ?_
        rintro e w16 ⟨rfl, B16⟩
        have BB := hide ((unhide KK _ ((unhide J11).later (unhide B16)).bel).2)
        clear KP5 J11 B16 KK HK
        go_wp2
        go_ret
        exact ⟨rfl, unhide BB⟩

end Go.Proofs.YtadnlljknocbbaaGreatDoor

/- The walk of WalOpens: all plans. -/
namespace Go.Proofs.YtadnlljknocbbaaGreatDoor
open Go.RowKit Go.Shelf Go.Maps
set_option linter.unusedVariables false
set_option maxRecDepth 100000

/-- A device that is too great is not looked at. -/
theorem opens_big (P : Nat → Int) (a : Option Addr) (len cap : Nat) (n x y : Int) (w : World) (hT : Tab w)
    (KN : ∀ u, Calls Tryz.prog 34 #[Pv P, .int .i64 n] u fun e w' => e = .returned (.tuple #[.int .i64 x, .int .i64 y]) ∧ Below u.heap.size u w')
    (KR : ∀ u, Calls Tryz.prog 35 #[Pv P, .int .i64 n] u fun e w' => e = .returned (.tuple #[.int .i64 x, .int .i64 y]) ∧ Below u.heap.size u w')
    (hq : 20000 < wrap64 (P 0 * P 1)) :
    Calls Tryz.prog 4 #[Pv P, .slice a len cap, .int .i64 n] w fun e w' => e = .returned (.bool true) ∧ Below w.heap.size w w' := by
  have HK := hide (Kp.start w P)
  have K0 : Hid (∀ u, Below w.heap.size w u → _) := fun u hu => wakes_any u (hT.kept (hu.block 0 hT.lt))
  have K1 := hide KN
  have K2 := hide KR
  have e2 : IntKind.i64.wrap (P 0 * P 1) = wrap64 (P 0 * P 1) := by rw [IntKind.wrap_i64]; unfold wrap64; omega
  clear KN KR hT
  generalize hqq : wrap64 (P 0 * P 1) = q at *
  go_enter Tryz.func4, Tryz.ntmps4
  go_wp2_with fail
  go_at_call 9
  refine (unhide K0 _ (unhide HK).2).mono ?_
  rintro e w1 ⟨rfl, hb⟩
  replace HK := hide ((unhide HK).call hb)
  clear hb K0
  obtain ⟨f0, f1, f2, f3, f4, f5, f6, f7, f8, f9, f10, f11⟩ := (unhide HK).cells
  go_wp2_with fail
  go_at_call 34
  refine (unhide K1 _).mono ?_
  rintro e w2 ⟨rfl, hb⟩
  replace HK := hide ((unhide HK).call hb)
  clear hb K1 f0 f1 f2 f3 f4 f5 f6 f7 f8 f9 f10 f11
  obtain ⟨f0, f1, f2, f3, f4, f5, f6, f7, f8, f9, f10, f11⟩ := (unhide HK).cells
  go_wp2_with fail
  go_at_call 35
  refine (unhide K2 _).mono ?_
  rintro e w3 ⟨rfl, hb⟩
  replace HK := hide ((unhide HK).call hb)
  clear hb K2 f0 f1 f2 f3 f4 f5 f6 f7 f8 f9 f10 f11
  have f0 := (unhide HK).1.cell 0 (by omega)
  have f1 := (unhide HK).1.cell 1 (by omega)
  go_wp2
  go_ret
  exact ⟨rfl, (unhide HK).2⟩

theorem opens_walk (P : Nat → Int) (a : Option Addr) (len cap : Nat) (V : List Wr) (n : Int) (w : World) (hA : WArg w a len cap V) (hT : Tab w) :
    Calls Tryz.prog 4 #[Pv P, .slice a len cap, .int .i64 n] w fun e w' => e = .returned (.bool true) ∧ Below w.heap.size w w' := by
  by_cases hc : checkE P = 0
  · obtain ⟨G, hP⟩ := pg_of hc
    by_cases hq : 20000 < wrap64 (P 0 * P 1)
    · exact opens_big P a len cap n _ _ w hT (fun u => need_good P G n u hP) (fun u => rneed_good P G n u hP) hq
    · have e0 : (P 0).toNat = G.blk := by rw [hP.p0]; rfl
      have e1 : (P 1).toNat = G.n := by rw [hP.p1]; rfl
      refine opens_dev P a len cap V n _ _ (runE (whS G hd1) (Dev.new (P 0).toNat (P 1).toNat)) G.blk G.n w hA hT (fun u => need_good P G n u hP) (fun u => rneed_good P G n u hP) (newE_sound hc) hq (fun W0 dg rg u hb hM => ?_) (fun W0 dg rg u hb hJ => ?_)
      · exact fmt_good (hT.kept (hb.block 0 hT.lt)) hP hM e0 e1
      · exact opn_good (hT.kept (hb.block 0 hT.lt)) hP hJ
  · by_cases hq : 20000 < wrap64 (P 0 * P 1)
    · exact opens_big P a len cap n 0 4 w hT (fun u => need_form P n u hc) (fun u => rneed_form P n u hc) hq
    · by_cases hE : newE (P 0) (P 1) = 0
      · exact opens_dev P a len cap V n 0 4 4 (P 0).toNat (P 1).toNat w hA hT (fun u => need_form P n u hc) (fun u => rneed_form P n u hc) hE hq (fun W0 dg rg u hb hM => fmt_form hc ⟨_, hM, rfl, rfl⟩) (fun W0 dg rg u hb hJ => opn_form hc hJ)
      · exact opens_none P a len cap n 0 4 w hT (fun u => need_form P n u hc) (fun u => rneed_form P n u hc) hE hq

end Go.Proofs.YtadnlljknocbbaaGreatDoor

