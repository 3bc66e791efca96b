/- Joined: RNeed, RFit, RFmt, ROpenE, RParA. -/
import Derived.Test.YtadnlljknocbbaaGreatDoorWoJ43
import Derived.Test.YtadnlljknocbbaaGreatDoorWoJ20
import Derived.Test.YtadnlljknocbbaaGreatDoorWoJ31
import Derived.Deep.RegionHeld3
import Derived.Test.YtadnlljknocbbaaGreatDoorWoJ34
import Derived.Test.YtadnlljknocbbaaGreatDoorWoJ40
import Derived.Test.YtadnlljknocbbaaGreatDoorWoJ19
/- The document's parts and Need. -/
namespace Go.Proofs.YtadnlljknocbbaaGreatDoor
open Go.RowKit Go.Shelf Go.Maps
set_option linter.unusedVariables false
set_option maxRecDepth 100000

/-- In the loop: k parts are told, n blocks are left. -/
theorem rparts_step {G : Geo} (hG : G.Ok) {n : Nat} (hn : 0 < n) : G.parts n = 1 + G.parts (n - G.most) := by
  rw [Geo.parts_step hG hn]
  congr 2
  omega

set_option maxHeartbeats 1000000 in
theorem rparts_any (P : Nat → Int) (G : Geo) (hP : PG P G) (n : Nat) (hn : n ≤ 17592186043904) (w : World) :
    Calls Tryz.prog 58 #[Pv P, .int .i64 (n : Int)] w fun e w' => e = .returned (.int .i64 (G.parts n : Int)) ∧ Below w.heap.size w w' := by
  have hG := hP.ok
  have hm := hG.most
  have hb := hG.blk
  have HK := Kp.start w P
  have f0 := HK.cells.1
  rw [hP.p0] at f0
  have e1 : IntKind.i64.wrap ((G.blk : Int) - 10) = ((G.blk - 10 : Nat) : Int) := by rw [IntKind.wrap_i64]; omega
  have e2 : Int.tdiv ((G.blk - 10 : Nat) : Int) 2 = (G.most : Int) := by
    unfold Geo.most
    rw [Int.tdiv_eq_ediv_of_nonneg (by omega)]
    omega
  have B0 : Hid (Below w.heap.size w (w.alloc (.cells (Pc P) 25))) := HK.2
  have KP : Hid (∀ k : Nat, 0 < k → G.parts k = 1 + G.parts (k - G.most)) := fun k hk => rparts_step hG hk
  have KZ : Hid (G.parts 0 = 0) := Geo.parts_zero hG
  have KL : Hid (∀ k, G.parts k ≤ k) := fun k => Geo.parts_le hG k
  clear HK hP hG
  generalize G.parts = pt at *
  generalize G.most = ms at *
  generalize G.blk = bk at *
  go_enter Tryz.func58, Tryz.ntmps58
  go_upto_region 3 with fail
  change Code.wp _ _ _ _ (w.alloc (.cells (Pc P) 25))
  generalize w.alloc (.cells (Pc P) 25) = w0 at *
  clear f0 e1 e2
  go_loopw [1, 6] (fun x y wr => ∃ (l k : Nat) (z : Int), x = .int .i64 z ∧ y = .int .i64 (k : Int) ∧ z ≤ n ∧ (l : Int) = max z 0 ∧ -2043 ≤ z ∧ Hid (k + pt l = pt n) ∧ w0 = wr) (fun x _ _ => (intOf x).toNat)
  case atStart => exact ⟨n, 0, n, rfl, rfl, by omega, by omega, by omega, by show 0 + pt n = pt n; omega, rfl⟩
  case round =>
    obtain ⟨l, k, z, rfl, rfl, hz, hl, hz2, HI, rfl⟩ := hrel
    have hkl := unhide KL n
    by_cases h0 : 0 < z
    · have s1 := unhide KP l (by omega)
      have s2 := unhide HI
      have hk1 : k ≤ n := by omega
      have w1 : IntKind.i64.wrap ((k : Int) + 1) = ((k + 1 : Nat) : Int) := by rw [IntKind.wrap_i64]; omega
      have w2 : IntKind.i64.wrap (z - (ms : Int)) = z - (ms : Int) := by rw [IntKind.wrap_i64]; omega
      have HI2 : Hid (k + 1 + pt (l - ms) = pt n) := by show k + 1 + pt (l - ms) = pt n; omega
      clear KP KZ KL HI B0 s1 s2
      go_wp2_with fail
      refine ⟨⟨l - ms, k + 1, z - (ms : Int), rfl, by go_num, by omega, by omega, by omega, HI2, by first | trivial | rfl⟩, ?_⟩
      simp [intOf]
      omega
    · have hl0 : l = 0 := by omega
      have s2 := unhide HI
      have e0 := unhide KZ
      rw [hl0, e0] at s2
      have ek : k = pt n := by omega
      clear KP KZ KL HI
      go_wp2_with fail
      go_ret
      exact ⟨rfl, unhide B0⟩

theorem rneed_form (P : Nat → Int) (n : Int) (w : World) (hP : checkE P ≠ 0) : Calls Tryz.prog 35 #[Pv P, .int .i64 n] w fun e w' => e = .returned (.tuple #[.int .i64 0, .int .i64 4]) ∧ Below w.heap.size w w' := by
  have hc : checkE P = 4 := by rcases checkE_two P with h | h; exact absurd h hP; exact h
  have K : Hid (∀ u, Calls Tryz.prog 83 #[Pv P] u fun e w' => e = .returned (.int .i64 4) ∧ Below u.heap.size u w') := fun u => by
    have := refCheck_any P u
    rwa [hc] at this
  have HK := hide (Kp.start w P)
  clear hP hc
  obtain ⟨f0, f1, f2, f3, f4, f5, f6, f7, f8, f9, f10, f11⟩ := (unhide HK).cells
  go_enter Tryz.func35, Tryz.ntmps35
  go_wp2_with fail
  go_at_call 83
  refine (unhide K _).mono ?_
  rintro e w1 ⟨rfl, hb⟩
  have B := hide ((unhide HK).2.trans (hb.mono (unhide HK).2.size))
  clear K hb f0 f1 f2 f3 f4 f5 f6 f7 f8 f9 f10 f11 HK
  go_wp2_with fail
  go_ret2
  exact ⟨rfl, unhide B⟩

set_option maxHeartbeats 1000000 in
theorem rneed_good (P : Nat → Int) (G : Geo) (n : Int) (w : World) (hP : PG P G) :
    Calls Tryz.prog 35 #[Pv P, .int .i64 n] w fun e w' => e = .returned (.tuple #[.int .i64 (needN G n), .int .i64 (needE n)]) ∧ Below w.heap.size w w' := by
  have K : Hid (∀ u, Calls Tryz.prog 83 #[Pv P] u fun e w' => e = .returned (.int .i64 0) ∧ Below u.heap.size u w') := fun u => by
    have := refCheck_any P u
    rwa [hP.chk] at this
  have K1 : Hid (∀ k : Nat, k ≤ 4096 → ∀ u, Calls Tryz.prog 58 #[Pv P, .int .i64 (k : Int)] u fun e w' => e = .returned (.int .i64 (G.parts k : Int)) ∧ Below u.heap.size u w') := fun k hk u => rparts_any P G hP k (by omega) u
  have HK := hide (Kp.start w P)
  obtain ⟨f0, f1, f2, f3, f4, f5, f6, f7, f8, f9, f10, f11⟩ := (unhide HK).cells
  by_cases hb : n < 0 ∨ 4096 < n
  · have e1 : needN G n = 0 := by unfold needN; rw [if_pos hb]
    have e2 : needE n = 1 := by unfold needE; rw [if_pos hb]
    rw [e1, e2]
    clear hP K1
    go_enter Tryz.func35, Tryz.ntmps35
    go_wp2_with fail
    go_at_call 83
    refine (unhide K _).mono ?_
    rintro e w1 ⟨rfl, hb1⟩
    have B := hide ((unhide HK).2.trans (hb1.mono (unhide HK).2.size))
    clear K hb1 f0 f1 f2 f3 f4 f5 f6 f7 f8 f9 f10 f11 HK
    by_cases hl : n < 0
    · go_wp2_with fail
      go_ret2
      exact ⟨rfl, unhide B⟩
    · have hh : 4096 < n := by omega
      go_wp2_with fail
      go_ret2
      exact ⟨rfl, unhide B⟩
  · obtain ⟨k, rfl⟩ : ∃ k : Nat, n = (k : Int) := ⟨n.toNat, by omega⟩
    have hk : k ≤ 4096 := by omega
    have e1 : needN G (k : Int) = (G.uses k : Int) := by unfold needN; rw [if_neg hb]; rfl
    have e2 : needE (k : Int) = 0 := by unfold needE; rw [if_neg hb]
    rw [e1, e2]
    have K2 := hide (unhide K1 k hk)
    have hle := Geo.parts_le hP.ok k
    have hw : IntKind.i64.wrap ((k : Int) + (G.parts k : Int)) = (G.uses k : Int) := by
      rw [IntKind.wrap_i64]
      unfold Geo.uses
      omega
    have i1 : ¬ (k : Int) < 0 := by omega
    have i2 : ¬ 4096 < (k : Int) := by omega
    clear hP K1 hb
    generalize G.uses k = us at *
    generalize G.parts k = pt at *
    go_enter Tryz.func35, Tryz.ntmps35
    go_wp2_with fail
    go_at_call 83
    refine (unhide K _).mono ?_
    rintro e w1 ⟨rfl, hb1⟩
    have HK1 := hide ((unhide HK).call hb1)
    clear K hb1 f0 f1 f2 f3 f4 f5 f6 f7 f8 f9 f10 f11 HK
    obtain ⟨f0, f1, f2, f3, f4, f5, f6, f7, f8, f9, f10, f11⟩ := (unhide HK1).cells
    go_wp2_with fail
    go_at_call 58
    refine (unhide K2 _).mono ?_
    rintro e w2 ⟨rfl, hb2⟩
    have B := hide ((unhide HK1).2.trans (hb2.mono (unhide HK1).2.size))
    clear K2 hb2 f0 f1 f2 f3 f4 f5 f6 f7 f8 f9 f10 f11 HK1
    go_wp2_with fail
    go_ret2
    exact ⟨rfl, unhide B⟩

end Go.Proofs.YtadnlljknocbbaaGreatDoor

/- The document's fit, and Header, Write, Flush behind each other. -/
namespace Go.Proofs.YtadnlljknocbbaaGreatDoor
open Go.RowKit Go.Shelf Go.Maps
set_option linter.unusedVariables false
set_option maxRecDepth 100000

set_option maxHeartbeats 1000000 in
theorem fit_good (P : Nat → Int) (G : Geo) (dg : Nat) (S : Nat → Prop) (D : Dev) (w : World) (hP : PG P G) (hD : Rv w S dg D) (hb : D.blk = G.blk) (hn : D.n = G.n) : Calls Tryz.prog 49 #[.pointer (some ⟨dg, 0, none⟩), Pv P] w fun e w' => e = .returned (.int .i64 0) ∧ Below w.heap.size w w' := by
  have K : Hid (∀ u, Calls Tryz.prog 83 #[Pv P] u fun e w' => e = .returned (.int .i64 0) ∧ Below u.heap.size u w') := fun u => by
    have := refCheck_any P u
    rwa [hP.chk] at this
  have K1 : Hid (∀ u, Below w.heap.size w u → Calls Tryz.prog 88 #[.pointer (some ⟨dg, 0, none⟩)] u fun e w' => e = .returned (.int .i64 (P 0)) ∧ u = w') := fun u hu => by
    have := rblock_dev dg S D u (hD.below hu)
    rw [hb] at this
    rw [hP.p0]
    exact this
  have K2 : Hid (∀ u, Below w.heap.size w u → Calls Tryz.prog 79 #[.pointer (some ⟨dg, 0, none⟩)] u fun e w' => e = .returned (.int .i64 (P 1)) ∧ u = w') := fun u hu => by
    have := rblocks_dev dg S D u (hD.below hu)
    rw [hn] at this
    rw [hP.p1]
    exact this
  have HK := hide (Kp.start w P)
  clear hP hD hb hn
  go_enter Tryz.func49, Tryz.ntmps49
  go_wp2_with fail
  obtain ⟨f0, f1, f2, f3, f4, f5, f6, f7, f8, f9, f10, f11⟩ := (unhide HK).cells
  go_region_held3 (fun u => Hid (Kp w P u) ∧ u.cell? ⟨w.heap.size, 0, none⟩ = some (.int .i64 (P 0)) ∧ u.cell? ⟨w.heap.size, 1, none⟩ = some (.int .i64 (P 1)) ∧ u.cell? ⟨w.heap.size, 2, none⟩ = some (.int .i64 (P 2)) ∧ u.cell? ⟨w.heap.size, 3, none⟩ = some (.int .i64 (P 3)) ∧ u.cell? ⟨w.heap.size, 4, none⟩ = some (.int .i64 (P 4)) ∧ u.cell? ⟨w.heap.size, 5, none⟩ = some (.int .i64 (P 5)) ∧ u.cell? ⟨w.heap.size, 6, none⟩ = some (.int .i64 (P 6)) ∧ u.cell? ⟨w.heap.size, 7, none⟩ = some (.int .i64 (P 7)) ∧ u.cell? ⟨w.heap.size, 8, none⟩ = some (.int .i64 (P 8)) ∧ u.cell? ⟨w.heap.size, 9, none⟩ = some (.int .i64 (P 9)) ∧ u.cell? ⟨w.heap.size, 10, none⟩ = some (.int .i64 (P 10)) ∧ u.cell? ⟨w.heap.size, 11, none⟩ = some (.int .i64 (P 11)))
    (with_reducible (first | exact (unhide HK).drew.js | exact (unhide J1).js | exact (unhide HK).js))
    (first
      | (go_at_call 83; refine (unhide K _).mono ?_; rintro e w6 ⟨rfl, hb⟩; have J1 : Hid (Kp w P w6) := Kp.call (unhide (‹Hid (Kp w P _) ∧ _›).1) hb; clear hb)
      | (go_at_call 88; refine (unhide K1 _ (unhide (‹Hid (Kp w P _) ∧ _›).1).2).mono ?_; rintro e w6 ⟨rfl, rfl⟩)
      | (go_at_call 79; refine (unhide K2 _ (unhide (‹Hid (Kp w P _) ∧ _›).1).2).mono ?_; rintro e w6 ⟨rfl, rfl⟩))
  all_goals
    have jj := unhide (‹Hid (Kp w P _) ∧ _›).1
    go_wp2
    go_ret
    exact ⟨rfl, jj.2⟩

set_option maxHeartbeats 1000000 in
theorem fit_form (P : Nat → Int) (dg : Nat) (w : World) (hP : checkE P ≠ 0) : Calls Tryz.prog 49 #[.pointer (some ⟨dg, 0, none⟩), Pv P] w fun e w' => e = .returned (.int .i64 4) ∧ Below w.heap.size w w' := by
  have hc : checkE P = 4 := by rcases checkE_two P with h | h; exact absurd h hP; exact h
  have K : Hid (∀ u, Calls Tryz.prog 83 #[Pv P] u fun e w' => e = .returned (.int .i64 4) ∧ Below u.heap.size u w') := fun u => by
    have := refCheck_any P u
    rwa [hc] at this
  have HK := hide (Kp.start w P)
  have g1 : ((4 : Int) != 0) = true := rfl
  clear hP hc
  go_enter Tryz.func49, Tryz.ntmps49
  go_wp2_with fail
  obtain ⟨f0, f1, f2, f3, f4, f5, f6, f7, f8, f9, f10, f11⟩ := (unhide HK).cells
  have HD := hide ((unhide HK).drew)
  obtain ⟨e0, e1, e2, e3, e4, e5, e6, e7, e8, e9, e10, e11⟩ := (unhide HD).cells
  first
    | (go_region_with (go_at_call 83; refine (unhide K _).mono ?_; rintro e w6 ⟨rfl, hb⟩; have J1 : Hid (Kp w P w6) := by first | exact Kp.call (unhide HD) hb | exact Kp.call (unhide HK) hb; clear hb))
    | fail "x"
  all_goals
    go_wp2
    go_ret
    exact ⟨rfl, (unhide J1).2⟩

theorem rformat_err (x : Option Addr) (P : Nat → Int) (E : Int) (hE : E ≠ 0) (w : World) (K0 : ∀ u, Below w.heap.size w u → Calls Tryz.prog 49 #[.pointer x, Pv P] u fun e w' => e = .returned (.int .i64 E) ∧ Below u.heap.size u w') :
    Calls Tryz.prog 13 #[.pointer x, Pv P] w fun e w' => e = .returned (.int .i64 E) ∧ Below w.heap.size w w' := by
  have HK := hide (Kp.start w P)
  have K := hide K0
  have d1 : (E != 0) = true := by simpa using hE
  clear K0 hE
  obtain ⟨f0, f1, f2, f3, f4, f5, f6, f7, f8, f9, f10, f11⟩ := (unhide HK).cells
  go_enter Tryz.func13, Tryz.ntmps13
  go_wp2_with fail
  go_at_call 49
  refine (unhide K _ (unhide HK).2).mono ?_
  rintro e w1 ⟨rfl, hb⟩
  have B := hide ((unhide HK).2.trans (hb.mono (unhide HK).2.size))
  clear K hb f0 f1 f2 f3 f4 f5 f6 f7 f8 f9 f10 f11 HK
  go_wp2_with fail
  go_ret
  exact ⟨rfl, unhide B⟩

theorem own_row9 {B : Nat} {w : World} {a : Option Addr} {n c : Nat} {xs : List Int} (h : Own B w a n c xs) (hb : ∀ z ∈ xs, 0 ≤ z ∧ z ≤ 255) (hn : n ≤ 140737488351232) : Row w.heap.size w a n c xs := by
  have h3 := h.2.2.1
  unfold maxLen at h3
  refine ⟨h.1, h.2.1, ⟨hn, by omega⟩, hb, fun hp => ?_⟩
  obtain ⟨g, e, _⟩ := h.cell hp
  refine ⟨g, 0, e, (h.lt e).1, fun j hj => ?_⟩
  obtain ⟨g', e', _, hc, _⟩ := h.cell hj
  rw [e] at e'
  cases e'
  rw [Nat.zero_add]
  exact hc

/-- Header, Write, Flush behind each other. -/
theorem rwh_chain (dg : Nat) (S : Nat → Prop) (D : Dev) (G : Geo) (h : Hd) (w : World) (hD : Rv w S dg D) (hG : G.Ok) (bd : D.blk = G.blk) (nd : D.n = G.n) (hh : h.Ok G) (hv : Value) (ehv : hv = Hv h.fn) (u : World) (hu : Below w.heap.size w u) :
    Calls Tryz.prog 50 #[hv, .int .i64 (G.blk : Int)] u fun e u1 => ∃ a c, e = .returned (.tuple #[.slice a G.blk c, .int .i64 0]) ∧ Hid (
      Calls Tryz.prog 51 #[.pointer (some ⟨dg, 0, none⟩), .int .i64 1, .slice a G.blk c] u1 fun e u2 => e = .returned (.int .i64 D.wE) ∧
        (D.wE ≠ 0 → Hid (7 = runE (whS G h) D ∧ D.wE = 7 ∧ ∃ S', Rv u2 S' dg (runD (whS G h) D) ∧ Nx S w S' u2)) ∧
        (D.wE = 0 → Hid (Calls Tryz.prog 52 #[.pointer (some ⟨dg, 0, none⟩)] u2 fun e u3 => e = .returned (.int .i64 (runE (whS G h) D)) ∧ Hid (∃ S', Rv u3 S' dg (runD (whS G h) D) ∧ Nx S w S' u3)))) := by
  subst ehv
  have hib := hG.ibn
  refine (refHeader_good h.fn G.blk u hG.size (hdF hG hh)).mono ?_
  rintro e u1 ⟨a, c, rfl, ho, hb1⟩
  have b1 : Below w.heap.size w u1 := hu.trans (hb1.mono hu.size)
  have hO := unhide ho
  refine ⟨a, c, rfl, ?_⟩
  have hrow : Row u1.heap.size u1 a D.blk c (hdB G h) := by
    rw [bd]
    exact own_row9 hO hdB_byt (by have := hG.blk; omega)
  have hout : Out S D.blk a := fun hp x e hS => by
    obtain ⟨g, e', hg, _⟩ := hO.cell (j := 0) (by rw [← bd]; exact hp)
    rw [e] at e'
    cases e'
    have := hD.lt hS
    have := hu.size
    simp at *
    omega
  have hW := rwrite_any dg 1 a c (hdB G h) S D u1 (hD.below b1) (by omega) hrow hout
  rw [bd] at hW
  refine hW.mono ?_
  rintro e u2 ⟨rfl, S2, d2, n2⟩
  have n02 : Nx S w S2 u2 := ((Nx.refl S w).below' b1).trans n2
  refine ⟨rfl, fun h0 => ?_, fun h0 => ?_⟩
  · have e7 : D.wE = 7 := by rcases D.wE_two with x | x; exact absurd x h0; exact x
    have r1 : runE (whS G h) D = 7 := runE_no h0
    have r2 : runD (whS G h) D = D.wD 1 (hdB G h) := runD_no h0
    rw [r1, r2]
    exact ⟨rfl, e7, S2, d2, n02⟩
  · have r1 : runE (whS G h) D = (D.wD 1 (hdB G h)).wE := by
      show runE [.w 1 (hdB G h), .f] D = _
      rw [runE_ok h0]
      show runE [.f] (D.wD 1 (hdB G h)) = _
      rcases (D.wD 1 (hdB G h)).wE_two with x | x
      · rw [runE_ok x, x]; rfl
      · rw [runE_no (by omega), x]
    have r2 : runD (whS G h) D = (D.wD 1 (hdB G h)).fD := by
      show runD [.w 1 (hdB G h), .f] D = _
      rw [runD_ok h0]
      show runD [.f] (D.wD 1 (hdB G h)) = _
      rcases (D.wD 1 (hdB G h)).wE_two with x | x
      · rw [runD_ok x]; rfl
      · rw [runD_no (by omega)]; rfl
    rw [r1, r2]
    refine (rflush_any dg S2 (D.wD 1 (hdB G h)) u2 d2).mono ?_
    rintro e u3 ⟨rfl, S3, d3, n3⟩
    exact ⟨rfl, S3, d3, n02.trans n3⟩

end Go.Proofs.YtadnlljknocbbaaGreatDoor

/- The document's Format. -/
namespace Go.Proofs.YtadnlljknocbbaaGreatDoor
open Go.RowKit Go.Shelf Go.Maps
set_option linter.unusedVariables false
set_option maxRecDepth 100000

/-- The walk, over letters. -/
theorem rformat_walk (dg : Nat) (P : Nat → Int) (bk : Nat) (e0 rE : Int) (Z : World → Prop) (w : World) (p0 : P 0 = (bk : Int)) (hE : e0 = 0 ∨ e0 = 7)
    (K : Hid (∀ u, Below w.heap.size w u → Calls Tryz.prog 49 #[.pointer (some ⟨dg, 0, none⟩), Pv P] u fun e w' => e = .returned (.int .i64 0) ∧ Below u.heap.size u w'))
    (K2 : Hid (∀ u, Below w.heap.size w u → Calls Tryz.prog 50 #[.agg #[.int .i64 1, .int .i64 0, .int .i64 0], .int .i64 (bk : Int)] u fun e u1 => ∃ a c, e = .returned (.tuple #[.slice a bk c, .int .i64 0]) ∧ Hid (
      Calls Tryz.prog 51 #[.pointer (some ⟨dg, 0, none⟩), .int .i64 1, .slice a bk c] u1 fun e u2 => e = .returned (.int .i64 e0) ∧ (e0 ≠ 0 → Hid (7 = rE ∧ Z u2)) ∧
        (e0 = 0 → Hid (Calls Tryz.prog 52 #[.pointer (some ⟨dg, 0, none⟩)] u2 fun e u3 => e = .returned (.int .i64 rE) ∧ Hid (Z u3)))))) :
    Calls Tryz.prog 13 #[.pointer (some ⟨dg, 0, none⟩), Pv P] w fun e w' => e = .returned (.int .i64 rE) ∧ Z w' := by
  have HK := hide (Kp.start w P)
  have HP0 := hide p0
  clear p0
  obtain ⟨f0, f1, f2, f3, f4, f5, f6, f7, f8, f9, f10, f11⟩ := (unhide HK).cells
  go_enter Tryz.func13, Tryz.ntmps13
  go_wp2_with fail
  go_at_call 49
  refine (unhide K _ (unhide HK).2).mono ?_
  rintro e w1 ⟨rfl, hb⟩
  have HK1 := hide ((unhide HK).call hb)
  have K3 := hide (unhide K2 _ (unhide HK1).2)
  clear K K2 hb f0 f1 f2 f3 f4 f5 f6 f7 f8 f9 f10 f11 HK
  have f0 := (unhide HK1).cells.1
  rw [unhide HP0] at f0
  clear HK1 HP0
  go_wp2_with fail
  go_at_call 50
  refine (unhide K3).mono ?_
  rintro e w2 ⟨a, c, rfl, K4⟩
  clear K3 f0
  rcases hE with rfl | rfl
  · go_wp2_with fail
    go_at_call 51
    refine (unhide K4).mono ?_
    rintro e w3 ⟨rfl, _, K5⟩
    have K6 := K5 trivial
    clear K4 K5
    go_wp2_with fail
    go_at_call 52
    refine (unhide K6).mono ?_
    rintro e w4 ⟨rfl, X⟩
    clear K6
    go_wp2_with fail
    go_ret
    exact ⟨rfl, unhide X⟩
  · go_wp2_with fail
    go_at_call 51
    refine (unhide K4).mono ?_
    rintro e w3 ⟨rfl, K5, _⟩
    have K6 := K5 (by decide)
    clear K4 K5
    go_wp2_with fail
    go_ret
    obtain ⟨e7, X⟩ := unhide K6
    subst e7
    exact ⟨rfl, X⟩

theorem rformat_any (P : Nat → Int) (G : Geo) (dg : Nat) (S : Nat → Prop) (D : Dev) (w : World) (hP : PG P G) (hD : Rv w S dg D) (bd : D.blk = G.blk) (nd : D.n = G.n) :
    Calls Tryz.prog 13 #[.pointer (some ⟨dg, 0, none⟩), Pv P] w fun e w' => e = .returned (.int .i64 (runE (whS G hd1) D)) ∧ ∃ S', Rv w' S' dg (runD (whS G hd1) D) ∧ Nx S w S' w' := by
  refine rformat_walk dg P G.blk D.wE (runE (whS G hd1) D) (fun w' => ∃ S', Rv w' S' dg (runD (whS G hd1) D) ∧ Nx S w S' w') w hP.p0 D.wE_two (fun u hu => fit_good P G dg S D u hP (hD.below hu) bd nd) (fun u hu => ?_)
  refine (rwh_chain dg S D G hd1 w hD hP.ok bd nd (hd1_ok hP.ok) _ rfl u hu).mono ?_
  rintro e u1 ⟨a, c, rfl, X⟩
  refine ⟨a, c, rfl, (unhide X).mono ?_⟩
  rintro e u2 ⟨rfl, X7, X0⟩
  exact ⟨rfl, fun h => ⟨(unhide (X7 h)).1, (unhide (X7 h)).2.2⟩, fun h => X0 h⟩

end Go.Proofs.YtadnlljknocbbaaGreatDoor

/- The document's Open where device and plan don't go together. -/
namespace Go.Proofs.YtadnlljknocbbaaGreatDoor
open Go.RowKit Go.Shelf Go.Maps
set_option linter.unusedVariables false
set_option maxRecDepth 100000

theorem ropen_err (x : Option Addr) (P : Nat → Int) (E : Int) (hE : E ≠ 0) (w : World) (K0 : ∀ u, Below w.heap.size w u → Calls Tryz.prog 49 #[.pointer x, Pv P] u fun e w' => e = .returned (.int .i64 E) ∧ Below u.heap.size u w') :
    Calls Tryz.prog 14 #[.pointer x, Pv P] w fun e w' => e = .returned (.tuple #[.pointer none, .int .i64 E]) ∧ Below w.heap.size w w' := by
  have HK := hide (Kp.start w P)
  have K := hide K0
  have d1 : (E != 0) = true := by simpa using hE
  clear K0 hE
  obtain ⟨f0, f1, f2, f3, f4, f5, f6, f7, f8, f9, f10, f11⟩ := (unhide HK).cells
  go_enter Tryz.func14, Tryz.ntmps14
  go_wp2_with fail
  go_at_call 49
  refine (unhide K _ (unhide HK).2).mono ?_
  rintro e w1 ⟨rfl, hb⟩
  have B := hide ((unhide HK).2.trans (hb.mono (unhide HK).2.size))
  clear K hb f0 f1 f2 f3 f4 f5 f6 f7 f8 f9 f10 f11 HK
  go_wp2_with fail
  go_ret2
  exact ⟨rfl, unhide B⟩

end Go.Proofs.YtadnlljknocbbaaGreatDoor

/- The document's Parse: what holds in its loops. -/
namespace Go.Proofs.YtadnlljknocbbaaGreatDoor
open Go.RowKit Go.Shelf
set_option linter.unusedVariables false

/-- The blocks that are handed in: a list of rows. -/
structure Bks (w : World) (kb n blk : Nat) (X : Nat → Option Addr × Nat) (rd : Nat → List Int) : Prop where
  lt : kb < w.heap.size
  cel : ∀ j, j < n → w.cell? ⟨kb, j, none⟩ = some (.slice (X j).1 blk (X j).2)
  row : ∀ j, j < n → Row w.heap.size w (X j).1 blk (X j).2 (rd j)

theorem Bks.below {w u : World} {kb n blk : Nat} {X : Nat → Option Addr × Nat} {rd : Nat → List Int} (h : Bks w kb n blk X rd) (hb : Below w.heap.size w u) : Bks u kb n blk X rd :=
  ⟨Nat.lt_of_lt_of_le h.lt hb.size, fun j hj => (hb.cell (p := ⟨kb, j, none⟩) h.lt).trans (h.cel j hj), fun j hj => (h.row j hj).below hb hb.size⟩

/-- What is pending so far: all of it was made since w0. -/
structure PA (w0 : World) (G : Geo) (u : World) (v : Value) (V : List Wr) (Q : Nat → Option (List Int)) : Prop where
  lw : Lw w0.heap.size u v V
  row : ∀ y ∈ V, Own w0.heap.size u y.da y.dl y.dc y.z ∧ (∀ z ∈ y.z, 0 ≤ z ∧ z ≤ 255)
  is : wl V = pendW G Q
  nb : ∀ y ∈ V, 0 ≤ y.b ∧ y.dl = G.blk
  bel : Below w0.heap.size w0 u

theorem PA.later {w0 : World} {G : Geo} {u u' : World} {v : Value} {V : List Wr} {Q : Nat → Option (List Int)} (h : PA w0 G u v V Q) (hb : Below u.heap.size u u') : PA w0 G u' v V Q :=
  ⟨h.lw.below hb, fun y hy => ⟨(h.row y hy).1.below hb (Nat.le_refl _), (h.row y hy).2⟩, h.is, h.nb, h.bel.trans (hb.mono h.bel.size)⟩

theorem pendW_none (G : Geo) : pendW G (fun _ => none) = [] := by
  unfold pendW pendL
  simp

theorem PA.start (w0 : World) (G : Geo) : PA w0 G w0 (.slice none 0 0) [] (fun _ => none) :=
  ⟨Lw.nil _ _, fun y hy => by simp at hy, by rw [pendW_none]; rfl, fun y hy => by simp at hy, Below.refl _ _⟩

theorem Lw.base {B B' : Nat} {u : World} {v : Value} {V : List Wr} (h : Lw B u v V) (hb : B' ≤ B) : Lw B' u v V := ⟨h.1, by
  rcases h.2 with x | ⟨g, cap, cur, y1, y2, y3⟩
  · exact .inl x
  · exact .inr ⟨g, cap, cur, y1, by omega, y3⟩⟩

theorem PA.len {w0 : World} {G : Geo} {u : World} {v : Value} {V : List Wr} {Q : Nat → Option (List Int)} (h : PA w0 G u v V Q) (hG : G.Ok) : V.length ≤ 4096 := by
  rw [← wl_len, h.is, pendW_len]
  exact Nat.le_trans (pendL_len G Q) hG.n2

theorem PA.has {w0 : World} {G : Geo} {u : World} {v : Value} {V : List Wr} {Q : Nat → Option (List Int)} (h : PA w0 G u v V Q) (hG : G.Ok) : ∃ a c, v = .slice a V.length c ∧ WHas u a V.length V := by
  obtain ⟨a, c, e, h1, h2⟩ := h.lw.shape
  subst e
  have hbd := size_bd hG.size
  refine ⟨a, c, rfl, rfl, fun hp => ?_, fun j hj => ?_⟩
  · obtain ⟨_, k, e, _, hk, hc⟩ := h.lw.cel hp
    refine ⟨k, 0, e, hk, fun j hj => ?_⟩
    obtain ⟨c1, c2⟩ := hc j hj
    rw [Nat.zero_add]
    exact ⟨c1, c2⟩
  · obtain ⟨o, z⟩ := h.row _ (wat_mem hj)
    have := (h.nb _ (wat_mem hj)).2
    exact own_row9 o z (by omega)

/-- Noted. -/
theorem PA.note {w0 : World} {G : Geo} {u : World} {v : Value} {V : List Wr} {Q : Nat → Option (List Int)} (h : PA w0 G u v V Q) (hG : G.Ok) (x : Wr) (hx : Own w0.heap.size u x.da x.dl x.dc x.z) (hz : ∀ z ∈ x.z, 0 ≤ z ∧ z ≤ 255) (hb : 0 ≤ x.b) (hn : x.b.toNat < G.n) (hl : x.dl = G.blk) :
    Calls Tryz.prog 61 #[v, .agg #[.int .i64 x.b, .slice x.da x.dl x.dc]] u fun e w' => ∃ v', e = .returned v' ∧ Hid ((∃ V', PA w0 G w' v' V' (fun j => if j = x.b.toNat then some x.z else Q j)) ∧ Below u.heap.size u w') := by
  obtain ⟨a, c, rfl, hW⟩ := h.has hG
  have hlen := h.len hG
  refine (noted_any a V.length c V x u hW (by omega)).mono ?_
  rintro e w' ⟨v', rfl, hI⟩
  obtain ⟨l, b⟩ := unhide hI
  refine ⟨v', rfl, ⟨notG x false V, l.base h.bel.size, fun y hy => ?_, noted_pend h.is (fun y hy => (h.nb y hy).1) hb hn, fun y hy => ?_, h.bel.trans (b.mono h.bel.size)⟩, b⟩
  · rcases notG_mem hy with rfl | hy
    · exact ⟨hx.below b (Nat.le_refl _), hz⟩
    · exact ⟨(h.row y hy).1.below b (Nat.le_refl _), (h.row y hy).2⟩
  · rcases notG_mem hy with rfl | hy
    · exact ⟨hb, hl⟩
    · exact h.nb y hy

/-- The numbers of the parts so far. -/
def SQ (w0 u : World) (sv : Value) (sq : List Int) : Prop := u.ownsRow w0.heap.size 3 1 sv sq.length (sq.map (Value.int .i64))

theorem SQ.kept {w0 u u' : World} {sv : Value} {sq : List Int} (h : SQ w0 u sv sq) (hk : ∀ k, sv.ownBlock = some k → u'.heap[k]? = u.heap[k]?) : SQ w0 u' sv sq := by
  obtain ⟨h1, h2⟩ := h
  refine ⟨h1, ?_⟩
  rcases h2 with h2 | ⟨g, cap, cur, rfl, hb, hg, r⟩
  · exact .inl h2
  · exact .inr ⟨g, cap, cur, rfl, hb, (hk g rfl).trans hg, r⟩

theorem SQ.blk {w0 u : World} {sv : Value} {sq : List Int} (h : SQ w0 u sv sq) {k : Nat} (hk : sv.ownBlock = some k) : w0.heap.size ≤ k ∧ ∃ cur, u.heap[k]? = some (.cells cur 3 (0, 0)) := by
  obtain ⟨h1, h2⟩ := h
  rcases h2 with ⟨rfl, _⟩ | ⟨g, cap, cur, rfl, hb, hg, r⟩
  · simp [Value.ownBlock] at hk
  · simp [Value.ownBlock] at hk
    subst hk
    exact ⟨hb, cur, hg⟩

theorem SQ.below {w0 u u' : World} {sv : Value} {sq : List Int} (h : SQ w0 u sv sq) (hb : Below u.heap.size u u') : SQ w0 u' sv sq := h.kept (fun k e => by
  obtain ⟨_, cur, h2⟩ := h.blk e
  exact hb.block k (Array.getElem?_eq_some_iff.1 h2).1)

theorem SQ.nil (w0 u : World) : SQ w0 u (.slice none 0 0) [] := World.ownsRow_nil u _ _ 1

theorem SQ.shape {w0 u : World} {sv : Value} {sq : List Int} (h : SQ w0 u sv sq) : ∃ a c, sv = .slice a sq.length c ∧ IHas u a sq.length sq := by
  obtain ⟨a, c, e, hI⟩ := ihas_of_row h
  exact ⟨a, c, e, hI⟩

/-- append(seqs, seq). -/
theorem SQ.app {w0 u : World} {sv : Value} {sq : List Int} (h : SQ w0 u sv sq) (hB : w0.heap.size ≤ u.heap.size) (z : Int) (hl : sq.length ≤ 65536) :
    ∃ sv' u', (∀ ty, (Builtin.append_ #[40, 40] ty #[sv, .slice (some ⟨u.heap.size, 0, none⟩) 1 1]).run Tryz.prog (u.alloc (.cells #[.int .i64 z] 3)) = .ok sv' u') ∧ SQ w0 u' sv' (sq ++ [z]) ∧ Below w0.heap.size u u' ∧ ∀ (G : Geo) (v : Value) (V : List Wr) (Q : Nat → Option (List Int)), PA w0 G u v V Q → PA w0 G u' v V Q := by
  obtain ⟨i0, hi, hz0, hz1, hz2⟩ := info_parts info3
  have hb : Below u.heap.size u (u.alloc (.cells #[.int .i64 z] 3)) := (Below.refl _ _).alloc (Nat.le_refl _) _
  have h1 := h.below hb
  have hnw := Bl.new u #[.int .i64 z] 3
  obtain ⟨v', w', hr, ho, hg, _⟩ := run_append_own (P := Tryz.prog) (u.alloc (.cells #[.int .i64 z] 3)) w0.heap.size 40 0 3 i0 (.int .i64 0) 1 8 Tryz.underlying40 hi hz0 hz1 hz2 rfl (by decide) sv sq.length _ h1 ⟨u.heap.size, 0, none⟩ 1 1 ([z].map (Value.int .i64)) rfl (by
      intro j y hj
      rw [World.add_zero_spot, Nat.zero_add]
      refine hnw.cell j y ?_
      simpa using hj) (oneCell_ints [z]) (by unfold maxLen; omega) (by omega) (Nat.le_trans hB hb.size)
  have hrow : ∀ k, k < u.heap.size → (∀ (t : TypeId) (c : Array Value) (q : Nat × Nat), u.heap[k]? = some (Obj.cells c t q) → t ≠ 3) → w'.heap[k]? = u.heap[k]? := fun k hk ht => by
    refine (hg.block k (Nat.lt_of_lt_of_le hk hb.size) (fun e => ?_)).trans (hb.block k hk)
    obtain ⟨_, cur, hc⟩ := h.blk e.symm
    exact ht _ _ _ hc rfl
  have hB' : Below w0.heap.size u w' := (hb.mono hB).grown hg (Nat.le_trans hB hb.size) (fun k e => (h.blk e).1)
  refine ⟨v', w', fun ty => hr, ?_, hB', fun G v V Q hp => ⟨ownsRow_other hp.lw (fun k e => ?_), fun y hy => ⟨(hp.row y hy).1.kept (fun g e => ?_), (hp.row y hy).2⟩, hp.is, hp.nb, hp.bel.trans hB'⟩⟩
  · unfold SQ
    rw [List.map_append, List.length_append]
    exact ho
  · obtain ⟨_, cur, hc⟩ := ownsRow_blk2 hp.lw e
    exact hrow k (Array.getElem?_eq_some_iff.1 hc).1 (fun t c q hh => by rw [hc] at hh; cases hh; decide)
  · obtain ⟨l1, l2, cur, l3⟩ := (hp.row y hy).1.lt e
    exact hrow g l1 (fun t c q hh => by rw [l3] at hh; cases hh; decide)

/-- One write more of a part. -/
theorem setW_part {G : Geo} {rd : Nat → List Int} {a i : Nat} (Q : Nat → Option (List Int)) (hi : i < (dsL (rd (G.ring a))).length) :
    setW Q ((partW G rd a).take (i + 1)) = fun j => if j = ((dsL (rd (G.ring a)))[i]?.getD 0).toNat then some (rd (G.ring (a + 1 + i))) else setW Q ((partW G rd a).take i) j := by
  have e : (partW G rd a)[i]? = some (((dsL (rd (G.ring a)))[i]?.getD 0).toNat, rd (G.ring (a + 1 + i))) := by
    unfold partW
    rw [List.getElem?_mapIdx, List.getElem?_eq_getElem hi]
    rfl
  rw [List.take_add_one, e, setW_append]
  rfl

theorem partW_len (G : Geo) (rd : Nat → List Int) (a : Nat) : (partW G rd a).length = (dsL (rd (G.ring a))).length := by simp [partW]

/-- The numbers of a list that are sound and no two the same, up to i. -/
def Upto (G : Geo) (l : List Int) (i : Nat) : Prop := (∀ m, m < i → (G.ib : Int) ≤ l[m]?.getD 0 ∧ l[m]?.getD 0 < G.n) ∧ ∀ m k, m < i → k < m → l[k]?.getD 0 ≠ l[m]?.getD 0

theorem upto_blk {G : Geo} {l : List Int} : Upto G l l.length ↔ blkE G l = 0 := by
  unfold blkE
  constructor
  · rintro ⟨h1, h2⟩
    rw [if_pos, if_pos]
    · rw [List.nodup_iff_pairwise_ne, List.pairwise_iff_getElem]
      intro i j hi hj hij
      have := h2 j i hj hij
      rwa [List.getElem?_eq_getElem hi, List.getElem?_eq_getElem hj] at this
    · rw [List.all_eq_true]
      intro b hb
      obtain ⟨m, hm, rfl⟩ := List.getElem_of_mem hb
      have := h1 m hm
      rw [List.getElem?_eq_getElem hm] at this
      exact decide_eq_true this
  · intro h
    split at h
    · rename_i ha
      split at h
      · rename_i hn
        rw [List.all_eq_true] at ha
        rw [List.nodup_iff_pairwise_ne, List.pairwise_iff_getElem] at hn
        refine ⟨fun m hm => ?_, fun m k hm hk => ?_⟩
        · rw [List.getElem?_eq_getElem hm]
          exact of_decide_eq_true (ha _ (List.getElem_mem hm))
        · rw [List.getElem?_eq_getElem hm, List.getElem?_eq_getElem (show k < l.length by omega)]
          exact hn k m (by omega) hm hk
      · exact absurd h (by decide)
    · exact absurd h (by decide)

theorem Upto.next {G : Geo} {l : List Int} {i : Nat} (h : Upto G l i) (h1 : (G.ib : Int) ≤ l[i]?.getD 0 ∧ l[i]?.getD 0 < G.n) (h2 : ∀ k, k < i → l[k]?.getD 0 ≠ l[i]?.getD 0) : Upto G l (i + 1) := by
  refine ⟨fun m hm => ?_, fun m k hm hk => ?_⟩
  · by_cases e : m = i
    · rw [e]; exact h1
    · exact h.1 m (by omega)
  · by_cases e : m = i
    · rw [e]; exact h2 k (by omega)
    · exact h.2 m k (by omega) hk

end Go.Proofs.YtadnlljknocbbaaGreatDoor

