/- Joined: RAlike, WApply, WApply2, WRefl. -/
import Derived.Test.YtadnlljknocbbaaGreatDoorWoJ20
import Derived.Test.YtadnlljknocbbaaGreatDoorWoJ14
import Derived.Test.YtadnlljknocbbaaGreatDoorWoJ19
import Derived.Test.YtadnlljknocbbaaGreatDoorWoJ4
import Derived.Test.YtadnlljknocbbaaGreatDoorWoJ3
import Derived.Test.YtadnlljknocbbaaGreatDoorWoJ38
/- The contract of alike: the program's device and the document's are the same. -/
namespace Go.Proofs.YtadnlljknocbbaaGreatDoor
open Go.RowKit Go.Shelf
set_option linter.unusedVariables false
set_option maxRecDepth 100000

theorem wait_len (D : Dev) : ∀ k, (D.waitTo k).length ≤ 2 * k
  | 0 => by simp [Dev.waitTo]
  | k + 1 => by
    have := wait_len D k
    rw [Dev.waitTo, List.length_append]
    split
    · simp; omega
    · simp; omega

/-- Both devices, in a world. -/
structure Bo (w : World) (Sd Sr : Nat → Prop) (dg rg : Nat) (D : Dev) (u : World) : Prop where
  dd : Dv u Sd dg D
  rr : Rv u Sr rg D
  bel : Below w.heap.size w u

theorem Bo.later {w : World} {Sd Sr : Nat → Prop} {dg rg : Nat} {D : Dev} {u u' : World} (h : Bo w Sd Sr dg rg D u) (hb : Below u.heap.size u u') : Bo w Sd Sr dg rg D u' := ⟨h.dd.below hb, h.rr.below hb, h.bel.trans (hb.mono h.bel.size)⟩

/-- Writes, Dead, Waiting. -/
theorem bo_first {w : World} {Sd Sr : Nat → Prop} {dg rg : Nat} {D : Dev} {u : World} (h : Bo w Sd Sr dg rg D u) :
    Calls Tryz.prog 74 #[.pointer (some ⟨dg, 0, none⟩)] u fun e u1 => (e = .returned (.int .i64 D.wr) ∧ u = u1) ∧ Hid (
      Calls Tryz.prog 75 #[.pointer (some ⟨rg, 0, none⟩)] u fun e u2 => (e = .returned (.int .i64 D.wr) ∧ u = u2) ∧ Hid (
        Calls Tryz.prog 41 #[.pointer (some ⟨dg, 0, none⟩)] u fun e u3 => (e = .returned (.bool D.dead) ∧ u = u3) ∧ Hid (
          Calls Tryz.prog 76 #[.pointer (some ⟨rg, 0, none⟩)] u fun e u4 => (e = .returned (.bool D.dead) ∧ u = u4) ∧ Hid (
            Calls Tryz.prog 78 #[.pointer (some ⟨dg, 0, none⟩)] u fun e u5 => ∃ a1 n c1, e = .returned (.slice a1 n c1) ∧ Hid (
              Calls Tryz.prog 65 #[.pointer (some ⟨rg, 0, none⟩)] u5 fun e u6 => ∃ a2 c2, e = .returned (.slice a2 n c2) ∧ Hid (
                Calls Tryz.prog 77 #[.slice a1 n c1, .slice a2 n c2] u6 fun e u7 => e = .returned (.bool true) ∧ Hid (Bo w Sd Sr dg rg D u7))))))) := by
  obtain ⟨md, hD⟩ := h.dd
  obtain ⟨c0, c1, c2, c3, c4, c5⟩ := hD.cells
  refine (writes_dev dg u D.wr c5).mono ?_
  rintro e u1 ⟨rfl, rfl⟩
  refine ⟨⟨rfl, rfl⟩, (rwrites_dev rg Sr D u h.rr).mono ?_⟩
  rintro e u2 ⟨rfl, rfl⟩
  refine ⟨⟨rfl, rfl⟩, (dead_dev dg u D.dead c4).mono ?_⟩
  rintro e u3 ⟨rfl, rfl⟩
  refine ⟨⟨rfl, rfl⟩, (rdead_dev rg Sr D u h.rr).mono ?_⟩
  rintro e u4 ⟨rfl, rfl⟩
  refine ⟨⟨rfl, rfl⟩, (waiting_any dg Sd D u h.dd).mono ?_⟩
  rintro e u5 ⟨a1, c1', rfl, o1, b5⟩
  have h5 := h.later b5
  refine ⟨a1, _, c1', rfl, (rwaiting rg Sr D u5 h5.rr).mono ?_⟩
  rintro e u6 ⟨a2, c2', rfl, o2, b6⟩
  have h6 := h5.later b6
  have hl : D.waitL.length ≤ 140737488351232 := by
    have := wait_len D D.n
    have := h.dd.ok.n2
    show (D.waitTo D.n).length ≤ _
    omega
  refine ⟨a2, c2', rfl, (sameInts_any a1 a2 _ c1' c2' D.waitL u6 (iown_has9 (o1.below b6 (Nat.le_refl _))) (iown_has9 o2) hl).mono ?_⟩
  rintro e u7 ⟨rfl, q, rfl⟩
  exact ⟨rfl, h6.later (below_drewN (Below.refl _ _) q)⟩

/-- One block. -/
theorem bo_round {w : World} {Sd Sr : Nat → Prop} {dg rg : Nat} {D : Dev} {u : World} (h : Bo w Sd Sr dg rg D u) (hd : D.dead = false) {k : Nat} (hk : k < D.n) :
    Calls Tryz.prog 80 #[.pointer (some ⟨dg, 0, none⟩), .int .i64 (k : Int)] u fun e u1 => ∃ a1 n c1, e = .returned (.tuple #[.slice a1 n c1, .int .i64 0]) ∧ Hid (
      Calls Tryz.prog 53 #[.pointer (some ⟨rg, 0, none⟩), .int .i64 (k : Int)] u1 fun e u2 => ∃ a2 c2, e = .returned (.tuple #[.slice a2 n c2, .int .i64 0]) ∧ Hid (
        Calls Tryz.prog 45 #[.slice a1 n c1, .slice a2 n c2] u2 fun e u3 => e = .returned (.bool true) ∧ u2 = u3 ∧ Hid (Bo w Sd Sr dg rg D u2))) := by
  have hl := (h.dd.rd_byt hk).1
  refine (read_ok dg k Sd D u h.dd hd hk).mono ?_
  rintro e u1 ⟨rfl, B1, b1⟩
  have h1 := h.later b1
  refine ⟨_, _, _, rfl, (rread_ok rg k Sr D u1 h1.rr hd hk).mono ?_⟩
  rintro e u2 ⟨a2, c2, rfl, H2, b2⟩
  refine ⟨a2, c2, rfl, (same_true _ _ _ _ c2 (D.rd k) u2 ((B1.below b2 B1.lt).has hl) H2).mono ?_⟩
  rintro e u3 ⟨rfl, rfl⟩
  exact ⟨rfl, rfl, h1.later b2⟩

set_option maxHeartbeats 2000000 in
theorem alike_any (dg rg : Nat) (Sd Sr : Nat → Prop) (D : Dev) (w : World) (hD : Dv w Sd dg D) (hR : Rv w Sr rg D) :
    Calls Tryz.prog 33 #[.pointer (some ⟨dg, 0, none⟩), .pointer (some ⟨rg, 0, none⟩)] w fun e w' => e = .returned (.bool true) ∧ Below w.heap.size w w' := by
  have B0 : Bo w Sd Sr dg rg D w := ⟨hD, hR, Below.refl _ _⟩
  have K1 := hide (bo_first B0)
  have KB : Hid (∀ u, Bo w Sd Sr dg rg D u → Calls Tryz.prog 79 #[.pointer (some ⟨rg, 0, none⟩)] u fun e w' => e = .returned (.int .i64 (D.n : Int)) ∧ u = w') := fun u h => rblocks_dev rg Sr D u h.rr
  have KD : Hid (∀ u, Bo w Sd Sr dg rg D u → Calls Tryz.prog 76 #[.pointer (some ⟨rg, 0, none⟩)] u fun e w' => e = .returned (.bool D.dead) ∧ u = w') := fun u h => rdead_dev rg Sr D u h.rr
  have KR : Hid (D.dead = false → ∀ u k, Bo w Sd Sr dg rg D u → k < D.n → _) := fun hd u k h hk => bo_round h hd hk
  have KE : Hid (∀ u, Bo w Sd Sr dg rg D u → Below w.heap.size w u) := fun u h => h.bel
  have hn := hD.ok.n2
  have q1 : (D.dead != D.dead) = false := by simp
  have q2 : (D.wr != D.wr) = false := by simp
  clear hD hR B0
  generalize hdd : D.dead = dd at *
  generalize D.wr = wr0 at *
  generalize D.n = nn at *
  go_enter Tryz.func33, Tryz.ntmps33
  go_wp2_with fail
  go_at_call 74
  refine (unhide K1).mono ?_
  rintro e u1 ⟨⟨rfl, rfl⟩, K2⟩
  clear K1
  go_wp2_with fail
  go_at_call 75
  refine (unhide K2).mono ?_
  rintro e u2 ⟨⟨rfl, rfl⟩, K3⟩
  clear K2
  go_wp2_with fail
  go_at_call 41
  refine (unhide K3).mono ?_
  rintro e u3 ⟨⟨rfl, rfl⟩, K4⟩
  clear K3
  go_wp2_with fail
  go_at_call 76
  refine (unhide K4).mono ?_
  rintro e u4 ⟨⟨rfl, rfl⟩, K5⟩
  clear K4
  go_wp2_with fail
  go_at_call 78
  refine (unhide K5).mono ?_
  rintro e u5 ⟨a1, n1, c1, rfl, K6⟩
  clear K5
  go_wp2_with fail
  go_at_call 65
  refine (unhide K6).mono ?_
  rintro e u6 ⟨a2, c2, rfl, K7⟩
  clear K6
  go_wp2_with fail
  go_at_call 77
  refine (unhide K7).mono ?_
  rintro e u7 ⟨rfl, T7⟩
  clear K7
  go_upto_region 4 with fail
  go_loopw [5] (fun i wr => ∃ k : Nat, k ≤ nn ∧ i = .int .i64 (k : Int) ∧ Hid (Bo w Sd Sr dg rg D wr)) (fun i _ => nn - (intOf i).toNat)
  case atStart => exact ⟨0, Nat.zero_le _, rfl, T7⟩
  case round =>
    obtain ⟨k, hk, rfl, hJ⟩ := hrel
    clear T7
    have C := hide (unhide KB _ (unhide hJ))
    have CD := hide (unhide KD _ (unhide hJ))
    by_cases hlt : k < nn
    · have i1 : (k : Int) < (nn : Int) := by omega
      cases dd with
      | false =>
        have CR := hide (unhide KR rfl _ _ (unhide hJ) hlt)
        clear KB KD KR KE hJ
        go_wp2_with fail
        go_at_call 79
        refine (unhide C).mono ?_
        rintro e v1 ⟨rfl, rfl⟩
        clear C
        go_wp2_with fail
        go_at_call 76
        refine (unhide CD).mono ?_
        rintro e v2 ⟨rfl, rfl⟩
        clear CD
        go_wp2_with fail
        go_at_call 80
        refine (unhide CR).mono ?_
        rintro e v3 ⟨b1, m1, d1, rfl, CS⟩
        clear CR
        go_wp2_with fail
        go_at_call 53
        refine (unhide CS).mono ?_
        rintro e v4 ⟨b2, d2, rfl, CT⟩
        clear CS
        go_wp2_with fail
        go_at_call 45
        refine (unhide CT).mono ?_
        rintro e v5 ⟨rfl, rfl, T8⟩
        clear CT
        go_wp2_with fail
        exact ⟨⟨k + 1, by omega, by go_num, T8⟩, by simp [intOf]; omega⟩
      | true =>
        have Z := hide (unhide KE _ (unhide hJ))
        clear KB KD KR KE hJ
        go_wp2_with fail
        go_at_call 79
        refine (unhide C).mono ?_
        rintro e v1 ⟨rfl, rfl⟩
        clear C
        go_wp2_with fail
        go_at_call 76
        refine (unhide CD).mono ?_
        rintro e v2 ⟨rfl, rfl⟩
        clear CD
        go_wp2_with fail
        go_ret
        exact ⟨rfl, unhide Z⟩
    · have i1 : ¬ (k : Int) < (nn : Int) := by omega
      have Z := hide (unhide KE _ (unhide hJ))
      clear KB KD KR KE hJ CD
      go_wp2_with fail
      go_at_call 79
      refine (unhide C).mono ?_
      rintro e v1 ⟨rfl, rfl⟩
      clear C
      go_wp2_with fail
      go_ret
      exact ⟨rfl, unhide Z⟩

end Go.Proofs.YtadnlljknocbbaaGreatDoor

/- The contracts of apply and Apply. -/
namespace Go.Proofs.YtadnlljknocbbaaGreatDoor
open Go.RowKit Go.Shelf Go.Maps
set_option linter.unusedVariables false
set_option maxRecDepth 100000

theorem homeS_len : ∀ W : Wl, (homeS W).length = W.length
  | [] => rfl
  | x :: r => by simp [homeS, homeS_len r]

/-- In apply's loop: k blocks are at their places. -/
def AJ (w : World) (S : Nat → Prop) (g dg : Nat) (P : Nat → Int) (G : Geo) (L : Lg) (a : Option Addr) (len : Nat) (V : List Wr) (rs : List Stp) (eE : Int) (eD : Dev) (k : Nat) (u : World) : Prop :=
  ∃ Su D, Lv u Su g dg P G L D ∧ Nx S w Su u ∧ WHas u a len V ∧ WOut Su a len V ∧ runE (homeS ((wl V).drop k) ++ rs) D = eE ∧ runD (homeS ((wl V).drop k) ++ rs) D = eD

/-- Write of a block of the list to its place. -/
theorem lv_write {w : World} {S : Nat → Prop} {g dg : Nat} {P : Nat → Int} {G : Geo} {L : Lg} {D : Dev} {u : World} {Su : Nat → Prop} (h : Lv u Su g dg P G L D) {a : Option Addr} {len : Nat} {V : List Wr} (hV : WHas u a len V) (hO : WOut Su a len V) {k : Nat} (hk : k < len) (hd : (wat V k).dl = G.blk) (i : Nat) (hi : i < G.n) :
    Calls Tryz.prog 101 #[.pointer (some ⟨dg, 0, none⟩), .int .i64 (i : Int), .slice (wat V k).da (wat V k).dl (wat V k).dc] u fun e u' => e = .returned (.int .i64 D.wE) ∧ ∃ S', Lv u' S' g dg P G L (D.wD i (wat V k).z) ∧ Nx Su u S' u' := by
  obtain ⟨Sl, Sd, m, h1⟩ := h
  have hr := hV.row k hk
  have ho : Out Sd (wat V k).dl (wat V k).da := fun hp x e hs => hO.2 k hk hp x e ((h1.all _).2 (.inr hs))
  rw [hd] at hr ho ⊢
  have := write_any dg i (wat V k).da (wat V k).dc (wat V k).z Sd D u h1.dd (by rw [h1.nd]; exact hi) (by rw [h1.bd]; exact hr) (by rw [h1.bd]; exact ho)
  rw [h1.bd] at this
  refine this.mono ?_
  rintro e u' ⟨rfl, S', x1, x2⟩
  obtain ⟨y1, y2⟩ := h1.dev x1 x2 (Dev.wD_n D i _)
  exact ⟨rfl, _, y1.lv, y2⟩

/-- One round, in the world in which the copy stands. -/
theorem AJ.step {w : World} {S : Nat → Prop} {g dg : Nat} {P : Nat → Int} {G : Geo} {L : Lg} {a : Option Addr} {len : Nat} {V : List Wr} {rs : List Stp} {eE : Int} {eD : Dev} {k : Nat} {u : World} (h : AJ w S g dg P G L a len V rs eE eD k u) (hk : k < len) (hd : ∀ x ∈ V, x.dl = G.blk) (b : Nat) (hb : (wat V k).b = (b : Int)) (hi : b < G.n) (u1 : World) (hu : Below u.heap.size u u1) :
    u1.cell? ⟨g, 0, none⟩ = some (.pointer (some ⟨dg, 0, none⟩)) ∧
    Hid (Calls Tryz.prog 101 #[.pointer (some ⟨dg, 0, none⟩), .int .i64 (b : Int), .slice (wat V k).da (wat V k).dl (wat V k).dc] u1 fun e u' => ∃ q : Int, e = .returned (.int .i64 q) ∧ (q = 0 ∨ q = 7) ∧ Hid ((q = 0 → AJ w S g dg P G L a len V rs eE eD (k + 1) u') ∧ (q = 7 → eE = 7 ∧ ∃ S', Lv u' S' g dg P G L eD ∧ Nx S w S' u'))) := by
  obtain ⟨Su, D, h1, h2, h3, h4, h5, h6⟩ := h
  have hln := h3.ln
  have e1 : homeS ((wl V).drop k) ++ rs = .w b (wat V k).z :: (homeS ((wl V).drop (k + 1)) ++ rs) := by
    rw [wl_drop (by omega), homeS, hb]
    simp
  rw [e1] at h5 h6
  refine ⟨?_, ?_⟩
  · obtain ⟨_, _, _, x⟩ := h1.below hu
    exact x.ll.cells.1
  · refine (lv_write (w := w) (S := S) (h1.below hu) (h3.later hu) h4 hk (hd _ (wat_mem (by omega))) b hi).mono ?_
    rintro e u' ⟨rfl, S', l1, n1⟩
    obtain ⟨y1, y2⟩ := (h3.later hu).nx n1 h4
    refine ⟨_, rfl, D.wE_two, fun h0 => ⟨S', _, l1, (h2.below' hu).trans n1, y1, y2, ?_, ?_⟩, fun h7 => ⟨?_, S', ?_, (h2.below' hu).trans n1⟩⟩
    · rw [runE_ok h0] at h5; exact h5
    · rw [runD_ok h0] at h6; exact h6
    · rw [runE_no (by omega)] at h5; exact h5.symm
    · rw [runD_no (by omega)] at h6; rw [← h6]; exact l1

theorem freed_ok {G : Geo} (hG : G.Ok) {H : Hd} (h : H.Ok G) : (G.freed H).Ok G := by
  have h1 := hG.l1
  exact ⟨h.seq, Nat.mod_lt _ (by omega), Nat.zero_le _⟩

/-- Behind the loop: the new header settles, then nothing is pending. -/
theorem apply_tail {w : World} {S : Nat → Prop} {g dg : Nat} {P : Nat → Int} {G : Geo} {L : Lg} {D : Dev} {u : World} {Su : Nat → Prop} (h : Lv u Su g dg P G L D) (hx : Nx S w Su u) {eE : Int} {eD : Dev} (e1 : runE (stlS G (G.freed L.h)) D = eE) (e2 : runD (stlS G (G.freed L.h)) D = eD) (u1 : World) (hu : Nx Su u Su u1) (hl : Lv u1 Su g dg P G L D) :
    Calls Tryz.prog 100 #[.pointer (some ⟨g, 0, none⟩), Hv (G.freed L.h).fn] u1 fun e u2 => e = .returned (.int .i64 eE) ∧
      (eE = 0 → ∃ mb u3, u2.cell? ⟨g, 16, none⟩ = some (.map (some mb)) ∧ Hid (∀ ty, (Builtin.clear_ #[95] ty #[.map (some mb)]).run Tryz.prog u2 = .ok (.tuple #[]) u3) ∧ Hid (∃ S', Lv u3 S' g dg P G { L with h := G.freed L.h, Q := fun _ => none } eD ∧ Nx S w S' u3)) ∧
      (eE ≠ 0 → Hid (∃ S', Lv u2 S' g dg P G L eD ∧ Nx S w S' u2)) := by
  have hG : G.Ok := by obtain ⟨_, _, _, x⟩ := h; exact x.ll.pg.ok
  have hh : L.h.Ok G := by obtain ⟨_, _, _, x⟩ := h; exact x.ll.hok
  refine (settle_lj g dg Su P G L D (G.freed L.h) (freed_ok hG hh) u1 hl none 0 [] (WHas.none _) (WOut.none _)).mono ?_
  rintro e u2 ⟨rfl, J⟩
  rw [e1, e2] at J
  refine ⟨by rw [e1], fun h0 => ?_, fun h0 => ?_⟩
  · rw [if_pos h0] at J
    obtain ⟨Sl, m, l1, l2⟩ := (unhide J).own
    obtain ⟨u3, r3, l3, n3⟩ := l1.clr
    obtain ⟨S', l4, n4⟩ := (l2 _ _ _ _ l3 n3).fin
    exact ⟨m.mb, u3, l1.cells.2.2.2.2.2.1, r3, S', l4, (hx.trans hu).trans n4⟩
  · rw [if_neg h0] at J
    obtain ⟨S', l4, n4⟩ := (unhide J).fin
    exact ⟨S', l4, (hx.trans hu).trans n4⟩

end Go.Proofs.YtadnlljknocbbaaGreatDoor

/- The contracts of apply and Apply: the walks. -/
namespace Go.Proofs.YtadnlljknocbbaaGreatDoor
open Go.RowKit Go.Shelf Go.Maps
set_option linter.unusedVariables false
set_option maxRecDepth 100000

theorem apl_nums {G : Geo} (hG : G.Ok) (t u : Nat) (ht : t < G.lg) (hu : u ≤ G.lg) : IntKind.i64.wrap ((t : Int) + (u : Int)) = ((t + u : Nat) : Int) ∧ ((t + u : Nat) : Int).tmod (G.lg : Int) = (((t + u) % G.lg : Nat) : Int) ∧ (G.lg : Int) ≠ 0 := by
  have h1 := hG.l1
  have h2 := hG.l2
  refine ⟨?_, rfl, by omega⟩
  rw [IntKind.wrap_i64]
  omega

theorem apply_none (g dg : Nat) (S : Nat → Prop) (P : Nat → Int) (G : Geo) (L : Lg) (D : Dev) (w : World) (h : Lv w S g dg P G L D) (h0 : L.h.used = 0) :
    Calls Tryz.prog 63 #[.pointer (some ⟨g, 0, none⟩)] w fun e w' => e = .returned (.int .i64 0) ∧ w = w' := by
  have c5 : w.cell? ⟨g, 15, none⟩ = some (.int .i64 0) := by
    obtain ⟨_, _, _, x⟩ := h
    have := x.ll.cells.2.2.2.2.1
    rwa [h0] at this
  clear h h0
  go_enter Tryz.func63, Tryz.ntmps63
  go_wp2
  go_ret
  exact ⟨rfl, rfl⟩

/-- What Pending hands on to the loop. -/
theorem apply_first {w : World} {S : Nat → Prop} {g dg : Nat} {P : Nat → Int} {G : Geo} {L : Lg} {D : Dev} (h : Lv w S g dg P G L D) :
    Calls Tryz.prog 27 #[.pointer (some ⟨g, 0, none⟩)] w fun e w1 => ∃ a len c V, e = .returned (.slice a len c) ∧ len ≤ 4096 ∧ Hid ((∀ x ∈ V, x.dl = G.blk) ∧ (∀ k, k < len → ∃ b : Nat, (wat V k).b = (b : Int) ∧ b < G.n) ∧ AJ w S g dg P G L a len V (stlS G (G.freed L.h)) (runE (aplS G L) D) (runD (aplS G L) D) 0 w1) := by
  have hL := h
  obtain ⟨Sl, Sd, m, x⟩ := h
  refine (pending_any g dg Sl P G L m w x.ll).mono ?_
  rintro e w1 ⟨v, V, rfl, X⟩
  obtain ⟨g1, g2, g3, g4⟩ := unhide X
  obtain ⟨a, c, rfl, _⟩ := g1.shape
  have hh := g1.has.1
  have hlen : V.length = (pendL G L.Q).length := by rw [← wl_len, g2, pendW_len]
  refine ⟨a, V.length, c, V, rfl, ?_, fun x hx => (g3 x hx).1, fun k hk => ?_, S, D, hL.below g4, (Nx.refl S w).below' g4, hh, g1.out (fun k hs => hL.lt hs), ?_, ?_⟩
  · rw [hlen]
    exact Nat.le_trans (pendL_len G L.Q) x.ll.pg.ok.n2
  · have e1 : (wl V)[k]? = some ((wat V k).b.toNat, (wat V k).z) := by simp [wl, wat, List.getElem?_eq_getElem hk]
    rw [g2] at e1
    unfold pendW at e1
    rw [List.getElem?_map] at e1
    obtain ⟨b, hb, e2⟩ := Option.map_eq_some_iff.1 e1
    have hbn := (pendL_mem.1 (List.mem_of_getElem? hb)).1
    refine ⟨b, ?_, hbn⟩
    have e3 : b = (wat V k).b.toNat := (Prod.mk.inj e2).1
    have hnn : 0 ≤ (wat V k).b := (g3 _ (wat_mem hk)).2
    omega
  · rw [List.drop_zero, g2]; rfl
  · rw [List.drop_zero, g2]; rfl

/-- A new box beside the log, with the new header in it. -/
theorem apply_box {g dg : Nat} {P : Nat → Int} {G : Geo} {L : Lg} {D : Dev} {u : World} {Su : Nat → Prop} (h : Lv u Su g dg P G L D) (u1 : World) (hu1 : u1 = u.alloc (.cells (Hc L.h.fn) 57)) :
    u1.cell? ⟨u.heap.size, 0, none⟩ = some (.int .i64 (L.h.seq : Int)) ∧ u1.cell? ⟨u.heap.size, 1, none⟩ = some (.int .i64 (L.h.tail : Int)) ∧ u1.cell? ⟨u.heap.size, 2, none⟩ = some (.int .i64 (L.h.used : Int)) ∧ (∀ k, u1.frozen? ⟨u.heap.size, k, none⟩ = false) ∧ u1.cell? ⟨g, 4, none⟩ = some (.int .i64 (G.lg : Int)) ∧
      Hid (∀ u2, u2 = ((u1.setCell ⟨u.heap.size, 1, none⟩ (.int .i64 (((L.h.tail : Int) + (L.h.used : Int)) % (G.lg : Int)))).setCell ⟨u.heap.size, 2, none⟩ (.int .i64 0)).drew →
        Bl u2 u.heap.size (Hc (G.freed L.h).fn) 57 ∧ Lv u2 Su g dg P G L D ∧ Nx Su u Su u2) := by
  subst hu1
  have hb : Below u.heap.size u (u.alloc (.cells (Hc L.h.fn) 57)) := (Below.refl _ u).alloc (Nat.le_refl _) _
  have z := Bl.new u (Hc L.h.fn) 57
  have l1 := h.below hb
  have n1 := (Nx.refl Su u).below' hb
  have hno : ¬ Su u.heap.size := fun hs => by have := h.lt hs; omega
  have h0 : 0 < u.heap.size := by obtain ⟨_, _, _, x⟩ := h; exact x.tab.lt
  refine ⟨z.cell 0 _ rfl, z.cell 1 _ rfl, z.cell 2 _ rfl, z.free, ?_, ?_⟩
  · obtain ⟨_, _, _, x⟩ := l1
    have := x.ll.cells.2.1 3 (by omega)
    rwa [x.ll.pg.p3] at this
  · have et : ((L.h.tail : Int) + (L.h.used : Int)) % (G.lg : Int) = (((L.h.tail + L.h.used) % G.lg : Nat) : Int) := by simp
    rw [et]
    rintro u2 rfl
    have z2 := (z.set 1 (.int .i64 (((L.h.tail + L.h.used) % G.lg : Nat) : Int))).set 2 (.int .i64 0)
    have e0 : ((Hc L.h.fn).setIfInBounds 1 (.int .i64 (((L.h.tail + L.h.used) % G.lg : Nat) : Int))).setIfInBounds 2 (.int .i64 0) = Hc (G.freed L.h).fn := rfl
    rw [e0] at z2
    have hk : ∀ k, k ≠ u.heap.size → (((u.alloc (.cells (Hc L.h.fn) 57)).setCell ⟨u.heap.size, 1, none⟩ (.int .i64 (((L.h.tail + L.h.used) % G.lg : Nat) : Int))).setCell ⟨u.heap.size, 2, none⟩ (.int .i64 0)).heap[k]? = (u.alloc (.cells (Hc L.h.fn) 57)).heap[k]? := fun k hk => (Below.heap_setCell _ ⟨u.heap.size, 2, none⟩ _ k hk).trans (Below.heap_setCell _ ⟨u.heap.size, 1, none⟩ _ k hk)
    have hsz : (((u.alloc (.cells (Hc L.h.fn) 57)).setCell ⟨u.heap.size, 1, none⟩ (.int .i64 (((L.h.tail + L.h.used) % G.lg : Nat) : Int))).setCell ⟨u.heap.size, 2, none⟩ (.int .i64 0)).heap.size = (u.alloc (.cells (Hc L.h.fn) 57)).heap.size := by simp [World.setCell]
    have hn2 : Nx Su u Su (((u.alloc (.cells (Hc L.h.fn) 57)).setCell ⟨u.heap.size, 1, none⟩ (.int .i64 (((L.h.tail + L.h.used) % G.lg : Nat) : Int))).setCell ⟨u.heap.size, 2, none⟩ (.int .i64 0)) := ⟨⟨n1.fr.os, n1.fr.tape, n1.fr.output, by rw [hsz]; exact n1.fr.size, fun k hk' hs => (hk k (by omega)).trans (n1.fr.block k hk' hs)⟩, n1.sub⟩
    have hl2 : Lv (((u.alloc (.cells (Hc L.h.fn) 57)).setCell ⟨u.heap.size, 1, none⟩ (.int .i64 (((L.h.tail + L.h.used) % G.lg : Nat) : Int))).setCell ⟨u.heap.size, 2, none⟩ (.int .i64 0)) Su g dg P G L D := by
      obtain ⟨Sl, Sd, m, hl⟩ := l1
      exact (hl.keptAll (fun k hs => hk k (fun e => hno (by rw [← e]; exact hs))) (hk 0 (by omega)) (by rw [hsz]; exact Nat.le_refl _)).lv
    exact ⟨z2.drew, hl2.below ((Below.refl _ _).drew), hn2.drew⟩

set_option maxHeartbeats 4000000 in
theorem apply_some (g dg : Nat) (S : Nat → Prop) (P : Nat → Int) (G : Geo) (L : Lg) (D : Dev) (w : World) (h : Lv w S g dg P G L D) (h0 : L.h.used ≠ 0) :
    Calls Tryz.prog 63 #[.pointer (some ⟨g, 0, none⟩)] w fun e w' => e = .returned (.int .i64 (runE (aplS G L) D)) ∧ ∃ S', Lv w' S' g dg P G (if runE (aplS G L) D = 0 then { L with h := G.freed L.h, Q := fun _ => none } else L) (runD (aplS G L) D) ∧ Nx S w S' w' := by
  have K1 := hide (apply_first h)
  have c5 : w.cell? ⟨g, 15, none⟩ = some (.int .i64 (L.h.used : Int)) := by
    obtain ⟨_, _, _, x⟩ := h
    exact x.ll.cells.2.2.2.2.1
  have d5 : ((L.h.used : Int) == 0) = false := by simpa using h0
  have hG : G.Ok := by obtain ⟨_, _, _, x⟩ := h; exact x.ll.pg.ok
  have hh : L.h.Ok G := by obtain ⟨_, _, _, x⟩ := h; exact x.ll.hok
  obtain ⟨s1, s2, s3⟩ := apl_nums hG L.h.tail L.h.used hh.tail hh.used
  have KS : Hid (∀ a len V k u, AJ w S g dg P G L a len V (stlS G (G.freed L.h)) (runE (aplS G L) D) (runD (aplS G L) D) k u → k < len → (∀ x ∈ V, x.dl = G.blk) → ∀ b : Nat, (wat V k).b = (b : Int) → b < G.n → ∀ u1, Below u.heap.size u u1 → _) := fun a len V k u hA hk hd b hb hi u1 hu => hA.step hk hd b hb hi u1 hu
  have KC : Hid (∀ a len V k u, AJ w S g dg P G L a len V (stlS G (G.freed L.h)) (runE (aplS G L) D) (runD (aplS G L) D) k u → k < len → ∃ kb off, a = some ⟨kb, off, none⟩ ∧ u.cell? ⟨kb, off + k * 2, none⟩ = some (.int .i64 (wat V k).b) ∧ u.cell? ⟨kb, off + k * 2 + 1, none⟩ = some (.slice (wat V k).da (wat V k).dl (wat V k).dc)) := fun a len V k u hA hk => by
    obtain ⟨_, _, _, _, h3, _⟩ := hA
    obtain ⟨kb, off, e, _, hc⟩ := h3.cel (by omega)
    exact ⟨kb, off, e, (hc k hk).1, (hc k hk).2⟩
  have KE : Hid (∀ a len V u, AJ w S g dg P G L a len V (stlS G (G.freed L.h)) (runE (aplS G L) D) (runD (aplS G L) D) len u → ∃ Su D', Lv u Su g dg P G L D' ∧ Nx S w Su u ∧ runE (stlS G (G.freed L.h)) D' = runE (aplS G L) D ∧ runD (stlS G (G.freed L.h)) D' = runD (aplS G L) D) := fun a len V u hA => by
    obtain ⟨Su, D', h1, h2, h3, h4, h5, h6⟩ := hA
    rw [List.drop_of_length_le (by rw [wl_len, h3.ln]; omega)] at h5 h6
    exact ⟨Su, D', h1, h2, h5, h6⟩
  clear h h0 hG hh
  generalize hrE : runE (aplS G L) D = eE at *
  generalize runD (aplS G L) D = eD at *
  have hE7 : eE = 0 ∨ eE = 7 := by rw [← hrE]; exact runE_two _ _
  clear hrE
  obtain ⟨LL, hLL⟩ : ∃ LL, (if eE = 0 then { L with h := G.freed L.h, Q := fun _ => none } else L) = LL := ⟨_, rfl⟩
  rw [hLL]
  have HL : Hid ((eE = 0 → LL = { L with h := G.freed L.h, Q := fun _ => none }) ∧ (eE ≠ 0 → LL = L)) := ⟨fun h => by rw [← hLL, if_pos h], fun h => by rw [← hLL, if_neg h]⟩
  clear hLL
  go_enter Tryz.func63, Tryz.ntmps63
  go_wp2_with fail
  go_at_call 27
  refine (unhide K1).mono ?_
  rintro e w1 ⟨a, len, c, V, rfl, hl, X⟩
  obtain ⟨v1, v2, v3⟩ := unhide X
  have V1 := hide v1
  have V2 := hide v2
  have V3 := hide v3
  clear K1 X v1 v2 v3 c5 d5
  go_wp2_with fail
  go_loopw [17] (fun i wr => ∃ k : Nat, k ≤ len ∧ i = .int .i64 (k : Int) ∧ Hid (AJ w S g dg P G L a len V (stlS G (G.freed L.h)) eE eD k wr)) (fun i _ => len - (intOf i).toNat)
  case atStart => exact ⟨0, Nat.zero_le _, rfl, V3⟩
  case round =>
    obtain ⟨k, hk, rfl, hJ⟩ := hrel
    clear V3
    by_cases hlt : k < len
    · obtain ⟨kb, off, ea, x1, x2⟩ := unhide KC _ _ _ _ _ (unhide hJ) hlt
      obtain ⟨b, hb, hbn⟩ := unhide V2 k hlt
      rw [hb] at x1
      obtain ⟨d0, KW⟩ := unhide KS _ _ _ _ _ (unhide hJ) hlt (unhide V1) b hb hbn (wr.alloc (.cells #[.int .i64 (b : Int), .slice (wat V k).da (wat V k).dl (wat V k).dc] 52)).drew (((Below.refl _ wr).alloc (Nat.le_refl _) _).drew)
      have HC := hide (Bl.new wr #[.int .i64 (b : Int), .slice (wat V k).da (wat V k).dl (wat V k).dc] 52)
      clear KC KS KE hJ hb hbn V1 V2 s1 s2 s3 hE7
      subst ea
      go_upto_region 6 with fail
      change Code.wp _ _ _ _ (wr.alloc (.cells #[.int .i64 (b : Int), .slice (wat V k).da (wat V k).dl (wat V k).dc] 52))
      have d0' : (wr.alloc (.cells #[.int .i64 (b : Int), .slice (wat V k).da (wat V k).dl (wat V k).dc] 52)).cell? ⟨g, 0, none⟩ = some (.pointer (some ⟨dg, 0, none⟩)) := d0
      clear d0
      generalize wr.alloc (.cells #[.int .i64 (b : Int), .slice (wat V k).da (wat V k).dl (wat V k).dc] 52) = ub at *
      generalize wr.heap.size = gb at *
      have b0 := (unhide HC).cell 0 (.int .i64 (b : Int)) rfl
      have b1 := (unhide HC).cell 1 (.slice (wat V k).da (wat V k).dl (wat V k).dc) rfl
      clear x1 x2 HC
      go_cut [5] (fun cc wx => ∃ q : Int, cc = .int .i64 q ∧ (q = 0 ∨ q = 7) ∧ Hid ((q = 0 → AJ w S g dg P G L (some ⟨kb, off, none⟩) len V (stlS G (G.freed L.h)) eE eD (k + 1) wx) ∧ (q = 7 → eE = 7 ∧ ∃ S', Lv wx S' g dg P G L eD ∧ Nx S w S' wx)))
      case first =>
        clear hl hk hlt
        go_region_with (go_at_call 101; refine (unhide KW).mono ?_; rintro e u3 ⟨q, rfl, hq, Z⟩)
        all_goals
          go_wp2_with fail
          go_meet
          exact ⟨q, rfl, hq, Z⟩
      case rest =>
        obtain ⟨q, rfl, hq, Z⟩ := hcut
        clear KW d0' b0 b1
        rcases hq with rfl | rfl
        · have Z2 := hide ((unhide Z).1 rfl)
          clear Z
          go_wp2_with fail
          go_roundw
          case rel => exact ⟨k + 1, by omega, by go_num, Z2⟩
          case measure => simp [intOf]; omega
        · have Z2 := hide ((unhide Z).2 rfl)
          clear Z
          go_wp2_with fail
          go_ret
          obtain ⟨e7, S', l1, n1⟩ := unhide Z2
          have eL := (unhide HL).2 (by omega)
          rw [eL]
          subst e7
          exact ⟨rfl, S', l1, n1⟩
    · have ek : k = len := by omega
      rw [ek] at hJ
      obtain ⟨Su, D', l1, n1, e1, e2⟩ := unhide KE _ _ _ _ (unhide hJ)
      obtain ⟨x0, x1, x2, x3, x4, HB⟩ := apply_box l1 _ rfl
      have KT : Hid (∀ u1, Nx Su wr Su u1 → Lv u1 Su g dg P G L D' → _) := fun u1 hu hl => apply_tail l1 n1 e1 e2 u1 hu hl
      have c13 : wr.cell? ⟨g, 13, none⟩ = some (.int .i64 (L.h.seq : Int)) ∧ wr.cell? ⟨g, 14, none⟩ = some (.int .i64 (L.h.tail : Int)) ∧ wr.cell? ⟨g, 15, none⟩ = some (.int .i64 (L.h.used : Int)) := by
        obtain ⟨_, _, _, x⟩ := l1
        exact ⟨x.ll.cells.2.2.1, x.ll.cells.2.2.2.1, x.ll.cells.2.2.2.2.1⟩
      obtain ⟨c3, c4, c5⟩ := c13
      clear KC KS KE hJ V1 V2 l1 n1 e1 e2
      go_upto_region 11 with fail
      clear hlt hk ek hl
      change Code.wp _ _ _ _ (wr.alloc (.cells (Hc L.h.fn) 57))
      go_cut [] (fun wx => Hid (Bl wx wr.heap.size (Hc (G.freed L.h).fn) 57 ∧ Lv wx Su g dg P G L D' ∧ Nx Su wr Su wx))
      case first =>
        clear KT HL hE7 c3 c4 c5
        generalize wr.alloc (.cells (Hc L.h.fn) 57) = ub at *
        go_region
        all_goals
          go_wp2_with fail
          go_meet
          exact unhide HB _ rfl
      case rest =>
        have K2 := hide (unhide KT _ (unhide hcut).2.2 (unhide hcut).2.1)
        have y0 := (unhide hcut).1.cell 0 (.int .i64 (G.freed L.h).seq) rfl
        have y1 := (unhide hcut).1.cell 1 (.int .i64 (G.freed L.h).tail) rfl
        have y2 := (unhide hcut).1.cell 2 (.int .i64 (G.freed L.h).used) rfl
        clear KT hcut HB x0 x1 x2 x3 x4 c3 c4 c5 s1 s2 s3
        change Hid (Calls Tryz.prog 100 #[.pointer (some ⟨g, 0, none⟩), .agg #[.int .i64 ((G.freed L.h).seq : Int), .int .i64 ((G.freed L.h).tail : Int), .int .i64 ((G.freed L.h).used : Int)]] _ _) at K2
        generalize G.freed L.h = HF at *
        rcases hE7 with rfl | rfl
        · go_wp2_with fail
          go_at_call 100
          refine (unhide K2).mono ?_
          rintro e u2 ⟨rfl, Z, _⟩
          obtain ⟨mb, u3, m1, R3, X3⟩ := Z trivial
          have r3 := unhide R3
          clear K2 Z y0 y1 y2
          go_wp2_with fail
          go_ret
          have eL := (unhide HL).1 trivial
          rw [eL]
          exact ⟨rfl, unhide X3⟩
        · go_wp2_with fail
          go_at_call 100
          refine (unhide K2).mono ?_
          rintro e u2 ⟨rfl, _, Z⟩
          have X3 := Z (by decide)
          clear K2 Z y0 y1 y2
          go_wp2_with fail
          go_ret
          have eL := (unhide HL).2 (by decide)
          rw [eL]
          exact ⟨rfl, unhide X3⟩

/-- apply. -/
theorem apply_any (g dg : Nat) (S : Nat → Prop) (P : Nat → Int) (G : Geo) (L : Lg) (D : Dev) (w : World) (h : Lv w S g dg P G L D) :
    Calls Tryz.prog 63 #[.pointer (some ⟨g, 0, none⟩)] w fun e w' => e = .returned (.int .i64 (apE G L D)) ∧ ∃ S', Lv w' S' g dg P G (apL G L D) (apD G L D) ∧ Nx S w S' w' := by
  unfold apE apL apD
  by_cases h0 : L.h.used = 0
  · rw [if_pos h0, if_pos h0, if_pos h0]
    refine (apply_none g dg S P G L D w h h0).mono ?_
    rintro e w' ⟨rfl, rfl⟩
    exact ⟨rfl, S, h, Nx.refl _ _⟩
  · rw [if_neg h0, if_neg h0, if_neg h0]
    exact apply_some g dg S P G L D w h h0

end Go.Proofs.YtadnlljknocbbaaGreatDoor

/- The contract of refusesList. -/
namespace Go.Proofs.YtadnlljknocbbaaGreatDoor
open Go.RowKit Go.Shelf Go.Maps
set_option linter.unusedVariables false
set_option maxRecDepth 100000

/-- A list as it is looked at ahead of a commit. -/
def wv (V : List Wr) : List (Int × Nat) := V.map (fun v => (v.b, v.dl))

theorem LgM.below' {u u' : World} {S : Nat → Prop} {g dg : Nat} {P : Nat → Int} {G : Geo} {L : Lg} {m : LMem} (h : LgM u S g dg P G L m) (hb : Below u.heap.size u u') : LgM u' S g dg P G L m := h.kept (fun k hk => hb.block k (h.lt k hk)) (fun _ h => h) (fun k hk => Nat.lt_of_lt_of_le (h.lt k hk) hb.size)

set_option maxHeartbeats 2000000 in
/-- A list with data of another length. -/
theorem refl_arg (g dg : Nat) (S : Nat → Prop) (P : Nat → Int) (G : Geo) (L : Lg) (m : LMem) (w : World) (h : LgM w S g dg P G L m) (a : Option Addr) (len cap : Nat) (V : List Wr) (hV : WHas w a len V) (hl : len ≤ 4398046511104) (hbad : ¬ ∀ j, j < len → (wat V j).dl = G.blk) :
    Calls Tryz.prog 55 #[.pointer (some ⟨g, 0, none⟩), .slice a len cap] w fun e w' => e = .returned (.int .i64 1) ∧ Below w.heap.size w w' := by
  have KC : Hid (∀ u k, k < len → Below w.heap.size w u → ∃ kb off, a = some ⟨kb, off, none⟩ ∧ u.cell? ⟨kb, off + k * 2, none⟩ = some (.int .i64 (wat V k).b) ∧ u.cell? ⟨kb, off + k * 2 + 1, none⟩ = some (.slice (wat V k).da (wat V k).dl (wat V k).dc)) := fun u k hk hb => by
    obtain ⟨kb, off, e, hkb, hc⟩ := hV.cel (by omega)
    exact ⟨kb, off, e, (hb.cell (p := ⟨kb, _, none⟩) hkb).trans (hc k hk).1, (hb.cell (p := ⟨kb, _, none⟩) hkb).trans (hc k hk).2⟩
  have KB : Hid (∀ u, Below w.heap.size w u → u.cell? ⟨g, 1, none⟩ = some (.int .i64 (G.blk : Int))) := fun u hb => by
    have := (h.below' hb).cells.2.1 0 (by omega)
    rwa [h.pg.p0] at this
  have d0 : ((len : Int) == 0) = false := by
    have : len ≠ 0 := fun e => hbad (fun j hj => absurd hj (by omega))
    simpa using this
  have HB := hide hbad
  clear h hV hbad
  go_enter Tryz.func55, Tryz.ntmps55
  go_wp2_with fail
  go_loopw [13] (fun i wr => ∃ k : Nat, k ≤ len ∧ i = .int .i64 (k : Int) ∧ Hid (Below w.heap.size w wr) ∧ Hid (∀ j, j < k → (wat V j).dl = G.blk)) (fun i _ => len - (intOf i).toNat)
  case atStart => exact ⟨0, Nat.zero_le _, rfl, Below.refl _ _, fun j hj => absurd hj (by omega)⟩
  case round =>
    obtain ⟨k, hk, rfl, hJ, hR⟩ := hrel
    by_cases hlt : k < len
    · obtain ⟨kb, off, ea, x1, x2⟩ := unhide KC wr k hlt (unhide hJ)
      have J2 := hide ((unhide hJ).alloc (unhide hJ).size (.cells #[.int .i64 (wat V k).b, .slice (wat V k).da (wat V k).dl (wat V k).dc] 52))
      have b0 := unhide KB _ (unhide J2)
      have b1 := (Bl.new wr #[.int .i64 (wat V k).b, .slice (wat V k).da (wat V k).dl (wat V k).dc] 52).cell 1 (.slice (wat V k).da (wat V k).dl (wat V k).dc) rfl
      have hR2 : Hid ((wat V k).dl = G.blk → ∀ j, j < k + 1 → (wat V j).dl = G.blk) := fun e j hj => by
        by_cases e1 : j = k
        · rw [e1]; exact e
        · exact unhide hR j (by omega)
      clear KC KB hR hJ
      subst ea
      generalize (wat V k).b = xb at *
      generalize (wat V k).da = xa at *
      generalize (wat V k).dc = xc at *
      generalize (wat V k).dl = xl at *
      go_upto_region 6 with fail
      change Code.wp _ _ _ _ (wr.alloc (.cells #[.int .i64 xb, .slice xa xl xc] 52))
      generalize wr.alloc (.cells #[.int .i64 xb, .slice xa xl xc] 52) = ub at *
      generalize wr.heap.size = gb at *
      by_cases e : xl = G.blk
      · have d1 : ((xl : Int) != (G.blk : Int)) = false := by rw [e]; simp
        have R2 := hide (unhide hR2 e)
        clear hR2 e x1 x2
        go_quiet (fail)
        go_wp2
        go_roundw
        case rel => exact ⟨k + 1, by omega, by go_num, below_drewN (unhide J2) _, R2⟩
        case measure => simp [intOf]; omega
      · have d1 : ((xl : Int) != (G.blk : Int)) = true := by simpa using fun e' : (xl : Int) = (G.blk : Int) => e (by omega)
        clear hR2 e x1 x2
        go_quiet (fail)
        go_wp2
        go_ret
        exact ⟨rfl, below_drewN (unhide J2) _⟩
    · exfalso
      obtain rfl : k = len := by omega
      exact unhide HB (unhide hR)

/-- The plan of a log. -/
theorem LgM.plan {u : World} {S : Nat → Prop} {g dg : Nat} {P : Nat → Int} {G : Geo} {L : Lg} {m : LMem} (h : LgM u S g dg P G L m) : u.cell? ⟨g, 1, none⟩ = some (.int .i64 (P 0)) ∧ u.cell? ⟨g, 2, none⟩ = some (.int .i64 (P 1)) ∧ u.cell? ⟨g, 3, none⟩ = some (.int .i64 (P 2)) ∧ u.cell? ⟨g, 4, none⟩ = some (.int .i64 (P 3)) ∧ u.cell? ⟨g, 5, none⟩ = some (.int .i64 (P 4)) ∧ u.cell? ⟨g, 6, none⟩ = some (.int .i64 (P 5)) ∧ u.cell? ⟨g, 7, none⟩ = some (.int .i64 (P 6)) ∧ u.cell? ⟨g, 8, none⟩ = some (.int .i64 (P 7)) ∧ u.cell? ⟨g, 9, none⟩ = some (.int .i64 (P 8)) ∧ u.cell? ⟨g, 10, none⟩ = some (.int .i64 (P 9)) ∧ u.cell? ⟨g, 11, none⟩ = some (.int .i64 (P 10)) ∧ u.cell? ⟨g, 12, none⟩ = some (.int .i64 (P 11)) :=
  ⟨h.cells.2.1 0 (by omega), h.cells.2.1 1 (by omega), h.cells.2.1 2 (by omega), h.cells.2.1 3 (by omega), h.cells.2.1 4 (by omega), h.cells.2.1 5 (by omega), h.cells.2.1 6 (by omega), h.cells.2.1 7 (by omega), h.cells.2.1 8 (by omega), h.cells.2.1 9 (by omega), h.cells.2.1 10 (by omega), h.cells.2.1 11 (by omega)⟩

/-- What is told of a list behind its bytes. -/
def lst2E (G : Geo) (seq : Nat) (ns : List Int) : Int := if blkE G ns = 0 then (if G.lg < G.uses ns.length then 5 else if 4294967295 - seq < G.parts ns.length then 8 else 0) else blkE G ns

/-- The log's own cells and its plan, while memory grows. -/
structure RF (w : World) (g : Nat) (P : Nat → Int) (G : Geo) (L : Lg) (u : World) : Prop where
  bel : Below w.heap.size w u
  pl : u.cell? ⟨g, 1, none⟩ = some (.int .i64 (P 0)) ∧ u.cell? ⟨g, 2, none⟩ = some (.int .i64 (P 1)) ∧ u.cell? ⟨g, 3, none⟩ = some (.int .i64 (P 2)) ∧ u.cell? ⟨g, 4, none⟩ = some (.int .i64 (P 3)) ∧ u.cell? ⟨g, 5, none⟩ = some (.int .i64 (P 4)) ∧ u.cell? ⟨g, 6, none⟩ = some (.int .i64 (P 5)) ∧ u.cell? ⟨g, 7, none⟩ = some (.int .i64 (P 6)) ∧ u.cell? ⟨g, 8, none⟩ = some (.int .i64 (P 7)) ∧ u.cell? ⟨g, 9, none⟩ = some (.int .i64 (P 8)) ∧ u.cell? ⟨g, 10, none⟩ = some (.int .i64 (P 9)) ∧ u.cell? ⟨g, 11, none⟩ = some (.int .i64 (P 10)) ∧ u.cell? ⟨g, 12, none⟩ = some (.int .i64 (P 11))
  lg : u.cell? ⟨g, 4, none⟩ = some (.int .i64 (G.lg : Int))
  sq : u.cell? ⟨g, 13, none⟩ = some (.int .i64 (L.h.seq : Int))

theorem RF.of {w u : World} {S : Nat → Prop} {g dg : Nat} {P : Nat → Int} {G : Geo} {L : Lg} {m : LMem} (h : LgM w S g dg P G L m) (hb : Below w.heap.size w u) : RF w g P G L u := by
  have h1 := h.below' hb
  have := h1.cells.2.1 3 (by omega)
  rw [h.pg.p3] at this
  exact ⟨hb, h1.plan, this, h1.cells.2.2.1⟩

set_option maxHeartbeats 4000000 in
/-- A list whose bytes are as they should be. -/
theorem refl_rest (g dg : Nat) (S : Nat → Prop) (P : Nat → Int) (G : Geo) (L : Lg) (m : LMem) (w : World) (h : LgM w S g dg P G L m) (a : Option Addr) (len cap : Nat) (V : List Wr) (hV : WHas w a len V) (hl : len ≤ 4398046511104) (hgood : ∀ j, j < len → (wat V j).dl = G.blk) (hz : len ≠ 0) :
    Calls Tryz.prog 55 #[.pointer (some ⟨g, 0, none⟩), .slice a len cap] w fun e w' => e = .returned (.int .i64 (lst2E G L.h.seq (V.map (·.b)))) ∧ Below w.heap.size w w' := by
  have KC : Hid (∀ u k, k < len → Below w.heap.size w u → ∃ kb off, a = some ⟨kb, off, none⟩ ∧ u.cell? ⟨kb, off + k * 2, none⟩ = some (.int .i64 (wat V k).b) ∧ u.cell? ⟨kb, off + k * 2 + 1, none⟩ = some (.slice (wat V k).da (wat V k).dl (wat V k).dc)) := fun u k hk hb => by
    obtain ⟨kb, off, e, hkb, hc⟩ := hV.cel (by omega)
    exact ⟨kb, off, e, (hb.cell (p := ⟨kb, _, none⟩) hkb).trans (hc k hk).1, (hb.cell (p := ⟨kb, _, none⟩) hkb).trans (hc k hk).2⟩
  have KB : Hid (∀ u, Below w.heap.size w u → u.cell? ⟨g, 1, none⟩ = some (.int .i64 (G.blk : Int))) := fun u hb => by
    have := (h.below' hb).cells.2.1 0 (by omega)
    rwa [h.pg.p0] at this
  have hlen : (V.map (·.b)).length = len := by rw [List.length_map, hV.ln]
  have KF : Hid (∀ u, Below w.heap.size w u → RF w g P G L u) := fun u hb => RF.of h hb
  have KN : Hid (∀ u, Below w.heap.size w u → Calls Tryz.prog 97 #[.slice a len cap] u fun e w' => e = .returned (.slice (some ⟨u.heap.size, 0, none⟩) len len) ∧ Hid (IHas w' (some ⟨u.heap.size, 0, none⟩) len (V.map (·.b))) ∧ Below u.heap.size u w') := fun u hb => named_any a len cap V u (hV.later hb) hl
  have KR : Hid (∀ u x, IHas u x len (V.map (·.b)) → Calls Tryz.prog 96 #[Pv P, .slice x len len] u fun e w' => e = .returned (.int .i64 (blkE G (V.map (·.b)))) ∧ Below u.heap.size u w') := fun u x hi => refusesBlocks_any P G h.pg x len len _ u hi hl
  have KU : Hid (∀ u, Calls Tryz.prog 82 #[Pv P, .int .i64 (len : Int)] u fun e w' => e = .returned (.int .i64 (G.uses len : Int)) ∧ Below u.heap.size u w') := fun u => uses_any P G h.pg len (by omega) u
  have KT : Hid (∀ u, Calls Tryz.prog 98 #[Pv P, .int .i64 (len : Int)] u fun e w' => e = .returned (.int .i64 (G.parts len : Int)) ∧ Below u.heap.size u w') := fun u => parts_any P G h.pg len (by omega) u
  have hsq : IntKind.i64.wrap (4294967295 - (L.h.seq : Int)) = ((4294967295 - L.h.seq : Nat) : Int) := by
    have := h.hok.seq
    rw [IntKind.wrap_i64]
    omega
  have HP3 : Hid (P 3 = (G.lg : Int)) := h.pg.p3
  have HSQ := hide h.hok.seq
  have hb3 : blkE G (V.map (·.b)) = 0 ∨ blkE G (V.map (·.b)) ≠ 0 := by omega
  have HR : Hid (∀ r, lst2E G L.h.seq (V.map (·.b)) = r → (blkE G (V.map (·.b)) ≠ 0 → blkE G (V.map (·.b)) = r) ∧ (blkE G (V.map (·.b)) = 0 → G.lg < G.uses len → 5 = r) ∧ (blkE G (V.map (·.b)) = 0 → ¬ G.lg < G.uses len → 4294967295 - L.h.seq < G.parts len → 8 = r) ∧ (blkE G (V.map (·.b)) = 0 → ¬ G.lg < G.uses len → ¬ 4294967295 - L.h.seq < G.parts len → 0 = r)) := by
    rintro r rfl
    unfold lst2E
    rw [hlen]
    exact ⟨fun h1 => by rw [if_neg h1], fun h1 h2 => by rw [if_pos h1, if_pos h2], fun h1 h2 h3 => by rw [if_pos h1, if_neg h2, if_pos h3], fun h1 h2 h3 => by rw [if_pos h1, if_neg h2, if_neg h3]⟩
  obtain ⟨r, hr⟩ : ∃ r, lst2E G L.h.seq (V.map (·.b)) = r := ⟨_, rfl⟩
  rw [hr]
  replace HR := hide (unhide HR r hr)
  clear hr
  generalize V.map (·.b) = ns at *
  have HG := hide hgood
  have d0 : ((len : Int) == 0) = false := by simpa using hz
  clear h hV hgood hlen hz
  go_enter Tryz.func55, Tryz.ntmps55
  go_wp2_with fail
  go_loopw [13] (fun i wr => ∃ k : Nat, k ≤ len ∧ i = .int .i64 (k : Int) ∧ Hid (Below w.heap.size w wr)) (fun i _ => len - (intOf i).toNat)
  case atStart => exact ⟨0, Nat.zero_le _, rfl, Below.refl _ _⟩
  case round =>
    obtain ⟨k, hk, rfl, hJ⟩ := hrel
    by_cases hlt : k < len
    · obtain ⟨kb, off, ea, x1, x2⟩ := unhide KC wr k hlt (unhide hJ)
      have J2 := hide ((unhide hJ).alloc (unhide hJ).size (.cells #[.int .i64 (wat V k).b, .slice (wat V k).da (wat V k).dl (wat V k).dc] 52))
      have b0 := unhide KB _ (unhide J2)
      have b1 := (Bl.new wr #[.int .i64 (wat V k).b, .slice (wat V k).da (wat V k).dl (wat V k).dc] 52).cell 1 (.slice (wat V k).da (wat V k).dl (wat V k).dc) rfl
      have HE := hide (unhide HG k hlt)
      clear KC KB KF KN KR KU KT hJ HG hsq hb3
      subst ea
      generalize (wat V k).b = xb at *
      generalize (wat V k).da = xa at *
      generalize (wat V k).dc = xc at *
      generalize (wat V k).dl = xl at *
      go_upto_region 6 with fail
      change Code.wp _ _ _ _ (wr.alloc (.cells #[.int .i64 xb, .slice xa xl xc] 52))
      generalize wr.alloc (.cells #[.int .i64 xb, .slice xa xl xc] 52) = ub at *
      generalize wr.heap.size = gb at *
      have d1 : ((xl : Int) != (G.blk : Int)) = false := by rw [unhide HE]; simp
      clear HE x1 x2
      go_quiet (fail)
      go_wp2
      go_roundw
      case rel => exact ⟨k + 1, by omega, by go_num, below_drewN (unhide J2) _⟩
      case measure => simp [intOf]; omega
    · clear KC KB HG
      obtain ⟨q0, q1, q2, q3, q4, q5, q6, q7, q8, q9, q10, q11⟩ := (unhide KF _ (unhide hJ)).pl
      go_upto_region 9 with fail
      clear hlt hk
      go_cut [7] (fun c wx => c = .int .i64 (blkE G ns) ∧ Hid (Below w.heap.size w wx))
      case first =>
        clear hsq hb3 KU KT hl
        go_region_with (first
          | (go_at_call 97; refine (unhide KN _ (unhide hJ).drew).mono ?_; rintro e w6 ⟨rfl, X, hb⟩; have B6 := hide (bchain (unhide hJ).drew hb (Nat.le_refl _)); clear hb; obtain ⟨p0, p1, p2, p3, p4, p5, p6, p7, p8, p9, p10, p11⟩ := (unhide KF _ (unhide B6)).pl)
          | (go_at_call 96; refine (unhide KR _ _ (unhide X)).mono ?_; rintro e w7 ⟨rfl, hb7⟩; have B7 := hide (bchain (unhide B6) hb7 (Nat.le_refl _)); clear hb7))
        all_goals
          go_wp2_with fail
          go_meet
          exact ⟨rfl, B7⟩
      case rest =>
        obtain ⟨rfl, B7⟩ := hcut
        clear q0 q1 q2 q3 q4 q5 q6 q7 q8 q9 q10 q11 hJ KN KR
        rcases hb3 with hb3 | hb3
        · rw [hb3]
          have HB0 := hide hb3
          obtain ⟨q0, q1, q2, q3, q4, q5, q6, q7, q8, q9, q10, q11⟩ := (unhide KF _ (unhide B7)).pl
          have lg := (unhide KF _ (unhide B7)).lg
          clear hb3
          go_upto_region 12 with fail
          go_cut [49] (fun c wx => c = .bool (decide (G.lg < G.uses len)) ∧ Hid (Below w.heap.size w wx))
          case first =>
            clear hsq KT hl
            go_region_with ((go_at_call 82; refine (unhide KU _).mono ?_; rintro e w8 ⟨rfl, hb⟩; have B8 := hide (bchain (unhide B7).drew hb (Nat.le_refl _)); clear hb; have lg8 := (unhide KF _ (unhide B8)).lg))
            all_goals
              go_wp2_with fail
              go_meet
              first
                | exact ⟨rfl, B8⟩
                | exact ⟨by congr 1; rw [decide_eq_decide]; have := unhide HP3; omega, B8⟩
          case rest =>
            obtain ⟨rfl, B8⟩ := hcut
            clear q0 q1 q2 q3 q4 q5 q6 q7 q8 q9 q10 q11 lg KU B7
            by_cases h5 : G.lg < G.uses len
            · have R5 := hide ((unhide HR).2.1 (unhide HB0) h5)
              have d5 : decide (G.lg < G.uses len) = true := by rw [decide_eq_true_eq]; exact h5
              rw [d5]
              clear KT KF hsq d5 h5 HR HB0
              go_wp2_with fail
              go_ret
              have e4 := unhide R5
              subst e4
              exact ⟨rfl, unhide B8⟩
            · have H5 := hide h5
              have d5 : decide (G.lg < G.uses len) = false := by rw [decide_eq_false_iff_not]; exact h5
              rw [d5]
              clear d5 h5
              obtain ⟨q0, q1, q2, q3, q4, q5, q6, q7, q8, q9, q10, q11⟩ := (unhide KF _ (unhide B8)).pl
              have sq := (unhide KF _ (unhide B8)).sq
              go_upto_region 14 with fail
              go_cut [63] (fun c wx => c = .bool (decide (4294967295 - L.h.seq < G.parts len)) ∧ Hid (Below w.heap.size w wx))
              case first =>
                clear hl
                go_region_with ((go_at_call 98; refine (unhide KT _).mono ?_; rintro e w9 ⟨rfl, hb⟩; have B9 := hide (bchain (unhide B8).drew hb (Nat.le_refl _)); clear hb; have sq9 := (unhide KF _ (unhide B9)).sq))
                all_goals
                  go_wp2_with fail
                  go_meet
                  first
                    | exact ⟨rfl, B9⟩
                    | exact ⟨by congr 1; rw [decide_eq_decide]; have := unhide HSQ; omega, B9⟩
              case rest =>
                obtain ⟨rfl, B9⟩ := hcut
                clear q0 q1 q2 q3 q4 q5 q6 q7 q8 q9 q10 q11 sq KT KF B8
                by_cases h8 : 4294967295 - L.h.seq < G.parts len
                · have R8 := hide ((unhide HR).2.2.1 (unhide HB0) (unhide H5) h8)
                  have d8 : decide (4294967295 - L.h.seq < G.parts len) = true := by rw [decide_eq_true_eq]; exact h8
                  rw [d8]
                  clear d8 h8 HR HB0 H5
                  go_wp2_with fail
                  go_ret
                  have e4 := unhide R8
                  subst e4
                  exact ⟨rfl, unhide B9⟩
                · have R8 := hide ((unhide HR).2.2.2 (unhide HB0) (unhide H5) h8)
                  have d8 : decide (4294967295 - L.h.seq < G.parts len) = false := by rw [decide_eq_false_iff_not]; exact h8
                  rw [d8]
                  clear d8 h8 HR HB0 H5
                  go_wp2_with fail
                  go_ret
                  have e4 := unhide R8
                  subst e4
                  exact ⟨rfl, unhide B9⟩
        · have R3 := hide ((unhide HR).1 hb3)
          have d3 : (blkE G ns != 0) = true := by simpa using hb3
          clear hb3 KF KU KT hsq hl HR
          generalize blkE G ns = q at *
          go_wp2_with fail
          go_ret
          have e4 := unhide R3
          subst e4
          exact ⟨rfl, unhide B7⟩

/-- An empty list. -/
theorem refl_zero (g : Nat) (a : Option Addr) (cap : Nat) (w : World) : Calls Tryz.prog 55 #[.pointer (some ⟨g, 0, none⟩), .slice a 0 cap] w fun e w' => e = .returned (.int .i64 0) ∧ w = w' := by
  go_enter Tryz.func55, Tryz.ntmps55
  go_wp2_with fail
  go_ret
  exact ⟨rfl, rfl⟩

theorem lst2_zero {G : Geo} (hG : G.Ok) (s : Nat) : lst2E G s [] = 0 := by
  unfold lst2E
  have : blkE G [] = 0 := rfl
  rw [if_pos this]
  have h0 := Geo.parts_zero hG
  have h1 : G.uses ([] : List Int).length = 0 := by show 0 + G.parts 0 = 0; omega
  have h2 : G.parts ([] : List Int).length = 0 := h0
  rw [h1, h2, if_neg (by omega), if_neg (by omega)]

/-- refusesList. -/
theorem refl_any (g dg : Nat) (S : Nat → Prop) (P : Nat → Int) (G : Geo) (L : Lg) (m : LMem) (w : World) (h : LgM w S g dg P G L m) (a : Option Addr) (len cap : Nat) (V : List Wr) (hV : WHas w a len V) (hl : len ≤ 4398046511104) :
    Calls Tryz.prog 55 #[.pointer (some ⟨g, 0, none⟩), .slice a len cap] w fun e w' => e = .returned (.int .i64 (lstE G L.h.seq (wv V))) ∧ Below w.heap.size w w' := by
  have hln := hV.ln
  by_cases hall : ∀ j, j < len → (wat V j).dl = G.blk
  · have e1 : lstE G L.h.seq (wv V) = lst2E G L.h.seq (V.map (·.b)) := by
      unfold lstE lst2E
      rw [if_pos]
      · simp [wv, List.map_map, Function.comp_def]
      · refine List.all_eq_true.2 (fun x hx => ?_)
        unfold wv at hx
        obtain ⟨v, hv, rfl⟩ := List.mem_map.1 hx
        obtain ⟨j, hj, rfl⟩ := List.getElem_of_mem hv
        have := hall j (by omega)
        unfold wat at this
        rw [List.getElem?_eq_getElem hj] at this
        simpa using this
    rw [e1]
    by_cases hz : len = 0
    · subst hz
      have hn : V = [] := List.length_eq_zero_iff.1 hln
      subst hn
      refine (refl_zero g a cap w).mono ?_
      rintro e w' ⟨rfl, rfl⟩
      exact ⟨by rw [List.map_nil, lst2_zero h.pg.ok], Below.refl _ _⟩
    exact refl_rest g dg S P G L m w h a len cap V hV hl hall hz
  · have e1 : lstE G L.h.seq (wv V) = 1 := by
      unfold lstE
      rw [if_neg]
      intro hh
      refine hall (fun j hj => ?_)
      have hj2 : j < V.length := by omega
      have := List.all_eq_true.1 hh ((V[j]).b, (V[j]).dl) (by unfold wv; exact List.mem_map.2 ⟨V[j], List.getElem_mem _, rfl⟩)
      unfold wat
      rw [List.getElem?_eq_getElem hj2]
      simpa using this
    rw [e1]
    exact refl_arg g dg S P G L m w h a len cap V hV hl hall

end Go.Proofs.YtadnlljknocbbaaGreatDoor

