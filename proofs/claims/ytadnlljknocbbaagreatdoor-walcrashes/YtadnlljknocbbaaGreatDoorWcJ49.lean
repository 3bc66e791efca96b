/- Joined: WWake, WNil, WSt, WCra. -/
import Derived.Test.YtadnlljknocbbaaGreatDoorWcJ47
import Derived.Test.YtadnlljknocbbaaGreatDoorWcCOpenH
import Derived.Test.YtadnlljknocbbaaGreatDoorWcJ36
import Derived.Test.YtadnlljknocbbaaGreatDoorWcJ17
/- The contract of wakes; devices that live. -/
namespace Go.Proofs.YtadnlljknocbbaaGreatDoor
open Go.RowKit Go.Shelf Go.Maps
set_option linter.unusedVariables false
set_option maxRecDepth 100000

/-- A device without a fuse that lives. -/
def Dev.Live (D : Dev) : Prop := D.f = -1 ∧ D.dead = false

theorem Dev.Live.wE {D : Dev} (h : D.Live) : D.wE = 0 := by
  unfold Dev.wE
  rw [if_neg]
  rintro (h1 | h1)
  · rw [h.1] at h1; omega
  · rw [h.2] at h1; cases h1

theorem Dev.Live.ap {D : Dev} (h : D.Live) (s : Stp) : (s.ap D).Live := by
  have hb : ¬ (D.f = 0 ∨ D.dead = true) := by
    rintro (h1 | h1)
    · rw [h.1] at h1; omega
    · rw [h.2] at h1; cases h1
  have hbu : D.burn.Live := ⟨by show (if 0 < D.f then D.f - 1 else D.f) = -1; rw [h.1]; rfl, h.2⟩
  cases s with
  | w i z =>
    show (D.wD i z).Live
    unfold Dev.wD
    rw [if_neg hb]
    split <;> exact hbu
  | f =>
    show D.fD.Live
    unfold Dev.fD
    rw [if_neg hb]
    exact hbu

theorem Dev.Live.run {D : Dev} (h : D.Live) : ∀ l : List Stp, runE l D = 0 ∧ (runD l D).Live
  | [] => ⟨rfl, h⟩
  | s :: r => by
    rw [runE_ok h.wE, runD_ok h.wE]
    exact (h.ap s).run r
termination_by l => l.length

theorem sD_lives : sD.Live := ⟨sD_live.2.2.2.1, sD_live.1⟩

/-- Commit in a law. -/
theorem w_commit {B : Nat} {w : World} {g dg : Nat} {L : Lg} {D : Dev} {u : World} (h : WD B w g dg L D u) (u1 : World) (hb : Below u.heap.size u u1) (a : Option Addr) (len cap : Nat) (V : List Wr) (hV : WHas u1 a len V) (hO : ∀ S : Nat → Prop, (∀ k, S k → k < u.heap.size) → WOut S a len V) (hl : len ≤ 4398046511104) (hc : len ≤ cap ∧ cap ≤ 9223372036854775807) :
    Calls Tryz.prog 15 #[.pointer (some ⟨g, 0, none⟩), .slice a len cap] u1 fun e u' => e = .returned (.int .i64 (cmtE sG L V D)) ∧ Hid (WD B w g dg (cmtL sG L V D) (cmtD sG L V D) u') := by
  obtain ⟨S, h⟩ := h
  have h1 := h.later hb
  refine (Commit_any g dg S sP sG L D u1 h1.lv a len cap V hV (hO S (fun k hk => h.lv.lt hk)) hl hc).mono ?_
  rintro e u' ⟨rfl, S', l1, n1⟩
  exact ⟨rfl, S', h1.nx l1 n1⟩

theorem w_head {B : Nat} {w : World} {g dg : Nat} {L : Lg} {D : Dev} {u : World} (h : WD B w g dg L D u) :
    Calls Tryz.prog 31 #[.pointer (some ⟨g, 0, none⟩)] u fun e u' => e = .returned (Hv L.h.fn) ∧ Hid (WD B w g dg L D u') := by
  have h' := h
  obtain ⟨S, h⟩ := h
  obtain ⟨Sl, Sd, m, x⟩ := h.lv
  refine (header_any g dg Sl sP sG L m u x.ll).mono ?_
  rintro e u' ⟨rfl, hb⟩
  exact ⟨rfl, h'.later hb⟩

theorem w_room {B : Nat} {w : World} {g dg : Nat} {L : Lg} {D : Dev} {u : World} (h : WD B w g dg L D u) :
    Calls Tryz.prog 29 #[.pointer (some ⟨g, 0, none⟩)] u fun e u' => e = .returned (.int .i64 ((sG.lg - L.h.used : Nat) : Int)) ∧ Hid (WD B w g dg L D u') := by
  have h' := h
  obtain ⟨S, h⟩ := h
  obtain ⟨Sl, Sd, m, x⟩ := h.lv
  refine (room_any g dg Sl sP sG L m u x.ll).mono ?_
  rintro e u' ⟨rfl, q, rfl⟩
  exact ⟨rfl, h'.later (below_drewN (Below.refl _ u) q)⟩

theorem w_pend {B : Nat} {w : World} {g dg : Nat} {L : Lg} {D : Dev} {u : World} (h : WD B w g dg L D u) :
    Calls Tryz.prog 27 #[.pointer (some ⟨g, 0, none⟩)] u fun e u' => ∃ a c V, e = .returned (.slice a (pendL sG L.Q).length c) ∧ Hid (Gw u.heap.size u' (.slice a (pendL sG L.Q).length c) V ∧ wl V = pendW sG L.Q ∧ Below u.heap.size u u' ∧ WD B w g dg L D u') := by
  have h' := h
  obtain ⟨S, h⟩ := h
  obtain ⟨Sl, Sd, m, x⟩ := h.lv
  refine (pending_any g dg Sl sP sG L m u x.ll).mono ?_
  rintro e u' ⟨v, V, rfl, X⟩
  obtain ⟨g1, g2, g3, g4⟩ := unhide X
  have hl : V.length = (pendL sG L.Q).length := by rw [← wl_len, g2, pendW_len]
  obtain ⟨a, c, e1, _⟩ := g1.shape
  rw [hl] at e1
  subst e1
  exact ⟨a, c, V, rfl, g1, g2, g4, h'.later g4⟩

theorem w_apply {B : Nat} {w : World} {g dg : Nat} {L : Lg} {D : Dev} {u : World} (h : WD B w g dg L D u) :
    Calls Tryz.prog 17 #[.pointer (some ⟨g, 0, none⟩)] u fun e u' => e = .returned (.int .i64 (aplyE sG L D)) ∧ Hid (WD B w g dg (aplyL sG L D) (aplyD sG L D) u') := by
  obtain ⟨S, h⟩ := h
  refine (Apply_any g dg S sP sG L D u h.lv).mono ?_
  rintro e u' ⟨rfl, S', l1, n1⟩
  exact ⟨rfl, S', h.nx l1 n1⟩

/-- A list of two writes that was built. -/
def V2 (g1 g2 : Nat) : List Wr := [⟨20, some ⟨g1, 0, none⟩, 64, 64, fl 1⟩, ⟨21, some ⟨g2, 0, none⟩, 64, 64, fl 2⟩]

theorem v2_has {u : World} {g1 g2 : Nat} (h1 : Block u g1 (fl 1)) (h2 : Block u g2 (fl 2)) : WHas (u.alloc (.cells #[.int .i64 20, .slice (some ⟨g1, 0, none⟩) 64 64, .int .i64 21, .slice (some ⟨g2, 0, none⟩) 64 64] 52)) (some ⟨u.heap.size, 0, none⟩) 2 (V2 g1 g2) := by
  have hb : Below u.heap.size u (u.alloc (.cells #[.int .i64 20, .slice (some ⟨g1, 0, none⟩) 64 64, .int .i64 21, .slice (some ⟨g2, 0, none⟩) 64 64] 52)) := (Below.refl _ u).alloc (Nat.le_refl _) _
  have z := Bl.new u #[.int .i64 20, .slice (some ⟨g1, 0, none⟩) 64 64, .int .i64 21, .slice (some ⟨g2, 0, none⟩) 64 64] 52
  refine ⟨rfl, fun _ => ⟨u.heap.size, 0, rfl, z.lt, fun j hj => ?_⟩, fun j hj => ?_⟩
  · have : j = 0 ∨ j = 1 := by omega
    rcases this with rfl | rfl
    · exact ⟨z.cell 0 _ rfl, z.cell 1 _ rfl⟩
    · exact ⟨z.cell 2 _ rfl, z.cell 3 _ rfl⟩
  · have : j = 0 ∨ j = 1 := by omega
    rcases this with rfl | rfl
    · exact full_row (by decide) (by decide) (h1.below hb h1.lt)
    · exact full_row (by decide) (by decide) (h2.below hb h2.lt)

theorem v2_out {n g1 g2 gl : Nat} (h1 : n ≤ g1) (h2 : n ≤ g2) (h3 : n ≤ gl) (S : Nat → Prop) (hS : ∀ k, S k → k < n) : WOut S (some ⟨gl, 0, none⟩) 2 (V2 g1 g2) := by
  refine ⟨fun _ x e hs => by cases e; have : gl < n := hS _ hs; omega, fun j hj _ x e hs => ?_⟩
  have : j = 0 ∨ j = 1 := by omega
  rcases this with rfl | rfl
  · have e' : some (⟨g1, 0, none⟩ : Addr) = some x := e
    cases e'
    have : g1 < n := hS _ hs
    omega
  · have e' : some (⟨g2, 0, none⟩ : Addr) = some x := e
    cases e'
    have : g2 < n := hS _ hs
    omega

theorem v2_lst (g1 g2 : Nat) : lstE sG sL.h.seq (wv (V2 g1 g2)) = 0 := by
  have : wv (V2 g1 g2) = [(20, 64), (21, 64)] := rfl
  rw [this]
  decide

theorem v2_cmt (g1 g2 : Nat) : cmtE sG sL (V2 g1 g2) sD = 0 ∧ cmtL sG sL (V2 g1 g2) sD = ⟨⟨2, 0, 3⟩, setW (fun _ => none) [(20, fl 1), (21, fl 2)], false⟩ := by
  have hw : wl (V2 g1 g2) = [(20, fl 1), (21, fl 2)] := rfl
  have hE : cmE sG sL (wl (V2 g1 g2)) sD = 0 := by
    unfold cmE
    rw [if_neg (by rw [hw]; decide)]
    exact (sD_lives.run _).1
  have hL : cmL sG sL (wl (V2 g1 g2)) sD = ⟨⟨2, 0, 3⟩, setW (fun _ => none) [(20, fl 1), (21, fl 2)], false⟩ := by
    unfold cmL
    rw [if_neg (by rw [hw]; decide)]
    unfold cmL0
    rw [if_pos (sD_lives.run _).1, hw]
    rfl
  unfold cmtE cmtL
  rw [if_pos (v2_lst g1 g2), if_neg (by decide), if_neg (show ¬ (V2 g1 g2).length = 0 by show ¬ 2 = 0; decide), if_pos (v2_lst g1 g2), if_neg (by decide), if_neg (show ¬ (V2 g1 g2).length = 0 by show ¬ 2 = 0; decide), hE, hL]
  exact ⟨rfl, rfl⟩

theorem v2_pend : (pendL sG (setW (fun _ => none) [(20, fl 1), (21, fl 2)])).length = 2 := by rfl

end Go.Proofs.YtadnlljknocbbaaGreatDoor

/- The contract of wakes, and the walk of WalNil. -/
namespace Go.Proofs.YtadnlljknocbbaaGreatDoor
open Go.RowKit Go.Shelf Go.Maps
set_option linter.unusedVariables false
set_option maxRecDepth 100000

theorem WD.base {w u : World} {g dg : Nat} {L : Lg} {D : Dev} {u' : World} (hu : Below w.heap.size w u) (h : WD u.heap.size u g dg L D u') : WD w.heap.size w g dg L D u' := by
  obtain ⟨S, h⟩ := h
  exact ⟨S, h.lv, fun k hk => Nat.le_trans hu.size (h.ge k hk), hu.trans (h.bel.mono hu.size), Nat.le_refl _⟩

/-- A law's own log and device. -/
theorem w_fresh {w : World} (hT : Tab w) (u : World) (hu : Below w.heap.size w u) : Calls Tryz.prog 11 #[Pv sP] u fun e w' => ∃ dg g, e = .returned (.tuple #[.pointer (some ⟨dg, 0, none⟩), .pointer (some ⟨g, 0, none⟩)]) ∧ Hid (WD w.heap.size w g dg sL sD w') := by
  refine (fresh_any u (hT.kept (hu.block 0 hT.lt))).mono ?_
  rintro e w' ⟨dg, g, rfl, X⟩
  exact ⟨dg, g, rfl, (unhide X).base hu⟩

/-- Commit of the two blocks of wakes. -/
theorem wake_commit {w : World} {g dg : Nat} {u : World} (h : WD w.heap.size w g dg sL sD u) :
    Calls Tryz.prog 42 #[.int .u8 1] u fun e u1 => ∃ g1, e = .returned (.slice (some ⟨g1, 0, none⟩) 64 64) ∧ Hid (Calls Tryz.prog 42 #[.int .u8 2] u1 fun e u2 => ∃ g2, e = .returned (.slice (some ⟨g2, 0, none⟩) 64 64) ∧
      Hid (Calls Tryz.prog 15 #[.pointer (some ⟨g, 0, none⟩), .slice (some ⟨u2.heap.size, 0, none⟩) 2 2] (u2.alloc (.cells #[.int .i64 20, .slice (some ⟨g1, 0, none⟩) 64 64, .int .i64 21, .slice (some ⟨g2, 0, none⟩) 64 64] 52)) fun e u' => e = .returned (.int .i64 0) ∧ ∃ D', Hid (WD w.heap.size w g dg ⟨⟨2, 0, 3⟩, setW (fun _ => none) [(20, fl 1), (21, fl 2)], false⟩ D' u'))) := by
  refine (full_any 1 u).mono ?_
  rintro e u1 ⟨rfl, B1, b1⟩
  refine ⟨_, rfl, (full_any 2 u1).mono ?_⟩
  rintro e u2 ⟨rfl, B2, b2⟩
  have hb12 : Below u.heap.size u u2 := b1.trans (b2.mono b1.size)
  have hs1 := b1.size
  have hs2 := b2.size
  refine ⟨_, rfl, ?_⟩
  have hc := w_commit h (u2.alloc (.cells #[.int .i64 20, .slice (some ⟨u.heap.size, 0, none⟩) 64 64, .int .i64 21, .slice (some ⟨u1.heap.size, 0, none⟩) 64 64] 52)) (hb12.alloc hb12.size _) (some ⟨u2.heap.size, 0, none⟩) 2 2 (V2 u.heap.size u1.heap.size) (v2_has (B1.below b2 B1.lt) B2) (v2_out (Nat.le_refl _) hs1 (Nat.le_trans hs1 hs2)) (by omega) ⟨Nat.le_refl _, by omega⟩
  obtain ⟨c1, c2⟩ := v2_cmt u.heap.size u1.heap.size
  rw [c1, c2] at hc
  refine hc.mono ?_
  rintro e u' ⟨rfl, X⟩
  exact ⟨rfl, _, X⟩

set_option maxHeartbeats 1000000 in
theorem wakes_any (w : World) (hT : Tab w) : Calls Tryz.prog 9 #[] w fun e w' => e = .returned (.bool true) ∧ Below w.heap.size w w' := by
  have K1 := hide (small_any w)
  have K2 : Hid (∀ u, Below w.heap.size w u → _) := fun u hu => w_fresh hT u hu
  have K3 : Hid (∀ g dg u, WD w.heap.size w g dg sL sD u → _) := fun g dg u h => wake_commit h
  have K4 : Hid (∀ g dg D' u, WD w.heap.size w g dg ⟨⟨2, 0, 3⟩, setW (fun _ => none) [(20, fl 1), (21, fl 2)], false⟩ D' u → Calls Tryz.prog 31 #[.pointer (some ⟨g, 0, none⟩)] u fun e u' => e = .returned (.agg #[.int .i64 2, .int .i64 0, .int .i64 3]) ∧ Hid (Calls Tryz.prog 29 #[.pointer (some ⟨g, 0, none⟩)] u' fun e u2 => e = .returned (.int .i64 6) ∧ Hid (Calls Tryz.prog 27 #[.pointer (some ⟨g, 0, none⟩)] u2 fun e u3 => ∃ a c, e = .returned (.slice a 2 c) ∧ Hid (Below w.heap.size w u3)))) := fun g dg D' u h => by
    refine (w_head h).mono ?_
    rintro e u' ⟨rfl, h1⟩
    refine ⟨rfl, (w_room (unhide h1)).mono ?_⟩
    rintro e u2 ⟨rfl, h2⟩
    refine ⟨rfl, (w_pend (unhide h2)).mono ?_⟩
    rintro e u3 ⟨a, c, V, rfl, X⟩
    exact ⟨a, c, by rw [v2_pend], (unhide X).2.2.2.bel⟩
  have q : ∀ u : World, (binOp .eql 57 (.agg #[.int .i64 2, .int .i64 0, .int .i64 3]) (.agg #[.int .i64 2, .int .i64 0, .int .i64 3])).run Tryz.prog u = .ok (.bool true) u := fun u => eql_plan_yesH (P := fun k => if k = 0 then 2 else if k = 1 then 0 else 3) (Q := fun k => if k = 0 then 2 else if k = 1 then 0 else 3) (fun _ _ => rfl) u
  clear hT
  generalize sP = p at *
  go_enter Tryz.func9, Tryz.ntmps9
  go_wp2_with fail
  go_at_call 10
  refine (unhide K1).mono ?_
  rintro e w1 ⟨rfl, hb1⟩
  have KF := hide (unhide K2 _ hb1)
  clear K1 K2 hb1
  go_wp2_with fail
  go_at_call 11
  refine (unhide KF).mono ?_
  rintro e w2 ⟨dg, g, rfl, X⟩
  have KC := hide (unhide K3 _ _ _ (unhide X))
  clear KF K3 X
  go_wp2_with fail
  go_at_call 42
  refine (unhide KC).mono ?_
  rintro e u1 ⟨g1, rfl, KC2⟩
  clear KC
  go_wp2_with fail
  go_at_call 42
  refine (unhide KC2).mono ?_
  rintro e u2 ⟨g2, rfl, KC3⟩
  clear KC2
  go_wp2_with fail
  go_at_call 15
  refine (unhide KC3).mono ?_
  rintro e u3 ⟨rfl, D', X⟩
  have KH := hide (unhide K4 _ _ _ _ (unhide X))
  clear KC3 K4 X
  go_wp2_with fail
  go_at_call 31
  refine (unhide KH).mono ?_
  rintro e u4 ⟨rfl, KR⟩
  clear KH
  go_wp2_with fail
  go_at_call 29
  refine (unhide KR).mono ?_
  rintro e u5 ⟨rfl, KP⟩
  clear KR
  go_wp2_with fail
  go_at_call 27
  refine (unhide KP).mono ?_
  rintro e u6 ⟨a, c, rfl, X⟩
  clear KP
  go_wp2_with fail
  go_ret
  exact ⟨rfl, unhide X⟩

set_option maxHeartbeats 1000000 in
theorem nil_walk (w : World) (hT : Tab w) : Calls Tryz.prog 7 #[] w fun e w' => e = .returned (.bool true) ∧ Below w.heap.size w w' := by
  have K1 := hide (wakes_any w hT)
  have q : ∀ u : World, (binOp .eql 57 (.agg #[.int .i64 0, .int .i64 0, .int .i64 0]) (.agg #[.int .i64 0, .int .i64 0, .int .i64 0])).run Tryz.prog u = .ok (.bool true) u := fun u => eql_plan_yesH (P := fun k => 0) (Q := fun k => 0) (fun _ _ => rfl) u
  clear hT
  go_enter Tryz.func7, Tryz.ntmps7
  go_wp2_with fail
  go_at_call 9
  refine (unhide K1).mono ?_
  rintro e w1 ⟨rfl, hb1⟩
  have B1 := hide hb1
  have KC := hide (commit_nil (.slice none 0 0) w1)
  have KA := hide (apply_nil w1)
  have KP := hide (pending_nil w1)
  have KR := hide (room_nil w1)
  have KH := hide (header_nil w1)
  clear K1 hb1
  go_wp2_with fail
  go_at_call 15
  refine (unhide KC).mono ?_
  rintro e w' ⟨rfl, rfl⟩
  clear KC
  go_wp2_with fail
  go_at_call 17
  refine (unhide KA).mono ?_
  rintro e w' ⟨rfl, rfl⟩
  clear KA
  go_wp2_with fail
  go_at_call 27
  refine (unhide KP).mono ?_
  rintro e w' ⟨rfl, rfl⟩
  clear KP
  go_wp2_with fail
  go_at_call 29
  refine (unhide KR).mono ?_
  rintro e w' ⟨rfl, rfl⟩
  clear KR
  go_wp2_with fail
  go_at_call 31
  refine (unhide KH).mono ?_
  rintro e w2 ⟨rfl, hb2⟩
  have B2 := hide ((unhide B1).trans (hb2.mono (unhide B1).size))
  clear KH B1 hb2
  go_wp2_with fail
  go_ret
  exact ⟨rfl, unhide B2⟩

end Go.Proofs.YtadnlljknocbbaaGreatDoor

/- A log that stands on a device that lives: each call keeps it so. -/
namespace Go.Proofs.YtadnlljknocbbaaGreatDoor
open Go.RowKit Go.Shelf
set_option linter.unusedVariables false

/-- The log L stands on D, which lives; nothing waits. -/
structure St (G : Geo) (L : Lg) (D : Dev) : Prop where
  live : D.Live
  ld : L.dead = false
  n : D.n = G.n
  inv : ∃ Ps, Inv G D.rd L Ps
  fl : ∀ j, j < G.n → D.Y j = []
  q : ∀ b z, L.Q b = some z → G.ib ≤ b ∧ b < G.n

theorem sL_st : St sG sL sD := by
  refine ⟨sD_lives, rfl, sD_live.2.2.1, ⟨[], ?_⟩, sD_live.2.2.2.2, fun b z h => by cases h⟩
  exact ⟨sD_rd, hd1_ok sG_ok, Nat.zero_le _, trivial, rfl, rfl⟩

theorem spanP_zero {Ps : List Wl} (h : spanP Ps = 0) : Ps = [] := by
  have := spanP_len Ps
  exact List.length_eq_zero_iff.1 (by omega)

theorem Inv.none {G : Geo} {rd : Nat → List Int} {L : Lg} {Ps : List Wl} (h : Inv G rd L Ps) (h0 : L.h.used = 0) : L.Q = fun _ => none := by
  have := h.sp
  rw [h0] at this
  rw [h.q, spanP_zero this]
  rfl

/-- Steps that end with a flush leave nothing that waits. -/
theorem run_flush (A : List Stp) (D : Dev) (h : D.Live) : ∀ j, j < D.n → (runD (A ++ [.f]) D).Y j = [] := by
  have : ∀ (A : List Stp) (D : Dev), D.Live → runD (A ++ [.f]) D = (runD A D).fD := by
    intro A
    induction A with
    | nil => intro D h; show (if D.wE = 0 then D.fD else D.fD) = _; split <;> rfl
    | cons s r ih =>
      intro D h
      show runD (s :: (r ++ [.f])) D = (runD (s :: r) D).fD
      rw [runD_ok h.wE, runD_ok h.wE]
      exact ih _ (h.ap s)
  intro j hj
  rw [this A D h]
  have hl := (h.run A).2
  have hn : (runD A D).n = D.n := (runD_n A D).1
  generalize runD A D = E at *
  unfold Dev.fD
  rw [if_neg (by
    rintro (h1 | h1)
    · rw [hl.1] at h1; omega
    · rw [hl.2] at h1; cases h1)]
  show (if j < E.burn.n then [] else _) = []
  have : E.burn.n = E.n := rfl
  rw [this, hn, if_pos hj]

theorem stl_end (A : List Stp) (G : Geo) (h : Hd) : A ++ stlS G h = (A ++ [.f, .w 1 (hdB G h)]) ++ [.f] := by simp [stlS]

/-- A list of writes that is not refused. -/
structure Good (G : Geo) (L : Lg) (W : Wl) : Prop where
  b : blkE G (W.map (fun x => (x.1 : Int))) = 0
  q : L.h.seq + G.parts W.length ≤ 4294967295
  u : G.uses W.length ≤ G.lg

theorem good_of {G : Geo} {L : Lg} {V : List Wr} (hs : L.h.seq ≤ 4294967295) (h : lstE G L.h.seq (wv V) = 0) : Good G L (wl V) := by
  unfold lstE at h
  by_cases h1 : (wv V).all (fun x => decide (x.2 = G.blk)) = true
  · rw [if_pos h1] at h
    by_cases h2 : blkE G ((wv V).map (·.1)) = 0
    · rw [if_pos h2] at h
      have hl : (wv V).length = V.length := by simp [wv]
      rw [hl] at h
      have hw : (wl V).length = V.length := wl_len V
      by_cases h3 : G.lg < G.uses V.length
      · rw [if_pos h3] at h; omega
      · rw [if_neg h3] at h
        by_cases h4 : 4294967295 - L.h.seq < G.parts V.length
        · rw [if_pos h4] at h; omega
        · refine ⟨?_, by rw [hw]; omega, by rw [hw]; omega⟩
          have e : (wl V).map (fun x => (x.1 : Int)) = (wv V).map (·.1) := by
            unfold wl wv
            rw [List.map_map, List.map_map]
            refine List.map_congr_left (fun v hv => ?_)
            obtain ⟨h5, _⟩ := blkE_ok h2
            have := (h5 v.b (List.mem_map.2 ⟨(v.b, v.dl), List.mem_map.2 ⟨v, hv, rfl⟩, rfl⟩)).1
            show ((v.b.toNat : Nat) : Int) = v.b
            omega
          rw [e]
          exact h2
    · rw [if_neg h2] at h; exact absurd h h2
  · rw [if_neg h1] at h; omega

theorem setW_keys {G : Geo} : ∀ (W : Wl) (Q : Nat → Option (List Int)), (∀ x ∈ W, G.ib ≤ x.1 ∧ x.1 < G.n) → (∀ b z, Q b = some z → G.ib ≤ b ∧ b < G.n) → ∀ b z, setW Q W b = some z → G.ib ≤ b ∧ b < G.n
  | [], Q, _, hQ, b, z, h => hQ b z h
  | x :: r, Q, hW, hQ, b, z, h => by
    refine setW_keys r _ (fun y hy => hW y (List.mem_cons_of_mem _ hy)) (fun b z h => ?_) b z h
    by_cases e : b = x.1
    · rw [e]; exact hW x (by simp)
    · rw [if_neg e] at h; exact hQ b z h

theorem Good.keys {G : Geo} {L : Lg} {W : Wl} (h : Good G L W) : ∀ x ∈ W, G.ib ≤ x.1 ∧ x.1 < G.n := fun x hx => by
  have := (blkE_ok h.b).1 (x.1 : Int) (List.mem_map.2 ⟨x, hx, rfl⟩)
  omega

theorem Lg.eta {L : Lg} (h : L.dead = false) : L = ⟨L.h, L.Q, false⟩ := by cases L; simp at h; rw [h]

/-- Apply. -/
theorem St.apl {G : Geo} (hG : G.Ok) {L : Lg} {D : Dev} (h : St G L D) : apE G L D = 0 ∧ St G (apL G L D) (apD G L D) ∧ (apL G L D).h.used = 0 ∧ (apL G L D).h.seq = L.h.seq ∧ (apL G L D).Q = (fun _ => none) ∧ (∀ j, G.ib ≤ j → j < G.n → (apD G L D).rd j = (L.Q j).getD (D.rd j)) := by
  obtain ⟨Ps, hI⟩ := h.inv
  have hib := hG.ibn
  unfold apE apL apD
  by_cases h0 : L.h.used = 0
  · rw [if_pos h0, if_pos h0, if_pos h0]
    have hn := hI.none h0
    exact ⟨rfl, h, h0, rfl, hn, fun j _ _ => by rw [hn]; rfl⟩
  · have hr := h.live.run (aplS G L)
    rw [if_neg h0, if_neg h0, if_neg h0, if_pos hr.1]
    have hrd := run_rd (aplS G L) D hr.1
    refine ⟨hr.1, ⟨hr.2, h.ld, (runD_n _ _).1.trans h.n, ⟨[], ?_⟩, fun j hj => ?_, fun b z hb => by cases hb⟩, rfl, rfl, rfl, fun j h1 h2 => ?_⟩
    · rw [hrd]
      exact hI.apply hG _
    · unfold aplS
      rw [stl_end]
      exact run_flush _ D h.live j (by rw [h.n]; exact hj)
    · rw [hrd]
      unfold aplS
      rw [rdS_append, rdS_stl]
      show (if j = 1 then _ else rdS (homeS (pendW G L.Q)) D.rd j) = _
      rw [if_neg (by omega), home_rd G L.Q D.rd j h2]

/-- A commit for which there is room. -/
theorem St.com0 {G : Geo} (hG : G.Ok) {L : Lg} {D : Dev} (h : St G L D) {W : Wl} (hW : Good G L W) (hu : L.h.used + G.uses W.length ≤ G.lg) : cmE0 G L W D = 0 ∧ St G (cmL0 G L W D) (cmD0 G L W D) ∧ cmL0 G L W D = ⟨G.after L.h W.length, setW L.Q W, false⟩ ∧ (∀ j, G.ib ≤ j → j < G.n → (cmD0 G L W D).rd j = D.rd j) := by
  obtain ⟨Ps, hI⟩ := h.inv
  have hr := h.live.run (comS G L W)
  have hrd := run_rd (comS G L W) D hr.1
  have hib := hG.ibn
  unfold cmE0 cmL0 cmD0
  rw [if_pos hr.1, h.ld]
  refine ⟨hr.1, ⟨hr.2, rfl, (runD_n _ _).1.trans h.n, ⟨_, by rw [hrd]; exact hI.commit hG W hW.b hW.q hu false⟩, fun j hj => ?_, setW_keys W L.Q hW.keys h.q⟩, rfl, fun j h1 h2 => ?_⟩
  · unfold comS
    rw [stl_end]
    exact run_flush _ D h.live j (by rw [h.n]; exact hj)
  · rw [hrd]
    unfold comS
    rw [rdS_append, rdS_stl]
    show (if j = 1 then _ else rdS (partsS G L.h.seq (L.h.tail + L.h.used) W) D.rd j) = _
    rw [if_neg (by omega)]
    exact (parts_std hG W L.h.seq (L.h.tail + L.h.used) D.rd hW.b hW.q hW.u).2 j (fun i _ => by have := (hG.ring (L.h.tail + L.h.used + i)).2.1; omega)

/-- Any commit. -/
theorem St.com {G : Geo} (hG : G.Ok) {L : Lg} {D : Dev} (h : St G L D) {W : Wl} (hW : Good G L W) : cmE G L W D = 0 ∧ St G (cmL G L W D) (cmD G L W D) := by
  obtain ⟨Ps, hI⟩ := h.inv
  have hu := hI.ok.used
  unfold cmE cmL cmD
  by_cases hr : G.lg - L.h.used < G.uses W.length
  · obtain ⟨a1, a2, a3, a4, a5, a6⟩ := h.apl hG
    rw [if_pos hr, if_pos hr, if_pos hr, if_pos a1, if_pos a1, if_pos a1]
    have := a2.com0 hG (W := W) ⟨hW.b, by rw [a4]; exact hW.q, hW.u⟩ (by rw [a3]; have := hW.u; omega)
    exact ⟨this.1, this.2.1⟩
  · rw [if_neg hr, if_neg hr, if_neg hr]
    have := h.com0 hG hW (by omega)
    exact ⟨this.1, this.2.1⟩

/-- Commit of whatever list. -/
theorem St.cmt {G : Geo} (hG : G.Ok) {L : Lg} {D : Dev} (h : St G L D) (V : List Wr) : St G (cmtL G L V D) (cmtD G L V D) := by
  obtain ⟨Ps, hI⟩ := h.inv
  unfold cmtL cmtD
  by_cases hE : lstE G L.h.seq (wv V) = 0
  · have hnd : ¬ (L.dead = true) := by rw [h.ld]; decide
    rw [if_pos hE, if_pos hE, if_neg hnd, if_neg hnd]
    by_cases h0 : V.length = 0
    · rw [if_pos h0, if_pos h0]; exact h
    · rw [if_neg h0, if_neg h0]
      obtain ⟨c1, c2⟩ := h.com hG (good_of hI.ok.seq hE)
      rw [c1]
      unfold Lg.met
      rw [if_neg (by decide)]
      exact c2
  · rw [if_neg hE, if_neg hE]; exact h

/-- Apply of a log. -/
theorem St.aply {G : Geo} (hG : G.Ok) {L : Lg} {D : Dev} (h : St G L D) : aplyE G L D = 0 ∧ aplyL G L D = apL G L D ∧ aplyD G L D = apD G L D := by
  have := (h.apl hG).1
  unfold aplyE aplyL aplyD
  have hnd : ¬ (L.dead = true) := by rw [h.ld]; decide
  rw [if_neg hnd, if_neg hnd, if_neg hnd, this]
  unfold Lg.met
  rw [if_neg (by decide)]
  exact ⟨rfl, rfl, rfl⟩

/-- .. that has nothing in use. -/
theorem St.aply0 {G : Geo} {L : Lg} {D : Dev} (h : St G L D) (h0 : L.h.used = 0) : aplyE G L D = 0 ∧ aplyL G L D = L ∧ aplyD G L D = D := by
  have hnd : ¬ (L.dead = true) := by rw [h.ld]; decide
  unfold aplyE aplyL aplyD apE apL apD
  rw [if_neg hnd, if_neg hnd, if_neg hnd, if_pos h0, if_pos h0, if_pos h0]
  unfold Lg.met
  rw [if_neg (by decide)]
  exact ⟨rfl, rfl, rfl⟩

theorem St.parse {G : Geo} (hG : G.Ok) {L : Lg} {D : Dev} (h : St G L D) : Go.Proofs.YtadnlljknocbbaaGreatDoor.parse G D.rd = some L := by
  obtain ⟨Ps, hI⟩ := h.inv
  rw [hI.parse hG (hd_back hG hI.ok), ← Lg.eta h.ld]

/-- A crash of a device on which nothing waits. -/
theorem crash_rd {D : Dev} (h : ∀ j, j < D.n → D.Y j = []) (ps : List Int) : (D.crash ps).rd = D.rd := by
  funext j
  unfold Dev.rd
  by_cases hj : j < D.n
  · have e1 : (D.crash ps).Y j = [] := by show (if j < D.n then [] else D.Y j) = []; rw [if_pos hj]
    have e2 : (D.crash ps).X j = D.X j := by
      show (if j < D.n then D.pick j _ else D.X j) = D.X j
      rw [if_pos hj, pick_low (.inr (h j hj))]
    rw [e1, e2, h j hj]
  · have e1 : (D.crash ps).Y j = D.Y j := by show (if j < D.n then [] else D.Y j) = D.Y j; rw [if_neg hj]
    have e2 : (D.crash ps).X j = D.X j := by show (if j < D.n then D.pick j _ else D.X j) = D.X j; rw [if_neg hj]
    rw [e1, e2]

theorem crash_y (D : Dev) (ps : List Int) : ∀ j, j < D.n → (D.crash ps).Y j = [] := fun j hj => by
  show (if j < D.n then [] else D.Y j) = []
  rw [if_pos hj]

theorem St.crash {G : Geo} {L : Lg} {D : Dev} (h : St G L D) (ps : List Int) : St G L (D.crash ps) := by
  have e := crash_rd (D := D) (fun j hj => h.fl j (by rw [← h.n]; exact hj)) ps
  exact ⟨⟨rfl, rfl⟩, h.ld, h.n, by rw [e]; exact h.inv, fun j hj => crash_y D ps j (by rw [h.n]; exact hj), h.q⟩

end Go.Proofs.YtadnlljknocbbaaGreatDoor

/- Crashes wherever: what stands behind them. -/
namespace Go.Proofs.YtadnlljknocbbaaGreatDoor
open Go.RowKit Go.Shelf
set_option linter.unusedVariables false

/-- The log L stands on D, which is not dead; nothing waits; there may be a fuse. -/
structure Sb (G : Geo) (L : Lg) (D : Dev) : Prop where
  dd : D.dead = false
  ld : L.dead = false
  n : D.n = G.n
  inv : ∃ Ps, Inv G D.rd L Ps
  fl : ∀ j, j < G.n → D.Y j = []
  q : ∀ b z, L.Q b = some z → G.ib ≤ b ∧ b < G.n

theorem St.sb {G : Geo} {L : Lg} {D : Dev} (h : St G L D) : Sb G L D := ⟨h.live.2, h.ld, h.n, h.inv, h.fl, h.q⟩

theorem Sb.st {G : Geo} {L : Lg} {D : Dev} (h : Sb G L D) (hf : D.f = -1) : St G L D := ⟨⟨hf, h.dd⟩, h.ld, h.n, h.inv, h.fl, h.q⟩

theorem Sb.fuse {G : Geo} {L : Lg} {D : Dev} (h : Sb G L D) (k : Int) : Sb G L (D.fuseD k) ∧ (D.fuseD k).rd = D.rd := by
  unfold Dev.fuseD
  split
  · exact ⟨h, rfl⟩
  · split
    · exact ⟨h, rfl⟩
    · exact ⟨⟨h.dd, h.ld, h.n, h.inv, h.fl, h.q⟩, rfl⟩

/-- What a block will be when the log is applied. -/
def imgf (L : Lg) (rd : Nat → List Int) (j : Nat) : List Int := (L.Q j).getD (rd j)

/-- Wherever a crash leaves D: a log stands there, and with it the blocks are those of one of T. -/
def Cra (G : Geo) (D : Dev) (T : List (Nat → List Int)) : Prop :=
  D.n = G.n ∧ ∀ rd' : Nat → List Int, (∀ j, j < G.n → rd' j ∈ D.may j) → ∃ L Ps t, t ∈ T ∧ Inv G rd' L Ps ∧ L.dead = false ∧ (∀ b z, L.Q b = some z → G.ib ≤ b ∧ b < G.n) ∧ ∀ j, G.ib ≤ j → j < G.n → imgf L rd' j = t j

theorem Cra.mono {G : Geo} {D : Dev} {T T' : List (Nat → List Int)} (h : Cra G D T) (hs : ∀ t ∈ T, t ∈ T') : Cra G D T' :=
  ⟨h.1, fun rd' hr => by obtain ⟨L, Ps, t, ht, r⟩ := h.2 rd' hr; exact ⟨L, Ps, t, hs t ht, r⟩⟩

/-- States that say the same. -/
theorem Cra.congr {G : Geo} {D : Dev} {T T' : List (Nat → List Int)} (h : Cra G D T) (hs : ∀ t ∈ T, ∃ t' ∈ T', ∀ j, G.ib ≤ j → j < G.n → t j = t' j) : Cra G D T' :=
  ⟨h.1, fun rd' hr => by
    obtain ⟨L, Ps, t, ht, h1, h2, h3, h4⟩ := h.2 rd' hr
    obtain ⟨t', ht', e⟩ := hs t ht
    exact ⟨L, Ps, t', ht', h1, h2, h3, fun j a b => (h4 j a b).trans (e j a b)⟩⟩

theorem pick_may (D : Dev) (i : Nat) (k : Int) : D.pick i k ∈ D.may i := by
  unfold Dev.pick Dev.may
  split
  · simp
  · cases h : (D.Y i)[min k.toNat (D.Y i).length - 1]? with
    | none => simp
    | some z => exact List.mem_cons_of_mem _ (List.mem_of_getElem? h)

theorem crash_may (D : Dev) (ps : List Int) : ∀ j, j < D.n → (D.crash ps).rd j ∈ D.may j := fun j hj => by
  have e1 : (D.crash ps).Y j = [] := crash_y D ps j hj
  have e2 : (D.crash ps).X j = D.pick j (ps[D.cnt j]?.getD 0) := by
    show (if j < D.n then D.pick j _ else D.X j) = _
    rw [if_pos hj]
  unfold Dev.rd
  rw [e1, e2]
  exact pick_may D j _

theorem may_one {D : Dev} {j : Nat} (h : D.Y j = []) : D.may j = [D.rd j] := by
  unfold Dev.may Dev.rd
  rw [h]
  rfl

theorem Sb.cra {G : Geo} (hG : G.Ok) {L : Lg} {D : Dev} (h : Sb G L D) : Cra G D [imgf L D.rd] := by
  obtain ⟨Ps, hI⟩ := h.inv
  have hib := hG.ibn
  refine ⟨h.n, fun rd' hr => ?_⟩
  have e : ∀ j, j < G.n → rd' j = D.rd j := fun j hj => by
    have := hr j hj
    rw [may_one (h.fl j hj)] at this
    simpa using this
  refine ⟨L, Ps, imgf L D.rd, by simp, hI.congr hG (e 1 (by omega)) (fun i _ => e _ (hG.ring _).2.2), h.ld, h.q, fun j _ hj => ?_⟩
  unfold imgf
  rw [e j hj]

/-- Behind a crash. -/
theorem Cra.crash {G : Geo} {D : Dev} {T : List (Nat → List Int)} (h : Cra G D T) (ps : List Int) : ∃ L t, t ∈ T ∧ Sb G L (D.crash ps) ∧ (D.crash ps).f = -1 ∧ ∀ j, G.ib ≤ j → j < G.n → imgf L (D.crash ps).rd j = t j := by
  obtain ⟨L, Ps, t, ht, h1, h2, h3, h4⟩ := h.2 (D.crash ps).rd (fun j hj => crash_may D ps j (by rw [h.1]; exact hj))
  exact ⟨L, t, ht, ⟨rfl, h2, h.1, ⟨Ps, h1⟩, fun j hj => crash_y D ps j (by rw [h.1]; exact hj), h3⟩, rfl, h4⟩

theorem Sb.parse {G : Geo} (hG : G.Ok) {L : Lg} {D : Dev} (h : Sb G L D) : Go.Proofs.YtadnlljknocbbaaGreatDoor.parse G D.rd = some L := by
  obtain ⟨Ps, hI⟩ := h.inv
  rw [hI.parse hG (hd_back hG hI.ok), ← Lg.eta h.ld]

/-- Steps that were done leave a device that is not dead; others a dead one. -/
theorem ap_dead (D : Dev) (s : Stp) (h : D.wE = 0) : (s.ap D).dead = D.dead := by
  have hb : ¬ (D.f = 0 ∨ D.dead = true) := fun hb => by unfold Dev.wE at h; rw [if_pos hb] at h; omega
  cases s with
  | w i z =>
    show (D.wD i z).dead = _
    unfold Dev.wD
    rw [if_neg hb]
    split <;> rfl
  | f =>
    show D.fD.dead = _
    unfold Dev.fD
    rw [if_neg hb]
    rfl

theorem run_dead : ∀ (l : List Stp) (D : Dev), D.dead = false → (runE l D = 0 → (runD l D).dead = false) ∧ (runE l D ≠ 0 → (runD l D).dead = true)
  | [], D, h => ⟨fun _ => h, fun h0 => absurd rfl h0⟩
  | s :: r, D, h => by
    by_cases h0 : D.wE = 0
    · rw [runE_ok h0, runD_ok h0]
      exact run_dead r _ (by rw [ap_dead D s h0]; exact h)
    · rw [runE_no h0, runD_no h0, s.ap_dead h0]
      exact ⟨fun e => by omega, fun _ => rfl⟩

theorem run_flush0 (A : List Stp) (D : Dev) (h : runE (A ++ [.f]) D = 0) : ∀ j, j < D.n → (runD (A ++ [.f]) D).Y j = [] := by
  intro j hj
  rw [runE_append] at h
  rw [runD_append]
  by_cases h1 : runE A D = 0
  · rw [if_pos h1] at h ⊢
    have hn := (runD_n A D).1
    generalize runD A D = E at *
    have hw : E.wE = 0 := by
      by_cases hw : E.wE = 0
      · exact hw
      · rw [runE_no hw] at h; omega
    rw [runD_ok hw]
    show (E.fD).Y j = []
    have hb : ¬ (E.f = 0 ∨ E.dead = true) := fun hb => by unfold Dev.wE at hw; rw [if_pos hb] at hw; omega
    unfold Dev.fD
    rw [if_neg hb]
    show (if j < E.burn.n then [] else _) = []
    have : E.burn.n = E.n := rfl
    rw [this, hn, if_pos hj]
  · rw [if_neg h1] at h; omega

theorem posS_at : ∀ (l : List Stp) (p p' : Nat → List (List Int)) (j : Nat), p j = p' j → posS l p j = posS l p' j
  | [], p, p', j, h => h
  | .w i z :: s, p, p', j, h => posS_at s _ _ j (by
      by_cases e : j = i
      · subst e; simp [h]
      · simp [e, h])
  | .f :: s, p, p', j, h => posS_at s _ _ j (by simp [h])

/-- Steps that were begun on a device on which nothing waits. -/
theorem Sb.pos {G : Geo} {L : Lg} {D : Dev} (h : Sb G L D) (l : List Stp) : ∃ l1 l2, l = l1 ++ l2 ∧ ∀ rd' : Nat → List Int, (∀ j, j < G.n → rd' j ∈ (runD l D).may j) → ∀ j, j < G.n → rd' j ∈ posS l1 (fun j => [D.rd j]) j := by
  obtain ⟨l1, l2, e, hs, _⟩ := run_pos l G.n D D.may h.n (by rw [← h.n]; exact Sub.start D)
  refine ⟨l1, l2, e, fun rd' hr j hj => ?_⟩
  have := (hs j hj).1 _ (hr j hj)
  rwa [posS_at l1 D.may (fun j => [D.rd j]) j (may_one (h.fl j hj))] at this

/-- Apply, whatever the fuse. -/
theorem Sb.apl {G : Geo} (hG : G.Ok) {L : Lg} {D : Dev} (h : Sb G L D) :
    (apE G L D = 0 ∧ Sb G (apL G L D) (apD G L D) ∧ (apL G L D).h.used = 0 ∧ (apL G L D).h.seq = L.h.seq ∧ (∀ j, G.ib ≤ j → j < G.n → imgf (apL G L D) (apD G L D).rd j = imgf L D.rd j) ∧ (apL G L D).Q = fun _ => none) ∨
    (apE G L D = 7 ∧ (apD G L D).dead = true ∧ Cra G (apD G L D) [imgf L D.rd]) := by
  obtain ⟨Ps, hI⟩ := h.inv
  have hib := hG.ibn
  unfold apE apL apD
  by_cases h0 : L.h.used = 0
  · rw [if_pos h0, if_pos h0, if_pos h0]
    exact .inl ⟨rfl, h, h0, rfl, fun _ _ _ => rfl, hI.none h0⟩
  · rw [if_neg h0, if_neg h0, if_neg h0]
    obtain ⟨d1, d2⟩ := run_dead (aplS G L) D h.dd
    rcases runE_two (aplS G L) D with hr | hr
    · rw [if_pos hr]
      have hrd := run_rd (aplS G L) D hr
      have hz : ∀ j, G.ib ≤ j → j < G.n → (runD (aplS G L) D).rd j = imgf L D.rd j := fun j h1 h2 => by
        rw [hrd]
        unfold aplS
        rw [rdS_append, rdS_stl]
        show (if j = 1 then _ else rdS (homeS (pendW G L.Q)) D.rd j) = _
        rw [if_neg (by omega), home_rd G L.Q D.rd j h2]
        rfl
      refine .inl ⟨hr, ⟨d1 hr, h.ld, (runD_n _ _).1.trans h.n, ⟨[], by rw [hrd]; exact hI.apply hG _⟩, fun j hj => ?_, fun b z hb => by cases hb⟩, rfl, rfl, fun j h1 h2 => hz j h1 h2, rfl⟩
      unfold aplS at hr ⊢
      rw [stl_end] at hr ⊢
      exact run_flush0 _ D hr j (by rw [h.n]; exact hj)
    · refine .inr ⟨hr, d2 (by omega), (runD_n _ _).1.trans h.n, fun rd' hm => ?_⟩
      obtain ⟨l1, l2, e, hp⟩ := h.pos (aplS G L)
      rcases hI.crash_apl hG (fun b z hb => (h.q b z hb).1) false e (hp rd' hm) with ⟨i1, i2⟩ | ⟨i1, i2⟩
      · refine ⟨L, Ps, imgf L D.rd, by simp, i1, h.ld, h.q, fun j a b => ?_⟩
        unfold imgf
        rcases i2 j a b with x | x
        · rw [x]
        · rw [x]; rfl
      · exact ⟨⟨G.freed L.h, fun _ => none, false⟩, [], imgf L D.rd, by simp, i1, rfl, (fun b z hb => by cases hb), fun j a b => i2 j a b⟩

/-- Blocks with a list written. -/
def wrt (t : Nat → List Int) (W : Wl) (j : Nat) : List Int := (setW (fun _ => none) W j).getD (t j)

theorem setW_or : ∀ (W : Wl) (Q : Nat → Option (List Int)) (j : Nat), setW Q W j = (setW (fun _ => none) W j).or (Q j)
  | [], Q, j => by simp [setW]
  | x :: r, Q, j => by
    show setW (fun j => if j = x.1 then some x.2 else Q j) r j = (setW (fun j => if j = x.1 then some x.2 else none) r j).or (Q j)
    rw [setW_or r _ j, setW_or r (fun j => if j = x.1 then some x.2 else none) j]
    cases setW (fun _ => none) r j with
    | some z => rfl
    | none =>
      by_cases e : j = x.1
      · simp [e]
      · simp [e]

theorem wrt_img (L : Lg) (rd : Nat → List Int) (W : Wl) (h : Hd) (d : Bool) (j : Nat) : imgf ⟨h, setW L.Q W, d⟩ rd j = wrt (imgf L rd) W j := by
  unfold imgf wrt
  show (setW L.Q W j).getD (rd j) = _
  rw [setW_or]
  cases setW (fun _ => none) W j <;> rfl

theorem wrt_snoc (t : Nat → List Int) (W : Wl) (x : Nat × List Int) (j : Nat) : wrt t (W ++ [x]) j = if j = x.1 then x.2 else wrt t W j := by
  unfold wrt
  rw [setW_append]
  show ((if j = x.1 then some x.2 else setW (fun _ => none) W j)).getD (t j) = _
  split <;> rfl

theorem wrt_congr {t t' : Nat → List Int} {j : Nat} (h : t j = t' j) (W : Wl) : wrt t W j = wrt t' W j := by unfold wrt; rw [h]

/-- A commit for which there is room, whatever the fuse. -/
theorem Sb.com0 {G : Geo} (hG : G.Ok) {L : Lg} {D : Dev} (h : Sb G L D) {W : Wl} (hW : Good G L W) (hu : L.h.used + G.uses W.length ≤ G.lg) :
    (cmE0 G L W D = 0 ∧ Sb G (cmL0 G L W D) (cmD0 G L W D) ∧ ∀ j, G.ib ≤ j → j < G.n → imgf (cmL0 G L W D) (cmD0 G L W D).rd j = wrt (imgf L D.rd) W j) ∨
    (cmE0 G L W D = 7 ∧ (cmD0 G L W D).dead = true ∧ Cra G (cmD0 G L W D) [imgf L D.rd, wrt (imgf L D.rd) W]) := by
  obtain ⟨Ps, hI⟩ := h.inv
  have hib := hG.ibn
  unfold cmE0 cmL0 cmD0
  obtain ⟨d1, d2⟩ := run_dead (comS G L W) D h.dd
  rcases runE_two (comS G L W) D with hr | hr
  · have hrd := run_rd (comS G L W) D hr
    rw [if_pos hr, h.ld]
    have hz : ∀ j, G.ib ≤ j → j < G.n → (runD (comS G L W) D).rd j = D.rd j := fun j h1 h2 => by
      rw [hrd]
      unfold comS
      rw [rdS_append, rdS_stl]
      show (if j = 1 then _ else rdS (partsS G L.h.seq (L.h.tail + L.h.used) W) D.rd j) = _
      rw [if_neg (by omega)]
      exact (parts_std hG W L.h.seq (L.h.tail + L.h.used) D.rd hW.b hW.q hW.u).2 j (fun i _ => by have := (hG.ring (L.h.tail + L.h.used + i)).2.1; omega)
    refine .inl ⟨hr, ⟨d1 hr, rfl, (runD_n _ _).1.trans h.n, ⟨_, by rw [hrd]; exact hI.commit hG W hW.b hW.q hu false⟩, fun j hj => ?_, setW_keys W L.Q hW.keys h.q⟩, fun j a b => ?_⟩
    · unfold comS at hr ⊢
      rw [stl_end] at hr ⊢
      exact run_flush0 _ D hr j (by rw [h.n]; exact hj)
    · rw [wrt_img]
      refine wrt_congr ?_ W
      unfold imgf
      rw [hz j a b]
  · refine .inr ⟨hr, d2 (by omega), (runD_n _ _).1.trans h.n, fun rd' hm => ?_⟩
    obtain ⟨l1, l2, e, hp⟩ := h.pos (comS G L W)
    obtain ⟨i1, i2⟩ := hI.crash_com hG W hW.b hW.q hu false e (hp rd' hm)
    rcases i1 with i1 | i1
    · refine ⟨L, Ps, imgf L D.rd, by simp, i1, h.ld, h.q, fun j a b => ?_⟩
      unfold imgf
      rw [i2 j a b]
    · refine ⟨_, _, wrt (imgf L D.rd) W, by simp, i1, rfl, setW_keys W L.Q hW.keys h.q, fun j a b => ?_⟩
      rw [wrt_img]
      refine wrt_congr ?_ W
      unfold imgf
      rw [i2 j a b]

/-- Any commit. -/
theorem Sb.com {G : Geo} (hG : G.Ok) {L : Lg} {D : Dev} (h : Sb G L D) {W : Wl} (hW : Good G L W) :
    (cmE G L W D = 0 ∧ Sb G (cmL G L W D) (cmD G L W D) ∧ ∀ j, G.ib ≤ j → j < G.n → imgf (cmL G L W D) (cmD G L W D).rd j = wrt (imgf L D.rd) W j) ∨
    (cmE G L W D = 7 ∧ (cmD G L W D).dead = true ∧ Cra G (cmD G L W D) [imgf L D.rd, wrt (imgf L D.rd) W]) := by
  obtain ⟨Ps, hI⟩ := h.inv
  have hu := hI.ok.used
  unfold cmE cmL cmD
  by_cases hr : G.lg - L.h.used < G.uses W.length
  · rw [if_pos hr, if_pos hr, if_pos hr]
    rcases h.apl hG with ⟨a1, a2, a3, a4, a5, a6⟩ | ⟨a1, a2, a3⟩
    · rw [if_pos a1, if_pos a1, if_pos a1]
      rcases a2.com0 hG (W := W) ⟨hW.b, by rw [a4]; exact hW.q, hW.u⟩ (by rw [a3]; have := hW.u; omega) with ⟨b1, b2, b3⟩ | ⟨b1, b2, b3⟩
      · exact .inl ⟨b1, b2, fun j x y => (b3 j x y).trans (wrt_congr (a5 j x y) W)⟩
      · refine .inr ⟨b1, b2, b3.congr (fun t ht => ?_)⟩
        simp only [List.mem_cons, List.not_mem_nil, or_false] at ht
        rcases ht with rfl | rfl
        · exact ⟨imgf L D.rd, by simp, a5⟩
        · exact ⟨wrt (imgf L D.rd) W, by simp, fun j x y => wrt_congr (a5 j x y) W⟩
    · have hne : ¬ apE G L D = 0 := by omega
      rw [if_neg hne, if_neg hne, if_neg hne]
      exact .inr ⟨a1, a2, a3.mono (fun t ht => by simp at ht ⊢; exact .inl ht)⟩
  · rw [if_neg hr, if_neg hr, if_neg hr]
    exact h.com0 hG hW (by omega)

/-- Commit of whatever list: refused, done, or cut off. -/
theorem Sb.cmt {G : Geo} (hG : G.Ok) {L : Lg} {D : Dev} (h : Sb G L D) (V : List Wr) (hv : V.length ≠ 0) :
    (cmtE G L V D ≠ 0 ∧ cmtE G L V D ≠ 7 ∧ cmtL G L V D = L ∧ cmtD G L V D = D) ∨
    (lstE G L.h.seq (wv V) = 0 ∧ ((cmtE G L V D = 0 ∧ Sb G (cmtL G L V D) (cmtD G L V D) ∧ ∀ j, G.ib ≤ j → j < G.n → imgf (cmtL G L V D) (cmtD G L V D).rd j = wrt (imgf L D.rd) (wl V) j) ∨
      (cmtE G L V D = 7 ∧ Cra G (cmtD G L V D) [imgf L D.rd, wrt (imgf L D.rd) (wl V)]))) := by
  obtain ⟨Ps, hI⟩ := h.inv
  unfold cmtE cmtL cmtD
  by_cases hE : lstE G L.h.seq (wv V) = 0
  · have hnd : ¬ (L.dead = true) := by rw [h.ld]; decide
    rw [if_pos hE, if_pos hE, if_pos hE, if_neg hnd, if_neg hnd, if_neg hnd, if_neg hv, if_neg hv, if_neg hv]
    refine .inr ⟨hE, ?_⟩
    rcases h.com hG (good_of hI.ok.seq hE) with ⟨b1, b2, b3⟩ | ⟨b1, b2, b3⟩
    · refine .inl ⟨b1, ?_⟩
      rw [b1]
      unfold Lg.met
      rw [if_neg (by decide)]
      exact ⟨b2, b3⟩
    · exact .inr ⟨b1, b3⟩
  · rw [if_neg hE, if_neg hE, if_neg hE]
    refine .inl ⟨hE, ?_, rfl, rfl⟩
    unfold lstE blkE
    repeat' split
    all_goals omega

/-- Apply of a log, whatever the fuse. -/
theorem Sb.aply {G : Geo} (hG : G.Ok) {L : Lg} {D : Dev} (h : Sb G L D) :
    (aplyE G L D = 0 ∧ Sb G (aplyL G L D) (aplyD G L D) ∧ (∀ j, G.ib ≤ j → j < G.n → imgf (aplyL G L D) (aplyD G L D).rd j = imgf L D.rd j) ∧ (aplyL G L D).Q = fun _ => none) ∨
    (aplyE G L D = 7 ∧ (aplyD G L D).dead = true ∧ Cra G (aplyD G L D) [imgf L D.rd]) := by
  have hnd : ¬ (L.dead = true) := by rw [h.ld]; decide
  unfold aplyE aplyL aplyD
  rw [if_neg hnd, if_neg hnd, if_neg hnd]
  rcases h.apl hG with ⟨a1, a2, a3, a4, a5, a6⟩ | ⟨a1, a2, a3⟩
  · rw [a1]
    unfold Lg.met
    rw [if_neg (by decide)]
    exact .inl ⟨rfl, a2, a5, a6⟩
  · exact .inr ⟨a1, a2, a3⟩

end Go.Proofs.YtadnlljknocbbaaGreatDoor

