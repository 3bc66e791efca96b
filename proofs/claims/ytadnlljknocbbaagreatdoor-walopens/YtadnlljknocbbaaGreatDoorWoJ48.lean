/- Joined: WWake, WNil. -/
import Derived.Test.YtadnlljknocbbaaGreatDoorWoJ46
import Derived.Test.YtadnlljknocbbaaGreatDoorWoCOpenH
/- The contract of wakes; devices that live. -/
namespace Go.Proofs.YtadnlljknocbbaaGreatDoor
open Go.RowKit Go.Shelf Go.Maps
set_option linter.unusedVariables false
set_option maxRecDepth 100000

/-- A device without a fuse that lives. -/
def Dev.Live (D : Dev) : Prop := D.f = -1 ∧ D.dead = false

theorem Dev.Live.wE {D : Dev} (h : D.Live) : D.wE = 0 := by
  unfold Dev.wE
  rw [if_neg]
  rintro (h1 | h1)
  · rw [h.1] at h1; omega
  · rw [h.2] at h1; cases h1

theorem Dev.Live.ap {D : Dev} (h : D.Live) (s : Stp) : (s.ap D).Live := by
  have hb : ¬ (D.f = 0 ∨ D.dead = true) := by
    rintro (h1 | h1)
    · rw [h.1] at h1; omega
    · rw [h.2] at h1; cases h1
  have hbu : D.burn.Live := ⟨by show (if 0 < D.f then D.f - 1 else D.f) = -1; rw [h.1]; rfl, h.2⟩
  cases s with
  | w i z =>
    show (D.wD i z).Live
    unfold Dev.wD
    rw [if_neg hb]
    split <;> exact hbu
  | f =>
    show D.fD.Live
    unfold Dev.fD
    rw [if_neg hb]
    exact hbu

theorem Dev.Live.run {D : Dev} (h : D.Live) : ∀ l : List Stp, runE l D = 0 ∧ (runD l D).Live
  | [] => ⟨rfl, h⟩
  | s :: r => by
    rw [runE_ok h.wE, runD_ok h.wE]
    exact (h.ap s).run r
termination_by l => l.length

theorem sD_lives : sD.Live := ⟨sD_live.2.2.2.1, sD_live.1⟩

/-- Commit in a law. -/
theorem w_commit {B : Nat} {w : World} {g dg : Nat} {L : Lg} {D : Dev} {u : World} (h : WD B w g dg L D u) (u1 : World) (hb : Below u.heap.size u u1) (a : Option Addr) (len cap : Nat) (V : List Wr) (hV : WHas u1 a len V) (hO : ∀ S : Nat → Prop, (∀ k, S k → k < u.heap.size) → WOut S a len V) (hl : len ≤ 4398046511104) (hc : len ≤ cap ∧ cap ≤ 9223372036854775807) :
    Calls Tryz.prog 15 #[.pointer (some ⟨g, 0, none⟩), .slice a len cap] u1 fun e u' => e = .returned (.int .i64 (cmtE sG L V D)) ∧ Hid (WD B w g dg (cmtL sG L V D) (cmtD sG L V D) u') := by
  obtain ⟨S, h⟩ := h
  have h1 := h.later hb
  refine (Commit_any g dg S sP sG L D u1 h1.lv a len cap V hV (hO S (fun k hk => h.lv.lt hk)) hl hc).mono ?_
  rintro e u' ⟨rfl, S', l1, n1⟩
  exact ⟨rfl, S', h1.nx l1 n1⟩

theorem w_head {B : Nat} {w : World} {g dg : Nat} {L : Lg} {D : Dev} {u : World} (h : WD B w g dg L D u) :
    Calls Tryz.prog 31 #[.pointer (some ⟨g, 0, none⟩)] u fun e u' => e = .returned (Hv L.h.fn) ∧ Hid (WD B w g dg L D u') := by
  have h' := h
  obtain ⟨S, h⟩ := h
  obtain ⟨Sl, Sd, m, x⟩ := h.lv
  refine (header_any g dg Sl sP sG L m u x.ll).mono ?_
  rintro e u' ⟨rfl, hb⟩
  exact ⟨rfl, h'.later hb⟩

theorem w_room {B : Nat} {w : World} {g dg : Nat} {L : Lg} {D : Dev} {u : World} (h : WD B w g dg L D u) :
    Calls Tryz.prog 29 #[.pointer (some ⟨g, 0, none⟩)] u fun e u' => e = .returned (.int .i64 ((sG.lg - L.h.used : Nat) : Int)) ∧ Hid (WD B w g dg L D u') := by
  have h' := h
  obtain ⟨S, h⟩ := h
  obtain ⟨Sl, Sd, m, x⟩ := h.lv
  refine (room_any g dg Sl sP sG L m u x.ll).mono ?_
  rintro e u' ⟨rfl, q, rfl⟩
  exact ⟨rfl, h'.later (below_drewN (Below.refl _ u) q)⟩

theorem w_pend {B : Nat} {w : World} {g dg : Nat} {L : Lg} {D : Dev} {u : World} (h : WD B w g dg L D u) :
    Calls Tryz.prog 27 #[.pointer (some ⟨g, 0, none⟩)] u fun e u' => ∃ a c V, e = .returned (.slice a (pendL sG L.Q).length c) ∧ Hid (Gw u.heap.size u' (.slice a (pendL sG L.Q).length c) V ∧ wl V = pendW sG L.Q ∧ Below u.heap.size u u' ∧ WD B w g dg L D u') := by
  have h' := h
  obtain ⟨S, h⟩ := h
  obtain ⟨Sl, Sd, m, x⟩ := h.lv
  refine (pending_any g dg Sl sP sG L m u x.ll).mono ?_
  rintro e u' ⟨v, V, rfl, X⟩
  obtain ⟨g1, g2, g3, g4⟩ := unhide X
  have hl : V.length = (pendL sG L.Q).length := by rw [← wl_len, g2, pendW_len]
  obtain ⟨a, c, e1, _⟩ := g1.shape
  rw [hl] at e1
  subst e1
  exact ⟨a, c, V, rfl, g1, g2, g4, h'.later g4⟩

theorem w_apply {B : Nat} {w : World} {g dg : Nat} {L : Lg} {D : Dev} {u : World} (h : WD B w g dg L D u) :
    Calls Tryz.prog 17 #[.pointer (some ⟨g, 0, none⟩)] u fun e u' => e = .returned (.int .i64 (aplyE sG L D)) ∧ Hid (WD B w g dg (aplyL sG L D) (aplyD sG L D) u') := by
  obtain ⟨S, h⟩ := h
  refine (Apply_any g dg S sP sG L D u h.lv).mono ?_
  rintro e u' ⟨rfl, S', l1, n1⟩
  exact ⟨rfl, S', h.nx l1 n1⟩

/-- A list of two writes that was built. -/
def V2 (g1 g2 : Nat) : List Wr := [⟨20, some ⟨g1, 0, none⟩, 64, 64, fl 1⟩, ⟨21, some ⟨g2, 0, none⟩, 64, 64, fl 2⟩]

theorem v2_has {u : World} {g1 g2 : Nat} (h1 : Block u g1 (fl 1)) (h2 : Block u g2 (fl 2)) : WHas (u.alloc (.cells #[.int .i64 20, .slice (some ⟨g1, 0, none⟩) 64 64, .int .i64 21, .slice (some ⟨g2, 0, none⟩) 64 64] 52)) (some ⟨u.heap.size, 0, none⟩) 2 (V2 g1 g2) := by
  have hb : Below u.heap.size u (u.alloc (.cells #[.int .i64 20, .slice (some ⟨g1, 0, none⟩) 64 64, .int .i64 21, .slice (some ⟨g2, 0, none⟩) 64 64] 52)) := (Below.refl _ u).alloc (Nat.le_refl _) _
  have z := Bl.new u #[.int .i64 20, .slice (some ⟨g1, 0, none⟩) 64 64, .int .i64 21, .slice (some ⟨g2, 0, none⟩) 64 64] 52
  refine ⟨rfl, fun _ => ⟨u.heap.size, 0, rfl, z.lt, fun j hj => ?_⟩, fun j hj => ?_⟩
  · have : j = 0 ∨ j = 1 := by omega
    rcases this with rfl | rfl
    · exact ⟨z.cell 0 _ rfl, z.cell 1 _ rfl⟩
    · exact ⟨z.cell 2 _ rfl, z.cell 3 _ rfl⟩
  · have : j = 0 ∨ j = 1 := by omega
    rcases this with rfl | rfl
    · exact full_row (by decide) (by decide) (h1.below hb h1.lt)
    · exact full_row (by decide) (by decide) (h2.below hb h2.lt)

theorem v2_out {n g1 g2 gl : Nat} (h1 : n ≤ g1) (h2 : n ≤ g2) (h3 : n ≤ gl) (S : Nat → Prop) (hS : ∀ k, S k → k < n) : WOut S (some ⟨gl, 0, none⟩) 2 (V2 g1 g2) := by
  refine ⟨fun _ x e hs => by cases e; have : gl < n := hS _ hs; omega, fun j hj _ x e hs => ?_⟩
  have : j = 0 ∨ j = 1 := by omega
  rcases this with rfl | rfl
  · have e' : some (⟨g1, 0, none⟩ : Addr) = some x := e
    cases e'
    have : g1 < n := hS _ hs
    omega
  · have e' : some (⟨g2, 0, none⟩ : Addr) = some x := e
    cases e'
    have : g2 < n := hS _ hs
    omega

theorem v2_lst (g1 g2 : Nat) : lstE sG sL.h.seq (wv (V2 g1 g2)) = 0 := by
  have : wv (V2 g1 g2) = [(20, 64), (21, 64)] := rfl
  rw [this]
  decide

theorem v2_cmt (g1 g2 : Nat) : cmtE sG sL (V2 g1 g2) sD = 0 ∧ cmtL sG sL (V2 g1 g2) sD = ⟨⟨2, 0, 3⟩, setW (fun _ => none) [(20, fl 1), (21, fl 2)], false⟩ := by
  have hw : wl (V2 g1 g2) = [(20, fl 1), (21, fl 2)] := rfl
  have hE : cmE sG sL (wl (V2 g1 g2)) sD = 0 := by
    unfold cmE
    rw [if_neg (by rw [hw]; decide)]
    exact (sD_lives.run _).1
  have hL : cmL sG sL (wl (V2 g1 g2)) sD = ⟨⟨2, 0, 3⟩, setW (fun _ => none) [(20, fl 1), (21, fl 2)], false⟩ := by
    unfold cmL
    rw [if_neg (by rw [hw]; decide)]
    unfold cmL0
    rw [if_pos (sD_lives.run _).1, hw]
    rfl
  unfold cmtE cmtL
  rw [if_pos (v2_lst g1 g2), if_neg (by decide), if_neg (show ¬ (V2 g1 g2).length = 0 by show ¬ 2 = 0; decide), if_pos (v2_lst g1 g2), if_neg (by decide), if_neg (show ¬ (V2 g1 g2).length = 0 by show ¬ 2 = 0; decide), hE, hL]
  exact ⟨rfl, rfl⟩

theorem v2_pend : (pendL sG (setW (fun _ => none) [(20, fl 1), (21, fl 2)])).length = 2 := by rfl

end Go.Proofs.YtadnlljknocbbaaGreatDoor

/- The contract of wakes, and the walk of WalNil. -/
namespace Go.Proofs.YtadnlljknocbbaaGreatDoor
open Go.RowKit Go.Shelf Go.Maps
set_option linter.unusedVariables false
set_option maxRecDepth 100000

theorem WD.base {w u : World} {g dg : Nat} {L : Lg} {D : Dev} {u' : World} (hu : Below w.heap.size w u) (h : WD u.heap.size u g dg L D u') : WD w.heap.size w g dg L D u' := by
  obtain ⟨S, h⟩ := h
  exact ⟨S, h.lv, fun k hk => Nat.le_trans hu.size (h.ge k hk), hu.trans (h.bel.mono hu.size), Nat.le_refl _⟩

/-- A law's own log and device. -/
theorem w_fresh {w : World} (hT : Tab w) (u : World) (hu : Below w.heap.size w u) : Calls Tryz.prog 11 #[Pv sP] u fun e w' => ∃ dg g, e = .returned (.tuple #[.pointer (some ⟨dg, 0, none⟩), .pointer (some ⟨g, 0, none⟩)]) ∧ Hid (WD w.heap.size w g dg sL sD w') := by
  refine (fresh_any u (hT.kept (hu.block 0 hT.lt))).mono ?_
  rintro e w' ⟨dg, g, rfl, X⟩
  exact ⟨dg, g, rfl, (unhide X).base hu⟩

/-- Commit of the two blocks of wakes. -/
theorem wake_commit {w : World} {g dg : Nat} {u : World} (h : WD w.heap.size w g dg sL sD u) :
    Calls Tryz.prog 42 #[.int .u8 1] u fun e u1 => ∃ g1, e = .returned (.slice (some ⟨g1, 0, none⟩) 64 64) ∧ Hid (Calls Tryz.prog 42 #[.int .u8 2] u1 fun e u2 => ∃ g2, e = .returned (.slice (some ⟨g2, 0, none⟩) 64 64) ∧
      Hid (Calls Tryz.prog 15 #[.pointer (some ⟨g, 0, none⟩), .slice (some ⟨u2.heap.size, 0, none⟩) 2 2] (u2.alloc (.cells #[.int .i64 20, .slice (some ⟨g1, 0, none⟩) 64 64, .int .i64 21, .slice (some ⟨g2, 0, none⟩) 64 64] 52)) fun e u' => e = .returned (.int .i64 0) ∧ ∃ D', Hid (WD w.heap.size w g dg ⟨⟨2, 0, 3⟩, setW (fun _ => none) [(20, fl 1), (21, fl 2)], false⟩ D' u'))) := by
  refine (full_any 1 u).mono ?_
  rintro e u1 ⟨rfl, B1, b1⟩
  refine ⟨_, rfl, (full_any 2 u1).mono ?_⟩
  rintro e u2 ⟨rfl, B2, b2⟩
  have hb12 : Below u.heap.size u u2 := b1.trans (b2.mono b1.size)
  have hs1 := b1.size
  have hs2 := b2.size
  refine ⟨_, rfl, ?_⟩
  have hc := w_commit h (u2.alloc (.cells #[.int .i64 20, .slice (some ⟨u.heap.size, 0, none⟩) 64 64, .int .i64 21, .slice (some ⟨u1.heap.size, 0, none⟩) 64 64] 52)) (hb12.alloc hb12.size _) (some ⟨u2.heap.size, 0, none⟩) 2 2 (V2 u.heap.size u1.heap.size) (v2_has (B1.below b2 B1.lt) B2) (v2_out (Nat.le_refl _) hs1 (Nat.le_trans hs1 hs2)) (by omega) ⟨Nat.le_refl _, by omega⟩
  obtain ⟨c1, c2⟩ := v2_cmt u.heap.size u1.heap.size
  rw [c1, c2] at hc
  refine hc.mono ?_
  rintro e u' ⟨rfl, X⟩
  exact ⟨rfl, _, X⟩

set_option maxHeartbeats 1000000 in
theorem wakes_any (w : World) (hT : Tab w) : Calls Tryz.prog 9 #[] w fun e w' => e = .returned (.bool true) ∧ Below w.heap.size w w' := by
  have K1 := hide (small_any w)
  have K2 : Hid (∀ u, Below w.heap.size w u → _) := fun u hu => w_fresh hT u hu
  have K3 : Hid (∀ g dg u, WD w.heap.size w g dg sL sD u → _) := fun g dg u h => wake_commit h
  have K4 : Hid (∀ g dg D' u, WD w.heap.size w g dg ⟨⟨2, 0, 3⟩, setW (fun _ => none) [(20, fl 1), (21, fl 2)], false⟩ D' u → Calls Tryz.prog 31 #[.pointer (some ⟨g, 0, none⟩)] u fun e u' => e = .returned (.agg #[.int .i64 2, .int .i64 0, .int .i64 3]) ∧ Hid (Calls Tryz.prog 29 #[.pointer (some ⟨g, 0, none⟩)] u' fun e u2 => e = .returned (.int .i64 6) ∧ Hid (Calls Tryz.prog 27 #[.pointer (some ⟨g, 0, none⟩)] u2 fun e u3 => ∃ a c, e = .returned (.slice a 2 c) ∧ Hid (Below w.heap.size w u3)))) := fun g dg D' u h => by
    refine (w_head h).mono ?_
    rintro e u' ⟨rfl, h1⟩
    refine ⟨rfl, (w_room (unhide h1)).mono ?_⟩
    rintro e u2 ⟨rfl, h2⟩
    refine ⟨rfl, (w_pend (unhide h2)).mono ?_⟩
    rintro e u3 ⟨a, c, V, rfl, X⟩
    exact ⟨a, c, by rw [v2_pend], (unhide X).2.2.2.bel⟩
  have q : ∀ u : World, (binOp .eql 57 (.agg #[.int .i64 2, .int .i64 0, .int .i64 3]) (.agg #[.int .i64 2, .int .i64 0, .int .i64 3])).run Tryz.prog u = .ok (.bool true) u := fun u => eql_plan_yesH (P := fun k => if k = 0 then 2 else if k = 1 then 0 else 3) (Q := fun k => if k = 0 then 2 else if k = 1 then 0 else 3) (fun _ _ => rfl) u
  clear hT
  generalize sP = p at *
  go_enter Tryz.func9, Tryz.ntmps9
  go_wp2_with fail
  go_at_call 10
  refine (unhide K1).mono ?_
  rintro e w1 ⟨rfl, hb1⟩
  have KF := hide (unhide K2 _ hb1)
  clear K1 K2 hb1
  go_wp2_with fail
  go_at_call 11
  refine (unhide KF).mono ?_
  rintro e w2 ⟨dg, g, rfl, X⟩
  have KC := hide (unhide K3 _ _ _ (unhide X))
  clear KF K3 X
  go_wp2_with fail
  go_at_call 42
  refine (unhide KC).mono ?_
  rintro e u1 ⟨g1, rfl, KC2⟩
  clear KC
  go_wp2_with fail
  go_at_call 42
  refine (unhide KC2).mono ?_
  rintro e u2 ⟨g2, rfl, KC3⟩
  clear KC2
  go_wp2_with fail
  go_at_call 15
  refine (unhide KC3).mono ?_
  rintro e u3 ⟨rfl, D', X⟩
  have KH := hide (unhide K4 _ _ _ _ (unhide X))
  clear KC3 K4 X
  go_wp2_with fail
  go_at_call 31
  refine (unhide KH).mono ?_
  rintro e u4 ⟨rfl, KR⟩
  clear KH
  go_wp2_with fail
  go_at_call 29
  refine (unhide KR).mono ?_
  rintro e u5 ⟨rfl, KP⟩
  clear KR
  go_wp2_with fail
  go_at_call 27
  refine (unhide KP).mono ?_
  rintro e u6 ⟨a, c, rfl, X⟩
  clear KP
  go_wp2_with fail
  go_ret
  exact ⟨rfl, unhide X⟩

set_option maxHeartbeats 1000000 in
theorem nil_walk (w : World) (hT : Tab w) : Calls Tryz.prog 7 #[] w fun e w' => e = .returned (.bool true) ∧ Below w.heap.size w w' := by
  have K1 := hide (wakes_any w hT)
  have q : ∀ u : World, (binOp .eql 57 (.agg #[.int .i64 0, .int .i64 0, .int .i64 0]) (.agg #[.int .i64 0, .int .i64 0, .int .i64 0])).run Tryz.prog u = .ok (.bool true) u := fun u => eql_plan_yesH (P := fun k => 0) (Q := fun k => 0) (fun _ _ => rfl) u
  clear hT
  go_enter Tryz.func7, Tryz.ntmps7
  go_wp2_with fail
  go_at_call 9
  refine (unhide K1).mono ?_
  rintro e w1 ⟨rfl, hb1⟩
  have B1 := hide hb1
  have KC := hide (commit_nil (.slice none 0 0) w1)
  have KA := hide (apply_nil w1)
  have KP := hide (pending_nil w1)
  have KR := hide (room_nil w1)
  have KH := hide (header_nil w1)
  clear K1 hb1
  go_wp2_with fail
  go_at_call 15
  refine (unhide KC).mono ?_
  rintro e w' ⟨rfl, rfl⟩
  clear KC
  go_wp2_with fail
  go_at_call 17
  refine (unhide KA).mono ?_
  rintro e w' ⟨rfl, rfl⟩
  clear KA
  go_wp2_with fail
  go_at_call 27
  refine (unhide KP).mono ?_
  rintro e w' ⟨rfl, rfl⟩
  clear KP
  go_wp2_with fail
  go_at_call 29
  refine (unhide KR).mono ?_
  rintro e w' ⟨rfl, rfl⟩
  clear KR
  go_wp2_with fail
  go_at_call 31
  refine (unhide KH).mono ?_
  rintro e w2 ⟨rfl, hb2⟩
  have B2 := hide ((unhide B1).trans (hb2.mono (unhide B1).size))
  clear KH B1 hb2
  go_wp2_with fail
  go_ret
  exact ⟨rfl, unhide B2⟩

end Go.Proofs.YtadnlljknocbbaaGreatDoor

