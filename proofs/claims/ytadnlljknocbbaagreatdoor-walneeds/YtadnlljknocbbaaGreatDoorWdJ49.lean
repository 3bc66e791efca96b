/- Joined: WNeedM, WNeeds, WNeeds2. -/
import Derived.Test.YtadnlljknocbbaaGreatDoorWdJ48
import Derived.Deep.RegionLaw
/- What a law's log answers to a list of n blocks, one behind the other. -/
namespace Go.Proofs.YtadnlljknocbbaaGreatDoor
open Go.RowKit Go.Shelf Go.Maps
set_option linter.unusedVariables false
set_option maxRecDepth 100000

/-- The list of the law. -/
def nv (n : Nat) : List (Int × Nat) := (List.range n).map (fun j : Nat => (11 + (j : Int), 64))

def nw (n : Nat) (x : Int) : Wl := (List.range n).map (fun j => (11 + j, fl x))

theorem nv_succ (n : Nat) : nv (n + 1) = nv n ++ [(11 + (n : Int), 64)] := by simp [nv, List.range_succ]

theorem nw_succ (n : Nat) (x : Int) : nw (n + 1) x = nw n x ++ [(11 + n, fl x)] := by simp [nw, List.range_succ]

theorem nv_small : ∀ n, n < 9 → lstE sG sL.h.seq (nv n) = 0 := by decide +kernel

theorem nv_big : ∀ n, n < 41 → 8 < n → lstE sG sL.h.seq (nv n) = 5 := by decide +kernel

theorem use_small : ∀ n, n < 9 → sG.uses n ≤ 9 ∧ (sG.uses n = 0 → n = 0) := by decide +kernel

theorem use_big : ∀ n, n < 41 → 8 < n → 9 < sG.uses n ∧ sG.uses n ≤ 100 := by decide +kernel

theorem nw_pend (x : Int) (n : Nat) (hn : n < 9) : (pendL sG (setW (fun _ => none) (nw n x))).length = n := by
  have : n = 0 ∨ n = 1 ∨ n = 2 ∨ n = 3 ∨ n = 4 ∨ n = 5 ∨ n = 6 ∨ n = 7 ∨ n = 8 := by omega
  rcases this with rfl | rfl | rfl | rfl | rfl | rfl | rfl | rfl | rfl <;> rfl

theorem nd_len {n : Nat} {V : List Wr} (hv : wv V = nv n) : V.length = n := by
  have := congrArg List.length hv
  simpa [wv, nv] using this

theorem nd_small {n : Nat} (hn : n < 9) {x : Int} {V : List Wr} (hv : wv V = nv n) (hw : wl V = nw n x) :
    cmtE sG sL V sD = 0 ∧ (cmtL sG sL V sD).h.used = sG.uses n ∧ (pendL sG (cmtL sG sL V sD).Q).length = n ∧ (cmtL sG sL V sD).dead = false ∧ (cmtD sG sL V sD).Live := by
  have hl := nd_len hv
  have hwl : (wl V).length = n := by rw [hw]; simp [nw]
  have hu0 := (use_small n hn).1
  have hu : ¬ (sG.lg - sL.h.used < sG.uses (wl V).length) := by
    rw [hwl]
    show ¬ (9 - 0 < sG.uses n)
    omega
  have hE : cmE sG sL (wl V) sD = 0 := by
    unfold cmE
    rw [if_neg hu]
    exact (sD_lives.run _).1
  have hL : cmL sG sL (wl V) sD = ⟨sG.after sL.h n, setW (fun _ => none) (nw n x), false⟩ := by
    unfold cmL
    rw [if_neg hu]
    unfold cmL0
    rw [if_pos (sD_lives.run _).1, hwl, hw]
    rfl
  have hD : (cmD sG sL (wl V) sD).Live := by
    unfold cmD
    rw [if_neg hu]
    exact (sD_lives.run _).2
  have hd : ¬ (sL.dead = true) := by decide
  unfold cmtE cmtL cmtD
  rw [hv, if_pos (nv_small n hn), if_pos (nv_small n hn), if_pos (nv_small n hn), if_neg hd, if_neg hd, if_neg hd, hl]
  by_cases h0 : n = 0
  · subst h0
    rw [if_pos rfl, if_pos rfl, if_pos rfl]
    exact ⟨rfl, by decide, nw_pend x 0 hn, rfl, sD_lives⟩
  · rw [if_neg h0, if_neg h0, if_neg h0, hE, hL]
    refine ⟨rfl, ?_, nw_pend x n hn, rfl, hD⟩
    show 0 + sG.uses n = sG.uses n
    omega

theorem nd_big {n : Nat} (h1 : n < 41) (h2 : 8 < n) {V : List Wr} (hv : wv V = nv n) :
    cmtE sG sL V sD = 5 ∧ cmtL sG sL V sD = sL ∧ cmtD sG sL V sD = sD := by
  have hl := nd_len hv
  have hd : ¬ (sL.dead = true) := by decide
  have h5 := nv_big n h1 h2
  unfold cmtE cmtL cmtD
  have hn0 : ¬ n = 0 := by omega
  rw [hv, h5]
  exact ⟨rfl, rfl, rfl⟩

theorem nd_apply {L : Lg} {D : Dev} (hd : L.dead = false) (hD : D.Live) (h0 : L.h.used = 0 → (pendL sG L.Q).length = 0) : aplyE sG L D = 0 ∧ (aplyL sG L D).h.used = 0 ∧ (pendL sG (aplyL sG L D).Q).length = 0 := by
  have hd' : ¬ (L.dead = true) := by rw [hd]; decide
  unfold aplyE aplyL
  rw [if_neg hd', if_neg hd']
  unfold apE apL
  by_cases h : L.h.used = 0
  · rw [if_pos h, if_pos h]
    exact ⟨rfl, h, h0 h⟩
  · rw [if_neg h, if_neg h, if_pos (hD.run _).1, (hD.run _).1]
    refine ⟨rfl, rfl, ?_⟩
    show (pendL sG (fun _ => none)).length = 0
    rfl

/-- k blocks stand in the law's list. -/
def NI (u0 : World) (x : Int) (k : Nat) (v : Value) (u : World) : Prop := ∃ V, Gw u0.heap.size u v V ∧ wv V = nv k ∧ wl V = nw k x ∧ Below u0.heap.size u0 u

theorem NI.start (u0 : World) (x : Int) : NI u0 x 0 (.slice none 0 0) u0 := ⟨[], Gw.nil _ _, rfl, rfl, Below.refl _ _⟩

theorem NI.step {u0 u : World} {x : Int} {k : Nat} {v : Value} (h : NI u0 x k v u) (h0 : 0 ≤ x) (h1 : x ≤ 255) (hk : k < 100) (bk : Int) (hbk : bk = 11 + (k : Int)) :
    Calls Tryz.prog 42 #[.int .u8 x] u.drew fun e w1 => ∃ gw, e = .returned (.slice (some ⟨gw, 0, none⟩) 64 64) ∧ Hid (Below u.heap.size u w1) ∧
      Hid (∃ v' w2, (∀ ty, (Builtin.append_ #[39, 39] ty #[v, .slice (some ⟨w1.heap.size, 0, none⟩) 1 1]).run Tryz.prog (w1.alloc (.cells #[.int .i64 bk, .slice (some ⟨gw, 0, none⟩) 64 64] 52)) = .ok v' w2) ∧ NI u0 x (k + 1) v' w2) := by
  obtain ⟨V, hg, hv, hw, hb⟩ := h
  have hs := hb.size
  have hl := nd_len hv
  refine (full_any x u.drew).mono ?_
  rintro e w1 ⟨rfl, hB, b1⟩
  have b1' : Below u.heap.size u w1 := undrew b1
  have hB' : Block w1 u.heap.size (fl x) := hB
  refine ⟨u.heap.size, rfl, b1', ?_⟩
  have hs1 := b1'.size
  obtain ⟨v', w2, r2, G2, B2, _⟩ := (hg.below b1').one' (Nat.le_trans hs hs1) (by omega) ⟨bk, some ⟨u.heap.size, 0, none⟩, 64, 64, fl x⟩ ⟨hB'.own (fl_len x) hs (by show 64 ≤ 140737488351232; omega), fl_byt h0 h1, by show 0 < 64; omega, by show 64 ≤ 4096; omega⟩ (fun j hj e => by
    have ho := (hg.row j hj).1
    obtain ⟨q, eq, _⟩ := ho.cell ((hg.row j hj).2.2.1)
    have e2 : some (⟨u.heap.size, 0, none⟩ : Addr) = some ⟨q, 0, none⟩ := by rw [← eq]; exact e.symm
    have l1 := (ho.lt eq).1
    cases e2
    omega)
  refine ⟨v', w2, r2, V ++ [⟨bk, some ⟨u.heap.size, 0, none⟩, 64, 64, fl x⟩], G2, ?_, ?_, (hb.trans (b1'.mono hs)).trans B2⟩
  · rw [nv_succ, ← hv, hbk]
    simp [wv]
  · rw [nw_succ, ← hw, hbk]
    simp [wl]
    omega

theorem NI.shape {u0 u : World} {x : Int} {k : Nat} {v : Value} (h : NI u0 x k v u) : ∃ a c, v = .slice a k c ∧ k ≤ c ∧ c ≤ maxLen := by
  obtain ⟨V, hg, hv, _⟩ := h
  have hl := nd_len hv
  obtain ⟨a, c, e, h1, h2⟩ := hg.shape
  rw [hl] at e h1
  exact ⟨a, c, e, h1, h2⟩

/-- Commit of the law's list: what is answered, what is left, and blocks that were made since. -/
theorem n_commit {w u0 u : World} {g dg : Nat} {x : Int} {k : Nat} {a : Option Addr} {c : Nat} (h : WD w.heap.size w g dg sL sD u0) (hN : NI u0 x k (.slice a k c) u) (hk : k < 41) (hc : k ≤ c ∧ c ≤ maxLen) (u1 : World) (hb : Below u.heap.size u u1) :
    Calls Tryz.prog 15 #[.pointer (some ⟨g, 0, none⟩), .slice a k c] u1 fun e u' => ∃ V, wv V = nv k ∧ wl V = nw k x ∧ e = .returned (.int .i64 (cmtE sG sL V sD)) ∧ WD w.heap.size w g dg (cmtL sG sL V sD) (cmtD sG sL V sD) u' ∧ (∀ j, u0.heap.size ≤ j → j < u1.heap.size → u'.heap[j]? = u1.heap[j]?) := by
  obtain ⟨V, hg, hv, hw, hb0⟩ := hN
  obtain ⟨S, h⟩ := h
  have hb1 : Below u0.heap.size u0 u1 := hb0.trans (hb.mono hb0.size)
  have h1 := h.later hb1
  have hg1 := hg.below hb
  obtain ⟨hV, hn⟩ := hg1.has
  unfold maxLen at hc
  refine (Commit_any g dg S sP sG sL sD u1 h1.lv a k c V hV (hg1.out (fun j hj => h.lv.lt hj)) (by omega) ⟨hc.1, by omega⟩).mono ?_
  rintro e u' ⟨rfl, S', l1, n1⟩
  refine ⟨V, hv, hw, rfl, ⟨S', h1.nx l1 n1⟩, fun j hj hj1 => n1.fr.block j hj1 (fun hS => ?_)⟩
  have := h.lv.lt hS
  omega

end Go.Proofs.YtadnlljknocbbaaGreatDoor

/- The walk of WalNeeds. -/
namespace Go.Proofs.YtadnlljknocbbaaGreatDoor
open Go.RowKit Go.Shelf Go.Maps
set_option linter.unusedVariables false
set_option maxRecDepth 100000

/-- Header, and the blocks that were there. -/
theorem n_head {w u : World} {g dg : Nat} {L : Lg} {D : Dev} (h : WD w.heap.size w g dg L D u) :
    Calls Tryz.prog 31 #[.pointer (some ⟨g, 0, none⟩)] u fun e u' => e = .returned (Hv L.h.fn) ∧ Below u.heap.size u u' ∧ WD w.heap.size w g dg L D u' := by
  have h' := h
  obtain ⟨S, h⟩ := h
  obtain ⟨Sl, Sd, m, x⟩ := h.lv
  refine (header_any g dg Sl sP sG L m u x.ll).mono ?_
  rintro e u' ⟨rfl, hb⟩
  exact ⟨rfl, hb, h'.later hb⟩

/-- What is asked behind a commit that was done. -/
def NSmall (w : World) (g : Nat) (k : Nat) (rm : Int) (u3 : World) : Prop :=
  Calls Tryz.prog 29 #[.pointer (some ⟨g, 0, none⟩)] u3 fun e u4 => e = .returned (.int .i64 rm) ∧ Hid (
    Calls Tryz.prog 27 #[.pointer (some ⟨g, 0, none⟩)] u4 fun e u5 => ∃ a c, e = .returned (.slice a k c) ∧ Hid (
      Calls Tryz.prog 17 #[.pointer (some ⟨g, 0, none⟩)] u5 fun e u6 => e = .returned (.int .i64 0) ∧ Hid (
        Calls Tryz.prog 29 #[.pointer (some ⟨g, 0, none⟩)] u6 fun e u7 => e = .returned (.int .i64 9) ∧ Hid (
          Calls Tryz.prog 27 #[.pointer (some ⟨g, 0, none⟩)] u7 fun e u8 => ∃ a c, e = .returned (.slice a 0 c) ∧ Hid (Below w.heap.size w u8)))))

theorem n_small {w u : World} {g dg : Nat} {L : Lg} {D : Dev} {k : Nat} (h : WD w.heap.size w g dg L D u) (hk : k < 9) (h1 : L.h.used = sG.uses k) (h2 : (pendL sG L.Q).length = k) (h3 : L.dead = false) (h4 : D.Live) (rm : Int) (hr : rm = 9 - (sG.uses k : Int)) : NSmall w g k rm u := by
  obtain ⟨n1, n2⟩ := use_small k hk
  obtain ⟨a1, a2, a3⟩ := nd_apply h3 h4 (fun e => by rw [h2]; exact n2 (by omega))
  refine (w_room h).mono ?_
  rintro e u4 ⟨rfl, x4⟩
  refine ⟨by
    have : ((sG.lg - L.h.used : Nat) : Int) = rm := by
      rw [h1, hr]
      show ((9 - sG.uses k : Nat) : Int) = _
      omega
    rw [this], (w_pend (unhide x4)).mono ?_⟩
  rintro e u5 ⟨a, c, V, rfl, x5⟩
  refine ⟨a, c, by rw [h2], (w_apply (unhide x5).2.2.2).mono ?_⟩
  rintro e u6 ⟨rfl, x6⟩
  refine ⟨by rw [a1], (w_room (unhide x6)).mono ?_⟩
  rintro e u7 ⟨rfl, x7⟩
  refine ⟨by rw [a2]; rfl, (w_pend (unhide x7)).mono ?_⟩
  rintro e u8 ⟨a', c', V', rfl, x8⟩
  exact ⟨a', c', by rw [a3], (unhide x8).2.2.2.bel⟩

/-- What is asked behind a commit that was refused. -/
def NBig (w : World) (g : Nat) (u3 : World) : Prop := ∀ u, Below u3.heap.size u3 u →
  Calls Tryz.prog 31 #[.pointer (some ⟨g, 0, none⟩)] u fun e u4 => e = .returned (.agg #[.int .i64 1, .int .i64 0, .int .i64 0]) ∧ Hid (Below u3.heap.size u3 u4) ∧ Hid (∀ v, Below u4.heap.size u4 v →
    Calls Tryz.prog 29 #[.pointer (some ⟨g, 0, none⟩)] v fun e u5 => e = .returned (.int .i64 9) ∧ Hid (∀ v', Below u5.heap.size u5 v' →
      Calls Tryz.prog 27 #[.pointer (some ⟨g, 0, none⟩)] v' fun e u6 => ∃ a c, e = .returned (.slice a 0 c) ∧ Hid (∀ v'', Below u6.heap.size u6 v'' → Below w.heap.size w v'')))

theorem n_big {w u3 : World} {g dg : Nat} (h : WD w.heap.size w g dg sL sD u3) : NBig w g u3 := by
  intro u hb
  refine (n_head (h.later hb)).mono ?_
  rintro e u4 ⟨rfl, b4, x4⟩
  refine ⟨rfl, hb.trans (b4.mono hb.size), fun v hv => (w_room (x4.later hv)).mono ?_⟩
  rintro e u5 ⟨rfl, x5⟩
  refine ⟨rfl, fun v' hv' => (w_pend ((unhide x5).later hv')).mono ?_⟩
  rintro e u6 ⟨a, c, V, rfl, x6⟩
  refine ⟨a, c, rfl, fun v'' hv'' => ((unhide x6).2.2.2.later hv'').bel⟩

/-- From Need on. -/
theorem n_chain {w u0 u : World} {g dg : Nat} {x : Int} {k : Nat} {a : Option Addr} {c : Nat} (h : WD w.heap.size w g dg sL sD u0) (hN : NI u0 x k (.slice a k c) u) (hk : k < 41) (hc : k ≤ c ∧ c ≤ maxLen) (rm : Int) (hr : rm = 9 - (sG.uses k : Int)) :
    Calls Tryz.prog 34 #[Pv sP, .int .i64 (k : Int)] u fun e u1 => e = .returned (.tuple #[.int .i64 (sG.uses k : Int), .int .i64 0]) ∧ Hid (
      Calls Tryz.prog 31 #[.pointer (some ⟨g, 0, none⟩)] u1 fun e u2 => e = .returned (.agg #[.int .i64 1, .int .i64 0, .int .i64 0]) ∧ Hid (
        Calls Tryz.prog 15 #[.pointer (some ⟨g, 0, none⟩), .slice a k c] (u2.alloc (.cells #[.int .i64 1, .int .i64 0, .int .i64 0] 57)) fun e u3 => ∃ E : Int, e = .returned (.int .i64 E) ∧ Hid (
          (k < 9 → E = 0 ∧ NSmall w g k rm u3) ∧ (8 < k → E = 5 ∧ Bl u3 u2.heap.size #[.int .i64 1, .int .i64 0, .int .i64 0] 57 ∧ NBig w g u3)))) := by
  have hb0 : Below u0.heap.size u0 u := by obtain ⟨V, _, _, _, hb⟩ := hN; exact hb
  refine (need_good sP sG (k : Int) u sPG).mono ?_
  rintro e u1 ⟨rfl, b1⟩
  have e1 : needE (k : Int) = 0 := by unfold needE; rw [if_neg (by omega)]
  have e2 : needN sG (k : Int) = (sG.uses k : Int) := by unfold needN; rw [if_neg (by omega)]; rfl
  rw [e1, e2]
  have b01 : Below u0.heap.size u0 u1 := hb0.trans (b1.mono hb0.size)
  refine ⟨rfl, (n_head (h.later b01)).mono ?_⟩
  rintro e u2 ⟨rfl, b2, x2⟩
  have bu2 : Below u.heap.size u u2 := b1.trans (b2.mono b1.size)
  have bu3 := bu2.alloc bu2.size (.cells #[.int .i64 1, .int .i64 0, .int .i64 0] 57)
  refine ⟨rfl, (n_commit h hN hk hc _ bu3).mono ?_⟩
  rintro e u3 ⟨V, hv, hw, rfl, x3, hkeep⟩
  have hnew := Bl.new u2 #[.int .i64 1, .int .i64 0, .int .i64 0] 57
  have hB3 : Bl u3 u2.heap.size #[.int .i64 1, .int .i64 0, .int .i64 0] 57 := (hkeep _ (Nat.le_trans hb0.size bu2.size) hnew.lt).trans hnew
  refine ⟨_, rfl, fun hs => ?_, fun hs => ?_⟩
  · obtain ⟨c1, c2, c3, c4, c5⟩ := nd_small hs hv hw
    exact ⟨c1, n_small x3 hs c2 c3 c4 c5 rm hr⟩
  · obtain ⟨c1, c2, c3⟩ := nd_big hk hs hv
    rw [c2, c3] at x3
    exact ⟨c1, hB3, n_big x3⟩

end Go.Proofs.YtadnlljknocbbaaGreatDoor

/- The walk of WalNeeds. -/
namespace Go.Proofs.YtadnlljknocbbaaGreatDoor
open Go.RowKit Go.Shelf Go.Maps
set_option linter.unusedVariables false
set_option maxRecDepth 100000

set_option maxHeartbeats 4000000 in
theorem needs_walk (a0 x : Int) (w : World) (w0 : (Lit.int .i64 a0).wf = true) (hx0 : 0 ≤ x) (hx1 : x ≤ 255) (hT : Tab w) : Calls Tryz.prog 6 #[.int .i64 a0, .int .u8 x] w fun e w' => e = .returned (.bool true) ∧ Below w.heap.size w w' := by
  have K1 := hide (wakes_any w hT)
  have KS : Hid (∀ u, _) := fun u => small_any u
  have KF : Hid (∀ u, Below w.heap.size w u → Calls Tryz.prog 11 #[Pv sP] u fun e w' => ∃ dg g, e = .returned (.tuple #[.pointer (some ⟨dg, 0, none⟩), .pointer (some ⟨g, 0, none⟩)]) ∧ Hid (WD u.heap.size u g dg sL sD w')) := fun u hu => fresh_any u (hT.kept (hu.block 0 hT.lt))
  have KI : Hid (∀ u0 u k v, NI u0 x k v u → k < 100 → ∀ bk : Int, bk = 11 + (k : Int) → _) := fun u0 u k v h hk bk hbk => h.step hx0 hx1 hk bk hbk
  have KC : Hid (∀ g dg u0 u k a c, WD w.heap.size w g dg sL sD u0 → NI u0 x k (.slice a k c) u → k < 41 → k ≤ c ∧ c ≤ maxLen → ∀ rm : Int, rm = 9 - (sG.uses k : Int) → _) := fun g dg u0 u k a c h hN hk hc rm hr => n_chain h hN hk hc rm hr
  have K5 : Hid (∀ (w2 u : World), Kp w2 sP u → u.cell? ⟨w2.heap.size, 5, none⟩ = some (.int .i64 11)) := fun w2 u h => h.1.cell 5 (by omega)
  have hw0 := int_max w0
  clear w0 hT hx0 hx1
  generalize sP = p at *
  go_enter Tryz.func6, Tryz.ntmps6
  go_wp2_with fail
  go_at_call 9
  refine (unhide K1).mono ?_
  rintro e w1 ⟨rfl, x1⟩
  have X1 := hide x1
  clear K1 x1
  go_upto_region 3 with fail
  go_cut [22] (fun c wx => ∃ b : Bool, c = .bool b ∧ Hid (b = false → 0 ≤ a0 ∧ a0 ≤ 40) ∧ w1 = wx)
  case first =>
    by_cases hl : a0 < 0
    · go_wp2_with fail
      go_meet
      exact ⟨true, rfl, (fun h => by cases h), rfl⟩
    · by_cases hh : 40 < a0
      · go_wp2_with fail
        go_meet
        exact ⟨true, rfl, (fun h => by cases h), rfl⟩
      · go_wp2_with fail
        go_meet
        exact ⟨false, rfl, (fun _ => by omega), rfl⟩
  case rest =>
  obtain ⟨b, rfl, HB, rfl⟩ := hcut
  go_upto_if 22 with fail
  go_cut [0] (fun c wx => ∃ n : Nat, n ≤ 40 ∧ c = .int .i64 (n : Int) ∧ w1 = wx)
  case first =>
    cases b with
    | true =>
      go_wp2_with fail
      go_meet
      exact ⟨5, by omega, rfl, rfl⟩
    | false =>
      have hb := unhide HB rfl
      go_wp2_with fail
      go_meet
      exact ⟨a0.toNat, by omega, val_int (by omega), rfl⟩
  case rest =>
  obtain ⟨n, hn, rfl, rfl⟩ := hcut
  clear HB hw0
  have KS1 := hide (unhide KS w1)
  clear KS
  go_wp2_with fail
  go_at_call 10
  refine (unhide KS1).mono ?_
  rintro e w2 ⟨rfl, hb2⟩
  have HK := hide (Kp.start w2 p)
  have X2 := hide ((unhide X1).trans (hb2.mono (unhide X1).size))
  have X3 := hide ((unhide X2).trans ((unhide HK).2.mono (unhide X2).size))
  have KF1 := hide (unhide KF _ (unhide X3))
  clear KS1 KF hb2 X1 X2
  go_upto_region 6 with fail
  change Code.wp _ _ _ _ (w2.alloc (.cells (Pc p) 25))
  generalize w2.alloc (.cells (Pc p) 25) = w3 at *
  obtain ⟨f0, f1, f2, f3, f4, f5, f6, f7, f8, f9, f10, f11⟩ := (unhide HK).cells
  go_wp2_with fail
  go_at_call 11
  refine (unhide KF1).mono ?_
  rintro e u0 ⟨dg, g, rfl, XW⟩
  have HK0 := hide ((unhide HK).call (unhide XW).bel)
  have W0 := hide ((unhide XW).base (unhide X3))
  have N0 := hide (NI.start u0 x)
  clear KF1 HK XW X3 f0 f1 f2 f3 f4 f5 f6 f7 f8 f9 f10 f11
  have HQ : Hid (∀ u, Below u0.heap.size u0 u → Kp w2 p u ∧ u.cell? ⟨w2.heap.size, 5, none⟩ = some (.int .i64 11)) := fun u hu => ⟨(unhide HK0).call hu, unhide K5 _ _ ((unhide HK0).call hu)⟩
  clear K5 HK0
  go_wp2_with fail
  go_loopw [8, 9] (fun v i wr => ∃ k : Nat, k ≤ n ∧ i = .int .i64 (k : Int) ∧ Hid (NI u0 x k v wr)) (fun _ i _ => n - (intOf i).toNat)
  case atStart => exact ⟨0, Nat.zero_le _, rfl, N0⟩
  case round =>
    rename_i v
    obtain ⟨k, hk, rfl, hJ⟩ := hrel
    clear N0
    by_cases hlt : k < n
    · obtain ⟨bk, hbk⟩ : ∃ bk : Int, bk = 11 + (k : Int) := ⟨_, rfl⟩
      have C := hide (unhide KI _ _ _ _ (unhide hJ) (by omega) bk hbk)
      have hwr : IntKind.i64.wrap (11 + (k : Int)) = bk := by rw [hbk, IntKind.wrap_i64]; omega
      obtain ⟨V, _, _, _, hb⟩ := unhide hJ
      have c5 := (unhide HQ _ hb).2
      have HC : Hid (∀ u, Below wr.heap.size wr u → u.cell? ⟨w2.heap.size, 5, none⟩ = some (.int .i64 11)) := fun u hu => (unhide HQ _ (hb.trans (hu.mono hb.size))).2
      clear hJ hb KI KC HQ W0 hbk
      generalize w2.heap.size = pb at *
      go_upto_region 11 with fail
      have c5' : wr.drew.cell? ⟨pb, 5, none⟩ = some (.int .i64 11) := c5
      clear c5
      go_region_law (first
        | (refine step_append_run (by rfl) _ _ _ (by rfl) _ _ _ (by rfl) (by rfl) (unhide R) ?_; clear R)
        | (go_simp; go_at_call 42; refine (unhide C).mono ?_; rintro e u1 ⟨gw, rfl, hb1, Z⟩; have d5 := unhide HC _ (unhide hb1); obtain ⟨v', u2, R', Z2⟩ := unhide Z; have R := hide R'; have Z3 := hide Z2; clear C HC hb1 Z R' Z2))
      all_goals
        go_wp2_with fail
        go_roundw
        case rel => exact ⟨k + 1, by omega, by go_num, Z3⟩
        case measure => simp [intOf]; omega
    · obtain rfl : k = n := by omega
      obtain ⟨a, c, rfl, hc1, hc2⟩ := (unhide hJ).shape
      obtain ⟨rm, hrm⟩ : ∃ rm : Int, rm = 9 - (sG.uses k : Int) := ⟨_, rfl⟩
      have C := hide (unhide KC _ _ _ _ _ _ _ (unhide W0) (unhide hJ) (by omega) ⟨hc1, hc2⟩ rm hrm)
      have hwr : Hid (k < 9 → IntKind.i64.wrap (9 - (sG.uses k : Int)) = rm) := fun h => by
        have := (use_small k h).1
        rw [hrm, IntKind.wrap_i64]; omega
      have hsm := hide (fun h : k < 9 => (use_small k h).1)
      have hbg := hide (fun h : 8 < k => (use_big k (by omega) h).1)
      obtain ⟨V, _, _, _, hb⟩ := unhide hJ
      obtain ⟨f0, f1, f2, f3, f4, f5, f6, f7, f8, f9, f10, f11⟩ := (unhide HQ _ hb).1.cells
      clear hJ hb KI KC HQ W0 hrm hc1 hc2 hlt hk
      generalize sG.uses k = un at *
      go_wp2_with fail
      go_at_call 34
      refine (unhide C).mono ?_
      rintro e u1 ⟨rfl, C1⟩
      clear C f0 f1 f2 f3 f4 f5 f6 f7 f8 f9 f10 f11
      go_wp2_with fail
      go_at_call 31
      refine (unhide C1).mono ?_
      rintro e u2 ⟨rfl, C2⟩
      clear C1
      go_wp2_with fail
      go_at_call 15
      refine (unhide C2).mono ?_
      rintro e u3 ⟨E, rfl, C3⟩
      clear C2
      by_cases hs : k < 9
      · obtain ⟨rfl, C4⟩ := (unhide C3).1 hs
        have h9 := unhide hsm hs
        have hwr2 := unhide hwr hs
        replace C4 := hide C4
        clear C3 hsm hbg hwr
        have d1 : decide (9 < (un : Int)) = false := decide_eq_false (by omega)
        clear hs h9
        unfold NSmall at C4
        go_wp2_with fail
        go_at_call 29
        refine (unhide C4).mono ?_
        rintro e u4 ⟨rfl, C5⟩
        clear C4
        go_wp2_with fail
        go_at_call 27
        refine (unhide C5).mono ?_
        rintro e u5 ⟨a5, c5, rfl, C6⟩
        clear C5
        go_wp2_with fail
        go_at_call 17
        refine (unhide C6).mono ?_
        rintro e u6 ⟨rfl, C7⟩
        clear C6
        go_wp2_with fail
        go_at_call 29
        refine (unhide C7).mono ?_
        rintro e u7 ⟨rfl, C8⟩
        clear C7
        go_wp2_with fail
        go_at_call 27
        refine (unhide C8).mono ?_
        rintro e u8 ⟨a8, c8, rfl, C9⟩
        clear C8
        go_wp2_with fail
        go_ret
        exact ⟨rfl, unhide C9⟩
      · obtain ⟨rfl, hB, C4⟩ := (unhide C3).2 (by omega)
        have h9 := unhide hbg (by omega)
        have d1 : decide (9 < (un : Int)) = true := decide_eq_true (by omega)
        have q : ∀ u : World, (binOp .eql 57 (.agg #[.int .i64 1, .int .i64 0, .int .i64 0]) (.agg #[.int .i64 1, .int .i64 0, .int .i64 0])).run Tryz.prog u = .ok (.bool true) u := fun u => eql_plan_yesH (P := fun k => if k = 0 then 1 else 0) (Q := fun k => if k = 0 then 1 else 0) (fun _ _ => rfl) u
        have HBl : Hid (∀ u, Below u3.heap.size u3 u → Bl u u2.heap.size #[.int .i64 1, .int .i64 0, .int .i64 0] 57) := fun u hu => hB.call hu
        replace C4 := hide C4
        clear C3 hsm hbg hwr hs
        generalize u2.heap.size = bh at *
        go_upto_region 18 with fail
        have z0 := Bl.cell (u := u3.drew) hB 0 (.int .i64 1) rfl
        have z1 := Bl.cell (u := u3.drew) hB 1 (.int .i64 0) rfl
        have z2 := Bl.cell (u := u3.drew) hB 2 (.int .i64 0) rfl
        clear hB d1 h9
        unfold NBig at C4
        go_region_with (first
          | (go_at_call 31; refine (unhide C4 _ (by first | exact Below.refl _ _ | exact (Below.refl _ _).drew)).mono ?_; rintro e u4 ⟨rfl, b4, C5⟩; have y0 := (unhide HBl _ (unhide b4)).cell 0 (.int .i64 1) rfl; have y1 := (unhide HBl _ (unhide b4)).cell 1 (.int .i64 0) rfl; have y2 := (unhide HBl _ (unhide b4)).cell 2 (.int .i64 0) rfl; clear C4 HBl b4)
          | (go_at_call 29; refine (unhide C5 _ (by first | exact Below.refl _ _ | exact (Below.refl _ _).drew)).mono ?_; rintro e u5 ⟨rfl, C6⟩; clear C5)
          | (go_at_call 27; refine (unhide C6 _ (by first | exact Below.refl _ _ | exact (Below.refl _ _).drew)).mono ?_; rintro e u6 ⟨a6, c6, rfl, C7⟩; clear C6))
        all_goals
          go_wp2_with fail
          go_ret
          exact ⟨rfl, unhide C7 _ (by first | exact Below.refl _ _ | exact (Below.refl _ _).drew)⟩

end Go.Proofs.YtadnlljknocbbaaGreatDoor

