/- Joined: WKpA, WKpB, WKeeps. -/
import Derived.Test.YtadnlljknocbbaaGreatDoorWkJ48
import Derived.Test.YtadnlljknocbbaaGreatDoorWkJ3
import Derived.Test.YtadnlljknocbbaaGreatDoorWkJ7
import Derived.Deep.RegionHeld3
/- WalKeeps: its memory and its calls. -/
namespace Go.Proofs.YtadnlljknocbbaaGreatDoor
open Go.RowKit Go.Shelf Go.Maps
set_option linter.unusedVariables false
set_option maxRecDepth 100000

/-- The log behind the law's commit. -/
def kL (x : Int) : Lg := ⟨⟨2, 0, 3⟩, setW (fun _ => none) [(30, fl x), (25, fl 3)], false⟩

/-- The law's list: two of three writes. -/
def VK (gr g3 : Nat) (x : Int) : List Wr := [⟨30, some ⟨gr, 0, none⟩, 64, 68, fl x⟩, ⟨25, some ⟨g3, 0, none⟩, 64, 64, fl 3⟩]

theorem vk_lst (gr g3 : Nat) (x : Int) : lstE sG sL.h.seq (wv (VK gr g3 x)) = 0 := by
  have : wv (VK gr g3 x) = [(30, 64), (25, 64)] := rfl
  rw [this]
  decide

theorem vk_cmt (gr g3 : Nat) (x : Int) : cmtE sG sL (VK gr g3 x) sD = 0 ∧ cmtL sG sL (VK gr g3 x) sD = kL x := by
  have hw : wl (VK gr g3 x) = [(30, fl x), (25, fl 3)] := rfl
  have hu : ¬ (sG.lg - sL.h.used < sG.uses (wl (VK gr g3 x)).length) := by
    rw [hw]
    show ¬ (9 - 0 < sG.uses 2)
    decide
  have hE : cmE sG sL (wl (VK gr g3 x)) sD = 0 := by
    unfold cmE
    rw [if_neg hu]
    exact (sD_lives.run _).1
  have hL : cmL sG sL (wl (VK gr g3 x)) sD = kL x := by
    unfold cmL
    rw [if_neg hu]
    unfold cmL0
    rw [if_pos (sD_lives.run _).1, hw]
    have e1 : sG.after sL.h [(30, fl x), (25, fl 3)].length = ⟨2, 0, 3⟩ := by show sG.after sL.h 2 = _; rfl
    unfold kL
    rw [e1]
    rfl
  unfold cmtE cmtL
  rw [if_pos (vk_lst gr g3 x), if_neg (by decide), if_neg (show ¬ (VK gr g3 x).length = 0 by show ¬ 2 = 0; decide), if_pos (vk_lst gr g3 x), if_neg (by decide), if_neg (show ¬ (VK gr g3 x).length = 0 by show ¬ 2 = 0; decide), hE, hL]
  exact ⟨rfl, rfl⟩

theorem kL_pendL (x : Int) : pendL sG (kL x).Q = [25, 30] := by rfl

theorem kL_pend (x : Int) : pendW sG (kL x).Q = [(25, fl 3), (30, fl x)] := by rfl

theorem Lv.keptAll {u u' : World} {S : Nat → Prop} {g dg : Nat} {P : Nat → Int} {G : Geo} {L : Lg} {D : Dev} (h : Lv u S g dg P G L D) (hk : ∀ k, S k → u'.heap[k]? = u.heap[k]?) (h0 : u'.heap[0]? = u.heap[0]?) (hs : u.heap.size ≤ u'.heap.size) : Lv u' S g dg P G L D := by
  obtain ⟨Sl, Sd, m, h⟩ := h
  exact ⟨Sl, Sd, m, h.keptAll hk h0 hs⟩

/-- The log that the law has. -/
def WK (w : World) (g dg : Nat) (x : Int) (u : World) (S : Nat → Prop) : Prop := 0 < w.heap.size ∧ ∃ D, WL w.heap.size w g dg (kL x) D u S

theorem WK.lt {w : World} {g dg : Nat} {x : Int} {u : World} {S : Nat → Prop} (h : WK w g dg x u S) {k : Nat} (hk : S k) : k < u.heap.size := by
  obtain ⟨_, D, h⟩ := h
  exact h.lv.lt hk

theorem WK.ge {w : World} {g dg : Nat} {x : Int} {u : World} {S : Nat → Prop} (h : WK w g dg x u S) {k : Nat} (hk : S k) : w.heap.size ≤ k := by
  obtain ⟨_, D, h⟩ := h
  exact h.ge k hk

theorem WK.bel {w : World} {g dg : Nat} {x : Int} {u : World} {S : Nat → Prop} (h : WK w g dg x u S) : Below w.heap.size w u := by
  obtain ⟨_, D, h⟩ := h
  exact h.bel

/-- Other blocks of the law turn. -/
theorem WK.kept {w : World} {g dg : Nat} {x : Int} {u u' : World} {S : Nat → Prop} (h : WK w g dg x u S) (hb : Below w.heap.size u u') (hk : ∀ k, S k → u'.heap[k]? = u.heap[k]?) : WK w g dg x u' S := by
  obtain ⟨h0, D, h⟩ := h
  exact ⟨h0, D, h.lv.keptAll hk (hb.block 0 h0) hb.size, h.ge, h.bel.trans hb, h.sz⟩

theorem WK.later {w : World} {g dg : Nat} {x : Int} {u u' : World} {S : Nat → Prop} (h : WK w g dg x u S) (hb : Below u.heap.size u u') : WK w g dg x u' S :=
  h.kept (hb.mono h.bel.size) (fun k hk => hb.block k (h.lt hk))

/-- .. and the row r. -/
structure WKQ (w : World) (g dg gr : Nat) (x : Int) (u : World) (S : Nat → Prop) (zr : List Int) : Prop where
  wk : WK w g dg x u S
  br : Block u gr zr
  lr : zr.length = 68
  nr : ¬ S gr
  rB : w.heap.size ≤ gr

theorem WKQ.later {w : World} {g dg gr : Nat} {x : Int} {u u' : World} {S : Nat → Prop} {zr : List Int} (h : WKQ w g dg gr x u S zr) (hb : Below u.heap.size u u') : WKQ w g dg gr x u' S zr :=
  ⟨h.wk.later hb, h.br.below hb h.br.lt, h.lr, h.nr, h.rB⟩

theorem WKQ.store {w : World} {g dg gr : Nat} {x : Int} {u : World} {S : Nat → Prop} {zr : List Int} (h : WKQ w g dg gr x u S zr) (k : Nat) (y : Int) : WKQ w g dg gr x (u.setCell ⟨gr, k, none⟩ (.int .u8 y)) S (zr.set k y) :=
  ⟨h.wk.kept ((Below.refl _ u).setCell (p := ⟨gr, k, none⟩) h.rB _) (fun j hj => Below.heap_setCell _ _ _ _ (fun e => h.nr (by have e' : j = gr := e; rw [← e']; exact hj))), h.br.set k y, by rw [List.length_set]; exact h.lr, h.nr, h.rB⟩

/-- What Pending answers: two writes. -/
def PC (u : World) (ka : Nat) (a0 : Option Addr) (c0 : Nat) (a1 : Option Addr) (c1 : Nat) : Prop :=
  ∃ cur, u.heap[ka]? = some (.cells cur 52 (0, 0)) ∧ cur[0]? = some (.int .i64 25) ∧ cur[1]? = some (.slice a0 64 c0) ∧ cur[2]? = some (.int .i64 30) ∧ cur[3]? = some (.slice a1 64 c1)

theorem PC.kept {u u' : World} {ka c0 c1 : Nat} {a0 a1 : Option Addr} (h : PC u ka a0 c0 a1 c1) (hk : u'.heap[ka]? = u.heap[ka]?) : PC u' ka a0 c0 a1 c1 := by
  obtain ⟨cur, h1, h2⟩ := h
  exact ⟨cur, hk.trans h1, h2⟩

theorem PC.lt {u : World} {ka c0 c1 : Nat} {a0 a1 : Option Addr} (h : PC u ka a0 c0 a1 c1) : ka < u.heap.size := by
  obtain ⟨cur, h1, h2⟩ := h
  exact (Array.getElem?_eq_some_iff.1 h1).1

theorem PC.cells {u : World} {ka c0 c1 : Nat} {a0 a1 : Option Addr} (h : PC u ka a0 c0 a1 c1) : u.cell? ⟨ka, 0, none⟩ = some (.int .i64 25) ∧ u.cell? ⟨ka, 1, none⟩ = some (.slice a0 64 c0) ∧ u.cell? ⟨ka, 2, none⟩ = some (.int .i64 30) ∧ u.cell? ⟨ka, 3, none⟩ = some (.slice a1 64 c1) ∧ ∀ k, u.frozen? ⟨ka, k, none⟩ = false := by
  obtain ⟨cur, h1, h2, h3, h4, h5⟩ := h
  have B : Bl u ka cur 52 := h1
  exact ⟨B.cell 0 _ h2, B.cell 1 _ h3, B.cell 2 _ h4, B.cell 3 _ h5, B.free⟩

/-- One Pending. -/
theorem w_pend1 {w : World} {g dg : Nat} {x : Int} {u : World} {S : Nat → Prop} (h : WK w g dg x u S) :
    Calls Tryz.prog 27 #[.pointer (some ⟨g, 0, none⟩)] u fun e u' => ∃ ka ca a0 c0 a1 c1, e = .returned (.slice (some ⟨ka, 0, none⟩) 2 ca) ∧ 2 ≤ ca ∧ u.heap.size ≤ ka ∧ PC u' ka a0 c0 a1 c1 ∧ Own u.heap.size u' a0 64 c0 (fl 3) ∧ Own u.heap.size u' a1 64 c1 (fl x) ∧ a0 ≠ a1 ∧ Below u.heap.size u u' := by
  obtain ⟨h0, D, hW⟩ := h
  obtain ⟨Sl, Sd, m, lx⟩ := hW.lv
  refine (pending_any g dg Sl sP sG (kL x) m u lx.ll).mono ?_
  rintro e u' ⟨v, V, rfl, X⟩
  obtain ⟨g1, g2, g3, g4⟩ := unhide X
  rw [kL_pend] at g2
  have hl : V.length = 2 := by rw [← wl_len, g2]; rfl
  obtain ⟨v0, v1, rfl⟩ : ∃ v0 v1, V = [v0, v1] := by
    match V, hl with
    | [v0, v1], _ => exact ⟨v0, v1, rfl⟩
  have e2 : [(v0.b.toNat, v0.z), (v1.b.toNat, v1.z)] = [(25, fl 3), (30, fl x)] := g2
  simp only [List.cons.injEq, Prod.mk.injEq, and_true] at e2
  obtain ⟨⟨p0, p1⟩, p2, p3⟩ := e2
  have q0 := g3 v0 (by simp)
  have q1 := g3 v1 (by simp)
  have b0 : v0.b = 25 := by have := q0.2; omega
  have b1 : v1.b = 30 := by have := q1.2; omega
  have d0 : v0.dl = 64 := q0.1
  have d1 : v1.dl = 64 := q1.1
  have r0 : Own u.heap.size u' v0.da v0.dl v0.dc v0.z := (g1.row 0 (by show 0 < 2; omega)).1
  have r1 : Own u.heap.size u' v1.da v1.dl v1.dc v1.z := (g1.row 1 (by show 1 < 2; omega)).1
  have ne : v0.da ≠ v1.da := fun e => by
    have := g1.one 0 1 (by show 0 < 2; omega) (by show 1 < 2; omega) e
    omega
  rw [d0, p1] at r0
  rw [d1, p3] at r1
  obtain ⟨_, ho⟩ := g1.own
  rcases ho with ⟨_, hz⟩ | ⟨ka, ca, cur, rfl, hka, hh, hn, hm, hsz, htk⟩
  · exact absurd hz (by show ¬ 2 = 0; omega)
  · have hc : ∀ j v, (cellsW [v0, v1])[j]? = some v → cur[j]? = some v := fun j v hj => by
      have hj4 : j < 4 := by
        have := (List.getElem?_eq_some_iff.1 hj).1
        rw [cellsW_len] at this
        exact this
      have e4 : cur.toList[j]? = (cellsW [v0, v1])[j]? := by
        rw [← htk, List.getElem?_take, if_pos (by show j < 2 * 2; omega)]
      rw [← Array.getElem?_toList, e4, hj]
    refine ⟨ka, ca, v0.da, v0.dc, v1.da, v1.dc, rfl, hn, hka, ⟨cur, hh, hc 0 _ ?_, hc 1 _ ?_, hc 2 _ ?_, hc 3 _ ?_⟩, r0, r1, ne, g4⟩
    · show some (Value.int .i64 v0.b) = _
      rw [b0]
    · show some (Value.slice v0.da v0.dl v0.dc) = _
      rw [d0]
    · show some (Value.int .i64 v1.b) = _
      rw [b1]
    · show some (Value.slice v1.da v1.dl v1.dc) = _
      rw [d1]

theorem wblock_own {u : World} {g B : Nat} {zs : List Int} (h : Block u g zs) (hB : B ≤ g) {n c : Nat} (hn : n ≤ c) (hc : zs.length = c) (hm : c ≤ 10000) : Own B u (some ⟨g, 0, none⟩) n c (zs.take n) :=
  ⟨by simp; omega, hn, by unfold maxLen; omega, .inr ⟨g, _, rfl, hB, h, by simp [hc], by simp [List.map_take]⟩⟩

/-- A row that is not the log's. -/
def RR (w u : World) (S : Nat → Prop) (t : Trip) : Prop := ∃ xs, Own w.heap.size u t.1 t.2.1 t.2.2 xs ∧ t.2.1 ≤ 10000 ∧ ∀ k, t.1 = some ⟨k, 0, none⟩ → ¬ S k

theorem RR.later {w u u' : World} {S : Nat → Prop} {t : Trip} (h : RR w u S t) (hb : Below u.heap.size u u') : RR w u' S t := by
  obtain ⟨xs, h1, h2⟩ := h
  exact ⟨xs, h1.below hb (Nat.le_refl _), h2⟩

theorem wtrip_mem {ts : List Trip} {B Lb k : Nat} (h : FA.T (listsOf B Lb ts) k) : ∃ t ∈ ts, t.1 = some ⟨k, 0, none⟩ := by
  obtain ⟨p, hp, hA⟩ := h
  have hp' : p < ts.length := hp
  have : (tripAt ts p).1 = some ⟨k, 0, none⟩ := hA
  rw [tripAt_eq hp'] at this
  exact ⟨_, List.getElem_mem hp', this⟩

/-- BytesApart of rows of the law; lists of writes stay. -/
theorem w_bapart {w : World} {g dg : Nat} {x : Int} {u : World} {S : Nat → Prop} (h : WK w g dg x u S) (ts : List Trip) (hts : ∀ t ∈ ts, RR w u S t) (N : Nat) (hN : ts.length = N) (hN6 : N ≤ 64) (hp : ts.Pairwise Aside) (Lb : Nat) (hLb : Lb = u.heap.size) :
    Calls Tryz.prog 46 #[.slice (some ⟨Lb, 0, none⟩) N N] (u.alloc (.cells (ts.map sval).toArray 50)) fun e w1 => e = .returned (.bool true) ∧ Hid (WK w g dg x w1 S ∧ ∀ k c q, k < u.heap.size → u.heap[k]? = some (.cells c 52 q) → w1.heap[k]? = u.heap[k]?) := by
  subst hLb
  have hb := (Below.refl u.heap.size u).alloc (Nat.le_refl _) (.cells (ts.map sval).toArray 50)
  have hnew : (u.alloc (.cells (ts.map sval).toArray 50)).heap[u.heap.size]? = some (.cells (ts.map sval).toArray 50 (0, 0)) := World.alloc_heap_new _ _
  have h1 := h.later hb
  have t1 : ∀ t ∈ ts, RR w (u.alloc (.cells (ts.map sval).toArray 50)) S t := fun t ht => (hts t ht).later hb
  have hsz := h.bel.size
  have hsz1 := hb.size
  generalize u.alloc (.cells (ts.map sval).toArray 50) = v at *
  refine (FA.apart_list w.heap.size u.heap.size N ts v hN hN6 (fun t ht => ?_) hsz hp hnew (fun t ht => ?_)).mono ?_
  · obtain ⟨xs, _, h2, _⟩ := t1 t ht
    omega
  · obtain ⟨xs, h2, _⟩ := t1 t ht
    exact ⟨xs, h2⟩
  · rintro e w1 ⟨rfl, z1, z2⟩
    refine ⟨rfl, h1.kept z1 (fun k hk => z2 k (h1.lt hk) (fun hT => ?_)), fun k c q hk hc => ?_⟩
    · obtain ⟨t, ht, e⟩ := wtrip_mem hT
      obtain ⟨_, _, _, h3⟩ := t1 t ht
      exact h3 k e hk
    · have hv : v.heap[k]? = u.heap[k]? := hb.block k hk
      refine (z2 k (by omega) (fun hT => ?_)).trans hv
      obtain ⟨t, ht, e⟩ := wtrip_mem hT
      obtain ⟨_, h3, _⟩ := t1 t ht
      obtain ⟨c1, hc1⟩ := (h3.lt e).2.2
      rw [hv, hc] at hc1
      simp at hc1

end Go.Proofs.YtadnlljknocbbaaGreatDoor

/- WalKeeps: its calls behind each other. -/
namespace Go.Proofs.YtadnlljknocbbaaGreatDoor
open Go.RowKit Go.Shelf Go.Maps
set_option linter.unusedVariables false
set_option maxRecDepth 100000

/-- From full to Commit. -/
theorem k_begin {w : World} {g dg : Nat} {x : Int} {u : World} (h : WD w.heap.size w g dg sL sD u) (h0 : 0 < w.heap.size) (hx0 : 0 ≤ x) (hx1 : x ≤ 255) :
    Calls Tryz.prog 42 #[.int .u8 x] u fun e u1 => ∃ gf, e = .returned (.slice (some ⟨gf, 0, none⟩) 64 64) ∧ Hid (
      Calls Tryz.prog 43 #[.slice (some ⟨gf, 0, none⟩) 64 64] u1 fun e u2 => ∃ gr, e = .returned (.slice (some ⟨gr, 0, none⟩) 64 68) ∧ Hid (
        Calls Tryz.prog 42 #[.int .u8 3] u2 fun e u3 => ∃ g3, e = .returned (.slice (some ⟨g3, 0, none⟩) 64 64) ∧ Hid (
          Calls Tryz.prog 15 #[.pointer (some ⟨g, 0, none⟩), .slice (some ⟨u3.heap.size, 0, none⟩) 2 3] (u3.alloc (.cells #[.int .i64 30, .slice (some ⟨gr, 0, none⟩) 64 68, .int .i64 25, .slice (some ⟨g3, 0, none⟩) 64 64, .int .i64 99, .slice none 0 0] 52)) fun e u4 => e = .returned (.int .i64 0) ∧ Hid (
            Bl u4 u3.heap.size #[.int .i64 30, .slice (some ⟨gr, 0, none⟩) 64 68, .int .i64 25, .slice (some ⟨g3, 0, none⟩) 64 64, .int .i64 99, .slice none 0 0] 52 ∧ ∃ S, WKQ w g dg gr x u4 S (rm (fl x) 4))))) := by
  obtain ⟨S, h⟩ := h
  have hbs := h.bel.size
  refine (full_any x u).mono ?_
  rintro e u1 ⟨rfl, B1, b1⟩
  refine ⟨_, rfl, (roomy_any _ 64 64 (fl x) u1 (full_row hx0 hx1 B1)).mono ?_⟩
  rintro e u2 ⟨rfl, B2, b2⟩
  refine ⟨_, rfl, (full_any 3 u2).mono ?_⟩
  rintro e u3 ⟨rfl, B3, b3⟩
  refine ⟨_, rfl, ?_⟩
  have s1 := b1.size
  have s2 := b2.size
  have s3 := b3.size
  have l1 := B1.lt
  have l2 := B2.lt
  have l3 := B3.lt
  generalize hcs : (#[.int .i64 30, .slice (some ⟨u1.heap.size, 0, none⟩) 64 68, .int .i64 25, .slice (some ⟨u2.heap.size, 0, none⟩) 64 64, .int .i64 99, .slice none 0 0] : Array Value) = cs
  have b4 : Below u3.heap.size u3 (u3.alloc (.cells cs 52)) := (Below.refl _ u3).alloc (Nat.le_refl _) _
  have z := Bl.new u3 cs 52
  have s4 := b4.size
  have b03 : Below u.heap.size u u3 := (b1.trans (b2.mono s1)).trans (b3.mono (by omega))
  have b04 : Below u.heap.size u (u3.alloc (.cells cs 52)) := b03.trans (b4.mono (by omega))
  have R4 : Block (u3.alloc (.cells cs 52)) u1.heap.size (rm (fl x) 4) := (B2.below b3 l2).below b4 (by omega)
  have F4 : Block (u3.alloc (.cells cs 52)) u2.heap.size (fl 3) := B3.below b4 l3
  generalize u3.alloc (.cells cs 52) = u4 at *
  have hV : WHas u4 (some ⟨u3.heap.size, 0, none⟩) 2 (VK u1.heap.size u2.heap.size x) := by
    refine ⟨rfl, fun _ => ⟨u3.heap.size, 0, rfl, z.lt, fun j hj => ?_⟩, fun j hj => ?_⟩
    · have : j = 0 ∨ j = 1 := by omega
      subst hcs
      rcases this with rfl | rfl
      · exact ⟨z.cell 0 _ rfl, z.cell 1 _ rfl⟩
      · exact ⟨z.cell 2 _ rfl, z.cell 3 _ rfl⟩
    · have : j = 0 ∨ j = 1 := by omega
      rcases this with rfl | rfl
      · exact room_row R4 (fl_len x) (by show 64 ≤ 140737488351232; omega) (fl_byt hx0 hx1)
      · exact full_row (by decide) (by decide) F4
  have hO : WOut S (some ⟨u3.heap.size, 0, none⟩) 2 (VK u1.heap.size u2.heap.size x) := by
    refine ⟨fun _ q e hs => by cases e; have : u3.heap.size < u.heap.size := h.lv.lt hs; omega, fun j hj _ q e hs => ?_⟩
    have : j = 0 ∨ j = 1 := by omega
    rcases this with rfl | rfl
    · have e' : some (⟨u1.heap.size, 0, none⟩ : Addr) = some q := e
      cases e'
      have : u1.heap.size < u.heap.size := h.lv.lt hs
      omega
    · have e' : some (⟨u2.heap.size, 0, none⟩ : Addr) = some q := e
      cases e'
      have : u2.heap.size < u.heap.size := h.lv.lt hs
      omega
  have h4 := h.later b04
  refine (Commit_any g dg S sP sG sL sD u4 h4.lv _ 2 3 _ hV hO (by omega) ⟨by omega, by omega⟩).mono ?_
  rintro e u5 ⟨rfl, S', l5, n5⟩
  have h5 := h4.nx l5 n5
  obtain ⟨c1, c2⟩ := vk_cmt u1.heap.size u2.heap.size x
  rw [c2] at h5
  have kp : ∀ k, u.heap.size ≤ k → k < u4.heap.size → u5.heap[k]? = u4.heap[k]? ∧ ¬ S' k := fun k hk hk4 =>
    have := n5.keep hk4 (fun hS => by have := h.lv.lt hS; omega)
    ⟨this.1, this.2.1⟩
  have k3 := kp u3.heap.size (by omega) z.lt
  have k1 := kp u1.heap.size (by omega) R4.lt
  exact ⟨by rw [c1], k3.1.trans z, S', ⟨h0, _, h5⟩, k1.1.trans R4, by rw [rm_length _ _ (Nat.le_refl _), fl_len], k1.2, by omega⟩

/-- full and Kept. -/
theorem k_kept {w : World} {g dg gr : Nat} {x : Int} {u : World} {S : Nat → Prop} (h : WKQ w g dg gr x u S (rm (fl x) 4)) :
    Calls Tryz.prog 42 #[.int .u8 x] u fun e u1 => ∃ gf, e = .returned (.slice (some ⟨gf, 0, none⟩) 64 64) ∧ Hid (
      Calls Tryz.prog 44 #[.slice (some ⟨gr, 0, none⟩) 64 68, .slice (some ⟨gf, 0, none⟩) 64 64] u1 fun e u2 => e = .returned (.bool true) ∧ Hid (∃ S zr, WKQ w g dg gr x u2 S zr)) := by
  refine (full_any x u).mono ?_
  rintro e u1 ⟨rfl, B1, b1⟩
  have h1 := h.later b1
  refine ⟨_, rfl, (kept_any gr _ 64 64 (fl x) u1 (by omega) h1.br (B1.has (fl_len x))).mono ?_⟩
  rintro e u2 ⟨rfl, b2⟩
  exact ⟨rfl, S, _, h1.later b2⟩

/-- Behind the two Pendings. -/
structure KT (w : World) (g dg gr : Nat) (x : Int) (u : World) (S : Nat → Prop) (ka kb : Nat) (a0 : Option Addr) (c0 : Nat) (a1 : Option Addr) (c1 : Nat) (b0 : Option Addr) (d0 : Nat) (b1 : Option Addr) (d1 : Nat) : Prop where
  wk : WK w g dg x u S
  pa : PC u ka a0 c0 a1 c1
  pb : PC u kb b0 d0 b1 d1
  ne : ka ≠ kb
  na : ¬ S ka
  aB : w.heap.size ≤ ka
  rr : ∀ t ∈ ([(a0, 64, c0), (a1, 64, c1), (b0, 64, d0), (b1, 64, d1), (some ⟨gr, 0, none⟩, 64, 68)] : List Trip), RR w u S t
  pw : ([(a0, 64, c0), (a1, 64, c1), (b0, 64, d0), (b1, 64, d1), (some ⟨gr, 0, none⟩, 64, 68)] : List Trip).Pairwise Aside
  hs : Has u a1 64 (fl x)

theorem KT.later {w : World} {g dg gr : Nat} {x : Int} {u u' : World} {S : Nat → Prop} {ka kb : Nat} {a0 : Option Addr} {c0 : Nat} {a1 : Option Addr} {c1 : Nat} {b0 : Option Addr} {d0 : Nat} {b1 : Option Addr} {d1 : Nat} (h : KT w g dg gr x u S ka kb a0 c0 a1 c1 b0 d0 b1 d1) (hb : Below u.heap.size u u') : KT w g dg gr x u' S ka kb a0 c0 a1 c1 b0 d0 b1 d1 :=
  ⟨h.wk.later hb, h.pa.kept (hb.block _ h.pa.lt), h.pb.kept (hb.block _ h.pb.lt), h.ne, h.na, h.aB, fun t ht => (h.rr t ht).later hb, h.pw, by
    obtain ⟨xs, o, _⟩ := h.rr (a1, 64, c1) (by simp)
    have h1 := h.hs
    refine ⟨h1.1, fun hp => ?_⟩
    obtain ⟨q, off, e, hc⟩ := h1.2 hp
    obtain ⟨q', e', _⟩ := o.cell (j := 0) (by show (0 : Nat) < 64; omega)
    have e' : a1 = some ⟨q', 0, none⟩ := e'
    rw [e] at e'
    cases e'
    have hlt := (o.lt e).1
    exact ⟨q, 0, e, fun j hj => (hb.cell (p := ⟨q, _, none⟩) hlt).trans (hc j hj)⟩⟩

theorem k_pend {w : World} {g dg gr : Nat} {x : Int} {u : World} {S : Nat → Prop} {zr : List Int} (h : WKQ w g dg gr x u S zr) :
    Calls Tryz.prog 27 #[.pointer (some ⟨g, 0, none⟩)] u fun e u1 => ∃ ka ca a0 c0 a1 c1, e = .returned (.slice (some ⟨ka, 0, none⟩) 2 ca) ∧ Hid (
      Calls Tryz.prog 27 #[.pointer (some ⟨g, 0, none⟩)] u1 fun e u2 => ∃ kb cb b0 d0 b1 d1, e = .returned (.slice (some ⟨kb, 0, none⟩) 2 cb) ∧ Hid (KT w g dg gr x u2 S ka kb a0 c0 a1 c1 b0 d0 b1 d1)) := by
  refine (w_pend1 h.wk).mono ?_
  rintro e u1 ⟨ka, ca, a0, c0, a1, c1, rfl, _, ha, pa, oa0, oa1, na, b1⟩
  have h1 := h.later b1
  refine ⟨ka, ca, a0, c0, a1, c1, rfl, (w_pend1 h1.wk).mono ?_⟩
  rintro e u2 ⟨kb, cb, b0, d0, b1', d1, rfl, _, hb, pb, ob0, ob1, nb, b2⟩
  have h2 := h1.later b2
  have s0 := h.wk.bel.size
  have s1 := b1.size
  have la := pa.lt
  have lr := h.br.lt
  have own : ∀ {n : Nat} {a : Option Addr} {c : Nat} {xs : List Int}, u.heap.size ≤ n → Own n u2 a 64 c xs → RR w u2 S (a, 64, c) := fun {n a c xs} hn ho =>
    ⟨xs, ho.base (by omega), (by show (64 : Nat) ≤ 10000; omega), fun k e hS => by
      have := (ho.lt e).2.1
      have := h.wk.lt hS
      omega⟩
  have asr : ∀ {n : Nat} {v : World} {a : Option Addr} {c : Nat} {xs : List Int}, u.heap.size ≤ n → Own n v a 64 c xs → Aside (a, 64, c) (some ⟨gr, 0, none⟩, 64, 68) := fun {n v a c xs} hn ho k e e' => by
    cases e'
    have := (ho.lt e).2.1
    omega
  have asn : ∀ {a b : Option Addr} {c d : Nat}, a ≠ b → Aside (a, 64, c) (b, 64, d) := fun {a b c d} hn k e e' => hn (Eq.trans e (Eq.symm e'))
  have ob0' := ob0
  have oa02 := oa0.below b2 (Nat.le_refl _)
  have oa12 := oa1.below b2 (Nat.le_refl _)
  refine ⟨kb, cb, b0, d0, b1', d1, rfl, h2.wk, pa.kept (b2.block _ la), pb, by omega, fun hS => ?_, by omega, fun t ht => ?_, ?_, oa12.has⟩
  · have := h.wk.lt hS
    omega
  · simp only [List.mem_cons, List.not_mem_nil, or_false] at ht
    rcases ht with rfl | rfl | rfl | rfl | rfl
    · exact own (Nat.le_refl _) oa02
    · exact own (Nat.le_refl _) oa12
    · exact own s1 ob0
    · exact own s1 ob1
    · exact ⟨_, wblock_own (n := 64) (c := 68) h2.br h2.rB (by decide) h2.lr (by decide), (by show (64 : Nat) ≤ 10000; omega), fun k e => by cases e; exact h2.nr⟩
  · simp only [List.pairwise_cons, List.mem_cons, List.not_mem_nil, or_false, forall_eq_or_imp, forall_eq, false_implies, implies_true, List.Pairwise.nil, and_true]
    exact ⟨⟨asn na, aside_of oa0 ob0 (Nat.le_refl _), aside_of oa0 ob1 (Nat.le_refl _), asr (Nat.le_refl _) oa0⟩, ⟨aside_of oa1 ob0 (Nat.le_refl _), aside_of oa1 ob1 (Nat.le_refl _), asr (Nat.le_refl _) oa1⟩, ⟨asn nb, asr s1 ob0⟩, asr s1 ob1⟩

/-- Behind the last Pending. -/
structure KV (w : World) (x : Int) (kb : Nat) (b0 : Option Addr) (d0 : Nat) (b1 : Option Addr) (d1 : Nat) (kc : Nat) (e0 : Option Addr) (f0 : Nat) (e1 : Option Addr) (f1 : Nat) (u : World) : Prop where
  pb : PC u kb b0 d0 b1 d1
  pc : PC u kc e0 f0 e1 f1
  own : Own w.heap.size u e1 64 f1 (fl x)
  bel : Below w.heap.size w u

theorem KV.later {w : World} {x : Int} {kb : Nat} {b0 : Option Addr} {d0 : Nat} {b1 : Option Addr} {d1 : Nat} {kc : Nat} {e0 : Option Addr} {f0 : Nat} {e1 : Option Addr} {f1 : Nat} {u u' : World} (h : KV w x kb b0 d0 b1 d1 kc e0 f0 e1 f1 u) (hb : Below u.heap.size u u') : KV w x kb b0 d0 b1 d1 kc e0 f0 e1 f1 u' :=
  ⟨h.pb.kept (hb.block _ h.pb.lt), h.pc.kept (hb.block _ h.pc.lt), h.own.below hb (Nat.le_refl _), h.bel.trans (hb.mono h.bel.size)⟩

theorem KV.js {w : World} {x : Int} {kb : Nat} {b0 : Option Addr} {d0 : Nat} {b1 : Option Addr} {d1 : Nat} {kc : Nat} {e0 : Option Addr} {f0 : Nat} {e1 : Option Addr} {f1 : Nat} {u : World} (h : KV w x kb b0 d0 b1 d1 kc e0 f0 e1 f1 u) :
    Hid (KV w x kb b0 d0 b1 d1 kc e0 f0 e1 f1 u) ∧ u.cell? ⟨kb, 0, none⟩ = some (.int .i64 25) ∧ u.cell? ⟨kc, 0, none⟩ = some (.int .i64 25) ∧ u.cell? ⟨kc, 2, none⟩ = some (.int .i64 30) ∧ u.cell? ⟨kc, 3, none⟩ = some (.slice e1 64 f1) :=
  ⟨h, h.pb.cells.1, h.pc.cells.1, h.pc.cells.2.2.1, h.pc.cells.2.2.2.1⟩

theorem kv_mid {w : World} {x : Int} {kb : Nat} {b0 : Option Addr} {d0 : Nat} {b1 : Option Addr} {d1 : Nat} {kc : Nat} {e0 : Option Addr} {f0 : Nat} {e1 : Option Addr} {f1 : Nat} {u : World} (h : KV w x kb b0 d0 b1 d1 kc e0 f0 e1 f1 u) :
    ∀ v, Below u.heap.size u v → Calls Tryz.prog 42 #[.int .u8 x] v fun e v1 => ∃ gf, e = .returned (.slice (some ⟨gf, 0, none⟩) 64 64) ∧ Hid (KV w x kb b0 d0 b1 d1 kc e0 f0 e1 f1 v1) ∧ Hid (∀ v2, Below v1.heap.size v1 v2 →
      Calls Tryz.prog 45 #[.slice e1 64 f1, .slice (some ⟨gf, 0, none⟩) 64 64] v2 fun e v3 => e = .returned (.bool true) ∧ v2 = v3 ∧ Hid (Below w.heap.size w v2)) := by
  intro v hv
  refine (full_any x v).mono ?_
  rintro e v1 ⟨rfl, B1, b1⟩
  have h1 := h.later (hv.trans (b1.mono hv.size))
  refine ⟨_, rfl, h1, fun v2 b2 => ?_⟩
  have h2 := h1.later b2
  refine (same_true e1 _ 64 f1 64 (fl x) v2 h2.own.has ((B1.below b2 B1.lt).has (fl_len x))).mono ?_
  rintro e v3 ⟨rfl, rfl⟩
  exact ⟨rfl, rfl, h2.bel⟩

/-- The last Pending. -/
theorem k_last {w : World} {g dg : Nat} {x : Int} {v : World} {S : Nat → Prop} {kb : Nat} {b0 : Option Addr} {d0 : Nat} {b1 : Option Addr} {d1 : Nat} (h : WK w g dg x v S) (hb : PC v kb b0 d0 b1 d1) :
    Calls Tryz.prog 27 #[.pointer (some ⟨g, 0, none⟩)] v fun e v1 => ∃ kc cc e0 f0 e1 f1, e = .returned (.slice (some ⟨kc, 0, none⟩) 2 cc) ∧ Hid (KV w x kb b0 d0 b1 d1 kc e0 f0 e1 f1 v1) := by
  refine (w_pend1 h).mono ?_
  rintro e v1 ⟨kc, cc, a0, c0, a1, c1, rfl, _, hkc, pc, o0, o1, nn, bv⟩
  exact ⟨kc, cc, a0, c0, a1, c1, rfl, hb.kept (bv.block _ hb.lt), pc, o1.base h.bel.size, h.bel.trans (bv.mono h.bel.size)⟩

/-- What is read of it. -/
theorem KT.js {w : World} {g dg gr : Nat} {x : Int} {u : World} {S : Nat → Prop} {ka kb : Nat} {a0 : Option Addr} {c0 : Nat} {a1 : Option Addr} {c1 : Nat} {b0 : Option Addr} {d0 : Nat} {b1 : Option Addr} {d1 : Nat} (h : KT w g dg gr x u S ka kb a0 c0 a1 c1 b0 d0 b1 d1) :
    Hid (KT w g dg gr x u S ka kb a0 c0 a1 c1 b0 d0 b1 d1) ∧ u.cell? ⟨ka, 0, none⟩ = some (.int .i64 25) ∧ u.cell? ⟨ka, 1, none⟩ = some (.slice a0 64 c0) ∧ u.cell? ⟨ka, 3, none⟩ = some (.slice a1 64 c1) ∧ u.cell? ⟨kb, 1, none⟩ = some (.slice b0 64 d0) ∧ u.cell? ⟨kb, 3, none⟩ = some (.slice b1 64 d1) :=
  ⟨h, h.pa.cells.1, h.pa.cells.2.1, h.pa.cells.2.2.2.1, h.pb.cells.2.1, h.pb.cells.2.2.2.1⟩

theorem pc_js4 {u : World} {ka kb : Nat} {a0 : Option Addr} {c0 : Nat} {a1 : Option Addr} {c1 : Nat} {b0 : Option Addr} {d0 : Nat} {b1 : Option Addr} {d1 : Nat} (pa : PC u ka a0 c0 a1 c1) (pb : PC u kb b0 d0 b1 d1) :
    u.cell? ⟨ka, 1, none⟩ = some (.slice a0 64 c0) ∧ u.cell? ⟨ka, 3, none⟩ = some (.slice a1 64 c1) ∧ u.cell? ⟨kb, 1, none⟩ = some (.slice b0 64 d0) ∧ u.cell? ⟨kb, 3, none⟩ = some (.slice b1 64 d1) :=
  ⟨pa.cells.2.1, pa.cells.2.2.2.1, pb.cells.2.1, pb.cells.2.2.2.1⟩

theorem KT.js4 {w : World} {g dg gr : Nat} {x : Int} {u : World} {S : Nat → Prop} {ka kb : Nat} {a0 : Option Addr} {c0 : Nat} {a1 : Option Addr} {c1 : Nat} {b0 : Option Addr} {d0 : Nat} {b1 : Option Addr} {d1 : Nat} (h : KT w g dg gr x u S ka kb a0 c0 a1 c1 b0 d0 b1 d1) :
    u.cell? ⟨ka, 1, none⟩ = some (.slice a0 64 c0) ∧ u.cell? ⟨ka, 3, none⟩ = some (.slice a1 64 c1) ∧ u.cell? ⟨kb, 1, none⟩ = some (.slice b0 64 d0) ∧ u.cell? ⟨kb, 3, none⟩ = some (.slice b1 64 d1) := pc_js4 h.pa h.pb

/-- full and SameBytes behind the Pendings. -/
theorem k_mid {w : World} {g dg gr : Nat} {x : Int} {u : World} {S : Nat → Prop} {ka kb : Nat} {a0 : Option Addr} {c0 : Nat} {a1 : Option Addr} {c1 : Nat} {b0 : Option Addr} {d0 : Nat} {b1 : Option Addr} {d1 : Nat} (h : KT w g dg gr x u S ka kb a0 c0 a1 c1 b0 d0 b1 d1) :
    ∀ v, Below u.heap.size u v → Calls Tryz.prog 42 #[.int .u8 x] v fun e v1 => ∃ gf, e = .returned (.slice (some ⟨gf, 0, none⟩) 64 64) ∧ Hid (KT w g dg gr x v1 S ka kb a0 c0 a1 c1 b0 d0 b1 d1) ∧ Hid (∀ v2, Below v1.heap.size v1 v2 →
      Calls Tryz.prog 45 #[.slice a1 64 c1, .slice (some ⟨gf, 0, none⟩) 64 64] v2 fun e v3 => e = .returned (.bool true) ∧ v2 = v3 ∧ Hid (KT w g dg gr x v2 S ka kb a0 c0 a1 c1 b0 d0 b1 d1)) := by
  intro v hv
  refine (full_any x v).mono ?_
  rintro e v1 ⟨rfl, B1, b1⟩
  have h1 := h.later (hv.trans (b1.mono hv.size))
  refine ⟨_, rfl, h1, fun v2 b2 => ?_⟩
  have h2 := h1.later b2
  refine (same_true a1 _ 64 c1 64 (fl x) v2 h2.hs ((B1.below b2 B1.lt).has (fl_len x))).mono ?_
  rintro e v3 ⟨rfl, rfl⟩
  exact ⟨rfl, rfl, h2⟩

/-- From full to BytesApart, and the store behind it. -/
theorem k_apart {w : World} {g dg gr : Nat} {x : Int} {u : World} {S : Nat → Prop} {ka kb : Nat} {a0 : Option Addr} {c0 : Nat} {a1 : Option Addr} {c1 : Nat} {b0 : Option Addr} {d0 : Nat} {b1 : Option Addr} {d1 : Nat} (h : KT w g dg gr x u S ka kb a0 c0 a1 c1 b0 d0 b1 d1) :
    ∀ L, L = u.heap.size → Calls Tryz.prog 46 #[.slice (some ⟨L, 0, none⟩) 5 5] (u.alloc (.cells #[.slice a0 64 c0, .slice a1 64 c1, .slice b0 64 d0, .slice b1 64 d1, .slice (some ⟨gr, 0, none⟩) 64 68] 50)) fun e u1 => e = .returned (.bool true) ∧ Hid (PC u1 ka a0 c0 a1 c1) ∧ Hid (PC u1 kb b0 d0 b1 d1) ∧
      Hid (WK w g dg x ((u1.setCell ⟨ka, 0, none⟩ (.int .i64 0)).setCell ⟨ka, 1, none⟩ (.slice none 0 0)) S ∧ PC ((u1.setCell ⟨ka, 0, none⟩ (.int .i64 0)).setCell ⟨ka, 1, none⟩ (.slice none 0 0)) kb b0 d0 b1 d1) := by
  intro L hL
  refine (w_bapart h.wk [(a0, 64, c0), (a1, 64, c1), (b0, 64, d0), (b1, 64, d1), (some ⟨gr, 0, none⟩, 64, 68)] h.rr 5 rfl (by omega) h.pw L hL).mono ?_
  rintro e u1 ⟨rfl, X⟩
  obtain ⟨k1, kp⟩ := unhide X
  have pa : PC u1 ka a0 c0 a1 c1 := h.pa.kept (by obtain ⟨cur, e, _⟩ := h.pa; exact kp ka _ _ h.pa.lt e)
  have pb : PC u1 kb b0 d0 b1 d1 := h.pb.kept (by obtain ⟨cur, e, _⟩ := h.pb; exact kp kb _ _ h.pb.lt e)
  refine ⟨rfl, pa, pb, k1.kept (((Below.refl _ u1).setCell (p := ⟨ka, 0, none⟩) h.aB _).setCell (p := ⟨ka, 1, none⟩) h.aB _) (fun j hj => ?_), pb.kept ?_⟩
  · have ne : j ≠ ka := fun e => h.na (by rw [← e]; exact hj)
    exact (Below.heap_setCell _ _ _ _ ne).trans (Below.heap_setCell _ _ _ _ ne)
  · exact (Below.heap_setCell _ _ _ _ h.ne.symm).trans (Below.heap_setCell _ _ _ _ h.ne.symm)

theorem k_apartD {w : World} {g dg gr : Nat} {x : Int} {u : World} {S : Nat → Prop} {ka kb : Nat} {a0 : Option Addr} {c0 : Nat} {a1 : Option Addr} {c1 : Nat} {b0 : Option Addr} {d0 : Nat} {b1 : Option Addr} {d1 : Nat} (h : KT w g dg gr x u S ka kb a0 c0 a1 c1 b0 d0 b1 d1) :
    Calls Tryz.prog 46 #[.slice (some ⟨u.heap.size, 0, none⟩) 5 5] (u.alloc (.cells #[.slice a0 64 c0, .slice a1 64 c1, .slice b0 64 d0, .slice b1 64 d1, .slice (some ⟨gr, 0, none⟩) 64 68] 50)).drew fun e u1 => e = .returned (.bool true) ∧ Hid (PC u1 ka a0 c0 a1 c1) ∧ Hid (PC u1 kb b0 d0 b1 d1) ∧
      Hid (WK w g dg x ((u1.setCell ⟨ka, 0, none⟩ (.int .i64 0)).setCell ⟨ka, 1, none⟩ (.slice none 0 0)) S ∧ PC ((u1.setCell ⟨ka, 0, none⟩ (.int .i64 0)).setCell ⟨ka, 1, none⟩ (.slice none 0 0)) kb b0 d0 b1 d1) :=
  k_apart (h.later ((Below.refl _ _).drew)) _ rfl

theorem KT.made {w : World} {g dg gr : Nat} {x : Int} {u : World} {S : Nat → Prop} {ka kb : Nat} {a0 : Option Addr} {c0 : Nat} {a1 : Option Addr} {c1 : Nat} {b0 : Option Addr} {d0 : Nat} {b1 : Option Addr} {d1 : Nat} (h : KT w g dg gr x u S ka kb a0 c0 a1 c1 b0 d0 b1 d1) (o : Obj) : KT w g dg gr x (u.alloc o).drew S ka kb a0 c0 a1 c1 b0 d0 b1 d1 := h.later (((Below.refl _ _).alloc (Nat.le_refl _) o).drew)

end Go.Proofs.YtadnlljknocbbaaGreatDoor

/- WalKeeps' walk. -/
namespace Go.Proofs.YtadnlljknocbbaaGreatDoor
open Go.RowKit Go.Shelf Go.Maps
set_option linter.unusedVariables false
set_option maxRecDepth 100000

set_option maxHeartbeats 8000000 in
theorem keeps_walk (x y : Int) (w : World) (hx0 : 0 ≤ x) (hx1 : x ≤ 255) (hT : Tab w) : Calls Tryz.prog 8 #[.int .u8 x, .int .u8 y] w fun e w' => e = .returned (.bool true) ∧ Below w.heap.size w w' := by
  have K1 := hide (wakes_any w hT)
  have KS : Hid (∀ u, _) := fun u => small_any u
  have KF : Hid (∀ u, Below w.heap.size w u → Calls Tryz.prog 11 #[Pv sP] u fun e w' => ∃ dg g, e = .returned (.tuple #[.pointer (some ⟨dg, 0, none⟩), .pointer (some ⟨g, 0, none⟩)]) ∧ Hid (WD u.heap.size u g dg sL sD w')) := fun u hu => fresh_any u (hT.kept (hu.block 0 hT.lt))
  have KB : Hid (∀ g dg u, WD w.heap.size w g dg sL sD u → _) := fun g dg u h => k_begin h hT.lt hx0 hx1
  clear hT hx0 hx1
  generalize sP = p at *
  go_enter Tryz.func8, Tryz.ntmps8
  go_wp2_with fail
  go_at_call 9
  refine (unhide K1).mono ?_
  rintro e w1 ⟨rfl, x1⟩
  have X1 := hide x1
  clear K1 x1
  have KS1 := hide (unhide KS w1)
  clear KS
  go_wp2_with fail
  go_at_call 10
  refine (unhide KS1).mono ?_
  rintro e w2 ⟨rfl, hb2⟩
  have HK := hide (Kp.start w2 p)
  have X2 := hide ((unhide X1).trans (hb2.mono (unhide X1).size))
  have X3 := hide ((unhide X2).trans ((unhide HK).2.mono (unhide X2).size))
  have KF1 := hide (unhide KF _ (unhide X3))
  clear KS1 KF hb2 X1 X2
  go_upto_region 4 with fail
  change Code.wp _ _ _ _ (w2.alloc (.cells (Pc p) 25))
  generalize w2.alloc (.cells (Pc p) 25) = w3 at *
  obtain ⟨f0, f1, f2, f3, f4, f5, f6, f7, f8, f9, f10, f11⟩ := (unhide HK).cells
  go_wp2_with fail
  go_at_call 11
  refine (unhide KF1).mono ?_
  rintro e u0 ⟨dg, g, rfl, XW⟩
  have C0 := hide (unhide KB g dg u0 (WD.base (unhide X3) (unhide XW)))
  clear KF1 HK XW X3 KB f0 f1 f2 f3 f4 f5 f6 f7 f8 f9 f10 f11
  go_wp2_with fail
  go_at_call 42
  refine (unhide C0).mono ?_
  rintro e u1 ⟨gf, rfl, C1⟩
  clear C0
  go_wp2_with fail
  go_at_call 43
  refine (unhide C1).mono ?_
  rintro e u2 ⟨gr, rfl, C2⟩
  clear C1
  go_wp2_with fail
  go_at_call 42
  refine (unhide C2).mono ?_
  rintro e u3 ⟨g3, rfl, C3⟩
  clear C2
  go_wp2_with fail
  go_at_call 15
  refine (unhide C3).mono ?_
  rintro e u4 ⟨rfl, X4⟩
  clear C3
  obtain ⟨B4, S, q4⟩ := unhide X4
  have z0 := B4.cell 0 (.int .i64 30) rfl
  have z1 := B4.cell 2 (.int .i64 25) rfl
  have z2 := B4.cell 4 (.int .i64 99) rfl
  have C4 := hide (k_kept q4)
  clear X4 B4 q4
  generalize u3.heap.size = gl at *
  go_wp2_with fail
  go_at_call 42
  refine (unhide C4).mono ?_
  rintro e u5 ⟨gf5, rfl, C5⟩
  clear C4 z0 z1 z2
  go_wp2_with fail
  go_at_call 44
  refine (unhide C5).mono ?_
  rintro e u6 ⟨rfl, X6⟩
  clear C5
  go_upto_region 11 with fail
  go_loopw [11] (fun i wr => ∃ k : Nat, k ≤ 64 ∧ i = .int .i64 (k : Int) ∧ Hid (∃ S zr, WKQ w g dg gr x wr S zr)) (fun i _ => 64 - (intOf i).toNat)
  case atStart => exact ⟨0, by omega, rfl, X6⟩
  case round =>
    obtain ⟨j, hj, rfl, XQ⟩ := hrel
    clear X6
    obtain ⟨S, zr, kq⟩ := unhide XQ
    by_cases hlt2 : j < 64
    · have c1 := kq.br.cell (i := j) (by rw [kq.lr]; omega)
      have f1 := kq.br.free j
      have H2 : Hid (∃ S zr, WKQ w g dg gr x (wr.setCell ⟨gr, j, none⟩ (.int .u8 y)) S zr) := ⟨_, _, kq.store j y⟩
      generalize zr[j]?.getD 0 = z at *
      clear kq XQ
      go_wp2_with fail
      exact ⟨⟨j + 1, by omega, by go_num, H2⟩, by simp [intOf]; omega⟩
    · have nj : ¬ (j : Int) < 64 := by omega
      have C7 := hide (k_pend kq)
      clear XQ kq
      go_wp2_with fail
      go_at_call 27
      refine (unhide C7).mono ?_
      rintro e u7 ⟨ka, ca, a0, c0, a1, c1, rfl, C8⟩
      clear C7
      go_wp2_with fail
      go_at_call 27
      refine (unhide C8).mono ?_
      rintro e u8 ⟨kb, cb, b0, d0, b1, d1, rfl, XT⟩
      clear C8
      have CM := hide (k_mid (unhide XT))
      go_upto_region 16 with fail
      go_cut [102] (fun c wx => c = .bool false ∧ Hid (KT w g dg gr x wx S ka kb a0 c0 a1 c1 b0 d0 b1 d1))
      case first =>
        have J0 : Hid (KT w g dg gr x u8.drew S ka kb a0 c0 a1 c1 b0 d0 b1 d1) := KT.later (unhide XT) ((Below.refl _ _).drew)
        clear XT CM
        go_region_held3 (fun u => Hid (KT w g dg gr x u S ka kb a0 c0 a1 c1 b0 d0 b1 d1) ∧ u.cell? ⟨ka, 0, none⟩ = some (.int .i64 25) ∧ u.cell? ⟨ka, 1, none⟩ = some (.slice a0 64 c0) ∧ u.cell? ⟨ka, 3, none⟩ = some (.slice a1 64 c1) ∧ u.cell? ⟨kb, 1, none⟩ = some (.slice b0 64 d0) ∧ u.cell? ⟨kb, 3, none⟩ = some (.slice b1 64 d1))
          (with_reducible (first | exact (unhide J0).js | exact (unhide J9).js))
          (first
            | (go_at_call 42; refine (k_mid (unhide (‹Hid (KT _ _ _ _ _ _ _ _ _ _ _ _ _ _ _ _ _) ∧ _›).1) _ (Below.refl _ _)).mono ?_; rintro e u9 ⟨gf9, rfl, J9, C9⟩)
            | (go_at_call 45; refine (unhide C9 _ (Below.refl _ _)).mono ?_; rintro e u10 ⟨rfl, rfl, Z⟩))
        all_goals
          go_wp2_with fail
          go_meet
          exact ⟨rfl, Z⟩
      case rest =>
        obtain ⟨rfl, XT2⟩ := hcut
        clear CM XT
        go_upto_region 18 with fail
        go_cut [122] (fun c wx => c = .bool false ∧ Hid (PC wx ka a0 c0 a1 c1) ∧ Hid (WK w g dg x ((wx.setCell ⟨ka, 0, none⟩ (.int .i64 0)).setCell ⟨ka, 1, none⟩ (.slice none 0 0)) S ∧ PC ((wx.setCell ⟨ka, 0, none⟩ (.int .i64 0)).setCell ⟨ka, 1, none⟩ (.slice none 0 0)) kb b0 d0 b1 d1))
        case first =>
          have J0 := hide (KT.later (unhide XT2) ((Below.refl _ _).drew))
          have CA := hide (k_apartD (unhide XT2))
          have JA := hide (KT.made (unhide XT2) (.cells #[.slice a0 64 c0, .slice a1 64 c1, .slice b0 64 d0, .slice b1 64 d1, .slice (some ⟨gr, 0, none⟩) 64 68] 50))
          clear XT2
          go_region_held3 (fun u => u.cell? ⟨ka, 1, none⟩ = some (.slice a0 64 c0) ∧ u.cell? ⟨ka, 3, none⟩ = some (.slice a1 64 c1) ∧ u.cell? ⟨kb, 1, none⟩ = some (.slice b0 64 d0) ∧ u.cell? ⟨kb, 3, none⟩ = some (.slice b1 64 d1))
            (with_reducible (first | exact (unhide J0).js4 | exact (unhide JA).js4 | exact pc_js4 (unhide PA9) (unhide PB9)))
            ((go_at_call 46; refine (unhide CA).mono ?_; rintro e u9 ⟨rfl, PA9, PB9, Z⟩))
          all_goals
            go_wp2_with fail
            go_meet
            exact ⟨rfl, PA9, Z⟩
        case rest =>
          obtain ⟨rfl, P9, Z9⟩ := hcut
          obtain ⟨p0, p1, p2, p3, fz⟩ := (unhide P9).cells
          have CL := hide (k_last (unhide Z9).1 (unhide Z9).2)
          clear P9 Z9 XT2
          go_wp2_with fail
          go_at_call 27
          refine (unhide CL).mono ?_
          rintro e v1 ⟨kc, cc, e0, f0, e1, f1, rfl, V1⟩
          clear CL p0 p1 p2 p3 fz
          go_upto_region 22 with fail
          have J0 := hide (KV.later (unhide V1) ((Below.refl _ _).drew))
          clear V1
          go_region_held3 (fun u => Hid (KV w x kb b0 d0 b1 d1 kc e0 f0 e1 f1 u) ∧ u.cell? ⟨kb, 0, none⟩ = some (.int .i64 25) ∧ u.cell? ⟨kc, 0, none⟩ = some (.int .i64 25) ∧ u.cell? ⟨kc, 2, none⟩ = some (.int .i64 30) ∧ u.cell? ⟨kc, 3, none⟩ = some (.slice e1 64 f1))
            (with_reducible (first | exact (unhide J0).js | exact (unhide J9).js))
            (first
              | (go_at_call 42; refine (kv_mid (unhide (‹Hid (KV _ _ _ _ _ _ _ _ _ _ _ _ _) ∧ _›).1) _ (Below.refl _ _)).mono ?_; rintro e u9 ⟨gf9, rfl, J9, C9⟩)
              | (go_at_call 45; refine (unhide C9 _ (Below.refl _ _)).mono ?_; rintro e u10 ⟨rfl, rfl, Z⟩))
          all_goals
            go_wp2_with fail
            go_ret
            exact ⟨rfl, unhide Z⟩

end Go.Proofs.YtadnlljknocbbaaGreatDoor

