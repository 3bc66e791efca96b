/- Joined: WTg, WTw, WTwice. -/
import Derived.Test.YtadnlljknocbbabGreatDoorWtJ50
import Derived.Test.YtadnlljknocbbabGreatDoorWtJ48
import Derived.Test.YtadnlljknocbbabGreatDoorWtJ44
import Derived.Test.YtadnlljknocbbabGreatDoorWtWOpenW
import Derived.Test.YtadnlljknocbbabGreatDoorWtCOpenH
/- A law's log and its device, and rows of the law that stay as they are. -/
namespace Go.Proofs.YtadnlljknocbbabGreatDoor
open Go.RowKit Go.Shelf Go.Maps
set_option linter.unusedVariables false
set_option maxRecDepth 100000

/-- The log and the device; what was made between two worlds of us stays. -/
structure TG (w : World) (g dg : Nat) (L : Lg) (D : Dev) (us : List (Nat × World)) (u : World) (S : Nat → Prop) : Prop where
  wl : WL w.heap.size w g dg L D u S
  kp : ∀ p ∈ us, p.2.heap.size ≤ u.heap.size ∧ ∀ k, p.1 ≤ k → k < p.2.heap.size → ¬ S k ∧ u.heap[k]? = p.2.heap[k]?

theorem TG.bel {w : World} {g dg : Nat} {L : Lg} {D : Dev} {us : List (Nat × World)} {u : World} {S : Nat → Prop} (h : TG w g dg L D us u S) : Below w.heap.size w u := h.wl.bel

theorem TG.lt {w : World} {g dg : Nat} {L : Lg} {D : Dev} {us : List (Nat × World)} {u : World} {S : Nat → Prop} (h : TG w g dg L D us u S) {k : Nat} (hk : S k) : k < u.heap.size := h.wl.lv.lt hk

theorem TG.later {w : World} {g dg : Nat} {L : Lg} {D : Dev} {us : List (Nat × World)} {u u' : World} {S : Nat → Prop} (h : TG w g dg L D us u S) (hb : Below u.heap.size u u') : TG w g dg L D us u' S :=
  ⟨h.wl.later hb, fun p hp => ⟨Nat.le_trans (h.kp p hp).1 hb.size, fun k h1 h2 => ⟨((h.kp p hp).2 k h1 h2).1, (hb.block k (by have := (h.kp p hp).1; omega)).trans ((h.kp p hp).2 k h1 h2).2⟩⟩⟩

theorem TG.nx {w : World} {g g' dg : Nat} {L L' : Lg} {D D' : Dev} {us : List (Nat × World)} {u u' : World} {S S0 S' : Nat → Prop} (h : TG w g dg L D us u S) (h0 : ∀ k, S0 k → S k) (hl : Lv u' S' g' dg sP sG L' D') (hx : Nx S0 u S' u') : TG w g' dg L' D' us u' S' := by
  have hs : w.heap.size ≤ u.heap.size := h.wl.bel.size
  refine ⟨⟨hl, hx.base (fun k hk => h.wl.ge k (h0 k hk)) hs, h.wl.bel.trans (hx.below (fun k hk => h.wl.ge k (h0 k hk)) hs), h.wl.sz⟩, fun p hp => ?_⟩
  obtain ⟨h1, h2⟩ := h.kp p hp
  refine ⟨Nat.le_trans h1 hx.fr.size, fun k a b => ?_⟩
  obtain ⟨h3, h4⟩ := h2 k a b
  obtain ⟨h5, h6, _⟩ := hx.keep (k := k) (by omega) (fun x => h3 (h0 k x))
  exact ⟨h6, h5.trans h4⟩

theorem TG.add {w : World} {g dg : Nat} {L : Lg} {D : Dev} {us : List (Nat × World)} {u u' : World} {S : Nat → Prop} (h : TG w g dg L D us u S) (hb : Below u.heap.size u u') : TG w g dg L D ((u.heap.size, u') :: us) u' S := by
  have h' := h.later hb
  refine ⟨h'.wl, fun p hp => ?_⟩
  rcases List.mem_cons.1 hp with rfl | hp
  · exact ⟨Nat.le_refl _, fun k h1 h2 => ⟨fun hS => by have := h.lt hS; have h1' : u.heap.size ≤ k := h1; omega, rfl⟩⟩
  · exact h'.kp p hp

/-- Fewer rows. -/
theorem TG.sub {w : World} {g dg : Nat} {L : Lg} {D : Dev} {us vs : List (Nat × World)} {u : World} {S : Nat → Prop} (h : TG w g dg L D us u S) (hs : ∀ p ∈ vs, p ∈ us) : TG w g dg L D vs u S := ⟨h.wl, fun p hp => h.kp p (hs p hp)⟩

/-- A list that came in. -/
theorem WArg.out {w : World} {a : Option Addr} {len cap : Nat} {V : List Wr} (h : WArg w a len cap V) {S : Nat → Prop} (hS : ∀ k, S k → w.heap.size ≤ k) : WOut S a len V := by
  refine ⟨fun hp x e hs => ?_, fun j hj hp x e hs => ?_⟩
  · obtain ⟨k, off, e', hk, _⟩ := h.has.cel hp
    rw [e] at e'
    cases e'
    have := hS _ hs
    simp at this
    omega
  · obtain ⟨q, off, e', hq⟩ := h.dlt j hj hp
    rw [e] at e'
    cases e'
    have := hS _ hs
    simp at this
    omega

theorem tg_commit {w : World} {g dg : Nat} {L : Lg} {D : Dev} {us : List (Nat × World)} {u : World} {S : Nat → Prop} (h : TG w g dg L D us u S) {a : Option Addr} {len cap : Nat} {V : List Wr} (hV : WArg w a len cap V) :
    Calls Tryz.prog 7 #[.pointer (some ⟨g, 0, none⟩), .slice a len cap] u fun e u' => e = .returned (.int .i64 (cmtE sG L V D)) ∧ Hid (∃ S', TG w g dg (cmtL sG L V D) (cmtD sG L V D) us u' S') := by
  refine (Commit_any g dg S sP sG L D u h.wl.lv a len cap V (hV.has.later h.bel) (hV.out h.wl.ge) hV.lb hV.cb).mono ?_
  rintro e u' ⟨rfl, S', l1, n1⟩
  exact ⟨rfl, S', h.nx (fun _ x => x) l1 n1⟩

theorem tg_apply {w : World} {g dg : Nat} {L : Lg} {D : Dev} {us : List (Nat × World)} {u : World} {S : Nat → Prop} (h : TG w g dg L D us u S) :
    Calls Tryz.prog 13 #[.pointer (some ⟨g, 0, none⟩)] u fun e u' => e = .returned (.int .i64 (aplyE sG L D)) ∧ Hid (∃ S', TG w g dg (aplyL sG L D) (aplyD sG L D) us u' S') := by
  refine (Apply_any g dg S sP sG L D u h.wl.lv).mono ?_
  rintro e u' ⟨rfl, S', l1, n1⟩
  exact ⟨rfl, S', h.nx (fun _ x => x) l1 n1⟩

theorem tg_pend {w : World} {g dg : Nat} {L : Lg} {D : Dev} {us : List (Nat × World)} {u : World} {S : Nat → Prop} (h : TG w g dg L D us u S) :
    Calls Tryz.prog 8 #[.pointer (some ⟨g, 0, none⟩)] u fun e u' => ∃ a c V, e = .returned (.slice a (pendL sG L.Q).length c) ∧ Hid (Gw u.heap.size u' (.slice a (pendL sG L.Q).length c) V ∧ wl V = pendW sG L.Q ∧ (∀ x ∈ V, x.dl = 64 ∧ 0 ≤ x.b) ∧ Below u.heap.size u u' ∧ TG w g dg L D ((u.heap.size, u') :: us) u' S) := by
  obtain ⟨Sl, Sd, m, x⟩ := h.wl.lv
  refine (pending_any g dg Sl sP sG L m u x.ll).mono ?_
  rintro e u' ⟨v, V, rfl, X⟩
  obtain ⟨g1, g2, g3, g4⟩ := unhide X
  have hl : V.length = (pendL sG L.Q).length := by rw [← wl_len, g2, pendW_len]
  obtain ⟨a, c, e1, _⟩ := g1.shape
  rw [hl] at e1
  subst e1
  exact ⟨a, c, V, rfl, g1, g2, g3, g4, h.add g4⟩

theorem tg_head {w : World} {g dg : Nat} {L : Lg} {D : Dev} {us : List (Nat × World)} {u : World} {S : Nat → Prop} (h : TG w g dg L D us u S) :
    Calls Tryz.prog 12 #[.pointer (some ⟨g, 0, none⟩)] u fun e u' => e = .returned (Hv L.h.fn) ∧ Below u.heap.size u u' := by
  obtain ⟨Sl, Sd, m, x⟩ := h.wl.lv
  exact header_any g dg Sl sP sG L m u x.ll

theorem tg_crash {w : World} {g dg : Nat} {L : Lg} {D : Dev} {us : List (Nat × World)} {u : World} {S : Nat → Prop} (h : TG w g dg L D us u S) {a : Option Addr} {len cap : Nat} {ps : List Int} (hc : len ≤ cap ∧ cap ≤ 9223372036854775807) (hlt : 0 < len → ∀ x, a = some x → x.block < w.heap.size) (hpu : IHas u a len ps) :
    Calls Tryz.prog 9 #[.pointer (some ⟨dg, 0, none⟩), .slice a len cap] u fun e u' => e = .returned (.int .i64 0) ∧ Hid (∃ S', TG w g dg L (D.crash ps) us u' S') := by
  obtain ⟨Sl, Sd, m, x⟩ := h.wl.lv
  refine (crash_any dg a len cap ps Sd D u x.dd hpu hc (fun hp y e hS => ?_)).mono ?_
  · have := hlt hp y e
    have := h.wl.ge _ ((x.all _).2 (.inr hS))
    omega
  · rintro e u' ⟨rfl, d1, n1⟩
    obtain ⟨l1, n2⟩ := x.dev d1 n1 ⟨rfl, rfl⟩
    exact ⟨rfl, _, h.nx (fun _ x => x) l1.lv n2⟩

/-- Open: the log that stands there; the elder one is still what it was. -/
theorem tg_open {w : World} {g dg : Nat} {L : Lg} {D : Dev} {us : List (Nat × World)} {u : World} {S : Nat → Prop} (h : TG w g dg L D us u S) (hd : D.dead = false) {L' : Lg} (hp : parse sG D.rd = some L') :
    Calls Tryz.prog 10 #[.pointer (some ⟨dg, 0, none⟩), Pv sP] u fun e u' => ∃ gn, e = .returned (.tuple #[.pointer (some ⟨gn, 0, none⟩), .int .i64 0]) ∧ Hid ((∃ S1, TG w g dg L D us u' S1) ∧ ∃ S2, TG w gn dg L' D us u' S2) := by
  obtain ⟨Sl, Sd, m, x⟩ := h.wl.lv
  refine (open_any sP sG dg Sd D u sPG x.dd x.bd x.nd x.tab (fun h0 => x.z0 ((x.all 0).2 (.inr h0)))).mono ?_
  intro e u' X
  obtain ⟨S3, n3, (⟨hx, _⟩ | ⟨_, hx, _⟩ | ⟨_, L2, gn, hp2, he, hl⟩)⟩ := unhide X
  · rw [hd] at hx; cases hx
  · rw [hp] at hx; cases hx
  · rw [hp] at hp2
    cases hp2
    have hsd : ∀ k, Sd k → S k := fun k hk => (x.all k).2 (.inr hk)
    refine ⟨gn, he, ?_, S3, h.nx hsd hl n3⟩
    obtain ⟨S2, d2, n2⟩ := hl.dv n3
    obtain ⟨l1, n4⟩ := x.dev d2 n2 ⟨rfl, rfl⟩
    exact ⟨_, h.nx (fun _ x => x) l1.lv n4⟩

theorem tg_image {w : World} {g dg : Nat} {L : Lg} {D : Dev} {us : List (Nat × World)} {u : World} {S : Nat → Prop} (h : TG w g dg L D us u S) (hd : D.dead = false) :
    Calls Tryz.prog 14 #[.pointer (some ⟨dg, 0, none⟩), Pv sP] u fun e u' => ∃ a c, e = .returned (.tuple #[.slice a 3136 c, .bool true]) ∧ Hid (Own u.heap.size u' a 3136 c (imgL sG D.rd 49) ∧ Below u.heap.size u u' ∧ TG w g dg L D ((u.heap.size, u') :: us) u' S) := by
  obtain ⟨Sl, Sd, m, x⟩ := h.wl.lv
  refine (image_any dg Sd sP sG D u sPG x.dd hd x.bd x.nd).mono ?_
  rintro e u' ⟨a, c, rfl, X⟩
  obtain ⟨o1, b1⟩ := unhide X
  exact ⟨a, c, rfl, o1, b1, h.add b1⟩

theorem tg_writes {w : World} {g dg : Nat} {L : Lg} {D : Dev} {us : List (Nat × World)} {u : World} {S : Nat → Prop} (h : TG w g dg L D us u S) :
    Calls Tryz.prog 15 #[.pointer (some ⟨dg, 0, none⟩)] u fun e u' => e = .returned (.int .i64 D.wr) ∧ u = u' := by
  obtain ⟨Sl, Sd, m, x⟩ := h.wl.lv
  obtain ⟨md, hD⟩ := x.dd
  obtain ⟨c0, c1, c2, c3, c4, c5⟩ := hD.cells
  exact writes_dev dg u D.wr c5

theorem tg_read {w : World} {g dg : Nat} {L : Lg} {D : Dev} {us : List (Nat × World)} {u : World} {S : Nat → Prop} (h : TG w g dg L D us u S) (hd : D.dead = false) {i : Nat} (hi : i < 60) :
    Calls Tryz.prog 16 #[.pointer (some ⟨dg, 0, none⟩), .int .i64 (i : Int)] u fun e u' => e = .returned (.tuple #[.slice (some ⟨u.heap.size, 0, none⟩) 64 64, .int .i64 0]) ∧ Block u' u.heap.size (D.rd i) ∧ (D.rd i).length = 64 ∧ Below u.heap.size u u' := by
  obtain ⟨Sl, Sd, m, x⟩ := h.wl.lv
  have hn : D.n = 60 := x.nd
  have hb : D.blk = 64 := x.bd
  have := read_ok dg i Sd D u x.dd hd (by omega)
  rw [hb] at this
  refine this.mono ?_
  rintro e u' ⟨rfl, B, b1⟩
  exact ⟨rfl, B, by rw [← hb]; exact (x.dd.rd_byt (by omega)).1, b1⟩

end Go.Proofs.YtadnlljknocbbabGreatDoor

/- WalTwice: its calls behind each other. -/
namespace Go.Proofs.YtadnlljknocbbabGreatDoor
open Go.RowKit Go.Shelf Go.Maps
set_option linter.unusedVariables false
set_option maxRecDepth 100000

/-- While commits are made. -/
def TC (w : World) (g dg : Nat) (u : World) : Prop := ∃ L D S, TG w g dg L D [] u S ∧ St sG L D

theorem tc_commit {w : World} {g dg : Nat} {u : World} (h : TC w g dg u) {a : Option Addr} {len cap : Nat} {V : List Wr} (hV : WArg w a len cap V) :
    Calls Tryz.prog 7 #[.pointer (some ⟨g, 0, none⟩), .slice a len cap] u fun e u' => ∃ E : Int, e = .returned (.int .i64 E) ∧ Hid (TC w g dg u') := by
  obtain ⟨L, D, S, h, hs⟩ := h
  refine (tg_commit h hV).mono ?_
  rintro e u' ⟨rfl, X⟩
  obtain ⟨S', h'⟩ := unhide X
  exact ⟨_, rfl, _, _, S', h', hs.cmt sG_ok V⟩

/-- What was pending, told by a list of the law. -/
structure Wn (L : Lg) (B : Nat) (ub : World) (a : Option Addr) (n c : Nat) (V : List Wr) : Prop where
  gw : Gw B ub (.slice a n c) V
  wl : wl V = pendW sG L.Q
  dl : ∀ x ∈ V, x.dl = 64 ∧ 0 ≤ x.b
  n : n = (pendL sG L.Q).length
  q : ∀ b z, L.Q b = some z → sG.ib ≤ b ∧ b < sG.n

theorem Wn.gw' {L : Lg} {B : Nat} {ub : World} {a : Option Addr} {n c : Nat} {V : List Wr} (h : Wn L B ub a n c V) {w : World} {g dg : Nat} {L' : Lg} {D : Dev} {us : List (Nat × World)} {u : World} {S : Nat → Prop} (hT : TG w g dg L' D us u S) (hm : (B, ub) ∈ us) : Gw B u (.slice a n c) V :=
  h.gw.kept (fun k h1 h2 => ((hT.kp _ hm).2 k h1 h2).2)

theorem Wn.cap {L : Lg} {B : Nat} {ub : World} {a : Option Addr} {n c : Nat} {V : List Wr} (h : Wn L B ub a n c V) : n ≤ c ∧ c ≤ 9223372036854775807 ∧ n ≤ 60 ∧ V.length = n := by
  obtain ⟨a', c', e, h1, h2⟩ := h.gw.shape
  have hl := h.gw.has.2
  have := pendL_len sG L.Q
  have h60 : sG.n = 60 := rfl
  have hn := h.n
  cases e
  unfold maxLen at h2
  omega

/-- The loop of crashes. -/
def TL (w : World) (g dg : Nat) (L : Lg) (B : Nat) (ub u : World) : Prop := ∃ D S, TG w g dg L D [(B, ub)] u S ∧ St sG L D

/-- want := l.Pending(). -/
theorem tc_pend {w : World} {g dg : Nat} {u : World} (h : TC w g dg u) :
    Calls Tryz.prog 8 #[.pointer (some ⟨g, 0, none⟩)] u fun e u' => ∃ (L : Lg) (a : Option Addr) (n c : Nat) (V : List Wr) (B : Nat), e = .returned (.slice a n c) ∧ Hid (Wn L B u' a n c V) ∧ Hid (TL w g dg L B u' u') := by
  obtain ⟨L, D, S, h, hs⟩ := h
  refine (tg_pend h).mono ?_
  rintro e u' ⟨a, c, V, rfl, X⟩
  obtain ⟨g1, g2, g3, _, g4⟩ := unhide X
  exact ⟨L, a, _, c, V, u.heap.size, rfl, ⟨g1, g2, g3, rfl, hs.q⟩, D, S, g4, hs⟩

/-- Two lists that tell the same. -/
theorem same_lists {V V' : List Wr} {W : Wl} (h : wl V = W) (h' : wl V' = W) (d : ∀ x ∈ V, x.dl = 64 ∧ 0 ≤ x.b) (d' : ∀ x ∈ V', x.dl = 64 ∧ 0 ≤ x.b) : ∀ j, j < V.length → (wat V j).b = (wat V' j).b ∧ (wat V j).z = (wat V' j).z ∧ (wat V j).dl = (wat V' j).dl := by
  intro j hj
  have hl : V'.length = V.length := by rw [← wl_len, ← wl_len, h, h']
  have e1 : (wl V)[j]? = some ((wat V j).b.toNat, (wat V j).z) := by
    unfold wl wat
    rw [List.getElem?_map, List.getElem?_eq_getElem hj]
    rfl
  have e2 : (wl V')[j]? = some ((wat V' j).b.toNat, (wat V' j).z) := by
    unfold wl wat
    rw [List.getElem?_map, List.getElem?_eq_getElem (by omega)]
    rfl
  rw [h] at e1
  rw [h', e1] at e2
  simp only [Option.some.injEq, Prod.mk.injEq] at e2
  have m1 := d _ (wat_mem (V := V) (j := j) hj)
  have m2 := d' _ (wat_mem (V := V') (j := j) (by omega))
  exact ⟨by omega, e2.2, m1.1.trans m2.1.symm⟩

/-- One round of the crashes. -/
theorem tl_round {w : World} {g dg : Nat} {L : Lg} {B : Nat} {ub u : World} (h : TL w g dg L B ub u) {a : Option Addr} {n c : Nat} {V : List Wr} (hw : Wn L B ub a n c V) (s t q : Int) (hh : L.h.fn = fun k => if k = 0 then s else if k = 1 then t else q) :
    Calls Tryz.prog 9 #[.pointer (some ⟨dg, 0, none⟩), .slice none 0 0] u fun e u1 => e = .returned (.int .i64 0) ∧ Hid (Below w.heap.size w u1) ∧ Hid (
      Calls Tryz.prog 10 #[.pointer (some ⟨dg, 0, none⟩), Pv sP] u1 fun e u2 => ∃ gn, e = .returned (.tuple #[.pointer (some ⟨gn, 0, none⟩), .int .i64 0]) ∧ Hid (
        Calls Tryz.prog 8 #[.pointer (some ⟨gn, 0, none⟩)] u2 fun e u3 => ∃ a' c', e = .returned (.slice a' n c') ∧ Hid (
          Calls Tryz.prog 11 #[.slice a' n c', .slice a n c] u3 fun e u4 => e = .returned (.bool true) ∧ Hid (
            Calls Tryz.prog 12 #[.pointer (some ⟨gn, 0, none⟩)] u4 fun e u5 => e = .returned (.agg #[.int .i64 s, .int .i64 t, .int .i64 q]) ∧ Hid (
              Calls Tryz.prog 12 #[.pointer (some ⟨g, 0, none⟩)] u5 fun e u6 => e = .returned (.agg #[.int .i64 s, .int .i64 t, .int .i64 q]) ∧ Hid (TL w g dg L B ub u6)))))) := by
  have hv : Hv L.h.fn = .agg #[.int .i64 s, .int .i64 t, .int .i64 q] := by rw [hh]; rfl
  obtain ⟨D, S, h, hs⟩ := h
  refine (tg_crash h (a := none) (len := 0) (cap := 0) (ps := []) ⟨Nat.le_refl _, by omega⟩ (fun h => by omega) ⟨rfl, fun h => by omega⟩).mono ?_
  rintro e u1 ⟨rfl, X1⟩
  obtain ⟨S1, h1⟩ := unhide X1
  have hs1 := hs.crash []
  refine ⟨rfl, h1.bel, (tg_open h1 rfl (hs1.parse sG_ok)).mono ?_⟩
  rintro e u2 ⟨gn, rfl, X2⟩
  obtain ⟨⟨S2, h2⟩, S3, h3⟩ := unhide X2
  refine ⟨gn, rfl, (tg_pend h3).mono ?_⟩
  rintro e u3 ⟨a', c', V', rfl, X3⟩
  obtain ⟨g1, g2, g3, b3, h4⟩ := unhide X3
  have h2' := h2.later b3
  have G1 := hw.gw' h2' (by simp)
  rw [← hw.n] at g1
  obtain ⟨w1, l1⟩ := g1.has
  obtain ⟨w2, l2⟩ := G1.has
  obtain ⟨k1, k2, k3, k4⟩ := hw.cap
  have kc : n ≤ c' ∧ c' ≤ 9223372036854775807 := by
    obtain ⟨a2, c2, e, h1, h2⟩ := g1.shape
    cases e
    unfold maxLen at h2
    omega
  refine ⟨a', c', by rw [← hw.n], (sameW_yes a' a n c' c V' V u3 w1 w2 kc ⟨k1, k2⟩ (by omega) (fun j hj => ?_)).mono ?_⟩
  · have := same_lists hw.wl g2 hw.dl g3 j (by omega)
    exact ⟨this.1.symm, this.2.1.symm, this.2.2.symm⟩
  rintro e u4 ⟨rfl, q4, rfl⟩
  have bq : Below u3.heap.size u3 (u3.drewN q4) := below_drewN (Below.refl _ u3) q4
  have h2'' := h2'.later bq
  have h3'' := h4.later bq
  generalize u3.drewN q4 = u4 at *
  refine ⟨rfl, (tg_head h3'').mono ?_⟩
  rintro e u5 ⟨rfl, b5⟩
  refine ⟨by rw [hv], (tg_head (h2''.later b5)).mono ?_⟩
  rintro e u6 ⟨rfl, b6⟩
  exact ⟨by rw [hv], D.crash [], S2, (h2''.later b5).later b6, hs1⟩

/-- Behind the first apply. -/
structure TE (w : World) (gn dg : Nat) (L : Lg) (B : Nat) (ub : World) (B2 : Nat) (ub2 : World) (ao : Option Addr) (co : Nat) (W : Int) (u : World) : Prop where
  ex : ∃ L1 D1 S, TG w gn dg L1 D1 [(B2, ub2), (B, ub)] u S ∧ St sG L1 D1 ∧ L1.h.used = 0 ∧ Own B2 ub2 ao 3136 co (imgL sG D1.rd 49) ∧ D1.wr = W ∧ ∀ j, sG.ib ≤ j → j < sG.n → ∀ z, L.Q j = some z → D1.rd j = z

theorem TE.later {w : World} {gn dg : Nat} {L : Lg} {B : Nat} {ub : World} {B2 : Nat} {ub2 : World} {ao : Option Addr} {co : Nat} {W : Int} {u u' : World} (h : TE w gn dg L B ub B2 ub2 ao co W u) (hb : Below u.heap.size u u') : TE w gn dg L B ub B2 ub2 ao co W u' := by
  obtain ⟨L1, D1, S, h, r⟩ := h.ex
  exact ⟨L1, D1, S, h.later hb, r⟩

theorem TE.bel {w : World} {gn dg : Nat} {L : Lg} {B : Nat} {ub : World} {B2 : Nat} {ub2 : World} {ao : Option Addr} {co : Nat} {W : Int} {u : World} (h : TE w gn dg L B ub B2 ub2 ao co W u) : Below w.heap.size w u := by
  obtain ⟨L1, D1, S, h, r⟩ := h.ex
  exact h.bel

theorem pendL_none : pendL sG (fun _ => none) = [] := by rfl

/-- From the second Open to the Pending behind Apply. -/
theorem tl_end {w : World} {g dg : Nat} {L : Lg} {B : Nat} {ub u : World} (h : TL w g dg L B ub u) :
    Calls Tryz.prog 10 #[.pointer (some ⟨dg, 0, none⟩), Pv sP] u fun e u1 => ∃ gn, e = .returned (.tuple #[.pointer (some ⟨gn, 0, none⟩), .int .i64 0]) ∧ Hid (
      Calls Tryz.prog 13 #[.pointer (some ⟨gn, 0, none⟩)] u1 fun e u2 => e = .returned (.int .i64 0) ∧ Hid (Below w.heap.size w u2) ∧ Hid (
        Calls Tryz.prog 14 #[.pointer (some ⟨dg, 0, none⟩), Pv sP] u2 fun e u3 => ∃ ao co, e = .returned (.tuple #[.slice ao 3136 co, .bool true]) ∧ Hid (
          Calls Tryz.prog 15 #[.pointer (some ⟨dg, 0, none⟩)] u3 fun e u4 => ∃ W : Int, e = .returned (.int .i64 W) ∧ Hid (
            Calls Tryz.prog 8 #[.pointer (some ⟨gn, 0, none⟩)] u4 fun e u5 => ∃ a c, e = .returned (.slice a 0 c) ∧ Hid (∃ B2 ub2, TE w gn dg L B ub B2 ub2 ao co W u5))))) := by
  obtain ⟨D, S, h, hs⟩ := h
  refine (tg_open h hs.live.2 (hs.parse sG_ok)).mono ?_
  rintro e u1 ⟨gn, rfl, X1⟩
  obtain ⟨_, S1, h1⟩ := unhide X1
  obtain ⟨y1, y2, y3⟩ := hs.aply sG_ok
  obtain ⟨a1, a2, a3, a4, a5, a6⟩ := hs.apl sG_ok
  refine ⟨gn, rfl, (tg_apply h1).mono ?_⟩
  rintro e u2 ⟨rfl, X2⟩
  obtain ⟨S2, h2⟩ := unhide X2
  rw [y2, y3] at h2
  refine ⟨by rw [y1], h2.bel, (tg_image h2 a2.live.2).mono ?_⟩
  rintro e u3 ⟨ao, co, rfl, X3⟩
  obtain ⟨o3, b3, h3⟩ := unhide X3
  refine ⟨ao, co, rfl, (tg_writes h3).mono ?_⟩
  rintro e u4 ⟨rfl, rfl⟩
  refine ⟨_, rfl, (tg_pend h3).mono ?_⟩
  rintro e u5 ⟨a, c, V, rfl, X5⟩
  obtain ⟨_, _, _, _, h5⟩ := unhide X5
  refine ⟨a, c, by rw [a5, pendL_none]; rfl, u2.heap.size, u3, _, _, S2, h5.sub (fun p hp => List.mem_cons_of_mem _ hp), a2, a3, o3, rfl, fun j h1 h2 z hz => ?_⟩
  rw [a6 j h1 h2, hz]
  rfl

/-- One round of the reads. -/
theorem te_round {w : World} {gn dg : Nat} {L : Lg} {B : Nat} {ub : World} {B2 : Nat} {ub2 : World} {ao : Option Addr} {co : Nat} {W : Int} {u : World} (h : TE w gn dg L B ub B2 ub2 ao co W u) {a : Option Addr} {n c : Nat} {V : List Wr} (hw : Wn L B ub a n c V) {i : Nat} (hi : i < n) :
    ∃ kb off b da dc, a = some ⟨kb, off, none⟩ ∧ u.cell? ⟨kb, off + i * 2, none⟩ = some (.int .i64 b) ∧ Hid (
      Calls Tryz.prog 16 #[.pointer (some ⟨dg, 0, none⟩), .int .i64 b] u fun e u1 => ∃ gx, e = .returned (.tuple #[.slice (some ⟨gx, 0, none⟩) 64 64, .int .i64 0]) ∧ u1.cell? ⟨kb, off + i * 2 + 1, none⟩ = some (.slice da 64 dc) ∧ Hid (
        Calls Tryz.prog 17 #[.slice (some ⟨gx, 0, none⟩) 64 64, .slice da 64 dc] u1 fun e u2 => e = .returned (.bool true) ∧ u1 = u2 ∧ Hid (TE w gn dg L B ub B2 ub2 ao co W u1))) := by
  have h0 := h
  obtain ⟨L1, D1, S, h, hs, hu, ho, hW, hr⟩ := h.ex
  have G1 := hw.gw' h (by simp)
  obtain ⟨w1, l1⟩ := G1.has
  obtain ⟨k1, k2, k3, k4⟩ := hw.cap
  obtain ⟨kb, off, e, hk, hc⟩ := w1.cel (by omega)
  have hm := wat_mem (V := V) (j := i) (by omega)
  obtain ⟨d1, d2⟩ := hw.dl _ hm
  have e1 : (pendW sG L.Q)[i]? = some ((wat V i).b.toNat, (wat V i).z) := by
    rw [← hw.wl]
    unfold wl wat
    rw [List.getElem?_map, List.getElem?_eq_getElem (show i < V.length by omega)]
    rfl
  obtain ⟨b0, hb0, eb0⟩ : ∃ b0, b0 ∈ pendL sG L.Q ∧ (b0, (L.Q b0).getD []) = ((wat V i).b.toNat, (wat V i).z) := by
    have := List.mem_of_getElem? e1
    unfold pendW at this
    obtain ⟨b0, h1, h2⟩ := List.mem_map.1 this
    exact ⟨b0, h1, h2⟩
  obtain ⟨hb1, hb2⟩ := pendL_mem.1 hb0
  obtain ⟨z, hz⟩ := Option.isSome_iff_exists.1 hb2
  simp only [Prod.mk.injEq, hz, Option.getD_some] at eb0
  obtain ⟨q1, q2⟩ := hw.q b0 z hz
  have eb : (wat V i).b = (b0 : Int) := by omega
  have erd : D1.rd b0 = (wat V i).z := (hr b0 q1 q2 z hz).trans eb0.2
  refine ⟨kb, off, (b0 : Int), (wat V i).da, (wat V i).dc, e, by rw [← eb]; exact (hc i hi).1, (tg_read h hs.live.2 (i := b0) q2).mono ?_⟩
  rintro e' u1 ⟨rfl, BB, hl, b1⟩
  have w2 := w1.later b1
  have c2 := (b1.cell (p := ⟨kb, off + i * 2 + 1, none⟩) hk).trans (hc i hi).2
  rw [d1] at c2
  have r2 := (w2.row i hi).has
  rw [d1] at r2
  refine ⟨_, rfl, c2, (same_true _ _ 64 64 (wat V i).dc (wat V i).z u1 (by rw [← erd]; exact BB.has hl) r2).mono ?_⟩
  rintro e' u2 ⟨rfl, rfl⟩
  exact ⟨rfl, rfl, h0.later b1⟩

/-- The last Open, Apply and what is asked behind them. -/
theorem te_end {w : World} {gn dg : Nat} {L : Lg} {B : Nat} {ub : World} {B2 : Nat} {ub2 : World} {ao : Option Addr} {co : Nat} {W : Int} {u : World} (h : TE w gn dg L B ub B2 ub2 ao co W u) :
    Calls Tryz.prog 10 #[.pointer (some ⟨dg, 0, none⟩), Pv sP] u fun e u1 => ∃ g2, e = .returned (.tuple #[.pointer (some ⟨g2, 0, none⟩), .int .i64 0]) ∧ Hid (
      Calls Tryz.prog 13 #[.pointer (some ⟨g2, 0, none⟩)] u1 fun e u2 => e = .returned (.int .i64 0) ∧ Hid (Below w.heap.size w u2) ∧ Hid (
        Calls Tryz.prog 14 #[.pointer (some ⟨dg, 0, none⟩), Pv sP] u2 fun e u3 => ∃ at' ct, e = .returned (.tuple #[.slice at' 3136 ct, .bool true]) ∧ Hid (
          Calls Tryz.prog 17 #[.slice ao 3136 co, .slice at' 3136 ct] u3 fun e u4 => e = .returned (.bool true) ∧ u3 = u4 ∧ Hid (
            Calls Tryz.prog 15 #[.pointer (some ⟨dg, 0, none⟩)] u3 fun e u5 => e = .returned (.int .i64 W) ∧ u3 = u5 ∧ Hid (Below w.heap.size w u3))))) := by
  obtain ⟨L1, D1, S, h, hs, hu, ho, hW, hr⟩ := h.ex
  refine (tg_open h hs.live.2 (hs.parse sG_ok)).mono ?_
  rintro e u1 ⟨g2, rfl, X1⟩
  obtain ⟨_, S1, h1⟩ := unhide X1
  obtain ⟨y1, y2, y3⟩ := hs.aply0 hu
  refine ⟨g2, rfl, (tg_apply h1).mono ?_⟩
  rintro e u2 ⟨rfl, X2⟩
  obtain ⟨S2, h2⟩ := unhide X2
  rw [y2, y3] at h2
  refine ⟨by rw [y1], h2.bel, (tg_image h2 hs.live.2).mono ?_⟩
  rintro e u3 ⟨at', ct, rfl, X3⟩
  obtain ⟨o3, b3, h3⟩ := unhide X3
  have oo : Own B2 u3 ao 3136 co (imgL sG D1.rd 49) := ho.kept (fun k e => by
    obtain ⟨z1, z2, _⟩ := ho.lt e
    exact ((h3.kp (B2, ub2) (by simp)).2 k z2 z1).2)
  refine ⟨at', ct, rfl, (same_true ao at' 3136 co ct _ u3 oo.has o3.has).mono ?_⟩
  rintro e u4 ⟨rfl, rfl⟩
  refine ⟨rfl, rfl, (tg_writes h3).mono ?_⟩
  rintro e u5 ⟨rfl, rfl⟩
  exact ⟨by rw [hW], rfl, h3.bel⟩

end Go.Proofs.YtadnlljknocbbabGreatDoor

/- The walk of WalTwice. -/
namespace Go.Proofs.YtadnlljknocbbabGreatDoor
open Go.RowKit Go.Shelf Go.Maps
set_option linter.unusedVariables false
set_option maxRecDepth 100000

theorem WHas.low {w u : World} {a : Option Addr} {len : Nat} {V : List Wr} (h : WHas w a len V) (hb : Below w.heap.size w u) : WHas u a len V := h.later hb

/-- Lists that came in, later. -/
theorem WArg.later {w u : World} {a : Option Addr} {len cap : Nat} {V : List Wr} (h : WArg w a len cap V) (hb : Below w.heap.size w u) : WArg u a len cap V :=
  ⟨h.has.later hb, h.lb, h.cb, h.num, fun j hj hp => by
    obtain ⟨q, off, e, hq⟩ := h.dlt j hj hp
    exact ⟨q, off, e, Nat.lt_of_lt_of_le hq hb.size⟩⟩

theorem WLs.later {w u : World} {a : Option Addr} {len : Nat} (h : WLs w a len) (hb : Below w.heap.size w u) : WLs u a len :=
  ⟨h.1, fun hp => by
    obtain ⟨b, off, e, hlt, hc⟩ := h.2 hp
    refine ⟨b, off, e, Nat.lt_of_lt_of_le hlt hb.size, fun i hi => ?_⟩
    obtain ⟨xa, xl, xc, V, c1, hV⟩ := hc i hi
    exact ⟨xa, xl, xc, V, (hb.cell (p := ⟨b, off + i, none⟩) hlt).trans c1, hV.later hb⟩⟩

set_option maxHeartbeats 8000000 in
theorem twice_walk (a0 : Option Addr) (len0 cap0 : Nat) (a1 : Int) (w : World) (hA : WLs w a0 len0) (w1 : (Lit.int .i64 a1).wf = true) (hT : Tab w) : Calls Tryz.prog 3 #[.slice a0 len0 cap0, .int .i64 a1] w fun e w' => e = .returned (.bool true) ∧ Below w.heap.size w w' := by
  have K1 := hide (wakes_any w hT)
  have KS : Hid (∀ u, _) := fun u => small_any u
  have KF : Hid (∀ u, Below w.heap.size w u → Calls Tryz.prog 6 #[Pv sP] u fun e w' => ∃ dg g, e = .returned (.tuple #[.pointer (some ⟨dg, 0, none⟩), .pointer (some ⟨g, 0, none⟩)]) ∧ Hid (TC u g dg w')) := fun u hu => by
    refine (fresh_any u (hT.kept (hu.block 0 hT.lt))).mono ?_
    rintro e w' ⟨dg, g, rfl, X⟩
    obtain ⟨S, h⟩ := unhide X
    exact ⟨dg, g, rfl, sL, sD, S, ⟨h, fun p hp => by simp at hp⟩, sL_st⟩
  have KL : Hid (∀ u, Below w.heap.size w u → WLs u a0 len0) := fun u hu => hA.later hu
  have KC : Hid (∀ w3 g dg u, TC w3 g dg u → ∀ a len cap V, WArg w3 a len cap V → _) := fun w3 g dg u h a len cap V hV => tc_commit h hV
  have KP : Hid (∀ w3 g dg u, TC w3 g dg u → _) := fun w3 g dg u h => tc_pend h
  have KR : Hid (∀ w3 g dg L B ub u, TL w3 g dg L B ub u → ∀ a n c V, Wn L B ub a n c V → ∀ s t q, L.h.fn = (fun k => if k = 0 then s else if k = 1 then t else q) → _) := fun w3 g dg L B ub u h a n c V hw s t q hh => tl_round h hw s t q hh
  have KE : Hid (∀ w3 g dg L B ub u, TL w3 g dg L B ub u → _) := fun w3 g dg L B ub u h => tl_end h
  have KD : Hid (∀ w3 gn dg L B ub B2 ub2 ao co W u, TE w3 gn dg L B ub B2 ub2 ao co W u → ∀ a n c V, Wn L B ub a n c V → ∀ i, i < n → _) := fun w3 gn dg L B ub B2 ub2 ao co W u h a n c V hw i hi => te_round h hw hi
  have KZ : Hid (∀ w3 gn dg L B ub B2 ub2 ao co W u, TE w3 gn dg L B ub B2 ub2 ao co W u → _) := fun w3 gn dg L B ub B2 ub2 ao co W u h => te_end h
  have hw1 := int_max w1
  clear hA hT w1
  generalize sP = p at *
  go_enter Tryz.func3, Tryz.ntmps3
  go_wp2_with fail
  go_at_call 4
  refine (unhide K1).mono ?_
  rintro e w1 ⟨rfl, x1⟩
  have X1 := hide x1
  clear K1 x1
  have KS1 := hide (unhide KS w1)
  clear KS
  go_wp2_with fail
  go_at_call 5
  refine (unhide KS1).mono ?_
  rintro e w2 ⟨rfl, hb2⟩
  have HK := hide (Kp.start w2 p)
  have X2 := hide ((unhide X1).trans (hb2.mono (unhide X1).size))
  have X3 := hide ((unhide X2).trans ((unhide HK).2.mono (unhide X2).size))
  have KF1 := hide (unhide KF _ (unhide X3))
  have L3 := hide (unhide KL _ (unhide X3))
  clear KS1 KF hb2 X1 X2 KL
  go_upto_region 4 with fail
  change Code.wp _ _ _ _ (w2.alloc (.cells (Pc p) 25))
  generalize w2.alloc (.cells (Pc p) 25) = w3 at *
  have HQ : Hid (∀ u, Below w3.heap.size w3 u → _) := fun u hu => ((unhide HK).call hu).cells
  obtain ⟨f0, f1, f2, f3, f4, f5, f6, f7, f8, f9, f10, f11⟩ := (unhide HK).cells
  have HE : Hid (∀ u, Below w3.heap.size w3 u → Below w.heap.size w u) := fun u hu => (unhide X3).trans (hu.mono (unhide X3).size)
  clear X3
  go_wp2_with fail
  go_at_call 6
  refine (unhide KF1).mono ?_
  rintro e u0 ⟨dg, g, rfl, T0⟩
  clear KF1 HK f0 f1 f2 f3 f4 f5 f6 f7 f8 f9 f10 f11
  go_upto_region 6 with fail
  go_loopw [8] (fun i wr => ∃ k : Nat, k ≤ len0 ∧ i = .int .i64 (k : Int) ∧ Hid (TC w3 g dg wr)) (fun i _ => len0 - (intOf i).toNat)
  case atStart => exact ⟨0, Nat.zero_le _, rfl, T0⟩
  case round =>
    obtain ⟨k, hk, rfl, hJ⟩ := hrel
    clear T0
    have hll := (unhide L3).1
    by_cases hc : k < len0 ∧ k < 10
    · obtain ⟨b, off, ea, _, hcell⟩ := (unhide L3).2 (by omega)
      obtain ⟨xa, xl, xc, V, c1, hV⟩ := hcell k hc.1
      have hb : Below w3.heap.size w3 wr := by obtain ⟨L, D, S, h, _⟩ := unhide hJ; exact h.bel
      have c2 : wr.cell? ⟨b, off + k, none⟩ = some (.slice xa xl xc) := (hb.cell (p := ⟨b, off + k, none⟩) (by assumption)).trans c1
      have C := hide (unhide KC _ _ _ _ (unhide hJ) xa xl xc V hV)
      clear hcell hV c1 hb KC KP KR KE KZ KD hJ L3 HQ HE hw1
      subst ea
      have i1 : (k : Int) < (len0 : Int) := by omega
      have i2 : (k : Int) < 10 := by omega
      go_wp2_with fail
      go_at_call 7
      refine (unhide C).mono ?_
      rintro e u1 ⟨E, rfl, T1⟩
      clear C c2
      go_wp2_with fail
      exact ⟨⟨k + 1, by omega, by go_num, T1⟩, by simp [intOf]; omega⟩
    · go_upto_region 6 with fail
      go_cut [38] (fun c wx => c = .bool false ∧ wr = wx)
      case first =>
        clear KC KP KR KE KZ KD hJ L3 HQ HE hw1
        by_cases h1 : k < len0
        · have i1 : (k : Int) < (len0 : Int) := by omega
          have i2 : ¬ (k : Int) < 10 := by omega
          go_wp2_with fail
          go_meet
          exact ⟨rfl, rfl⟩
        · have i1 : ¬ (k : Int) < (len0 : Int) := by omega
          go_wp2_with fail
          go_meet
          exact ⟨rfl, rfl⟩
      case rest =>
      obtain ⟨rfl, rfl⟩ := hcut
      have KP1 := hide (unhide KP _ _ _ _ (unhide hJ))
      clear KC KP hJ L3 hll hc hk
      go_upto_region 9 with fail
      go_cut [52] (fun c wx => ∃ b : Bool, c = .bool b ∧ Hid (b = false → 0 ≤ a1 ∧ a1 ≤ 5) ∧ wr = wx)
      case first =>
        clear KP1 KR KE KZ KD HQ HE
        by_cases hl : a1 < 0
        · go_wp2_with fail
          go_meet
          exact ⟨true, rfl, (fun h => by cases h), rfl⟩
        · by_cases hh : 5 < a1
          · go_wp2_with fail
            go_meet
            exact ⟨true, rfl, (fun h => by cases h), rfl⟩
          · go_wp2_with fail
            go_meet
            exact ⟨false, rfl, (fun _ => by omega), rfl⟩
      case rest =>
      obtain ⟨b, rfl, HB, rfl⟩ := hcut
      go_upto_if 52 with fail
      go_cut [1] (fun c wx => ∃ m : Nat, m ≤ 5 ∧ c = .int .i64 (m : Int) ∧ wr = wx)
      case first =>
        clear KP1 KR KE KZ KD HQ HE
        cases b with
        | true =>
          go_wp2_with fail
          go_meet
          exact ⟨2, by omega, rfl, rfl⟩
        | false =>
          have hb := unhide HB rfl
          go_wp2_with fail
          go_meet
          exact ⟨a1.toNat, by omega, val_int (by omega), rfl⟩
      case rest =>
      obtain ⟨m, hm, rfl, rfl⟩ := hcut
      clear HB hw1
      go_wp2_with fail
      go_at_call 8
      refine (unhide KP1).mono ?_
      rintro e ub ⟨L, a, n, c, V, B, rfl, HW, T1⟩
      clear KP1
      obtain ⟨s, t, q, hh⟩ : ∃ s t q : Int, L.h.fn = (fun k => if k = 0 then s else if k = 1 then t else q) := ⟨_, _, _, rfl⟩
      have q1 : ∀ u : World, (binOp .neq 40 (.agg #[.int .i64 s, .int .i64 t, .int .i64 q]) (.agg #[.int .i64 s, .int .i64 t, .int .i64 q])).run Tryz.prog u = .ok (.bool false) u := fun u => neq_plan_noH (P := fun k => if k = 0 then s else if k = 1 then t else q) (Q := fun k => if k = 0 then s else if k = 1 then t else q) (fun _ _ => rfl) u
      have KR2 : Hid (∀ u, TL w3 g dg L B ub u → _) := fun u h => unhide KR _ _ _ _ _ _ _ h _ _ _ _ (unhide HW) s t q hh
      have hn60 : n ≤ 60 := (unhide HW).cap.2.2.1
      have KD2 : Hid (∀ gn B2 ub2 ao co W u, TE w3 gn dg L B ub B2 ub2 ao co W u → ∀ i, i < n → _) := fun gn B2 ub2 ao co W u h i hi => unhide KD _ _ _ _ _ _ _ _ _ _ _ _ h _ _ _ _ (unhide HW) i hi
      clear KR hh HW KD
      go_upto_region 13 with fail
      go_loopw [10] (fun i wr => ∃ k : Nat, k ≤ m ∧ i = .int .i64 (k : Int) ∧ Hid (TL w3 g dg L B ub wr)) (fun i _ => m - (intOf i).toNat)
      case atStart => exact ⟨0, Nat.zero_le _, rfl, T1⟩
      case round =>
        obtain ⟨k2, hk2, rfl, hJ⟩ := hrel
        clear T1
        by_cases hlt : k2 < m
        · have C := hide (unhide KR2 _ (unhide hJ))
          clear KR2 KE KZ KD2 HE hJ
          have i1 : (k2 : Int) < (m : Int) := by omega
          go_wp2_with fail
          go_at_call 9
          refine (unhide C).mono ?_
          rintro e u1 ⟨rfl, B1, C1⟩
          clear C
          obtain ⟨f0, f1, f2, f3, f4, f5, f6, f7, f8, f9, f10, f11⟩ := unhide HQ _ (unhide B1)
          clear B1
          go_wp2_with fail
          go_at_call 10
          refine (unhide C1).mono ?_
          rintro e u2 ⟨gn, rfl, C2⟩
          clear C1 f0 f1 f2 f3 f4 f5 f6 f7 f8 f9 f10 f11
          go_wp2_with fail
          go_at_call 8
          refine (unhide C2).mono ?_
          rintro e u3 ⟨a3, c3, rfl, C3⟩
          clear C2
          go_wp2_with fail
          go_at_call 11
          refine (unhide C3).mono ?_
          rintro e u4 ⟨rfl, C4⟩
          clear C3
          go_wp2_with fail
          go_at_call 12
          refine (unhide C4).mono ?_
          rintro e u5 ⟨rfl, C5⟩
          clear C4
          go_wp2_with fail
          go_at_call 12
          refine (unhide C5).mono ?_
          rintro e u6 ⟨rfl, T6⟩
          clear C5
          go_wp2_with fail
          exact ⟨⟨k2 + 1, by omega, by go_num, T6⟩, by simp [intOf]; omega⟩
        · have i1 : ¬ (k2 : Int) < (m : Int) := by omega
          have C := hide (unhide KE _ _ _ _ _ _ _ (unhide hJ))
          have hb : Below w3.heap.size w3 wr := by obtain ⟨D, S, h, _⟩ := unhide hJ; exact h.bel
          obtain ⟨f0, f1, f2, f3, f4, f5, f6, f7, f8, f9, f10, f11⟩ := unhide HQ _ hb
          clear KR2 KE hJ hb q1
          go_wp2_with fail
          go_at_call 10
          refine (unhide C).mono ?_
          rintro e u1 ⟨gn, rfl, C1⟩
          clear C f0 f1 f2 f3 f4 f5 f6 f7 f8 f9 f10 f11
          go_wp2_with fail
          go_at_call 13
          refine (unhide C1).mono ?_
          rintro e u2 ⟨rfl, B2, C2⟩
          clear C1
          obtain ⟨f0, f1, f2, f3, f4, f5, f6, f7, f8, f9, f10, f11⟩ := unhide HQ _ (unhide B2)
          clear B2
          go_wp2_with fail
          go_at_call 14
          refine (unhide C2).mono ?_
          rintro e u3 ⟨ao, co, rfl, C3⟩
          clear C2 f0 f1 f2 f3 f4 f5 f6 f7 f8 f9 f10 f11
          go_wp2_with fail
          go_at_call 15
          refine (unhide C3).mono ?_
          rintro e u4 ⟨W, rfl, C4⟩
          clear C3
          go_wp2_with fail
          go_at_call 8
          refine (unhide C4).mono ?_
          rintro e u5 ⟨a5, c5, rfl, T5⟩
          clear C4
          obtain ⟨B2, ub2, T5'⟩ := unhide T5
          replace T5' := hide T5'
          have KD3 : Hid (∀ u, TE w3 gn dg L B ub B2 ub2 ao co W u → ∀ i, i < n → _) := fun u h i hi => unhide KD2 _ _ _ _ _ _ _ h i hi
          have KZ3 : Hid (∀ u, TE w3 gn dg L B ub B2 ub2 ao co W u → _) := fun u h => unhide KZ _ _ _ _ _ _ _ _ _ _ _ _ h
          clear T5 KD2 KZ
          go_upto_region 28 with fail
          go_loopw [18] (fun i wr => ∃ k : Nat, k ≤ n ∧ i = .int .i64 (k : Int) ∧ Hid (TE w3 gn dg L B ub B2 ub2 ao co W wr)) (fun i _ => n - (intOf i).toNat)
          case atStart => exact ⟨0, Nat.zero_le _, rfl, T5'⟩
          case round =>
            obtain ⟨k3, hk3, rfl, hJ⟩ := hrel
            clear T5'
            by_cases hlt3 : k3 < n
            · obtain ⟨kb, off, bb, da, dc, ea, c1, C⟩ := unhide KD3 _ (unhide hJ) k3 hlt3
              clear KD3 KZ3 HQ HE hJ
              subst ea
              have i2 : (k3 : Int) < (n : Int) := by omega
              go_wp2_with fail
              go_at_call 16
              refine (unhide C).mono ?_
              rintro e v1 ⟨gx, rfl, c2, C1⟩
              clear C c1
              go_wp2_with fail
              go_at_call 17
              refine (unhide C1).mono ?_
              rintro e v2 ⟨rfl, rfl, T2⟩
              clear C1 c2
              go_wp2_with fail
              exact ⟨⟨k3 + 1, by omega, by go_num, T2⟩, by simp [intOf]; omega⟩
            · have i2 : ¬ (k3 : Int) < (n : Int) := by omega
              have C := hide (unhide KZ3 _ (unhide hJ))
              obtain ⟨f0, f1, f2, f3, f4, f5, f6, f7, f8, f9, f10, f11⟩ := unhide HQ _ (unhide hJ).bel
              clear KD3 KZ3 hJ
              go_wp2_with fail
              go_at_call 10
              refine (unhide C).mono ?_
              rintro e v1 ⟨g2, rfl, C1⟩
              clear C f0 f1 f2 f3 f4 f5 f6 f7 f8 f9 f10 f11
              go_wp2_with fail
              go_at_call 13
              refine (unhide C1).mono ?_
              rintro e v2 ⟨rfl, B3, C2⟩
              clear C1
              obtain ⟨f0, f1, f2, f3, f4, f5, f6, f7, f8, f9, f10, f11⟩ := unhide HQ _ (unhide B3)
              clear B3 HQ
              go_wp2_with fail
              go_at_call 14
              refine (unhide C2).mono ?_
              rintro e v3 ⟨at3, ct, rfl, C3⟩
              clear C2 f0 f1 f2 f3 f4 f5 f6 f7 f8 f9 f10 f11
              go_wp2_with fail
              go_at_call 17
              refine (unhide C3).mono ?_
              rintro e v4 ⟨rfl, rfl, C4⟩
              clear C3
              go_wp2_with fail
              go_at_call 15
              refine (unhide C4).mono ?_
              rintro e v5 ⟨rfl, rfl, B5⟩
              clear C4
              go_wp2_with fail
              go_ret
              exact ⟨rfl, unhide HE _ (unhide B5)⟩

end Go.Proofs.YtadnlljknocbbabGreatDoor

