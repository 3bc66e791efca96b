/- Joined: RJ, RJF, RJN. -/
import Derived.Test.YtadnlljknocbbaaGreatDoorWoJ46
import Derived.Test.YtadnlljknocbbaaGreatDoorWoJ39
import Derived.Test.YtadnlljknocbbaaGreatDoorWoJ44
import Derived.Test.YtadnlljknocbbaaGreatDoorWoJ41
import Derived.Test.YtadnlljknocbbaaGreatDoorWoJ43
import Derived.Test.YtadnlljknocbbaaGreatDoorWoJ36
import Derived.Test.YtadnlljknocbbaaGreatDoorWoJ47
import Derived.Test.YtadnlljknocbbaaGreatDoorWoJ48
import Derived.Test.YtadnlljknocbbaaGreatDoorWoJ18
import Derived.Test.YtadnlljknocbbaaGreatDoorWoJ19
import Derived.Test.YtadnlljknocbbaaGreatDoorWoJ6
import Derived.Test.YtadnlljknocbbaaGreatDoorWoJ10
/- A device and the document's device side by side, and logs on them. -/
namespace Go.Proofs.YtadnlljknocbbaaGreatDoor
open Go.RowKit Go.Shelf Go.Maps
set_option linter.unusedVariables false
set_option maxRecDepth 100000

/-- Both devices, made since W0; what was there in W0 is as it was. -/
structure J2 (W0 u : World) (dg rg : Nat) (Sd Sr : Nat → Prop) (D1 D2 : Dev) : Prop where
  dv : Dv u Sd dg D1
  rv : Rv u Sr rg D2
  dis : ∀ k, Sd k → ¬ Sr k
  gd : ∀ k, Sd k → W0.heap.size ≤ k
  gr : ∀ k, Sr k → W0.heap.size ≤ k
  bel : Below W0.heap.size W0 u

def M2 (W0 u : World) (dg rg : Nat) (D1 D2 : Dev) : Prop := ∃ Sd Sr, J2 W0 u dg rg Sd Sr D1 D2

theorem J2.later {W0 u u' : World} {dg rg : Nat} {Sd Sr : Nat → Prop} {D1 D2 : Dev} (h : J2 W0 u dg rg Sd Sr D1 D2) (hb : Below u.heap.size u u') : J2 W0 u' dg rg Sd Sr D1 D2 :=
  ⟨h.dv.below hb, h.rv.below hb, h.dis, h.gd, h.gr, h.bel.trans (hb.mono h.bel.size)⟩

theorem M2.later {W0 u u' : World} {dg rg : Nat} {D1 D2 : Dev} (h : M2 W0 u dg rg D1 D2) (hb : Below u.heap.size u u') : M2 W0 u' dg rg D1 D2 := by
  obtain ⟨Sd, Sr, h⟩ := h
  exact ⟨Sd, Sr, h.later hb⟩

theorem M2.bel {W0 u : World} {dg rg : Nat} {D1 D2 : Dev} (h : M2 W0 u dg rg D1 D2) : Below W0.heap.size W0 u := by
  obtain ⟨Sd, Sr, h⟩ := h
  exact h.bel

theorem J2.stepD {W0 u u1 : World} {dg rg : Nat} {Sd Sr S1 : Nat → Prop} {D1 D2 D1' : Dev} (h : J2 W0 u dg rg Sd Sr D1 D2) (h1 : Dv u1 S1 dg D1') (n1 : Nx Sd u S1 u1) : J2 W0 u1 dg rg S1 Sr D1' D2 :=
  ⟨h1, h.rv.kept (fun k hk => (n1.keep (h.rv.lt hk) (fun x => h.dis k x hk)).1) n1.fr.size, fun k hk hr => h.dis k (n1.sub k (h.rv.lt hr) hk) hr, n1.base h.gd h.bel.size, h.gr, h.bel.trans (n1.below h.gd h.bel.size)⟩

theorem J2.stepR {W0 u u1 : World} {dg rg : Nat} {Sd Sr S1 : Nat → Prop} {D1 D2 D2' : Dev} (h : J2 W0 u dg rg Sd Sr D1 D2) (h1 : Rv u1 S1 rg D2') (n1 : Nx Sr u S1 u1) : J2 W0 u1 dg rg Sd S1 D1 D2' :=
  ⟨h.dv.kept (fun k hk => (n1.keep (h.dv.lt hk) (fun x => h.dis k hk x)).1) n1.fr.size, h1, fun k hk hr => h.dis k hk (n1.sub k (h.dv.lt hk) hr), h.gd, n1.base h.gr h.bel.size, h.bel.trans (n1.below h.gr h.bel.size)⟩

theorem M2.tab {W0 u : World} {dg rg : Nat} {D1 D2 : Dev} (h : M2 W0 u dg rg D1 D2) (hT : Tab W0) : Tab u := hT.kept (h.bel.block 0 hT.lt)

/-- Alike. -/
theorem j_alike {W0 u : World} {dg rg : Nat} {D : Dev} (h : M2 W0 u dg rg D D) :
    Calls Tryz.prog 33 #[.pointer (some ⟨dg, 0, none⟩), .pointer (some ⟨rg, 0, none⟩)] u fun e u' => e = .returned (.bool true) ∧ Hid (Below u.heap.size u u') := by
  obtain ⟨Sd, Sr, h⟩ := h
  refine (alike_any dg rg Sd Sr D u h.dv h.rv).mono ?_
  rintro e u' ⟨rfl, hb⟩
  exact ⟨rfl, hb⟩

/-- Format on both. -/
theorem j_format {W0 u : World} {dg rg : Nat} {D D2 : Dev} (h : M2 W0 u dg rg D D2) (hT : Tab W0) {P : Nat → Int} {G : Geo} (hP : PG P G) (bd : D.blk = G.blk) (nd : D.n = G.n) :
    Calls Tryz.prog 37 #[.pointer (some ⟨dg, 0, none⟩), Pv P] u fun e u' => e = .returned (.int .i64 (runE (whS G hd1) D)) ∧ Hid (M2 W0 u' dg rg (runD (whS G hd1) D) D2) := by
  have hTu := h.tab hT
  obtain ⟨Sd, Sr, h⟩ := h
  refine (format_any P G dg Sd D u hP h.dv bd nd hTu (fun x => by have := h.gd 0 x; have := hT.lt; omega)).mono ?_
  rintro e u' ⟨rfl, S1, d1, n1⟩
  exact ⟨rfl, S1, Sr, h.stepD d1 n1⟩

theorem j_rformat {W0 u : World} {dg rg : Nat} {D D1 : Dev} (h : M2 W0 u dg rg D1 D) {P : Nat → Int} {G : Geo} (hP : PG P G) (bd : D.blk = G.blk) (nd : D.n = G.n) :
    Calls Tryz.prog 13 #[.pointer (some ⟨rg, 0, none⟩), Pv P] u fun e u' => e = .returned (.int .i64 (runE (whS G hd1) D)) ∧ Hid (M2 W0 u' dg rg D1 (runD (whS G hd1) D)) := by
  obtain ⟨Sd, Sr, h⟩ := h
  refine (rformat_any P G rg Sr D u hP h.rv bd nd).mono ?_
  rintro e u' ⟨rfl, S1, d1, n1⟩
  exact ⟨rfl, Sd, S1, h.stepR d1 n1⟩

/-- What a Load leaves. -/
def ldD (D : Dev) (b : Int) (len : Nat) (zs : List Int) : Dev := if refE D b len = 0 then D.load b.toNat zs else D

theorem refE_at {D : Dev} {b : Int} {len : Nat} (h : refE D b len = 0) : ∃ i : Nat, b = i ∧ i < D.n ∧ len = D.blk := by
  unfold refE at h
  split at h
  · omega
  · split at h
    · omega
    · exact ⟨b.toNat, by omega, by omega, by omega⟩

theorem ldD_n (D : Dev) (b : Int) (len : Nat) (zs : List Int) : (ldD D b len zs).n = D.n ∧ (ldD D b len zs).blk = D.blk := by
  unfold ldD
  split <;> exact ⟨rfl, rfl⟩

theorem j_load {W0 u : World} {dg rg : Nat} {D D2 : Dev} (h : M2 W0 u dg rg D D2) (b : Int) (a : Option Addr) (len cap : Nat) (zs : List Int) (hr : Row W0.heap.size W0 a len cap zs) :
    Calls Tryz.prog 24 #[.pointer (some ⟨dg, 0, none⟩), .int .i64 b, .slice a len cap] u fun e u' => e = .returned (.int .i64 (refE D b len)) ∧ Hid (M2 W0 u' dg rg (ldD D b len zs) D2) := by
  have hr' := hr.below h.bel h.bel.size
  obtain ⟨Sd, Sr, h⟩ := h
  by_cases h0 : refE D b len = 0
  · obtain ⟨i, rfl, hi, rfl⟩ := refE_at h0
    refine (load_ok dg i a cap zs Sd D u h.dv hi hr').mono ?_
    rintro e u' ⟨rfl, S1, d1, n1⟩
    rw [h0, ldD, if_pos h0]
    exact ⟨rfl, S1, Sr, h.stepD d1 n1⟩
  · refine (load_bad dg b a len cap Sd D u h.dv h0).mono ?_
    rintro e u' ⟨rfl, rfl⟩
    rw [ldD, if_neg h0]
    exact ⟨rfl, Sd, Sr, h⟩

theorem j_rload {W0 u : World} {dg rg : Nat} {D D1 : Dev} (h : M2 W0 u dg rg D1 D) (b : Int) (a : Option Addr) (len cap : Nat) (zs : List Int) (hr : Row W0.heap.size W0 a len cap zs) :
    Calls Tryz.prog 25 #[.pointer (some ⟨rg, 0, none⟩), .int .i64 b, .slice a len cap] u fun e u' => e = .returned (.int .i64 (refE D b len)) ∧ Hid (M2 W0 u' dg rg D1 (ldD D b len zs)) := by
  have hr' := hr.below h.bel h.bel.size
  obtain ⟨Sd, Sr, h⟩ := h
  by_cases h0 : refE D b len = 0
  · obtain ⟨i, rfl, hi, rfl⟩ := refE_at h0
    refine (rload_ok rg i a cap zs Sr D u h.rv hi hr').mono ?_
    rintro e u' ⟨rfl, S1, d1, n1⟩
    rw [h0, ldD, if_pos h0]
    exact ⟨rfl, Sd, S1, h.stepR d1 n1⟩
  · refine (rload_bad rg b a len cap Sr D u h.rv h0).mono ?_
    rintro e u' ⟨rfl, rfl⟩
    rw [ldD, if_neg h0]
    exact ⟨rfl, Sd, Sr, h⟩

/-- Why nothing is opened: the error. -/
noncomputable def opnE (G : Geo) (D : Dev) : Int := if D.dead = true then 7 else if (parse G D.rd).isNone then 9 else 0

/-- A log of the program, and its device beside the document's. -/
def JL (W0 u : World) (g dg rg : Nat) (P : Nat → Int) (G : Geo) (L : Lg) (D : Dev) : Prop := (∃ Sl m, LgM u Sl g dg P G L m) ∧ M2 W0 u dg rg D D

/-- Open on the program's device. -/
theorem j_open {W0 u : World} {dg rg : Nat} {D : Dev} (h : M2 W0 u dg rg D D) (hT : Tab W0) {P : Nat → Int} {G : Geo} (hP : PG P G) (bd : D.blk = G.blk) (nd : D.n = G.n) :
    Calls Tryz.prog 23 #[.pointer (some ⟨dg, 0, none⟩), Pv P] u fun e u' => (opnE G D ≠ 0 ∧ e = .returned (.tuple #[.pointer none, .int .i64 (opnE G D)]) ∧ Hid (M2 W0 u' dg rg D D)) ∨ (opnE G D = 0 ∧ ∃ g, e = .returned (.tuple #[.pointer (some ⟨g, 0, none⟩), .int .i64 0]) ∧ Hid (∃ L, parse G D.rd = some L ∧ JL W0 u' g dg rg P G L D)) := by
  have hTu := h.tab hT
  obtain ⟨Sd, Sr, h⟩ := h
  refine (open_any P G dg Sd D u hP h.dv bd nd hTu (fun x => by have := h.gd 0 x; have := hT.lt; omega)).mono ?_
  rintro e u' X
  obtain ⟨S', n1, (⟨hd, rfl, S2, d2, n2⟩ | ⟨hd, hp, rfl, S2, d2, n2⟩ | ⟨hd, L, g, hp, rfl, hl⟩)⟩ := unhide X
  · refine .inl ⟨by rw [opnE, if_pos hd]; decide, by rw [opnE, if_pos hd], S2, Sr, h.stepD d2 n2⟩
  · have e9 : opnE G D = 9 := by rw [opnE, hd, hp]; rfl
    exact .inl ⟨by rw [e9]; decide, by rw [e9], S2, Sr, h.stepD d2 n2⟩
  · have e0 : opnE G D = 0 := by rw [opnE, hd, hp]; rfl
    refine .inr ⟨e0, g, rfl, L, hp, ?_⟩
    obtain ⟨S2, d2, n2⟩ := hl.dv n1
    obtain ⟨Sl, Sd', m, x⟩ := hl
    exact ⟨⟨Sl, m, x.ll⟩, S2, Sr, h.stepD d2 n2⟩

/-- Open on the document's device. -/
theorem j_ropen {W0 u : World} {dg rg : Nat} {D : Dev} (h : M2 W0 u dg rg D D) {P : Nat → Int} {G : Geo} (hP : PG P G) (bd : D.blk = G.blk) (nd : D.n = G.n) :
    Calls Tryz.prog 14 #[.pointer (some ⟨rg, 0, none⟩), Pv P] u fun e u' => (opnE G D ≠ 0 ∧ e = .returned (.tuple #[.pointer none, .int .i64 (opnE G D)]) ∧ Hid (Below u.heap.size u u')) ∨ (opnE G D = 0 ∧ ∃ g, e = .returned (.tuple #[.pointer (some ⟨g, 0, none⟩), .int .i64 0]) ∧ Hid (Below u.heap.size u u' ∧ ∃ L V pv, parse G D.rd = some L ∧ RlM u' (fun k => u.heap.size ≤ k ∧ k < u'.heap.size) g rg P G L V pv)) := by
  obtain ⟨Sd, Sr, h⟩ := h
  refine (ropen_any P G rg Sr D u hP h.rv bd nd).mono ?_
  rintro e u' X
  obtain ⟨hb, (⟨hd, rfl⟩ | ⟨hd, hp, rfl⟩ | ⟨hd, L, g, V, pv, hp, rfl, hl⟩)⟩ := unhide X
  · exact .inl ⟨by rw [opnE, if_pos hd]; decide, by rw [opnE, if_pos hd], hb⟩
  · have e9 : opnE G D = 9 := by rw [opnE, hd, hp]; rfl
    exact .inl ⟨by rw [e9]; decide, by rw [e9], hb⟩
  · have e0 : opnE G D = 0 := by rw [opnE, hd, hp]; rfl
    exact .inr ⟨e0, g, rfl, hb, L, V, pv, hp, hl⟩

end Go.Proofs.YtadnlljknocbbaaGreatDoor

/- Two logs of the same, asked: what is pending, and their heads. -/
namespace Go.Proofs.YtadnlljknocbbaaGreatDoor
open Go.RowKit Go.Shelf Go.Maps
set_option linter.unusedVariables false
set_option maxRecDepth 100000

theorem lgm_below {u u' : World} {S : Nat → Prop} {g dg : Nat} {P : Nat → Int} {G : Geo} {L : Lg} {m : LMem} (h : LgM u S g dg P G L m) (hb : Below u.heap.size u u') : LgM u' S g dg P G L m :=
  h.kept (fun k hk => hb.block k (h.lt k hk)) (fun _ x => x) (fun k hk => Nat.lt_of_lt_of_le (h.lt k hk) hb.size)

theorem wl_at {V M : List Wr} (h : wl V = wl M) {j : Nat} (hj : j < V.length) : (wat V j).b.toNat = (wat M j).b.toNat ∧ (wat V j).z = (wat M j).z := by
  have hl : V.length = M.length := by rw [← wl_len, h, wl_len]
  have e : (wl V)[j]? = (wl M)[j]? := by rw [h]
  unfold wl at e
  rw [List.getElem?_map, List.getElem?_map, List.getElem?_eq_getElem hj, List.getElem?_eq_getElem (show j < M.length by omega)] at e
  simp only [Option.map_some, Option.some.injEq, Prod.mk.injEq] at e
  unfold wat
  rw [List.getElem?_eq_getElem hj, List.getElem?_eq_getElem (show j < M.length by omega)]
  exact e

theorem j_final {u : World} {Sl S : Nat → Prop} {g dg rg xg : Nat} {P : Nat → Int} {G : Geo} {L : Lg} {m : LMem} {V : List Wr} {pv : Value} (h1 : LgM u Sl g dg P G L m) (h2 : RlM u S xg rg P G L V pv) :
    Calls Tryz.prog 27 #[.pointer (some ⟨g, 0, none⟩)] u fun e u1 => ∃ a N c, e = .returned (.slice a N c) ∧ Hid (Calls Tryz.prog 28 #[.pointer (some ⟨xg, 0, none⟩)] u1 fun e u2 => ∃ a2 c2, e = .returned (.slice a2 N c2) ∧
      Hid (Calls Tryz.prog 26 #[.slice a N c, .slice a2 N c2] u2 fun e u3 => e = .returned (.bool true) ∧ Hid (Calls Tryz.prog 31 #[.pointer (some ⟨g, 0, none⟩)] u3 fun e u4 => e = .returned (Hv L.h.fn) ∧
      Hid (Calls Tryz.prog 32 #[.pointer (some ⟨xg, 0, none⟩)] u4 fun e u5 => e = .returned (Hv L.h.fn) ∧ Hid (Below u.heap.size u u5))))) := by
  refine (pending_any g dg Sl P G L m u h1).mono ?_
  rintro e u1 ⟨v1, V1, rfl, X⟩
  obtain ⟨g1, g2, g3, b1⟩ := unhide X
  obtain ⟨a, c, rfl, c1, c2⟩ := g1.shape
  refine ⟨a, V1.length, c, rfl, (rpending_any xg rg S P G L V pv u1 (h2.below b1)).mono ?_⟩
  rintro e u2 ⟨v2, M, rfl, Y⟩
  obtain ⟨k1, k2, k3, k4, b2⟩ := unhide Y
  obtain ⟨a2, cc, rfl, d1, d2⟩ := k1.shape
  have hl : V1.length = M.length := by rw [← wl_len, g2, ← k2, wl_len]
  have hnp : V1.length ≤ 4096 := by
    rw [← wl_len, g2, pendW_len]
    exact Nat.le_trans (pendL_len G L.Q) h1.pg.ok.n2
  rw [← hl] at k1 d1
  refine ⟨a2, cc, by rw [hl], (sameW_yes a a2 V1.length c cc V1 M u2 ((g1.below b2).has).1 (k1.has).1 ⟨c1, by unfold maxLen at c2; omega⟩ ⟨d1, by unfold maxLen at d2; omega⟩ (by omega) (fun j hj => ?_)).mono ?_⟩
  · obtain ⟨x1, x2⟩ := wl_at (g2.trans k2.symm) hj
    have y1 := g3 _ (wat_mem hj)
    have y2 := k3 j (by omega)
    exact ⟨by omega, x2, by rw [y1.1, y2.1]⟩
  · rintro e u3 ⟨rfl, q, rfl⟩
    have b3 : Below u2.heap.size u2 (u2.drewN q) := below_drewN (Below.refl _ _) q
    have b23 := b2.trans (b3.mono b2.size)
    have b13 := b1.trans (b23.mono b1.size)
    refine ⟨rfl, (header_any g dg Sl P G L m (u2.drewN q) (lgm_below h1 b13)).mono ?_⟩
    rintro e u4 ⟨rfl, b4⟩
    have b14 := b13.trans (b4.mono b13.size)
    refine ⟨rfl, (rhead_any xg rg S P G L V pv u4 (h2.below b14)).mono ?_⟩
    rintro e u5 ⟨rfl, b5⟩
    exact ⟨rfl, b14.trans (b5.mono b14.size)⟩

end Go.Proofs.YtadnlljknocbbaaGreatDoor

/- Both devices made; plans that are sound. -/
namespace Go.Proofs.YtadnlljknocbbaaGreatDoor
open Go.RowKit Go.Shelf Go.Maps
set_option linter.unusedVariables false
set_option maxRecDepth 100000

theorem pg_of {P : Nat → Int} (h : checkE P = 0) : ∃ G, PG P G := by
  have s := sound h
  have b := s.bd
  have h1 := s.blocks
  have h3 := s.log
  have h4 := s.data
  have h11 := s.p11
  have h5 := s.p5
  obtain ⟨k, hk⟩ : ∃ k : Nat, P 0 = k := ⟨(P 0).toNat, by omega⟩
  obtain ⟨n, hn⟩ : ∃ n : Nat, P 1 = n := ⟨(P 1).toNat, by omega⟩
  obtain ⟨l, hl⟩ : ∃ l : Nat, P 3 = l := ⟨(P 3).toNat, by omega⟩
  refine ⟨⟨k, n, l⟩, h, hk, hn, hl, s.p4, ?_, ⟨?_, ?_, ?_, ?_, ?_⟩⟩
  · show P 5 = ((2 + l : Nat) : Int)
    omega
  · rw [← hk]; exact s.size
  · show 4 ≤ l; omega
  · show l ≤ 512; omega
  · show l + 3 ≤ n; omega
  · show n ≤ 4096; omega

theorem newE_sound {P : Nat → Int} (h : checkE P = 0) : newE (P 0) (P 1) = 0 := by
  have s := sound h
  have h1 := s.blocks
  have h2 := s.bytes
  have hb : ¬ badArg (P 0) (P 1) 2 4 := by
    intro x
    have hz := s.size
    unfold badArg at x
    unfold isSize at x hz
    omega
  unfold newE
  rw [if_neg (fun x => hb (badB_iff.1 x)), if_neg (by omega)]

/-- New on both. -/
theorem j_new (W0 : World) (b n : Int) (h : newE b n = 0) :
    Calls Tryz.prog 36 #[.int .i64 b, .int .i64 n] W0 fun e u => ∃ dg, e = .returned (.tuple #[.pointer (some ⟨dg, 0, none⟩), .int .i64 0]) ∧ Hid (Below W0.heap.size W0 u) ∧ Hid (Calls Tryz.prog 12 #[.int .i64 b, .int .i64 n] u fun e u2 => ∃ rg, e = .returned (.tuple #[.pointer (some ⟨rg, 0, none⟩), .int .i64 0]) ∧ Hid (M2 W0 u2 dg rg (Dev.new b.toNat n.toNat) (Dev.new b.toNat n.toNat))) := by
  obtain ⟨_, _, hs, h1, h2, h3⟩ := newE_ok h
  have hb := size_bd hs
  obtain ⟨k, rfl⟩ : ∃ k : Nat, b = k := ⟨b.toNat, by omega⟩
  obtain ⟨m, rfl⟩ : ∃ m : Nat, n = m := ⟨n.toNat, by omega⟩
  refine (new_ok k m W0 h).mono ?_
  rintro e u ⟨dg, S, rfl, hD, hS, b1⟩
  refine ⟨dg, rfl, b1, (rnew_ok k m u h).mono ?_⟩
  rintro e u2 ⟨rg, T, rfl, hR, hT, b2⟩
  refine ⟨rg, rfl, S, T, hD.below b2, hR, fun q hq ht => ?_, hS, fun q hq => ?_, b1.trans (b2.mono b1.size)⟩
  · have := hD.lt hq
    have := hT q ht
    omega
  · have := hT q hq
    have := b1.size
    omega

end Go.Proofs.YtadnlljknocbbaaGreatDoor

