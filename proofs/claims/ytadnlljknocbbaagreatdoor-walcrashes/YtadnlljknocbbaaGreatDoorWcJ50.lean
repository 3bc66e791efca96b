/- Joined: WSound, WTg. -/
import Derived.Test.YtadnlljknocbbaaGreatDoorWcJ49
import Derived.Test.YtadnlljknocbbaaGreatDoorWcJ47
import Derived.Test.YtadnlljknocbbaaGreatDoorWcJ48
import Derived.Deep.DeepBigQuietO
import Derived.BigRegion
import Derived.Test.YtadnlljknocbbaaGreatDoorWcJ43
/- The contracts of sound and written. -/
namespace Go.Proofs.YtadnlljknocbbaaGreatDoor
open Go.RowKit Go.Shelf Go.Maps
set_option linter.unusedVariables false
set_option maxRecDepth 100000

/-- A list that may be written. -/
def LOk (V : List Wr) (len : Nat) : Prop := ∀ j, j < len → (wat V j).dl = 64 ∧ 11 ≤ (wat V j).b ∧ (wat V j).b < 60

theorem lok_of {L : Lg} {V : List Wr} (h : lstE sG L.h.seq (wv V) = 0) (hs : L.h.seq ≤ 4294967295) {len : Nat} (hl : V.length = len) : LOk V len := fun j hj => by
  have hA := acc_of (cap := 9223372036854775807) hs h
  unfold lstE at h
  by_cases h1 : (wv V).all (fun x => decide (x.2 = sG.blk)) = true
  · rw [if_pos h1] at h
    by_cases h2 : blkE sG ((wv V).map (·.1)) = 0
    · have hm := wat_mem (V := V) (j := j) (by omega)
      have e1 := List.all_eq_true.1 h1 ((wat V j).b, (wat V j).dl) (List.mem_map.2 ⟨_, hm, rfl⟩)
      simp only [decide_eq_true_eq] at e1
      have e2 := (blkE_ok h2).1 (wat V j).b (List.mem_map.2 ⟨((wat V j).b, (wat V j).dl), List.mem_map.2 ⟨_, hm, rfl⟩, rfl⟩)
      have i1 : (sG.ib : Int) = 11 := rfl
      have i2 : (sG.n : Int) = 60 := rfl
      exact ⟨e1, by omega, by omega⟩
    · rw [if_neg h2] at h; exact absurd h h2
  · rw [if_neg h1] at h; omega

set_option maxHeartbeats 2000000 in
theorem sound_yes (a : Option Addr) (len cap : Nat) (V : List Wr) (w : World) (hV : WHas w a len V) (hl : len ≤ 4398046511104) (hok : LOk V len) :
    Calls Tryz.prog 39 #[Pv sP, .slice a len cap] w fun e w' => e = .returned (.bool true) ∧ Below w.heap.size w w' := by
  have hmix : Tryz.prog.follows Departure.mixedOrders = true := by kernel_rfl
  have HK := Kp.start w sP
  have K5 : Hid (∀ u, Kp w sP u → u.cell? ⟨w.heap.size, 0, none⟩ = some (.int .i64 64) ∧ u.cell? ⟨w.heap.size, 1, none⟩ = some (.int .i64 60) ∧ u.cell? ⟨w.heap.size, 5, none⟩ = some (.int .i64 11)) := fun u h => ⟨h.1.cell 0 (by omega), h.1.cell 1 (by omega), h.1.cell 5 (by omega)⟩
  have KF : Hid (∀ u k, Kp w sP u → k < len → ∃ kb off b da dc, a = some ⟨kb, off, none⟩ ∧ u.cell? ⟨kb, off + k * 2, none⟩ = some (.int .i64 b) ∧ u.cell? ⟨kb, off + k * 2 + 1, none⟩ = some (.slice da 64 dc) ∧ 11 ≤ b ∧ b < 60) := fun u k h hk => by
    obtain ⟨kb, off, e, hkb, hc⟩ := hV.cel (by omega)
    obtain ⟨o1, o2, o3⟩ := hok k hk
    have c2 := (h.2.cell (p := ⟨kb, off + k * 2 + 1, none⟩) hkb).trans (hc k hk).2
    rw [o1] at c2
    exact ⟨kb, off, _, _, _, e, (h.2.cell (p := ⟨kb, off + k * 2, none⟩) hkb).trans (hc k hk).1, c2, o2, o3⟩
  have H0 : Hid (Kp w sP (w.alloc (.cells (Pc sP) 25))) := HK
  have KB : Hid (∀ u, Kp w sP u → Below w.heap.size w u) := fun u h => h.2
  have KD : Hid (∀ u q, Kp w sP u → Kp w sP (u.drewN q)) := fun u q h => h.drewN q
  clear hV hok HK
  generalize sP = p at *
  go_enter Tryz.func39, Tryz.ntmps39
  go_upto_region 2 with fail
  change Code.wp _ _ _ _ (w.alloc (.cells (Pc p) 25))
  generalize w.alloc (.cells (Pc p) 25) = w0 at *
  go_loopw [5] (fun i wr => ∃ k : Nat, k ≤ len ∧ i = .int .i64 (k : Int) ∧ Hid (Kp w p wr)) (fun i _ => len - (intOf i).toNat)
  case atStart => exact ⟨0, Nat.zero_le _, rfl, H0⟩
  case round =>
    obtain ⟨k, hk, rfl, hJ⟩ := hrel
    clear H0
    by_cases hlt : k < len
    · obtain ⟨kb, off, b, da, dc, rfl, c1, c2, b1, b2⟩ := unhide KF _ _ (unhide hJ) hlt
      obtain ⟨p0, p1, p5⟩ := unhide K5 _ (unhide hJ)
      have JD : Hid (∀ q, Kp w p (wr.drewN q)) := fun q => unhide KD _ q (unhide hJ)
      have d1 : decide (b < 11) = false := decide_eq_false (by omega)
      have d2 : decide (60 ≤ b) = false := decide_eq_false (by omega)
      have hlt' : (k : Int) < (len : Int) := by omega
      have h0' : (0 : Int) ≤ (k : Int) := by omega
      have HL := hide hl
      clear KF K5 KB KD hJ b1 b2
      generalize w.heap.size = pb at *
      go_upto_region 4 with fail
      clear hl hlt hk
      go_big_quiet_o (fail)
      have hl := unhide HL
      have hlt : k < len := by omega
      go_wp2_with fail
      go_roundw
      case rel => exact ⟨k + 1, by omega, by go_num, unhide JD _⟩
      case measure => simp [intOf]; omega
    · obtain rfl : k = len := by omega
      have B := hide (unhide KB _ (unhide hJ))
      clear KF K5 KB KD hJ
      go_wp2_with fail
      go_ret
      exact ⟨rfl, unhide B⟩

end Go.Proofs.YtadnlljknocbbaaGreatDoor

/- A law's log and its device, and rows of the law that stay as they are. -/
namespace Go.Proofs.YtadnlljknocbbaaGreatDoor
open Go.RowKit Go.Shelf Go.Maps
set_option linter.unusedVariables false
set_option maxRecDepth 100000

/-- The log and the device; what was made between two worlds of us stays. -/
structure TG (w : World) (g dg : Nat) (L : Lg) (D : Dev) (us : List (Nat × World)) (u : World) (S : Nat → Prop) : Prop where
  wl : WL w.heap.size w g dg L D u S
  kp : ∀ p ∈ us, p.2.heap.size ≤ u.heap.size ∧ ∀ k, p.1 ≤ k → k < p.2.heap.size → ¬ S k ∧ u.heap[k]? = p.2.heap[k]?

theorem TG.bel {w : World} {g dg : Nat} {L : Lg} {D : Dev} {us : List (Nat × World)} {u : World} {S : Nat → Prop} (h : TG w g dg L D us u S) : Below w.heap.size w u := h.wl.bel

theorem TG.lt {w : World} {g dg : Nat} {L : Lg} {D : Dev} {us : List (Nat × World)} {u : World} {S : Nat → Prop} (h : TG w g dg L D us u S) {k : Nat} (hk : S k) : k < u.heap.size := h.wl.lv.lt hk

theorem TG.later {w : World} {g dg : Nat} {L : Lg} {D : Dev} {us : List (Nat × World)} {u u' : World} {S : Nat → Prop} (h : TG w g dg L D us u S) (hb : Below u.heap.size u u') : TG w g dg L D us u' S :=
  ⟨h.wl.later hb, fun p hp => ⟨Nat.le_trans (h.kp p hp).1 hb.size, fun k h1 h2 => ⟨((h.kp p hp).2 k h1 h2).1, (hb.block k (by have := (h.kp p hp).1; omega)).trans ((h.kp p hp).2 k h1 h2).2⟩⟩⟩

theorem TG.nx {w : World} {g g' dg : Nat} {L L' : Lg} {D D' : Dev} {us : List (Nat × World)} {u u' : World} {S S0 S' : Nat → Prop} (h : TG w g dg L D us u S) (h0 : ∀ k, S0 k → S k) (hl : Lv u' S' g' dg sP sG L' D') (hx : Nx S0 u S' u') : TG w g' dg L' D' us u' S' := by
  have hs : w.heap.size ≤ u.heap.size := h.wl.bel.size
  refine ⟨⟨hl, hx.base (fun k hk => h.wl.ge k (h0 k hk)) hs, h.wl.bel.trans (hx.below (fun k hk => h.wl.ge k (h0 k hk)) hs), h.wl.sz⟩, fun p hp => ?_⟩
  obtain ⟨h1, h2⟩ := h.kp p hp
  refine ⟨Nat.le_trans h1 hx.fr.size, fun k a b => ?_⟩
  obtain ⟨h3, h4⟩ := h2 k a b
  obtain ⟨h5, h6, _⟩ := hx.keep (k := k) (by omega) (fun x => h3 (h0 k x))
  exact ⟨h6, h5.trans h4⟩

theorem TG.add {w : World} {g dg : Nat} {L : Lg} {D : Dev} {us : List (Nat × World)} {u u' : World} {S : Nat → Prop} (h : TG w g dg L D us u S) (hb : Below u.heap.size u u') : TG w g dg L D ((u.heap.size, u') :: us) u' S := by
  have h' := h.later hb
  refine ⟨h'.wl, fun p hp => ?_⟩
  rcases List.mem_cons.1 hp with rfl | hp
  · exact ⟨Nat.le_refl _, fun k h1 h2 => ⟨fun hS => by have := h.lt hS; have h1' : u.heap.size ≤ k := h1; omega, rfl⟩⟩
  · exact h'.kp p hp

/-- Fewer rows. -/
theorem TG.sub {w : World} {g dg : Nat} {L : Lg} {D : Dev} {us vs : List (Nat × World)} {u : World} {S : Nat → Prop} (h : TG w g dg L D us u S) (hs : ∀ p ∈ vs, p ∈ us) : TG w g dg L D vs u S := ⟨h.wl, fun p hp => h.kp p (hs p hp)⟩

/-- A list that came in. -/
theorem WArg.out {w : World} {a : Option Addr} {len cap : Nat} {V : List Wr} (h : WArg w a len cap V) {S : Nat → Prop} (hS : ∀ k, S k → w.heap.size ≤ k) : WOut S a len V := by
  refine ⟨fun hp x e hs => ?_, fun j hj hp x e hs => ?_⟩
  · obtain ⟨k, off, e', hk, _⟩ := h.has.cel hp
    rw [e] at e'
    cases e'
    have := hS _ hs
    simp at this
    omega
  · obtain ⟨q, off, e', hq⟩ := h.dlt j hj hp
    rw [e] at e'
    cases e'
    have := hS _ hs
    simp at this
    omega

theorem tg_commit {w : World} {g dg : Nat} {L : Lg} {D : Dev} {us : List (Nat × World)} {u : World} {S : Nat → Prop} (h : TG w g dg L D us u S) {a : Option Addr} {len cap : Nat} {V : List Wr} (hV : WArg w a len cap V) :
    Calls Tryz.prog 15 #[.pointer (some ⟨g, 0, none⟩), .slice a len cap] u fun e u' => e = .returned (.int .i64 (cmtE sG L V D)) ∧ Hid (∃ S', TG w g dg (cmtL sG L V D) (cmtD sG L V D) us u' S') := by
  refine (Commit_any g dg S sP sG L D u h.wl.lv a len cap V (hV.has.later h.bel) (hV.out h.wl.ge) hV.lb hV.cb).mono ?_
  rintro e u' ⟨rfl, S', l1, n1⟩
  exact ⟨rfl, S', h.nx (fun _ x => x) l1 n1⟩

theorem tg_apply {w : World} {g dg : Nat} {L : Lg} {D : Dev} {us : List (Nat × World)} {u : World} {S : Nat → Prop} (h : TG w g dg L D us u S) :
    Calls Tryz.prog 17 #[.pointer (some ⟨g, 0, none⟩)] u fun e u' => e = .returned (.int .i64 (aplyE sG L D)) ∧ Hid (∃ S', TG w g dg (aplyL sG L D) (aplyD sG L D) us u' S') := by
  refine (Apply_any g dg S sP sG L D u h.wl.lv).mono ?_
  rintro e u' ⟨rfl, S', l1, n1⟩
  exact ⟨rfl, S', h.nx (fun _ x => x) l1 n1⟩

theorem tg_pend {w : World} {g dg : Nat} {L : Lg} {D : Dev} {us : List (Nat × World)} {u : World} {S : Nat → Prop} (h : TG w g dg L D us u S) :
    Calls Tryz.prog 27 #[.pointer (some ⟨g, 0, none⟩)] u fun e u' => ∃ a c V, e = .returned (.slice a (pendL sG L.Q).length c) ∧ Hid (Gw u.heap.size u' (.slice a (pendL sG L.Q).length c) V ∧ wl V = pendW sG L.Q ∧ (∀ x ∈ V, x.dl = 64 ∧ 0 ≤ x.b) ∧ Below u.heap.size u u' ∧ TG w g dg L D ((u.heap.size, u') :: us) u' S) := by
  obtain ⟨Sl, Sd, m, x⟩ := h.wl.lv
  refine (pending_any g dg Sl sP sG L m u x.ll).mono ?_
  rintro e u' ⟨v, V, rfl, X⟩
  obtain ⟨g1, g2, g3, g4⟩ := unhide X
  have hl : V.length = (pendL sG L.Q).length := by rw [← wl_len, g2, pendW_len]
  obtain ⟨a, c, e1, _⟩ := g1.shape
  rw [hl] at e1
  subst e1
  exact ⟨a, c, V, rfl, g1, g2, g3, g4, h.add g4⟩

theorem tg_head {w : World} {g dg : Nat} {L : Lg} {D : Dev} {us : List (Nat × World)} {u : World} {S : Nat → Prop} (h : TG w g dg L D us u S) :
    Calls Tryz.prog 31 #[.pointer (some ⟨g, 0, none⟩)] u fun e u' => e = .returned (Hv L.h.fn) ∧ Below u.heap.size u u' := by
  obtain ⟨Sl, Sd, m, x⟩ := h.wl.lv
  exact header_any g dg Sl sP sG L m u x.ll

theorem tg_crash {w : World} {g dg : Nat} {L : Lg} {D : Dev} {us : List (Nat × World)} {u : World} {S : Nat → Prop} (h : TG w g dg L D us u S) {a : Option Addr} {len cap : Nat} {ps : List Int} (hc : len ≤ cap ∧ cap ≤ 9223372036854775807) (hlt : 0 < len → ∀ x, a = some x → x.block < w.heap.size) (hpu : IHas u a len ps) :
    Calls Tryz.prog 21 #[.pointer (some ⟨dg, 0, none⟩), .slice a len cap] u fun e u' => e = .returned (.int .i64 0) ∧ Hid (∃ S', TG w g dg L (D.crash ps) us u' S') := by
  obtain ⟨Sl, Sd, m, x⟩ := h.wl.lv
  refine (crash_any dg a len cap ps Sd D u x.dd hpu hc (fun hp y e hS => ?_)).mono ?_
  · have := hlt hp y e
    have := h.wl.ge _ ((x.all _).2 (.inr hS))
    omega
  · rintro e u' ⟨rfl, d1, n1⟩
    obtain ⟨l1, n2⟩ := x.dev d1 n1 ⟨rfl, rfl⟩
    exact ⟨rfl, _, h.nx (fun _ x => x) l1.lv n2⟩

/-- Open: the log that stands there; the elder one is still what it was. -/
theorem tg_open {w : World} {g dg : Nat} {L : Lg} {D : Dev} {us : List (Nat × World)} {u : World} {S : Nat → Prop} (h : TG w g dg L D us u S) (hd : D.dead = false) {L' : Lg} (hp : parse sG D.rd = some L') :
    Calls Tryz.prog 23 #[.pointer (some ⟨dg, 0, none⟩), Pv sP] u fun e u' => ∃ gn, e = .returned (.tuple #[.pointer (some ⟨gn, 0, none⟩), .int .i64 0]) ∧ Hid ((∃ S1, TG w g dg L D us u' S1) ∧ ∃ S2, TG w gn dg L' D us u' S2) := by
  obtain ⟨Sl, Sd, m, x⟩ := h.wl.lv
  refine (open_any sP sG dg Sd D u sPG x.dd x.bd x.nd x.tab (fun h0 => x.z0 ((x.all 0).2 (.inr h0)))).mono ?_
  intro e u' X
  obtain ⟨S3, n3, (⟨hx, _⟩ | ⟨_, hx, _⟩ | ⟨_, L2, gn, hp2, he, hl⟩)⟩ := unhide X
  · rw [hd] at hx; cases hx
  · rw [hp] at hx; cases hx
  · rw [hp] at hp2
    cases hp2
    have hsd : ∀ k, Sd k → S k := fun k hk => (x.all k).2 (.inr hk)
    refine ⟨gn, he, ?_, S3, h.nx hsd hl n3⟩
    obtain ⟨S2, d2, n2⟩ := hl.dv n3
    obtain ⟨l1, n4⟩ := x.dev d2 n2 ⟨rfl, rfl⟩
    exact ⟨_, h.nx (fun _ x => x) l1.lv n4⟩

theorem tg_image {w : World} {g dg : Nat} {L : Lg} {D : Dev} {us : List (Nat × World)} {u : World} {S : Nat → Prop} (h : TG w g dg L D us u S) (hd : D.dead = false) :
    Calls Tryz.prog 38 #[.pointer (some ⟨dg, 0, none⟩), Pv sP] u fun e u' => ∃ a c, e = .returned (.tuple #[.slice a 3136 c, .bool true]) ∧ Hid (Own u.heap.size u' a 3136 c (imgL sG D.rd 49) ∧ Below u.heap.size u u' ∧ TG w g dg L D ((u.heap.size, u') :: us) u' S) := by
  obtain ⟨Sl, Sd, m, x⟩ := h.wl.lv
  refine (image_any dg Sd sP sG D u sPG x.dd hd x.bd x.nd).mono ?_
  rintro e u' ⟨a, c, rfl, X⟩
  obtain ⟨o1, b1⟩ := unhide X
  exact ⟨a, c, rfl, o1, b1, h.add b1⟩

theorem tg_writes {w : World} {g dg : Nat} {L : Lg} {D : Dev} {us : List (Nat × World)} {u : World} {S : Nat → Prop} (h : TG w g dg L D us u S) :
    Calls Tryz.prog 74 #[.pointer (some ⟨dg, 0, none⟩)] u fun e u' => e = .returned (.int .i64 D.wr) ∧ u = u' := by
  obtain ⟨Sl, Sd, m, x⟩ := h.wl.lv
  obtain ⟨md, hD⟩ := x.dd
  obtain ⟨c0, c1, c2, c3, c4, c5⟩ := hD.cells
  exact writes_dev dg u D.wr c5

theorem tg_read {w : World} {g dg : Nat} {L : Lg} {D : Dev} {us : List (Nat × World)} {u : World} {S : Nat → Prop} (h : TG w g dg L D us u S) (hd : D.dead = false) {i : Nat} (hi : i < 60) :
    Calls Tryz.prog 80 #[.pointer (some ⟨dg, 0, none⟩), .int .i64 (i : Int)] u fun e u' => e = .returned (.tuple #[.slice (some ⟨u.heap.size, 0, none⟩) 64 64, .int .i64 0]) ∧ Block u' u.heap.size (D.rd i) ∧ (D.rd i).length = 64 ∧ Below u.heap.size u u' := by
  obtain ⟨Sl, Sd, m, x⟩ := h.wl.lv
  have hn : D.n = 60 := x.nd
  have hb : D.blk = 64 := x.bd
  have := read_ok dg i Sd D u x.dd hd (by omega)
  rw [hb] at this
  refine this.mono ?_
  rintro e u' ⟨rfl, B, b1⟩
  exact ⟨rfl, B, by rw [← hb]; exact (x.dd.rd_byt (by omega)).1, b1⟩

end Go.Proofs.YtadnlljknocbbaaGreatDoor

