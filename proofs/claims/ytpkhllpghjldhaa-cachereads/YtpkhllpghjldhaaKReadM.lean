/- CacheReads: the bytes that were put last. -/
import Derived.Test.YtpkhllpghjldhaaKPinM
namespace Go.Proofs.Ytpkhllpghjldhaa
open Go.RowKit Go.Shelf
set_option linter.unusedVariables false

/-- Nothing is pinned; of each block the bytes are one byte, hv. -/
structure RI (C : Cac) (D : Dev) (cap : Nat) (hv : Nat → Int) : Prop where
  al : D.ali
  nn : D.n = 8
  bk : D.blk = 64
  cp : C.cap = cap
  c1 : 1 ≤ cap ∧ cap ≤ 512
  cl : C.cln D
  mx : cnt (C.wants fHeld) 8 ≤ cap
  pin : ∀ b l, b < 8 → C.L b = some l → l.p = 0
  vl : ∀ b, b < 8 → C.val D b = fl (hv b)
  hb : ∀ b, 0 ≤ hv b ∧ hv b ≤ 255

theorem RI.loose {C : Cac} {D : Dev} {cap : Nat} {hv : Nat → Int} (h : RI C D cap hv) : cnt (C.wants fHeld) D.n < C.cap ∨ C.those D.n fLoose ≠ [] := by
  rw [h.nn, h.cp]
  by_cases hc : cnt (C.wants fHeld) 8 < cap
  · exact .inl hc
  · refine .inr (fun e => ?_)
    have h0 := (those_nil_iff C 8 fLoose).1 e
    have h3 : cnt (C.wants fHeld) 8 ≤ cnt (C.wants fLoose) 8 := cnt_mono (fun b hb hw => by
      obtain ⟨l, hl⟩ := wants_held.1 hw
      exact wants_loose.2 ⟨l, hl, h.pin b l hb hl⟩)
    have := h.c1
    omega

theorem RI.get {C : Cac} {D : Dev} {cap : Nat} {hv : Nat → Int} (h : RI C D cap hv) {b : Nat} (hb : b < 8) : C.gtE D b = 0 ∧ RI (C.gtC D b) (C.gtD D b) cap hv ∧ C.gtZ D b = fl (hv b) ∧ ((∀ j l, j < 8 → C.L j = some l → l.d = false) → ∀ j l, j < 8 → (C.gtC D b).L j = some l → l.d = false) := by
  obtain ⟨g1, g2, ⟨g3, g3'⟩, g4, g5, g6, g7, g8, g9, g10⟩ := gt_facts C h.al h.cl (b := b) (by rw [h.nn]; exact hb) (by rw [h.nn, h.cp]; exact h.mx) (.inr h.loose)
  rw [h.nn] at g10
  refine ⟨g1, ⟨g2, by rw [g3]; exact h.nn, by rw [g3']; exact h.bk, g4.trans h.cp, h.c1, g5, by rw [h.cp] at g10; exact g10, fun b2 l hb2 hl => ?_, fun b2 hb2 => (g7 b2 (by rw [h.nn]; exact hb2)).trans (h.vl b2 hb2), h.hb⟩, g6.trans (h.vl b hb), fun hd j l hj hl => ?_⟩
  · rcases g8 b2 with x | x | x
    · rw [x] at hl; exact h.pin b2 l hb2 hl
    · rw [x.1] at hl; cases hl
    · obtain ⟨rfl, l3, x3, x4, _⟩ := x
      rw [hl] at x3
      cases x3
      exact x4
  · rcases g8 j with x | x | x
    · rw [x] at hl; exact hd j l hj hl
    · rw [x.1] at hl; cases hl
    · obtain ⟨rfl, l3, x3, _, x5⟩ := x
      rw [hl] at x3
      cases x3
      exact x5

theorem RI.put {C : Cac} {D : Dev} {cap : Nat} {hv : Nat → Int} (h : RI C D cap hv) {b : Nat} (hb : b < 8) {x : Int} (hx : 0 ≤ x ∧ x ≤ 255) : C.ptE D b = 0 ∧ RI (C.ptC D b (fl x)) (C.ptD D b) cap (fun j => if j = b then x else hv j) := by
  obtain ⟨t1, t2, ⟨t3, t3'⟩, t4, t5, t6, t7, ⟨l, t8, t9⟩, t10⟩ := pt_facts C h.al h.cl (b := b) (by rw [h.nn]; exact hb) (fl x) (by rw [h.nn, h.cp]; exact h.mx) (.inr h.loose)
  rw [h.nn] at t10
  refine ⟨t1, ⟨t2, by rw [t3]; exact h.nn, by rw [t3']; exact h.bk, t4.trans h.cp, h.c1, t5, by rw [h.cp] at t10; exact t10, fun b2 l2 hb2 hl => ?_, fun b2 hb2 => ?_, fun j => ?_⟩⟩
  · by_cases e : b2 = b
    · subst e
      rw [t8] at hl
      cases hl
      rw [t9]
      cases hl0 : C.L b2 with
      | none => rfl
      | some l0 => exact h.pin b2 l0 hb hl0
    · rcases t7 b2 e with y | y
      · rw [y] at hl; exact h.pin b2 l2 hb2 hl
      · rw [y] at hl; cases hl
  · rw [t6 b2 (by rw [h.nn]; exact hb2)]
    by_cases e : b2 = b
    · simp [e]
    · simp [e, h.vl b2 hb2]
  · by_cases e : j = b
    · simp [e, hx]
    · simp [e, h.hb j]

theorem RI.out {C : Cac} {D : Dev} {cap : Nat} {hv : Nat → Int} (h : RI C D cap hv) {s : List Nat} (hs : ∀ b ∈ s, b < 8) : outE s C D = 0 ∧ RI (outC s C D) (outD s C D) cap hv ∧ (∀ j l, (outC s C D).L j = some l → ∃ l0, C.L j = some l0 ∧ l = if j ∈ s then { l0 with d := false } else l0) := by
  obtain ⟨o1, o2, o3, o4, o5, o6, o7⟩ := out_facts s C D h.al h.cl (fun b hb => by rw [h.nn]; exact hs b hb)
  have hl : ∀ j l, (outC s C D).L j = some l → ∃ l0, C.L j = some l0 ∧ l = if j ∈ s then { l0 with d := false } else l0 := by
    intro j l hl
    rw [o7] at hl
    cases e : C.L j with
    | none => rw [e] at hl; cases hl
    | some l0 =>
      rw [e] at hl
      exact ⟨l0, rfl, by simpa using hl.symm⟩
  refine ⟨o1, ⟨o2, o3.1.trans h.nn, o3.2.trans h.bk, o4.trans h.cp, h.c1, o5, ?_, fun b l hb hb2 => ?_, fun b hb => (o6 b (by rw [h.nn]; exact hb)).trans (h.vl b hb), h.hb⟩, hl⟩
  · refine Nat.le_trans (cnt_mono (fun b _ hw => ?_)) h.mx
    obtain ⟨l, e⟩ := wants_held.1 hw
    obtain ⟨l0, e0, _⟩ := hl b l e
    exact wants_held.2 ⟨l0, e0⟩
  · obtain ⟨l0, e0, rfl⟩ := hl b l hb2
    have := h.pin b l0 hb e0
    split <;> exact this

/-- All written out: nothing is dirty. -/
theorem RI.all {C : Cac} {D : Dev} {cap : Nat} {hv : Nat → Int} (h : RI C D cap hv) : outE (C.those D.n fDirty) C D = 0 ∧ RI (outC (C.those D.n fDirty) C D) (outD (C.those D.n fDirty) C D) cap hv ∧ (∀ j l, j < 8 → (outC (C.those D.n fDirty) C D).L j = some l → l.d = false) := by
  obtain ⟨o1, o2, o3⟩ := h.out (s := C.those D.n fDirty) (fun b hb => by have := (Cac.mem_those.1 hb).1; rw [h.nn] at this; exact this)
  refine ⟨o1, o2, fun j l hj hl => ?_⟩
  obtain ⟨l0, e0, rfl⟩ := o3 j l hl
  by_cases hm : j ∈ C.those D.n fDirty
  · rw [if_pos hm]
  · rw [if_neg hm]
    cases hd : l0.d with
    | false => rfl
    | true =>
      exact absurd (Cac.mem_those.2 ⟨by rw [h.nn]; exact hj, by unfold Cac.wants; rw [e0]; exact hd⟩) hm

/-- Flush and a crash change nothing that is read. -/
theorem ali_flush {D : Dev} (h : D.ali) : D.burn.flush.ali ∧ (∀ j, j < D.n → D.burn.flush.rd j = D.rd j) ∧ (∀ j, j < D.n → D.burn.flush.Y j = []) ∧ D.burn.flush.n = D.n ∧ D.burn.flush.blk = D.blk := by
  obtain ⟨h1, h2⟩ := h
  refine ⟨⟨?_, h2⟩, fun j hj => ?_, fun j hj => ?_, rfl, rfl⟩
  · show (if 0 < D.f then D.f - 1 else D.f) = -1
    rw [if_neg (by omega)]; exact h1
  · have hj' : j < D.burn.n := hj
    unfold Dev.flush Dev.flushTo Dev.rd
    simp [hj']
    rfl
  · have hj' : j < D.burn.n := hj
    unfold Dev.flush Dev.flushTo
    simp [hj']

theorem ali_crash {D : Dev} (hy : ∀ j, j < D.n → D.Y j = []) : (D.crash []).ali ∧ (∀ j, j < D.n → (D.crash []).rd j = D.rd j) ∧ (D.crash []).n = D.n ∧ (D.crash []).blk = D.blk := by
  refine ⟨⟨rfl, rfl⟩, fun j hj => ?_, rfl, rfl⟩
  unfold Dev.crash Dev.live Dev.crashTo Dev.rd
  simp [hj, hy j hj, Dev.pick]

theorem RI.dev {C : Cac} {D D' : Dev} {cap : Nat} {hv : Nat → Int} (h : RI C D cap hv) (ha : D'.ali) (hr : ∀ j, j < D.n → D'.rd j = D.rd j) (hn : D'.n = D.n) (hk : D'.blk = D.blk) : RI C D' cap hv := by
  refine ⟨ha, hn.trans h.nn, hk.trans h.bk, h.cp, h.c1, fun b l hb hl hd => ?_, h.mx, h.pin, fun b hb => ?_, h.hb⟩
  · rw [hn] at hb
    rw [hr b hb]
    exact h.cl b l hb hl hd
  · rw [← h.vl b hb]
    unfold Cac.val
    cases C.L b with
    | none => exact hr b (by rw [h.nn]; exact hb)
    | some l => rfl

/-- What the device has, where nothing is dirty. -/
theorem RI.rd {C : Cac} {D : Dev} {cap : Nat} {hv : Nat → Int} (h : RI C D cap hv) (hd : ∀ j l, j < 8 → C.L j = some l → l.d = false) {b : Nat} (hb : b < 8) : D.rd b = fl (hv b) := by
  rw [← h.vl b hb]
  unfold Cac.val
  cases hl : C.L b with
  | none => rfl
  | some l => exact h.cl b l (by rw [h.nn]; exact hb) hl (hd b l hb hl)

theorem RI.lens {C : Cac} {D : Dev} {cap : Nat} {hv : Nat → Int} (h : RI C D cap hv) : (C.those D.n fHeld).length ≤ cap ∧ (C.those D.n fDirty).length ≤ (C.those D.n fHeld).length := by
  rw [those_cnt, those_cnt, h.nn]
  refine ⟨h.mx, cnt_mono (fun b _ hw => ?_)⟩
  unfold Cac.wants at hw ⊢
  cases hl : C.L b with
  | none => rw [hl] at hw; cases hw
  | some l => rfl

theorem RI.none {C : Cac} {D : Dev} {cap : Nat} {hv : Nat → Int} (h : RI C D cap hv) (hd : ∀ j l, j < 8 → C.L j = some l → l.d = false) : (C.those D.n fDirty).length = 0 := by
  rw [those_cnt, h.nn]
  have hz : cnt (C.wants fDirty) 8 ≤ cnt (fun _ => false) 8 := cnt_mono (fun b hb hw => by
    unfold Cac.wants at hw
    cases hl : C.L b with
    | none => rw [hl] at hw; cases hw
    | some l =>
      rw [hl] at hw
      have := hd b l hb hl
      have hw' : l.d = true := hw
      rw [this] at hw'
      cases hw')
  have : cnt (fun _ => false) 8 = 0 := by decide
  omega

/-- The law's state: the cache, the device, and the law's array at gh. -/
structure RD (B : Nat) (w : World) (g dg cap gh : Nat) (hv : Nat → Int) (nd : Bool) (u : World) (S : Nat → Prop) (C : Cac) (D : Dev) : Prop where
  ri : RI C D cap hv
  kl : KL B w g dg C D u S
  ar : u.rowIs gh 32 8 (fun i => .int .u8 (hv i))
  ns : ¬ S gh
  gB : B ≤ gh
  dd : nd = true → ∀ j l, j < 8 → C.L j = some l → l.d = false

def RS (B : Nat) (w : World) (g dg cap gh : Nat) (hv : Nat → Int) (nd : Bool) (u : World) : Prop := ∃ S C D, RD B w g dg cap gh hv nd u S C D

theorem RS.bel {B : Nat} {w : World} {g dg cap gh : Nat} {hv : Nat → Int} {nd : Bool} {u : World} (h : RS B w g dg cap gh hv nd u) : Below B w u := by obtain ⟨S, C, D, h⟩ := h; exact h.kl.bel

theorem RS.hb {B : Nat} {w : World} {g dg cap gh : Nat} {hv : Nat → Int} {nd : Bool} {u : World} (h : RS B w g dg cap gh hv nd u) (b : Nat) : 0 ≤ hv b ∧ hv b ≤ 255 := by obtain ⟨S, C, D, h⟩ := h; exact h.ri.hb b

theorem RS.cell {B : Nat} {w : World} {g dg cap gh : Nat} {hv : Nat → Int} {nd : Bool} {u : World} (h : RS B w g dg cap gh hv nd u) {b : Nat} (hb : b < 8) : u.cell? ⟨gh, b, none⟩ = some (.int .u8 (hv b)) ∧ u.frozen? ⟨gh, b, none⟩ = false := by
  obtain ⟨S, C, D, h⟩ := h
  exact ⟨h.ar.cell hb, h.ar.frozen b⟩

theorem RD.nx {B : Nat} {w : World} {g dg cap gh : Nat} {hv hv' : Nat → Int} {nd nd' : Bool} {u u' : World} {S S' : Nat → Prop} {C C' : Cac} {D D' : Dev} (h : RD B w g dg cap gh hv nd u S C D) (hi : RI C' D' cap hv') (hk : Kv u' S' g dg C' D') (hx : Nx S u S' u') (hd : nd' = true → ∀ j l, j < 8 → C'.L j = some l → l.d = false) (hr : u'.rowIs gh 32 8 (fun i => .int .u8 (hv' i))) : RD B w g dg cap gh hv' nd' u' S' C' D' :=
  ⟨hi, h.kl.nx hk hx, hr, (hx.keep h.ar.lt h.ns).2.1, h.gB, hd⟩

theorem RD.row {B : Nat} {w : World} {g dg cap gh : Nat} {hv : Nat → Int} {nd : Bool} {u u' : World} {S S' : Nat → Prop} {C : Cac} {D : Dev} (h : RD B w g dg cap gh hv nd u S C D) (hx : Nx S u S' u') : u'.rowIs gh 32 8 (fun i => .int .u8 (hv i)) := h.ar.of_block (hx.keep h.ar.lt h.ns).1

theorem RD.later {B : Nat} {w : World} {g dg cap gh : Nat} {hv : Nat → Int} {nd : Bool} {u u' : World} {S : Nat → Prop} {C : Cac} {D : Dev} (h : RD B w g dg cap gh hv nd u S C D) (hb : Below u.heap.size u u') : RD B w g dg cap gh hv nd u' S C D :=
  ⟨h.ri, h.kl.later hb, h.ar.of_block (hb.block _ h.ar.lt), h.ns, h.gB, h.dd⟩

/-- have[b] = x, behind Put. -/
theorem RS.set {B : Nat} {w : World} {g dg cap gh : Nat} {hv : Nat → Int} {u : World} {b : Nat} {x : Int} {S : Nat → Prop} {C : Cac} {D : Dev} (hi : RI C D cap (fun j => if j = b then x else hv j)) (hk : KL B w g dg C D u S) (hr : u.rowIs gh 32 8 (fun i => .int .u8 (hv i))) (hn : ¬ S gh) (hg : B ≤ gh) : RS B w g dg cap gh (fun j => if j = b then x else hv j) false (u.setCell ⟨gh, b, none⟩ (.int .u8 x)) := by
  refine ⟨S, C, D, hi, ⟨hk.kv.kept (fun k hk' => Below.heap_setCell _ _ _ _ (fun e => hn (by have e' : k = gh := e; rw [← e']; exact hk'))) (by simp [World.setCell]), hk.low, by simpa [World.setCell] using hk.siz, hk.bel.setCell (p := ⟨gh, b, none⟩) hg _⟩, (hr.set b _).congr (fun i _ => ?_), hn, hg, fun h => by cases h⟩
  by_cases e : i = b <;> simp [e]

end Go.Proofs.Ytpkhllpghjldhaa
