/- CachePins: which blocks are held and pinned. -/
import Derived.Test.YtpkhllpghjldhaaKMath
import Derived.Test.YtpkhllpghjldhaaKFull
namespace Go.Proofs.Ytpkhllpghjldhaa
open Go.RowKit Go.Shelf
set_option linter.unusedVariables false

/-- The blocks below j are held and pinned once, no other one is pinned. -/
structure PI (C : Cac) (D : Dev) (cap j : Nat) : Prop where
  al : D.ali
  nn : D.n = 8
  bk : D.blk = 64
  cp : C.cap = cap
  cl : C.cln D
  mx : cnt (C.wants fHeld) 8 ≤ cap
  pin : ∀ b l, b < 8 → C.L b = some l → l.p = if b < j then 1 else 0
  hld : ∀ b, b < j → ∃ l, C.L b = some l
  v0 : C.val D 0 = fl 9
  j1 : 1 ≤ j
  j2 : j ≤ cap
  c6 : cap ≤ 6

theorem wants_held {C : Cac} {b : Nat} : C.wants fHeld b = true ↔ ∃ l, C.L b = some l := by
  unfold Cac.wants
  cases C.L b <;> simp [fHeld]

theorem wants_loose {C : Cac} {b : Nat} : C.wants fLoose b = true ↔ ∃ l, C.L b = some l ∧ l.p = 0 := by
  unfold Cac.wants
  cases C.L b <;> simp [fLoose]

theorem PI.loose {C : Cac} {D : Dev} {cap j : Nat} (h : PI C D cap j) (hj : j < cap) : cnt (C.wants fHeld) D.n < C.cap ∨ C.those D.n fLoose ≠ [] := by
  rw [h.nn, h.cp]
  by_cases hc : cnt (C.wants fHeld) 8 < cap
  · exact .inl hc
  · refine .inr (fun e => ?_)
    have h0 := (those_nil_iff C 8 fLoose).1 e
    have h1 := cnt_part (C.wants fHeld) (fun b => decide (b < j)) 8
    have h2 : cnt (fun b => C.wants fHeld b && decide (b < j)) 8 ≤ cnt (fun b => decide (b < j)) 8 := cnt_mono (fun b _ hb => by simp at hb; simpa using hb.2)
    rw [cnt_lt] at h2
    have h3 : cnt (fun b => C.wants fHeld b && !decide (b < j)) 8 ≤ cnt (C.wants fLoose) 8 := cnt_mono (fun b hb hw => by
      simp at hw
      obtain ⟨l, hl⟩ := wants_held.1 hw.1
      exact wants_loose.2 ⟨l, hl, by rw [h.pin b l hb hl, if_neg (by omega)]⟩)
    omega

theorem PI.get {C : Cac} {D : Dev} {cap j : Nat} (h : PI C D cap j) (hj : j < cap) {b : Nat} (hb : b < 8) : C.gtE D b = 0 ∧ PI (C.gtC D b) (C.gtD D b) cap j ∧ (∃ l, (C.gtC D b).L b = some l) ∧ C.gtZ D b = C.val D b := by
  obtain ⟨g1, g2, ⟨g3, g3'⟩, g4, g5, g6, g7, g8, g9, g10⟩ := gt_facts C h.al h.cl (b := b) (by rw [h.nn]; exact hb) (by rw [h.nn, h.cp]; exact h.mx) (.inr (h.loose hj))
  rw [h.nn] at g10
  refine ⟨g1, ⟨g2, by rw [g3]; exact h.nn, by rw [g3']; exact h.bk, g4.trans h.cp, g5, by rw [h.cp] at g10; exact g10, fun b2 l hb2 hl => ?_, fun b2 hb2 => ?_, ?_, h.j1, h.j2, h.c6⟩, g9, g6⟩
  · cases hlb : C.L b with
    | some l0 =>
      have e : C.gtC D b = C := by unfold Cac.gtC; rw [hlb]
      rw [e] at hl
      exact h.pin b2 l hb2 hl
    | none =>
      rcases g8 b2 with x | x | x
      · rw [x] at hl; exact h.pin b2 l hb2 hl
      · rw [x.1] at hl; cases hl
      · obtain ⟨rfl, l3, x3, x4⟩ := x
        rw [hl] at x3
        cases x3
        rw [x4.1, if_neg]
        intro hlt
        obtain ⟨l5, h5⟩ := h.hld b2 hlt
        rw [h5] at hlb
        cases hlb
  · obtain ⟨l0, hl0⟩ := h.hld b2 hb2
    rcases g8 b2 with x | x | x
    · exact ⟨l0, by rw [x]; exact hl0⟩
    · obtain ⟨_, l3, x3, x4⟩ := x
      have hb8 : b2 < 8 := by have := h.j2; have := h.c6; omega
      have := h.pin b2 l3 hb8 x3
      rw [x4, if_pos hb2] at this
      omega
    · obtain ⟨rfl, l3, x3, _⟩ := x
      exact ⟨l3, x3⟩
  · rw [g7 0 (by rw [h.nn]; omega)]
    exact h.v0

theorem PI.pins {C : Cac} {D : Dev} {cap j : Nat} (h : PI C D cap j) (hj : j < cap) {l : Ln} (hl : C.L j = some l) : PI (C.set j ⟨l.z, l.d, wrap64 (l.p + 1)⟩) D cap (j + 1) := by
  have hj8 : j < 8 := by have := h.c6; omega
  have hp : l.p = 0 := by rw [h.pin j l hj8 hl, if_neg (by omega)]
  have hL : ∀ b, (C.set j ⟨l.z, l.d, wrap64 (l.p + 1)⟩).L b = if b = j then some ⟨l.z, l.d, wrap64 (l.p + 1)⟩ else C.L b := fun b => rfl
  refine ⟨h.al, h.nn, h.bk, h.cp, fun b l2 hb hl2 hd => ?_, ?_, fun b l2 hb hl2 => ?_, fun b hb => ?_, ?_, by omega, by omega, h.c6⟩
  · rw [hL] at hl2
    by_cases e : b = j
    · rw [if_pos e] at hl2
      cases hl2
      rw [e]
      exact h.cl j l (by rw [h.nn]; exact hj8) hl hd
    · rw [if_neg e] at hl2
      exact h.cl b l2 hb hl2 hd
  · refine Nat.le_trans (Nat.le_of_eq (cnt_congr (fun b _ => ?_))) h.mx
    unfold Cac.wants
    rw [hL]
    by_cases e : b = j
    · rw [if_pos e, e, hl]; rfl
    · rw [if_neg e]
  · rw [hL] at hl2
    by_cases e : b = j
    · rw [if_pos e] at hl2
      cases hl2
      rw [if_pos (by omega), hp]
      show wrap64 (0 + 1) = 1
      unfold wrap64
      omega
    · rw [if_neg e] at hl2
      rw [h.pin b l2 hb hl2]
      by_cases e2 : b < j
      · rw [if_pos e2, if_pos (by omega)]
      · rw [if_neg e2, if_neg (by omega)]
  · rw [hL]
    by_cases e : b = j
    · exact ⟨_, if_pos e⟩
    · rw [if_neg e]
      exact h.hld b (by omega)
  · rw [← h.v0]
    unfold Cac.val
    rw [hL]
    by_cases e : (0 : Nat) = j
    · rw [if_pos e, e, hl]
    · rw [if_neg e]

theorem PI.next {C : Cac} {D : Dev} {cap j : Nat} (h : PI C D cap j) : PI C.next D cap j := ⟨h.al, h.nn, h.bk, h.cp, h.cl, h.mx, h.pin, h.hld, h.v0, h.j1, h.j2, h.c6⟩

theorem PI.full {C : Cac} {D : Dev} {cap : Nat} (h : PI C D cap cap) {b : Nat} (hb : b = 6 ∨ b = 7) : C.L b = none ∧ C.rmE D = 8 ∧ C.rmC D = C.next ∧ C.rmD D = D := by
  have h1 := cnt_part (C.wants fHeld) (fun b => decide (b < cap)) 8
  have h2 : cnt (fun b => decide (b < cap)) 8 ≤ cnt (fun b => C.wants fHeld b && decide (b < cap)) 8 := cnt_mono (fun b _ hb => by
    simp at hb
    simp [wants_held.2 (h.hld b hb), hb])
  rw [cnt_lt] at h2
  have c6 := h.c6
  have mx := h.mx
  have h3 := cnt_zero (p := fun b => C.wants fHeld b && !decide (b < cap)) (n := 8) (by omega)
  have hc : ¬ (C.those D.n fHeld).length < C.cap := by rw [those_cnt, h.nn, h.cp]; omega
  have h0 : C.those D.n fLoose = [] := by
    rw [h.nn, those_nil_iff]
    have : ∀ b, b < 8 → C.wants fLoose b = false := by
      intro b hb
      cases e : C.wants fLoose b with
      | false => rfl
      | true =>
        obtain ⟨l, hl, hp⟩ := wants_loose.1 e
        have hp2 := h.pin b l hb hl
        have hw := h3 b hb
        simp only [wants_held.2 ⟨l, hl⟩, Bool.true_and, Bool.not_eq_false'] at hw
        rw [if_pos (by simpa using hw)] at hp2
        omega
    have hz : cnt (C.wants fLoose) 8 ≤ cnt (fun _ => false) 8 := cnt_mono (fun b hb hw => by rw [this b hb] at hw; cases hw)
    have : cnt (fun _ => false) 8 = 0 := by decide
    omega
  refine ⟨?_, ?_, ?_, ?_⟩
  · cases e : C.L b with
    | none => rfl
    | some l =>
      have := h3 b (by omega)
      simp only [wants_held.2 ⟨l, e⟩, Bool.true_and, Bool.not_eq_false'] at this
      have : b < cap := by simpa using this
      omega
  · unfold Cac.rmE; rw [if_neg hc, if_pos h0]
  · unfold Cac.rmC; rw [if_neg hc, if_pos h0]
  · unfold Cac.rmD; rw [if_neg hc, if_pos h0]

theorem PI.list {C : Cac} {D : Dev} {cap j : Nat} (h : PI C D cap j) : ∃ r, C.list D.n fHeld = 0 :: r := by
  rw [h.nn]
  unfold Cac.list
  rw [Cac.those_eq]
  have h0 : C.wants fHeld 0 = true := wants_held.2 (h.hld 0 h.j1)
  have : List.range 8 = 0 :: [1, 2, 3, 4, 5, 6, 7] := by decide
  rw [this, List.filter_cons_of_pos h0]
  exact ⟨_, rfl⟩

/-- The state of the law. -/
def PD (B : Nat) (w : World) (g dg cap j : Nat) (u : World) : Prop := ∃ C D, PI C D cap j ∧ KD B w g dg C D u

theorem PD.bel {B : Nat} {w : World} {g dg cap j : Nat} {u : World} (h : PD B w g dg cap j u) : Below B w u := by obtain ⟨C, D, _, h⟩ := h; exact h.bel

theorem l_pin {B : Nat} {w : World} {g dg : Nat} {C : Cac} {D : Dev} {u : World} (h : KD B w g dg C D u) {b : Nat} (hb : b < D.n) {l : Ln} (hl : C.L b = some l) :
    Calls Try.prog 21 #[.pointer (some ⟨g, 0, none⟩), .int .i64 b] u fun e u1 => e = .returned (.int .i64 0) ∧ Hid (KD B w g dg (C.set b ⟨l.z, l.d, wrap64 (l.p + 1)⟩) D u1) := by
  obtain ⟨S, h⟩ := h
  refine (pin_held g dg b l S C D u h.kv hb hl).mono ?_
  rintro e u1 ⟨rfl, k1, x1⟩
  exact ⟨rfl, S, h.nx k1 x1⟩

theorem l_unpin {B : Nat} {w : World} {g dg : Nat} {C : Cac} {D : Dev} {u : World} (h : KD B w g dg C D u) {b : Nat} (hb : b < D.n) {l : Ln} (hl : C.L b = some l) (hp : l.p ≠ 0) :
    Calls Try.prog 23 #[.pointer (some ⟨g, 0, none⟩), .int .i64 b] u fun e u1 => e = .returned (.int .i64 0) ∧ Hid (KD B w g dg (C.set b ⟨l.z, l.d, wrap64 (l.p - 1)⟩) D u1) := by
  obtain ⟨S, h⟩ := h
  refine (unpin_held g dg b l S C D u h.kv hb hl hp).mono ?_
  rintro e u1 ⟨rfl, k1, x1⟩
  exact ⟨rfl, S, h.nx k1 x1⟩

theorem l_drop {B : Nat} {w : World} {g dg : Nat} {C : Cac} {D : Dev} {u : World} (h : KD B w g dg C D u) {b : Nat} (hb : b < D.n) {l : Ln} (hl : C.L b = some l) (hp : ¬ 0 < l.p) :
    Calls Try.prog 22 #[.pointer (some ⟨g, 0, none⟩), .int .i64 b] u fun e u1 => e = .returned (.int .i64 0) ∧ Hid (KD B w g dg (C.del b) D u1) := by
  obtain ⟨S, h⟩ := h
  refine (drop_held g dg b l S C D u h.kv hb hl hp).mono ?_
  rintro e u1 ⟨rfl, S1, k1, x1⟩
  exact ⟨rfl, S1, h.nx k1 x1⟩

/-- Get, then Held. -/
theorem p_get {B : Nat} {w : World} {g dg cap j : Nat} {u : World} (h : PD B w g dg cap j u) (hj : j < cap) (b : Nat) (hb : b < 8) :
    Calls Try.prog 13 #[.pointer (some ⟨g, 0, none⟩), .int .i64 b] u fun e u1 => ∃ a c, e = .returned (.tuple #[.slice a 64 c, .int .i64 0]) ∧ Hid ((b = 0 → Has u1 a 64 (fl 9)) ∧ PD B w g dg cap j u1) := by
  obtain ⟨C, D, hi, hk⟩ := h
  obtain ⟨p1, p2, _, p4⟩ := hi.get hj hb
  refine (l_get hk hi.bk (by rw [hi.nn]; exact hb) p1).mono ?_
  rintro e u1 ⟨a, c, rfl, x1, x2⟩
  exact ⟨a, c, rfl, fun e0 => by subst e0; rw [← hi.v0, ← p4]; exact x1, _, _, p2, x2⟩

theorem p_held {B : Nat} {w : World} {g dg cap j : Nat} {u : World} (h : PD B w g dg cap j u) :
    Calls Try.prog 15 #[.pointer (some ⟨g, 0, none⟩)] u fun e u1 => ∃ k off l c, e = .returned (.slice (some ⟨k, off, none⟩) (l + 1) c) ∧ l ≤ 4096 ∧ u1.cell? ⟨k, off, none⟩ = some (.int .i64 0) ∧ Hid (PD B w g dg cap j u1) := by
  obtain ⟨C, D, hi, hk⟩ := h
  obtain ⟨r, hr⟩ := hi.list
  have hln := C.those_len D.n fHeld
  have hnn := hi.nn
  refine (l_held hk).mono ?_
  rintro e u1 ⟨a, c, rfl, x1, x2⟩
  have hl : (C.those D.n fHeld).length = r.length + 1 := by
    have := congrArg List.length hr
    simpa [Cac.list] using this
  rw [hl, hr] at x1
  obtain ⟨k, off, rfl, hc⟩ := x1.2 (by omega)
  refine ⟨k, off, r.length, c, by rw [hl], by omega, ?_, C, D, hi, x2⟩
  exact (hc 0 (by omega)).trans (by simp)

/-- Get of the next block, then Pin. -/
theorem p_pin {B : Nat} {w : World} {g dg cap j : Nat} {u : World} (h : PD B w g dg cap j u) (hj : j < cap) :
    Calls Try.prog 13 #[.pointer (some ⟨g, 0, none⟩), .int .i64 j] u fun e u1 => ∃ a c, e = .returned (.tuple #[.slice a 64 c, .int .i64 0]) ∧
      Hid (Calls Try.prog 21 #[.pointer (some ⟨g, 0, none⟩), .int .i64 j] u1 fun e u2 => e = .returned (.int .i64 0) ∧ Hid (PD B w g dg cap (j + 1) u2)) := by
  obtain ⟨C, D, hi, hk⟩ := h
  have hj8 : j < 8 := by have := hi.c6; omega
  obtain ⟨p1, p2, ⟨l, p3⟩, p4⟩ := hi.get hj hj8
  refine (l_get hk hi.bk (by rw [hi.nn]; exact hj8) p1).mono ?_
  rintro e u1 ⟨a, c, rfl, x1, x2⟩
  refine ⟨a, c, rfl, (l_pin x2 (by rw [p2.nn]; exact hj8) p3).mono ?_⟩
  rintro e u2 ⟨rfl, x3⟩
  exact ⟨rfl, _, _, p2.pins hj p3, x3⟩

/-- Drop of the pinned block. -/
theorem p_busy {B : Nat} {w : World} {g dg cap j : Nat} {u : World} (h : PD B w g dg cap j u) :
    Calls Try.prog 22 #[.pointer (some ⟨g, 0, none⟩), .int .i64 0] u fun e u1 => e = .returned (.int .i64 17) ∧ u = u1 := by
  obtain ⟨C, D, hi, S, hk⟩ := h
  obtain ⟨l, hl⟩ := hi.hld 0 hi.j1
  have hp := hi.pin 0 l (by omega) hl
  rw [if_pos (show 0 < j from hi.j1)] at hp
  exact drop_busy g dg 0 l S C D u hk.kv (by rw [hi.nn]; omega) hl (by omega)

/-- Behind all pins. -/
theorem p_end {B : Nat} {w : World} {g dg cap : Nat} {u : World} (h : PD B w g dg cap cap u) :
    Calls Try.prog 13 #[.pointer (some ⟨g, 0, none⟩), .int .i64 7] u fun e u1 => e = .returned (.tuple #[.slice none 0 0, .int .i64 8]) ∧
      Hid (Calls Try.prog 11 #[.int .u8 1] u1 fun e u2 => ∃ k, e = .returned (.slice (some ⟨k, 0, none⟩) 64 64) ∧
        Hid (Calls Try.prog 10 #[.pointer (some ⟨g, 0, none⟩), .int .i64 6, .slice (some ⟨k, 0, none⟩) 64 64] u2 fun e u3 => e = .returned (.int .i64 8) ∧
          Hid (Calls Try.prog 23 #[.pointer (some ⟨g, 0, none⟩), .int .i64 0] u3 fun e u4 => e = .returned (.int .i64 0) ∧
            Hid (Calls Try.prog 23 #[.pointer (some ⟨g, 0, none⟩), .int .i64 0] u4 fun e u5 => e = .returned (.int .i64 11) ∧ u4 = u5) ∧
            Hid (Calls Try.prog 22 #[.pointer (some ⟨g, 0, none⟩), .int .i64 0] u4 fun e u6 => e = .returned (.int .i64 0) ∧
              Hid (Calls Try.prog 13 #[.pointer (some ⟨g, 0, none⟩), .int .i64 7] u6 fun e u7 => ∃ a c, e = .returned (.tuple #[.slice a 64 c, .int .i64 0]) ∧ Hid (Below B w u7)))))) := by
  obtain ⟨C, D, hi, hk⟩ := h
  obtain ⟨f1, f2, f3, f4⟩ := hi.full (b := 7) (.inr rfl)
  have ge : C.ftE D = 8 := by unfold Cac.ftE; rw [f2, if_pos (by omega)]
  have g1 : C.gtE D 7 = 8 := by unfold Cac.gtE; rw [f1]; exact ge
  have g2 : C.gtC D 7 = C.next := by unfold Cac.gtC; rw [f1]; show C.ftC D 7 = _; unfold Cac.ftC; rw [ge, if_neg (by omega), f3]
  have g3 : C.gtD D 7 = D := by unfold Cac.gtD; rw [f1]; exact f4
  have r1 := l_get_err hk (b := 7) (by rw [hi.nn]; omega) (by rw [g1]; omega)
  rw [g1, g2, g3] at r1
  refine r1.mono ?_
  rintro e u1 ⟨rfl, x1⟩
  refine ⟨rfl, ?_⟩
  have hn := hi.next
  obtain ⟨n1, n2, n3, n4⟩ := hn.full (b := 6) (.inl rfl)
  have p1 : C.next.ptE D 6 = 8 := by unfold Cac.ptE; rw [n1]; exact n2
  have p2 : C.next.ptC D 6 (fl 1) = C.next.next := by unfold Cac.ptC; rw [n1]; show (if C.next.rmE D = 0 then _ else _) = _; rw [n2, if_neg (by omega), n3]
  have p3 : C.next.ptD D 6 = D := by unfold Cac.ptD; rw [n1]; exact n4
  have r2 := l_put x1 hi.bk (b := 6) (by rw [hi.nn]; omega) 1 (by omega) (by omega)
  rw [p1, p2, p3] at r2
  refine r2.mono ?_
  rintro e u2 ⟨k, rfl, y2⟩
  refine ⟨k, rfl, (unhide y2).mono ?_⟩
  rintro e u3 ⟨rfl, x3⟩
  refine ⟨rfl, ?_⟩
  have hm := hn.next
  obtain ⟨l, hl⟩ := hm.hld 0 hm.j1
  have hp := hm.pin 0 l (by omega) hl
  rw [if_pos (show 0 < cap from hm.j1)] at hp
  have n0 : 0 < D.n := by rw [hi.nn]; omega
  refine (l_unpin x3 n0 hl (by omega)).mono ?_
  rintro e u4 ⟨rfl, S4, x4⟩
  have e4 : (C.next.next.set 0 ⟨l.z, l.d, wrap64 (l.p - 1)⟩).L 0 = some ⟨l.z, l.d, wrap64 (l.p - 1)⟩ := rfl
  have e5 : wrap64 (l.p - 1) = 0 := by rw [hp]; unfold wrap64; omega
  refine ⟨rfl, unpin_none g dg 0 _ S4 _ D u4 x4.kv n0 e4 e5, ?_⟩
  refine (l_drop ⟨S4, x4⟩ n0 e4 (by show ¬ 0 < wrap64 (l.p - 1); rw [e5]; omega)).mono ?_
  rintro e u6 ⟨rfl, x6⟩
  refine ⟨rfl, ?_⟩
  generalize hC : (C.next.next.set 0 ⟨l.z, l.d, wrap64 (l.p - 1)⟩).del 0 = C6 at x6
  have hL : ∀ b, C6.L b = if b = 0 then none else C.next.next.L b := by
    intro b
    rw [← hC]
    unfold Cac.del Cac.set
    by_cases e : b = 0 <;> simp [e]
  have hc6 : C6.cap = cap := by rw [← hC]; exact hm.cp
  have hcl : C6.cln D := by
    intro b l2 hb hl2 hd
    rw [hL] at hl2
    by_cases e : b = 0
    · rw [if_pos e] at hl2; cases hl2
    · rw [if_neg e] at hl2
      exact hm.cl b l2 hb hl2 hd
  have hct : cnt (C6.wants fHeld) D.n < C6.cap := by
    rw [hc6, hi.nn]
    have hw : ∀ b, C6.wants fHeld b = if b = 0 then false else C.next.next.wants fHeld b := by
      intro b
      unfold Cac.wants
      rw [hL]
      by_cases e : b = 0 <;> simp [e]
    have hu := cnt_upd (C.next.next.wants fHeld) 0 false 8 (by omega)
    rw [wants_held.2 ⟨l, hl⟩, if_pos rfl, ← cnt_congr (fun j _ => hw j)] at hu
    have := hm.mx
    simp at hu
    omega
  obtain ⟨t1, _⟩ := gt_facts C6 hi.al hcl (b := 7) (by rw [hi.nn]; omega) (Nat.le_of_lt hct) (.inr (.inl hct))
  refine (l_get x6 hi.bk (by rw [hi.nn]; omega) t1).mono ?_
  rintro e u7 ⟨a, c, rfl, _, x7⟩
  exact ⟨a, c, rfl, x7.bel⟩

end Go.Proofs.Ytpkhllpghjldhaa
