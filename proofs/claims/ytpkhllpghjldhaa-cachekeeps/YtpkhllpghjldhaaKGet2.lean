/- The contract of Get. -/
import Derived.Test.YtpkhllpghjldhaaKGet
namespace Go.Proofs.Ytpkhllpghjldhaa
open Go.RowKit Go.Shelf Go.Maps
set_option linter.unusedVariables false

theorem get_nil (b : Int) (w : World) : Calls Try.prog 13 #[.pointer none, .int .i64 b] w fun e w' => e = .returned (.tuple #[.slice none 0 0, .int .i64 1]) ∧ w = w' := by
  go_enter Try.func13, Try.ntmps13
  go_wp2_with (go_at_call 38; refine (find_nil b w).mono ?_; rintro e w' ⟨rfl, rfl⟩)
  go_ret2
  exact ⟨rfl, rfl⟩

theorem get_range (g dg : Nat) (b : Int) (S : Nat → Prop) (C : Cac) (D : Dev) (w : World) (h : Kv w S g dg C D) (hb : ¬ (0 ≤ b ∧ b < D.n)) :
    Calls Try.prog 13 #[.pointer (some ⟨g, 0, none⟩), .int .i64 b] w fun e w' => e = .returned (.tuple #[.slice none 0 0, .int .i64 2]) ∧ w = w' := by
  obtain ⟨Sc, Sd, m, km⟩ := h.open
  have K := hide (find_range g dg b Sc Sd C D m w km.cc km.dd hb)
  clear h km hb
  go_enter Try.func13, Try.ntmps13
  go_wp2_with (go_at_call 38; refine (unhide K).mono ?_; rintro e w' ⟨rfl, rfl⟩; clear K)
  go_ret2
  exact ⟨rfl, rfl⟩

/-- The bytes of a line, cloned. -/
theorem KvM.clone {w : World} {S Sc Sd : Nat → Prop} {g dg : Nat} {C : Cac} {D : Dev} {m : KMem} (h : KvM w S Sc Sd g dg C D m) {b : Nat} {l : Ln} (hb : b < D.n) (e : C.L b = some l) :
    Calls Try.prog 33 #[.slice (some ⟨(m.A b).1, 0, none⟩) D.blk (m.A b).2] w fun e w' => ∃ a c, e = .returned (.slice a D.blk c) ∧ Hid (Own w.heap.size w' a D.blk c l.z ∧ Below w.heap.size w w' ∧ Kv w' S g dg C D ∧ ∀ k, a = some ⟨k, 0, none⟩ → ¬ S k) := by
  have hb2 := h.dd.ok.b2
  refine (bclone_any ⟨(m.A b).1, 0, none⟩ D.blk (m.A b).2 l.z w (h.cc.row b l hb e).own.has (by omega)).mono ?_
  rintro e w' ⟨a, c, rfl, h1, h2⟩
  refine ⟨a, c, rfl, h1, h2, h.kv.below h2, fun k ek hs => ?_⟩
  have := h.kv.lt hs
  have := (h1.lt ek).2.1
  omega

theorem get_held (g dg b : Nat) (l : Ln) (S : Nat → Prop) (C : Cac) (D : Dev) (w : World) (h : Kv w S g dg C D) (hb : b < D.n) (hl : C.L b = some l) :
    Calls Try.prog 13 #[.pointer (some ⟨g, 0, none⟩), .int .i64 b] w fun e w' => ∃ a c, e = .returned (.tuple #[.slice a D.blk c, .int .i64 0]) ∧ Hid (Own w.heap.size w' a D.blk c l.z ∧ Below w.heap.size w w' ∧ Kv w' S g dg C D ∧ ∀ k, a = some ⟨k, 0, none⟩ → ¬ S k) := by
  obtain ⟨Sc, Sd, m, km⟩ := h.open
  have K := hide (find_held g dg b l Sc Sd C D m w km.cc km.dd hb hl)
  obtain ⟨l0, _⟩ := km.cc.line hb hl
  have KC := hide (km.clone hb hl)
  clear h km hb hl
  generalize m.A b = r at *
  obtain ⟨r1, r2⟩ := r
  generalize D.blk = bb at *
  generalize m.q b = q at *
  go_enter Try.func13, Try.ntmps13
  go_wp2_with fail
  go_at_call 38
  refine (unhide K).mono ?_
  rintro e w' ⟨rfl, rfl⟩
  clear K
  go_wp2_with fail
  go_at_call 33
  refine (unhide KC).mono ?_
  rintro e w1 ⟨a, c, rfl, X⟩
  clear KC
  go_wp2_with fail
  go_ret2
  exact ⟨_, _, rfl, X⟩

theorem get_full (g dg b : Nat) (S : Nat → Prop) (C : Cac) (D : Dev) (w : World) (h : Kv w S g dg C D) (hb : b < D.n) (hl : C.L b = none) (he : C.ftE D ≠ 0) :
    Calls Try.prog 13 #[.pointer (some ⟨g, 0, none⟩), .int .i64 b] w fun e w' => e = .returned (.tuple #[.slice none 0 0, .int .i64 (C.ftE D)]) ∧ ∃ S', Kv w' S' g dg (C.rmC D) (C.rmD D) ∧ Nx S w S' w' := by
  obtain ⟨Sc, Sd, m, km⟩ := h.open
  have K := hide (find_no g dg b Sc Sd C D m w km.cc km.dd hb hl)
  have KF : Hid (Calls Try.prog 39 #[.pointer (some ⟨g, 0, none⟩), .int .i64 b] w fun e w' => e = .returned (.tuple #[.pointer none, .int .i64 (C.ftE D)]) ∧ ∃ S', Kv w' S' g dg (C.rmC D) (C.rmD D) ∧ Nx S w S' w') := by
    unfold Cac.ftE at he ⊢
    by_cases h1 : C.rmE D = 0
    · rw [if_neg (by simpa using h1)] at he ⊢
      by_cases h2 : (C.rmD D).dead = true
      · rw [if_pos h2]
        exact fetch_dead g dg b S C D w h hb h1 h2
      · rw [if_neg h2] at he
        exact absurd rfl he
    · rw [if_pos h1]
      exact fetch_full g dg b S C D w h hb h1
  have d1 : (C.ftE D != 0) = true := by simpa using he
  clear h km hb hl he
  generalize C.rmC D = C1 at *
  generalize C.rmD D = D1 at *
  generalize C.ftE D = e1 at *
  go_enter Try.func13, Try.ntmps13
  go_wp2_with fail
  go_at_call 38
  refine (unhide K).mono ?_
  rintro e w' ⟨rfl, rfl⟩
  clear K
  go_wp2_with fail
  go_at_call 39
  refine (unhide KF).mono ?_
  rintro e w1 ⟨rfl, X⟩
  have X1 := hide X
  clear KF X
  go_wp2_with fail
  go_ret2
  exact ⟨rfl, unhide X1⟩

theorem get_new (g dg b : Nat) (S : Nat → Prop) (C : Cac) (D : Dev) (w : World) (h : Kv w S g dg C D) (hb : b < D.n) (hl : C.L b = none) (he : C.ftE D = 0) :
    Calls Try.prog 13 #[.pointer (some ⟨g, 0, none⟩), .int .i64 b] w fun e w' => ∃ a c, e = .returned (.tuple #[.slice a D.blk c, .int .i64 0]) ∧ Hid (∃ S', Own w.heap.size w' a D.blk c ((C.rmD D).rd b) ∧ Kv w' S' g dg ((C.rmC D).set b ⟨(C.rmD D).rd b, false, 0⟩) (C.rmD D) ∧ Nx S w S' w' ∧ ∀ k, a = some ⟨k, 0, none⟩ → ¬ S' k) := by
  obtain ⟨Sc, Sd, m, km⟩ := h.open
  have K := hide (find_no g dg b Sc Sd C D m w km.cc km.dd hb hl)
  have h1 : C.rmE D = 0 ∧ (C.rmD D).dead = false := by
    unfold Cac.ftE at he
    by_cases h1 : C.rmE D = 0
    · rw [if_neg (by simpa using h1)] at he
      refine ⟨h1, ?_⟩
      cases h2 : (C.rmD D).dead
      · rfl
      · rw [if_pos h2] at he
        omega
    · rw [if_pos h1] at he
      exact absurd he h1
  have hn := rmD_n C D
  have KF := hide (fetch_ok g dg b S C D w h hb h1.1 h1.2)
  have KC : Hid (∀ w1 S1 Sc1 Sd1 m1 q, KvM w1 S1 Sc1 Sd1 g dg ((C.rmC D).set b ⟨(C.rmD D).rd b, false, 0⟩) (C.rmD D) m1 → Nx S w S1 w1 → m1.q b = q → ∃ r1 r2, w1.cell? ⟨q, 0, none⟩ = some (.slice (some ⟨r1, 0, none⟩) D.blk r2) ∧
      Hid (Calls Try.prog 33 #[.slice (some ⟨r1, 0, none⟩) D.blk r2] w1 fun e w' => ∃ a c, e = .returned (.slice a D.blk c) ∧ Hid (∃ S', Own w.heap.size w' a D.blk c ((C.rmD D).rd b) ∧ Kv w' S' g dg ((C.rmC D).set b ⟨(C.rmD D).rd b, false, 0⟩) (C.rmD D) ∧ Nx S w S' w' ∧ ∀ k, a = some ⟨k, 0, none⟩ → ¬ S' k))) := by
    intro w1 S1 Sc1 Sd1 m1 q k1 x1 eq
    subst eq
    have hb1 : b < (C.rmD D).n := by rw [hn.1]; exact hb
    have el : ((C.rmC D).set b ⟨(C.rmD D).rd b, false, 0⟩).L b = some ⟨(C.rmD D).rd b, false, 0⟩ := by simp [Cac.set]
    obtain ⟨l0, _⟩ := k1.cc.line hb1 el
    have kc := k1.clone hb1 el
    rw [hn.2] at l0 kc
    refine ⟨_, _, l0, kc.mono ?_⟩
    rintro e w' ⟨a, c, rfl, o1, b1, k2, n2⟩
    exact ⟨a, c, rfl, S1, o1.base x1.fr.size, k2, x1.below' b1, n2⟩
  clear h km hb hl he h1 hn
  generalize C.rmC D = C1 at *
  generalize C.rmD D = D1 at *
  generalize D.blk = bb at *
  go_enter Try.func13, Try.ntmps13
  go_wp2_with fail
  go_at_call 38
  refine (unhide K).mono ?_
  rintro e w' ⟨rfl, rfl⟩
  clear K
  go_wp2_with fail
  go_at_call 39
  refine (unhide KF).mono ?_
  rintro e w1 ⟨q, rfl, X⟩
  clear KF
  obtain ⟨S1, Sc1, Sd1, m1, x1, x2, x3⟩ := unhide X
  obtain ⟨r1, r2, c0, KB⟩ := unhide KC w1 S1 Sc1 Sd1 m1 q x1 x2 x3
  clear X KC x1 x2 x3
  go_wp2_with fail
  go_at_call 33
  refine (unhide KB).mono ?_
  rintro e w2 ⟨a, c, rfl, X⟩
  clear KB
  go_wp2_with fail
  go_ret2
  exact ⟨_, _, rfl, X⟩

/-- What Get answers, and leaves. -/
def Cac.gtE (C : Cac) (D : Dev) (b : Nat) : Int := match C.L b with | some _ => 0 | none => C.ftE D

def Cac.gtC (C : Cac) (D : Dev) (b : Nat) : Cac := match C.L b with | some _ => C | none => C.ftC D b

def Cac.gtD (C : Cac) (D : Dev) (b : Nat) : Dev := match C.L b with | some _ => D | none => C.rmD D

def Cac.gtZ (C : Cac) (D : Dev) (b : Nat) : List Int := match C.L b with | some l => l.z | none => (C.rmD D).rd b

theorem get_ok (g dg b : Nat) (S : Nat → Prop) (C : Cac) (D : Dev) (w : World) (h : Kv w S g dg C D) (hb : b < D.n) (he : C.gtE D b = 0) :
    Calls Try.prog 13 #[.pointer (some ⟨g, 0, none⟩), .int .i64 b] w fun e w' => ∃ a c, e = .returned (.tuple #[.slice a D.blk c, .int .i64 0]) ∧ Hid (∃ S', Own w.heap.size w' a D.blk c (C.gtZ D b) ∧ Kv w' S' g dg (C.gtC D b) (C.gtD D b) ∧ Nx S w S' w' ∧ ∀ k, a = some ⟨k, 0, none⟩ → ¬ S' k) := by
  unfold Cac.gtE at he
  unfold Cac.gtZ Cac.gtC Cac.gtD
  cases hl : C.L b with
  | some l =>
    simp only
    refine (get_held g dg b l S C D w h hb hl).mono ?_
    rintro e w' ⟨a, c, rfl, o1, b1, k1, n1⟩
    exact ⟨a, c, rfl, S, o1, k1, (Nx.refl S w).below' b1, n1⟩
  | none =>
    rw [hl] at he
    simp only at he ⊢
    unfold Cac.ftC
    rw [if_pos he]
    exact get_new g dg b S C D w h hb hl he

theorem get_err (g dg b : Nat) (S : Nat → Prop) (C : Cac) (D : Dev) (w : World) (h : Kv w S g dg C D) (hb : b < D.n) (he : C.gtE D b ≠ 0) :
    Calls Try.prog 13 #[.pointer (some ⟨g, 0, none⟩), .int .i64 b] w fun e w' => e = .returned (.tuple #[.slice none 0 0, .int .i64 (C.gtE D b)]) ∧ ∃ S', Kv w' S' g dg (C.gtC D b) (C.gtD D b) ∧ Nx S w S' w' := by
  unfold Cac.gtE at he ⊢
  unfold Cac.gtC Cac.gtD
  cases hl : C.L b with
  | some l =>
    rw [hl] at he
    exact absurd rfl he
  | none =>
    rw [hl] at he
    simp only at he ⊢
    unfold Cac.ftC
    rw [if_neg he]
    exact get_full g dg b S C D w h hb hl he

end Go.Proofs.Ytpkhllpghjldhaa
