/- The contracts of Pin, Unpin and Drop. -/
import Derived.Test.YtpkhllpghjldhaaKPut
namespace Go.Proofs.Ytpkhllpghjldhaa
open Go.RowKit Go.Shelf Go.Maps
set_option linter.unusedVariables false

theorem pin_nil (b : Int) (w : World) : Calls Try.prog 21 #[.pointer none, .int .i64 b] w fun e w' => e = .returned (.int .i64 1) ∧ w = w' := by
  go_enter Try.func21, Try.ntmps21
  go_wp2_with (go_at_call 38; refine (find_nil b w).mono ?_; rintro e w' ⟨rfl, rfl⟩)
  go_ret
  exact ⟨rfl, rfl⟩

theorem pin_range (g dg : Nat) (b : Int) (S : Nat → Prop) (C : Cac) (D : Dev) (w : World) (h : Kv w S g dg C D) (hb : ¬ (0 ≤ b ∧ b < D.n)) :
    Calls Try.prog 21 #[.pointer (some ⟨g, 0, none⟩), .int .i64 b] w fun e w' => e = .returned (.int .i64 2) ∧ w = w' := by
  obtain ⟨Sc, Sd, m, km⟩ := h.open
  have K := hide (find_range g dg b Sc Sd C D m w km.cc km.dd hb)
  clear h km hb
  go_enter Try.func21, Try.ntmps21
  go_wp2_with (go_at_call 38; refine (unhide K).mono ?_; rintro e w' ⟨rfl, rfl⟩; clear K)
  go_ret
  exact ⟨rfl, rfl⟩

theorem pin_no (g dg b : Nat) (S : Nat → Prop) (C : Cac) (D : Dev) (w : World) (h : Kv w S g dg C D) (hb : b < D.n) (hl : C.L b = none) :
    Calls Try.prog 21 #[.pointer (some ⟨g, 0, none⟩), .int .i64 b] w fun e w' => e = .returned (.int .i64 11) ∧ w = w' := by
  obtain ⟨Sc, Sd, m, km⟩ := h.open
  have K := hide (find_no g dg b Sc Sd C D m w km.cc km.dd hb hl)
  clear h km hb hl
  go_enter Try.func21, Try.ntmps21
  go_wp2_with (go_at_call 38; refine (unhide K).mono ?_; rintro e w' ⟨rfl, rfl⟩; clear K)
  go_ret
  exact ⟨rfl, rfl⟩

theorem unpin_nil (b : Int) (w : World) : Calls Try.prog 23 #[.pointer none, .int .i64 b] w fun e w' => e = .returned (.int .i64 1) ∧ w = w' := by
  go_enter Try.func23, Try.ntmps23
  go_wp2_with (go_at_call 38; refine (find_nil b w).mono ?_; rintro e w' ⟨rfl, rfl⟩)
  go_ret
  exact ⟨rfl, rfl⟩

theorem unpin_range (g dg : Nat) (b : Int) (S : Nat → Prop) (C : Cac) (D : Dev) (w : World) (h : Kv w S g dg C D) (hb : ¬ (0 ≤ b ∧ b < D.n)) :
    Calls Try.prog 23 #[.pointer (some ⟨g, 0, none⟩), .int .i64 b] w fun e w' => e = .returned (.int .i64 2) ∧ w = w' := by
  obtain ⟨Sc, Sd, m, km⟩ := h.open
  have K := hide (find_range g dg b Sc Sd C D m w km.cc km.dd hb)
  clear h km hb
  go_enter Try.func23, Try.ntmps23
  go_wp2_with (go_at_call 38; refine (unhide K).mono ?_; rintro e w' ⟨rfl, rfl⟩; clear K)
  go_ret
  exact ⟨rfl, rfl⟩

theorem unpin_no (g dg b : Nat) (S : Nat → Prop) (C : Cac) (D : Dev) (w : World) (h : Kv w S g dg C D) (hb : b < D.n) (hl : C.L b = none) :
    Calls Try.prog 23 #[.pointer (some ⟨g, 0, none⟩), .int .i64 b] w fun e w' => e = .returned (.int .i64 11) ∧ w = w' := by
  obtain ⟨Sc, Sd, m, km⟩ := h.open
  have K := hide (find_no g dg b Sc Sd C D m w km.cc km.dd hb hl)
  clear h km hb hl
  go_enter Try.func23, Try.ntmps23
  go_wp2_with (go_at_call 38; refine (unhide K).mono ?_; rintro e w' ⟨rfl, rfl⟩; clear K)
  go_ret
  exact ⟨rfl, rfl⟩

theorem drop_nil (b : Int) (w : World) : Calls Try.prog 22 #[.pointer none, .int .i64 b] w fun e w' => e = .returned (.int .i64 1) ∧ w = w' := by
  go_enter Try.func22, Try.ntmps22
  go_wp2_with (go_at_call 38; refine (find_nil b w).mono ?_; rintro e w' ⟨rfl, rfl⟩)
  go_ret
  exact ⟨rfl, rfl⟩

theorem drop_range (g dg : Nat) (b : Int) (S : Nat → Prop) (C : Cac) (D : Dev) (w : World) (h : Kv w S g dg C D) (hb : ¬ (0 ≤ b ∧ b < D.n)) :
    Calls Try.prog 22 #[.pointer (some ⟨g, 0, none⟩), .int .i64 b] w fun e w' => e = .returned (.int .i64 2) ∧ w = w' := by
  obtain ⟨Sc, Sd, m, km⟩ := h.open
  have K := hide (find_range g dg b Sc Sd C D m w km.cc km.dd hb)
  clear h km hb
  go_enter Try.func22, Try.ntmps22
  go_wp2_with (go_at_call 38; refine (unhide K).mono ?_; rintro e w' ⟨rfl, rfl⟩; clear K)
  go_ret
  exact ⟨rfl, rfl⟩

theorem drop_no (g dg b : Nat) (S : Nat → Prop) (C : Cac) (D : Dev) (w : World) (h : Kv w S g dg C D) (hb : b < D.n) (hl : C.L b = none) :
    Calls Try.prog 22 #[.pointer (some ⟨g, 0, none⟩), .int .i64 b] w fun e w' => e = .returned (.int .i64 11) ∧ w = w' := by
  obtain ⟨Sc, Sd, m, km⟩ := h.open
  have K := hide (find_no g dg b Sc Sd C D m w km.cc km.dd hb hl)
  clear h km hb hl
  go_enter Try.func22, Try.ntmps22
  go_wp2_with (go_at_call 38; refine (unhide K).mono ?_; rintro e w' ⟨rfl, rfl⟩; clear K)
  go_ret
  exact ⟨rfl, rfl⟩

/-- A store into the pins of a line. -/
theorem KvM.pins {w : World} {S Sc Sd : Nat → Prop} {g dg : Nat} {C : Cac} {D : Dev} {m : KMem} (h : KvM w S Sc Sd g dg C D m) {b : Nat} {l : Ln} (hb : b < D.n) (e : C.L b = some l) (p : Int) :
    Kv (w.setCell ⟨m.q b, 2, none⟩ (.int .i64 p)) S g dg (C.set b ⟨l.z, l.d, p⟩) D ∧ Nx S w S (w.setCell ⟨m.q b, 2, none⟩ (.int .i64 p)) := by
  have s1 := h.cc.setL (l' := ⟨l.z, l.d, p⟩) (r' := m.A b) hb e 2 (.int .i64 p) (fun i hi => by
    have : i = 0 ∨ i = 1 ∨ i = 2 := by omega
    rcases this with rfl | rfl | rfl <;> simp [lcell]) (h.cc.row b l hb e)
  have hs := h.cc.sl b l hb e
  obtain ⟨y1, y2, y3, y4⟩ := Kv.own h.cc.lt h.dd h.dis h.all s1 (Nx.set (p := ⟨m.q b, 2, none⟩) hs _)
  exact ⟨⟨Sc, Sd, _, s1, y1, y2, h.all⟩, Nx.set (p := ⟨m.q b, 2, none⟩) ((h.all _).2 (.inl hs)) _⟩

theorem pin_held (g dg b : Nat) (l : Ln) (S : Nat → Prop) (C : Cac) (D : Dev) (w : World) (h : Kv w S g dg C D) (hb : b < D.n) (hl : C.L b = some l) :
    Calls Try.prog 21 #[.pointer (some ⟨g, 0, none⟩), .int .i64 b] w fun e w' => e = .returned (.int .i64 0) ∧ Kv w' S g dg (C.set b ⟨l.z, l.d, wrap64 (l.p + 1)⟩) D ∧ Nx S w S w' := by
  obtain ⟨Sc, Sd, m, km⟩ := h.open
  have K := hide (find_held g dg b l Sc Sd C D m w km.cc km.dd hb hl)
  obtain ⟨_, _, l2, l3⟩ := km.cc.line hb hl
  have X := hide (km.pins hb hl (wrap64 (l.p + 1)))
  clear h km hb hl
  generalize m.q b = q at *
  generalize l.p = p at *
  go_enter Try.func21, Try.ntmps21
  go_wp2_with (go_at_call 38; refine (unhide K).mono ?_; rintro e w' ⟨rfl, rfl⟩; clear K)
  go_ret
  exact ⟨rfl, unhide X⟩

theorem unpin_none (g dg b : Nat) (l : Ln) (S : Nat → Prop) (C : Cac) (D : Dev) (w : World) (h : Kv w S g dg C D) (hb : b < D.n) (hl : C.L b = some l) (hp : l.p = 0) :
    Calls Try.prog 23 #[.pointer (some ⟨g, 0, none⟩), .int .i64 b] w fun e w' => e = .returned (.int .i64 11) ∧ w = w' := by
  obtain ⟨Sc, Sd, m, km⟩ := h.open
  have K := hide (find_held g dg b l Sc Sd C D m w km.cc km.dd hb hl)
  obtain ⟨_, _, l2, l3⟩ := km.cc.line hb hl
  rw [hp] at l2
  clear h km hb hl hp
  generalize m.q b = q at *
  go_enter Try.func23, Try.ntmps23
  go_wp2_with (go_at_call 38; refine (unhide K).mono ?_; rintro e w' ⟨rfl, rfl⟩; clear K)
  go_ret
  exact ⟨rfl, rfl⟩

theorem unpin_held (g dg b : Nat) (l : Ln) (S : Nat → Prop) (C : Cac) (D : Dev) (w : World) (h : Kv w S g dg C D) (hb : b < D.n) (hl : C.L b = some l) (hp : l.p ≠ 0) :
    Calls Try.prog 23 #[.pointer (some ⟨g, 0, none⟩), .int .i64 b] w fun e w' => e = .returned (.int .i64 0) ∧ Kv w' S g dg (C.set b ⟨l.z, l.d, wrap64 (l.p - 1)⟩) D ∧ Nx S w S w' := by
  obtain ⟨Sc, Sd, m, km⟩ := h.open
  have K := hide (find_held g dg b l Sc Sd C D m w km.cc km.dd hb hl)
  obtain ⟨_, _, l2, l3⟩ := km.cc.line hb hl
  have X := hide (km.pins hb hl (wrap64 (l.p - 1)))
  have d1 : (l.p == 0) = false := by simpa using hp
  clear h km hb hl hp
  generalize m.q b = q at *
  generalize l.p = p at *
  go_enter Try.func23, Try.ntmps23
  go_wp2_with (go_at_call 38; refine (unhide K).mono ?_; rintro e w' ⟨rfl, rfl⟩; clear K)
  go_ret
  exact ⟨rfl, unhide X⟩

theorem drop_busy (g dg b : Nat) (l : Ln) (S : Nat → Prop) (C : Cac) (D : Dev) (w : World) (h : Kv w S g dg C D) (hb : b < D.n) (hl : C.L b = some l) (hp : 0 < l.p) :
    Calls Try.prog 22 #[.pointer (some ⟨g, 0, none⟩), .int .i64 b] w fun e w' => e = .returned (.int .i64 17) ∧ w = w' := by
  obtain ⟨Sc, Sd, m, km⟩ := h.open
  have K := hide (find_held g dg b l Sc Sd C D m w km.cc km.dd hb hl)
  obtain ⟨_, _, l2, l3⟩ := km.cc.line hb hl
  clear h km hb hl
  generalize m.q b = q at *
  generalize l.p = p at *
  go_enter Try.func22, Try.ntmps22
  go_wp2_with (go_at_call 38; refine (unhide K).mono ?_; rintro e w' ⟨rfl, rfl⟩; clear K)
  go_ret
  exact ⟨rfl, rfl⟩

theorem drop_held (g dg b : Nat) (l : Ln) (S : Nat → Prop) (C : Cac) (D : Dev) (w : World) (h : Kv w S g dg C D) (hb : b < D.n) (hl : C.L b = some l) (hp : ¬ 0 < l.p) :
    Calls Try.prog 22 #[.pointer (some ⟨g, 0, none⟩), .int .i64 b] w fun e w' => e = .returned (.int .i64 0) ∧ ∃ S', Kv w' S' g dg (C.del b) D ∧ Nx S w S' w' := by
  obtain ⟨Sc, Sd, m, km⟩ := h.open
  have K := hide (find_held g dg b l Sc Sd C D m w km.cc km.dd hb hl)
  obtain ⟨_, _, l2, l3⟩ := km.cc.line hb hl
  obtain ⟨_, _, _, c3, _⟩ := km.cc.cells
  obtain ⟨w4, r4, c4, x4⟩ := km.cc.drop km.dd.ok.n2 hb
  obtain ⟨y1, y2, y3, y4⟩ := Kv.own km.cc.lt km.dd km.dis km.all c4 x4
  have R4 := hide r4
  have X : Hid (∃ S', Kv w4 S' g dg (C.del b) D ∧ Nx S w S' w4) := ⟨_, y3, y4⟩
  clear h km hb hl r4 c4 x4 y1 y2 y3 y4
  generalize m.q b = q at *
  generalize m.mb = mb at *
  generalize l.p = p at *
  go_enter Try.func22, Try.ntmps22
  go_wp2_with (first | (go_at_call 38; refine (unhide K).mono ?_; rintro e w' ⟨rfl, rfl⟩; clear K) | (at_delete; refine wpList_delete_run 64 3 rfl _ _ rfl _ _ rfl rfl (unhide R4) ?_; clear R4))
  go_ret
  exact ⟨rfl, unhide X⟩

end Go.Proofs.Ytpkhllpghjldhaa
