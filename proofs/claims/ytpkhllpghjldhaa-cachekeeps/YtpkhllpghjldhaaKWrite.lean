/- The contracts of nextPick and writeBack. -/
import Derived.Test.YtpkhllpghjldhaaKLeaf
import Derived.Test.YtpkhllpghjldhaaDCrash
namespace Go.Proofs.Ytpkhllpghjldhaa
open Go.RowKit Go.Shelf
set_option linter.unusedVariables false

/-- nextPick. -/
theorem nextPick_none (g dg n blk : Nat) (S : Nat → Prop) (C : Cac) (m : KMem) (w : World) (h : CcM w S g dg n blk C m) (hP : C.P = []) :
    Calls Try.prog 53 #[.pointer (some ⟨g, 0, none⟩)] w fun e w' => e = .returned (.int .i64 C.pick) ∧ ∃ m', CcM w' S g dg n blk C.next m' ∧ Nx S w S w' := by
  have e1 : C.pick = 0 := by simp [Cac.pick, hP]
  have e2 : C.next = C := by cases C; simp_all [Cac.next]
  rw [e1, e2]
  obtain ⟨_, _, c2, _⟩ := h.cells
  rw [hP] at c2
  have F := hide h
  clear h hP e1 e2
  go_enter Try.func53, Try.ntmps53
  go_wp2
  go_ret
  exact ⟨rfl, m, unhide F, Nx.refl _ _⟩

theorem nextPick_some (g dg n blk : Nat) (S : Nat → Prop) (C : Cac) (m : KMem) (w : World) (h : CcM w S g dg n blk C m) (hP : 0 < C.P.length) :
    Calls Try.prog 53 #[.pointer (some ⟨g, 0, none⟩)] w fun e w' => e = .returned (.int .i64 C.pick) ∧ ∃ m', CcM w' S g dg n blk C.next m' ∧ Nx S w S w' := by
  obtain ⟨_, _, c2, _, fz⟩ := h.cells
  obtain ⟨b, off, ea, hc⟩ := h.pic.2 hP
  have hcp := h.pcp
  have c4 := hc 0 hP
  rw [Nat.add_zero] at c4
  have hr : ∀ w : World, (Instr.slice 22 (.slice m.pa C.P.length m.pc) (some (.int .i64 1)) none none).run Try.prog w = .ok (.slice (cutAt m.pa m.pc 1) (C.P.length - 1) (m.pc - 1)) w := fun w => run_icut m.pa C.P.length m.pc hP w
  have hx : ∀ x, cutAt m.pa m.pc 1 = some x → S x.block ∧ ∃ cur, w.heap[x.block]? = some (.cells cur 3 (0, 0)) := by
    intro x ex
    have : x.block = b := by
      unfold cutAt at ex
      rw [ea] at ex
      split at ex
      · cases ex; rfl
      · simp [Addr.add] at ex; rw [← ex]
    have hb := h.pbl _ ea
    rw [this]
    exact hb
  have hl : (C.P.drop 1).length = C.P.length - 1 := by simp
  have I := h.pic.cut1 hcp.1 hP
  rw [← hl] at I
  have F := hide (h.setP (C.P.drop 1) (cutAt m.pa m.pc 1) (m.pc - 1) I (by omega) hx)
  have X := hide (Nx.set (w := w) (p := ⟨g, 2, none⟩) h.sg (.slice (cutAt m.pa m.pc 1) (C.P.drop 1).length (m.pc - 1)))
  rw [← hl] at hr
  have ep : Hid (C.pick = C.P[0]?.getD 0) := rfl
  generalize cutAt m.pa m.pc 1 = pa' at *
  rw [ea] at c2 hr
  clear h hx I hc ea
  generalize (C.P.drop 1).length = l1 at *
  generalize C.P[0]?.getD 0 = p0 at *
  generalize C.P.length = l0 at *
  have hc1 : 1 ≤ m.pc := by omega
  generalize m.pc = pc at *
  clear hl
  go_enter Try.func53, Try.ntmps53
  go_wp2
  go_ret
  rw [unhide ep]
  exact ⟨rfl, _, unhide F, unhide X⟩

theorem nextPick_any (g dg n blk : Nat) (S : Nat → Prop) (C : Cac) (m : KMem) (w : World) (h : CcM w S g dg n blk C m) :
    Calls Try.prog 53 #[.pointer (some ⟨g, 0, none⟩)] w fun e w' => e = .returned (.int .i64 C.pick) ∧ ∃ m', CcM w' S g dg n blk C.next m' ∧ Nx S w S w' := by
  by_cases hP : 0 < C.P.length
  · exact nextPick_some g dg n blk S C m w h hP
  · exact nextPick_none g dg n blk S C m w h (List.eq_nil_of_length_eq_zero (by omega))

/-- What writeBack answers, and leaves. -/
def Cac.wbE (C : Cac) (D : Dev) (b : Nat) : Int := match C.L b with | some l => if l.d = true then D.wE else 0 | none => 0

def Cac.wbC (C : Cac) (D : Dev) (b : Nat) : Cac := match C.L b with | some l => if l.d = true ∧ D.wE = 0 then C.set b { l with d := false } else C | none => C

def Cac.wbD (C : Cac) (D : Dev) (b : Nat) : Dev := match C.L b with | some l => if l.d = true then D.wD b l.z else D | none => D

theorem wbD_n (C : Cac) (D : Dev) (b : Nat) : (C.wbD D b).n = D.n ∧ (C.wbD D b).blk = D.blk := by
  unfold Cac.wbD
  split
  · split
    · exact Dev.wD_n D b _
    · exact ⟨rfl, rfl⟩
  · exact ⟨rfl, rfl⟩

/-- A cache and its device, where each lies. -/
structure KvM (u : World) (S Sc Sd : Nat → Prop) (g dg : Nat) (C : Cac) (D : Dev) (m : KMem) : Prop where
  cc : CcM u Sc g dg D.n D.blk C m
  dd : Dv u Sd dg D
  dis : ∀ k, Sc k → ¬ Sd k
  all : ∀ k, S k ↔ (Sc k ∨ Sd k)

theorem KvM.kv {u : World} {S Sc Sd : Nat → Prop} {g dg : Nat} {C : Cac} {D : Dev} {m : KMem} (h : KvM u S Sc Sd g dg C D m) : Kv u S g dg C D := ⟨Sc, Sd, m, h.cc, h.dd, h.dis, h.all⟩

theorem Kv.open {u : World} {S : Nat → Prop} {g dg : Nat} {C : Cac} {D : Dev} (h : Kv u S g dg C D) : ∃ Sc Sd m, KvM u S Sc Sd g dg C D m := by
  obtain ⟨Sc, Sd, m, h1, h2, h3, h4⟩ := h
  exact ⟨Sc, Sd, m, h1, h2, h3, h4⟩

/-- A line's row, for the device. -/
theorem KvM.row {u : World} {S Sc Sd : Nat → Prop} {g dg : Nat} {C : Cac} {D : Dev} {m : KMem} (h : KvM u S Sc Sd g dg C D m) {b : Nat} {l : Ln} (hb : b < D.n) (e : C.L b = some l) : Row u.heap.size u (some ⟨(m.A b).1, 0, none⟩) D.blk (m.A b).2 l.z ∧ Out Sd D.blk (some ⟨(m.A b).1, 0, none⟩) :=
  ⟨(h.cc.row b l hb e).row h.dd.ok.b2, fun _ x ex => by cases ex; exact h.dis _ (h.cc.row b l hb e).mem⟩

theorem writeBack_none (g dg b : Nat) (S Sc Sd : Nat → Prop) (C : Cac) (D : Dev) (m : KMem) (w : World) (h : KvM w S Sc Sd g dg C D m) (hb : b < D.n) (hl : C.L b = none) :
    Calls Try.prog 37 #[.pointer (some ⟨g, 0, none⟩), .int .i64 b] w fun e w' => e = .returned (.int .i64 0) ∧ w = w' := by
  obtain ⟨_, _, _, c3, _⟩ := h.cc.cells
  have hlk := h.cc.map.look_no h.dd.ok.n2 hb (by simp [Cac.M, hl])
  clear h hb hl
  generalize m.mb = mb at *
  go_enter Try.func37, Try.ntmps37
  go_wp2
  go_ret
  exact ⟨rfl, rfl⟩

theorem writeBack_clean (g dg b : Nat) (l : Ln) (S Sc Sd : Nat → Prop) (C : Cac) (D : Dev) (m : KMem) (w : World) (h : KvM w S Sc Sd g dg C D m) (hb : b < D.n) (hl : C.L b = some l) (hd : l.d = false) :
    Calls Try.prog 37 #[.pointer (some ⟨g, 0, none⟩), .int .i64 b] w fun e w' => e = .returned (.int .i64 0) ∧ w = w' := by
  obtain ⟨_, _, _, c3, _⟩ := h.cc.cells
  have hlk := h.cc.map.look h.dd.ok.n2 hb (h.cc.M_some hl)
  obtain ⟨_, l1, _, _⟩ := h.cc.line hb hl
  rw [hd] at l1
  clear h hb hl hd
  generalize m.mb = mb at *
  generalize m.q b = q at *
  go_enter Try.func37, Try.ntmps37
  go_wp2
  go_ret
  exact ⟨rfl, rfl⟩

theorem KvM.drew {u : World} {S Sc Sd : Nat → Prop} {g dg : Nat} {C : Cac} {D : Dev} {m : KMem} (h : KvM u S Sc Sd g dg C D m) : KvM u.drew S Sc Sd g dg C D m :=
  ⟨h.cc.kept (fun _ _ => rfl) (fun _ h => h) h.cc.lt, h.dd.kept (fun _ _ => rfl) (Nat.le_refl _), h.dis, h.all⟩

theorem Nx.drew {S S' : Nat → Prop} {w w' : World} (h : Nx S w S' w') : Nx S w S' w'.drew := ⟨⟨h.fr.os, h.fr.tape, h.fr.output, h.fr.size, h.fr.block⟩, h.sub⟩

theorem Nx.undrew {S S' : Nat → Prop} {w w' : World} (h : Nx S w.drew S' w') : Nx S w S' w' := ⟨⟨h.fr.os, h.fr.tape, h.fr.output, h.fr.size, h.fr.block⟩, h.sub⟩

/-- The device's Write of a line. -/
theorem KvM.write {u : World} {S Sc Sd : Nat → Prop} {g dg : Nat} {C : Cac} {D : Dev} {m : KMem} (h : KvM u S Sc Sd g dg C D m) {b : Nat} {l : Ln} (hb : b < D.n) (e : C.L b = some l) :
    Calls Try.prog 59 #[.pointer (some ⟨dg, 0, none⟩), .int .i64 b, .slice (some ⟨(m.A b).1, 0, none⟩) D.blk (m.A b).2] u fun e w' => e = .returned (.int .i64 D.wE) ∧ ∃ S' Sd', KvM w' S' Sc Sd' g dg C (D.wD b l.z) m ∧ Nx S u S' w' := by
  obtain ⟨r1, r2⟩ := h.row hb e
  refine (write_any dg b _ _ l.z Sd D u h.dd hb r1 r2).mono ?_
  rintro e w' ⟨rfl, Sd', d1, x1⟩
  obtain ⟨y1, y2, y3, y4⟩ := Kv.dev h.cc h.dd h.dis h.all d1 x1 (Dev.wD_n D b l.z)
  exact ⟨rfl, _, Sd', ⟨y1, d1, y2, fun k => Iff.rfl⟩, y4⟩

theorem writeBack_dirty (g dg b : Nat) (l : Ln) (S Sc Sd : Nat → Prop) (C : Cac) (D : Dev) (m : KMem) (w : World) (h : KvM w S Sc Sd g dg C D m) (hb : b < D.n) (hl : C.L b = some l) (hd : l.d = true) :
    Calls Try.prog 37 #[.pointer (some ⟨g, 0, none⟩), .int .i64 b] w fun e w' => e = .returned (.int .i64 D.wE) ∧ ∃ S', Kv w' S' g dg (if D.wE = 0 then C.set b { l with d := false } else C) (D.wD b l.z) ∧ Nx S w S' w' := by
  obtain ⟨c0, _, _, c3, _⟩ := h.cc.cells
  have hlk := h.cc.map.look h.dd.ok.n2 hb (h.cc.M_some hl)
  obtain ⟨l0, l1, _, _⟩ := h.cc.line hb hl
  rw [hd] at l1
  have K1 := hide (h.write hb hl)
  have K2 := hide (h.drew.write hb hl)
  have KS : Hid (∀ u S' Sd', D.wE = 0 → KvM u S' Sc Sd' g dg C (D.wD b l.z) m → u.cell? ⟨m.q b, 1, none⟩ = some (.bool true) ∧ u.frozen? ⟨m.q b, 1, none⟩ = false ∧ Hid (Kv (u.setCell ⟨m.q b, 1, none⟩ (.bool false)) S' g dg (C.set b { l with d := false }) (D.wD b l.z) ∧ Nx S' u S' (u.setCell ⟨m.q b, 1, none⟩ (.bool false)))) := by
    intro u S' Sd' _ hu
    have hb' : b < (D.wD b l.z).n := by rw [(Dev.wD_n D b l.z).1]; exact hb
    obtain ⟨_, x1, _, x3⟩ := hu.cc.line hb' hl
    rw [hd] at x1
    refine ⟨x1, x3 1, ?_, Nx.set (p := ⟨m.q b, 1, none⟩) ((hu.all _).2 (.inl (hu.cc.sl b l hb' hl))) _⟩
    have hs := hu.cc.setL (l' := { l with d := false }) (r' := m.A b) hb' hl 1 (.bool false) (fun i hi => by
      have : i = 0 ∨ i = 1 ∨ i = 2 := by omega
      rcases this with rfl | rfl | rfl <;> simp [lcell]) (hu.cc.row b l hb' hl)
    have hx : Nx Sc u Sc (u.setCell ⟨m.q b, 1, none⟩ (.bool false)) := Nx.set (p := ⟨m.q b, 1, none⟩) (hu.cc.sl b l hb' hl) _
    obtain ⟨z1, z2, z3, z4⟩ := Kv.own hu.cc.lt hu.dd hu.dis hu.all hs hx
    exact ⟨Sc, Sd', _, hs, z1, z2, hu.all⟩
  have KD : Hid (∀ u S' Sd', KvM u S' Sc Sd' g dg C (D.wD b l.z) m → Kv u S' g dg C (D.wD b l.z)) := fun u S' Sd' hu => hu.kv
  have hE : D.wE = 0 ∨ D.wE = 7 := by unfold Dev.wE; split <;> simp
  clear h hb hl hd
  generalize D.wD b l.z = D' at *
  generalize D.wE = e at *
  generalize D.blk = bb at *
  generalize m.mb = mb at *
  generalize m.q b = q at *
  generalize m.A b = r at *
  obtain ⟨r1, r2⟩ := r
  clear K1
  rcases hE with rfl | rfl
  · rw [if_pos rfl]
    go_enter Try.func37, Try.ntmps37
    go_wp2_with fail
    go_region_with (go_at_call 59; refine (unhide K2).mono ?_; rintro e' w1 ⟨rfl, S1, Sd1, h1, h2⟩; clear K2)
    all_goals
      obtain ⟨x1, x2, X3⟩ := unhide KS _ _ _ trivial h1
      have X2 := hide h2
      clear KS KD h1 h2
      go_wp2_with fail
      go_ret
      exact ⟨rfl, S1, (unhide X3).1, (unhide X2).undrew.trans (unhide X3).2⟩
  · rw [if_neg (by omega)]
    go_enter Try.func37, Try.ntmps37
    go_wp2_with fail
    go_region_with (go_at_call 59; refine (unhide K2).mono ?_; rintro e' w1 ⟨rfl, S1, Sd1, h1, h2⟩; clear K2)
    all_goals
      have X1 := hide (unhide KD _ _ _ h1)
      have X2 := hide h2
      clear KS KD h1 h2
      go_wp2_with fail
      go_ret
      exact ⟨rfl, S1, unhide X1, (unhide X2).undrew⟩

/-- writeBack. -/
theorem writeBack_any (g dg b : Nat) (S : Nat → Prop) (C : Cac) (D : Dev) (w : World) (h : Kv w S g dg C D) (hb : b < D.n) :
    Calls Try.prog 37 #[.pointer (some ⟨g, 0, none⟩), .int .i64 b] w fun e w' => e = .returned (.int .i64 (C.wbE D b)) ∧ ∃ S', Kv w' S' g dg (C.wbC D b) (C.wbD D b) ∧ Nx S w S' w' := by
  have hk := h
  obtain ⟨Sc, Sd, m, h⟩ := h.open
  cases hl : C.L b with
  | none =>
    have e1 : C.wbE D b = 0 := by simp [Cac.wbE, hl]
    have e2 : C.wbC D b = C := by simp [Cac.wbC, hl]
    have e3 : C.wbD D b = D := by simp [Cac.wbD, hl]
    rw [e1, e2, e3]
    refine (writeBack_none g dg b S Sc Sd C D m w h hb hl).mono ?_
    rintro e w' ⟨rfl, rfl⟩
    exact ⟨rfl, S, hk, Nx.refl _ _⟩
  | some l =>
    cases hd : l.d with
    | false =>
      have e1 : C.wbE D b = 0 := by simp [Cac.wbE, hl, hd]
      have e2 : C.wbC D b = C := by simp [Cac.wbC, hl, hd]
      have e3 : C.wbD D b = D := by simp [Cac.wbD, hl, hd]
      rw [e1, e2, e3]
      refine (writeBack_clean g dg b l S Sc Sd C D m w h hb hl hd).mono ?_
      rintro e w' ⟨rfl, rfl⟩
      exact ⟨rfl, S, hk, Nx.refl _ _⟩
    | true =>
      have e1 : C.wbE D b = D.wE := by simp [Cac.wbE, hl, hd]
      have e2 : C.wbC D b = if D.wE = 0 then C.set b { l with d := false } else C := by simp [Cac.wbC, hl, hd]
      have e3 : C.wbD D b = D.wD b l.z := by simp [Cac.wbD, hl, hd]
      rw [e1, e2, e3]
      exact writeBack_dirty g dg b l S Sc Sd C D m w h hb hl hd

end Go.Proofs.Ytpkhllpghjldhaa
