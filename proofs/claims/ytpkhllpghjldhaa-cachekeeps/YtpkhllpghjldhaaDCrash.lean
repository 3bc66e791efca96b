/- The contract of Crash. -/
import Derived.Test.YtpkhllpghjldhaaDWrite
namespace Go.Proofs.Ytpkhllpghjldhaa
open Go.RowKit Go.Shelf
set_option linter.unusedVariables false

theorem IHas.cut1 {w : World} {a : Option Addr} {len : Nat} {zs : List Int} (h : IHas w a len zs) {cap : Nat} (hc : len ≤ cap) (hl : 0 < len) : IHas w (cutAt a cap 1) (len - 1) (zs.drop 1) := by
  refine ⟨by simp [h.1], fun hp => ?_⟩
  obtain ⟨b, off, rfl, hcs⟩ := h.2 (by omega)
  refine ⟨b, off + 1, ?_, fun j hj => ?_⟩
  · unfold cutAt
    rw [if_neg (by omega), Option.map_some, Nat.mul_one, World.add_zero_spot]
  · rw [Nat.add_assoc, hcs (1 + j) (by omega), List.getElem?_drop]

theorem sizeOf3 (w : World) : (sizeOf (Try.prog.elem 22)).run Try.prog w = .ok 1 w := by kernel_rfl

theorem elemI : Try.prog.underlying 22 = some (.slice (Try.prog.elem 22)) := by kernel_rfl

theorem run_icut (a : Option Addr) (len cap : Nat) (h : 1 ≤ len) (w : World) :
    (Instr.slice 22 (.slice a len cap) (some (.int .i64 1)) none none).run Try.prog w = .ok (.slice (cutAt a cap 1) (len - 1) (cap - 1)) w := by
  have := run_slice_l (P := Try.prog) (w := w) 22 a len cap elemI .i64 1 (by omega) (by omega)
  rw [this, sizeOf3]
  simp only [Result.andThen, sliced]
  simp [cutAt]

theorem Out.cut {S : Nat → Prop} {a : Option Addr} {len : Nat} (h : Out S len a) (cap : Nat) : Out S (len - 1) (cutAt a cap 1) := by
  intro hp x e
  replace h := h (by omega)
  unfold cutAt at e
  by_cases hc : cap = 1
  · rw [if_pos hc] at e; exact h x e
  · rw [if_neg hc] at e
    cases a with
    | none => simp at e
    | some y =>
      simp at e
      subst e
      have : (y.add 1).block = y.block := by unfold Addr.add; split <;> rfl
      rw [this]; exact h y rfl

/-- How many blocks ahead of block i have writes that wait. -/
def Dev.cnt (D : Dev) : Nat → Nat
  | 0 => 0
  | k + 1 => D.cnt k + (if D.Y k = [] then 0 else 1)

/-- The first k blocks behind a crash. -/
def Dev.crashTo (D : Dev) (ps : List Int) (k : Nat) : Dev := { D with X := fun i => if i < k then D.pick i (ps[D.cnt i]?.getD 0) else D.X i, Y := fun i => if i < k then [] else D.Y i }

def Dev.crash (D : Dev) (ps : List Int) : Dev := (D.crashTo ps D.n).live

theorem crash_start (D : Dev) (ps : List Int) : D.crashTo ps 0 = D := by cases D; simp [Dev.crashTo]

theorem crash_skip (D : Dev) (ps : List Int) (k : Nat) (h : D.Y k = []) : D.crashTo ps k = D.crashTo ps (k + 1) := by
  simp only [Dev.crashTo]
  congr 1
  · funext j
    by_cases e : j = k
    · subst e; simp [pick_low (.inr h)]
    · by_cases e2 : j < k
      · simp [e2, show j < k + 1 by omega]
      · simp [e2, show ¬ j < k + 1 by omega]
  · funext j
    by_cases e : j = k
    · subst e; simp [h]
    · by_cases e2 : j < k
      · simp [e2, show j < k + 1 by omega]
      · simp [e2, show ¬ j < k + 1 by omega]

theorem crash_step (D : Dev) (ps : List Int) (k : Nat) : (D.crashTo ps k).settle k (ps[D.cnt k]?.getD 0) = D.crashTo ps (k + 1) := by
  unfold Dev.settle
  have hy : (D.crashTo ps k).Y k = D.Y k := by simp [Dev.crashTo]
  have hx : (D.crashTo ps k).X k = D.X k := by simp [Dev.crashTo]
  have hp : (D.crashTo ps k).pick k (ps[D.cnt k]?.getD 0) = D.pick k (ps[D.cnt k]?.getD 0) := by
    unfold Dev.pick
    rw [hy, hx]
  rw [hp]
  simp only [Dev.crashTo]
  congr 1
  · funext j
    by_cases e : j = k
    · subst e; simp
    · by_cases e2 : j < k
      · simp [e, e2, show j < k + 1 by omega]
      · simp [e, e2, show ¬ j < k + 1 by omega]
  · funext j
    by_cases e : j = k
    · subst e; simp
    · by_cases e2 : j < k
      · simp [e, e2, show j < k + 1 by omega]
      · simp [e, e2, show ¬ j < k + 1 by omega]

/-- The picks that are left. -/
def Pk (S : Nat → Prop) (w : World) (ps : List Int) (c : Nat) (a : Option Addr) (l cap : Nat) : Prop := l = ps.length - c ∧ IHas w a l (ps.drop c) ∧ Out S l a ∧ l ≤ cap ∧ cap ≤ 9223372036854775807

theorem Pk.nx {S : Nat → Prop} {w w' : World} {ps : List Int} {c : Nat} {a : Option Addr} {l cap : Nat} (h : Pk S w ps c a l cap) (hx : Nx S w S w') : Pk S w' ps c a l cap := ⟨h.1, h.2.1.nx hx h.2.2.1, h.2.2⟩

theorem Pk.next {S : Nat → Prop} {w : World} {ps : List Int} {c : Nat} {a : Option Addr} {l cap : Nat} (h : Pk S w ps c a l cap) (hl : 0 < l) : Pk S w ps (c + 1) (cutAt a cap 1) (l - 1) (cap - 1) := by
  obtain ⟨h1, h2, h3, h4, h5⟩ := h
  refine ⟨by omega, ?_, h3.cut cap, by omega, by omega⟩
  have := h2.cut1 h4 hl
  rwa [List.drop_drop] at this

theorem Pk.none {S : Nat → Prop} {w : World} {ps : List Int} {c : Nat} {a : Option Addr} {cap : Nat} (h : Pk S w ps c a 0 cap) : Pk S w ps (c + 1) a 0 cap := by
  obtain ⟨h1, h2, h3⟩ := h
  refine ⟨by omega, ?_, h3⟩
  have e1 : ps.drop c = [] := List.eq_nil_of_length_eq_zero (by simp; omega)
  have e2 : ps.drop (c + 1) = [] := List.eq_nil_of_length_eq_zero (by simp; omega)
  rw [e1] at h2
  rw [e2]; exact h2

theorem Pk.first {S : Nat → Prop} {w : World} {ps : List Int} {c : Nat} {a : Option Addr} {l cap : Nat} (h : Pk S w ps c a l cap) (hl : 0 < l) : ∃ b off, a = some ⟨b, off, Option.none⟩ ∧ w.cell? ⟨b, off, Option.none⟩ = some (.int .i64 (ps[c]?.getD 0)) := by
  obtain ⟨h1, h2, h3⟩ := h
  obtain ⟨b, off, e, hc⟩ := h2.2 hl
  refine ⟨b, off, e, ?_⟩
  have := hc 0 hl
  rwa [Nat.add_zero, List.getElem?_drop, Nat.add_zero] at this

set_option maxHeartbeats 1000000 in
theorem crash_any (g : Nat) (a : Option Addr) (len cap : Nat) (ps : List Int) (S : Nat → Prop) (D : Dev) (w : World) (hD : Dv w S g D) (hp : IHas w a len ps) (hc : len ≤ cap ∧ cap ≤ 9223372036854775807) (ho : Out S len a) :
    Calls Try.prog 19 #[.pointer (some ⟨g, 0, none⟩), .slice a len cap] w fun e w' => e = .returned (.int .i64 0) ∧ Dv w' S g (D.crash ps) ∧ Nx S w S w' := by
  have hn := hD.ok.n2
  have P0 : Hid (Pk S w ps 0 a len cap) := ⟨by rw [← hp.1]; rfl, by simpa using hp, ho, hc⟩
  have hE : Hid (D.crash ps = (D.crashTo ps D.n).live) := rfl
  obtain ⟨nn, hN⟩ : ∃ nn, nn = D.n := ⟨_, rfl⟩
  have KS : Hid (∀ wr k, k < nn → Dv wr S g (D.crashTo ps k) → ∃ h' aw cw, wr.cell? ⟨g, 1, none⟩ = some (.slice (some ⟨h', 0, none⟩) nn nn) ∧ wr.cell? ⟨h', k * 2 + 1, none⟩ = some (.slice aw (D.Y k).length cw) ∧
      Hid (∀ q, q = ps[D.cnt k]?.getD 0 → Calls Try.prog 44 #[.pointer (some ⟨h', k * 2, none⟩), .int .i64 q] wr fun e w' => e = .returned (.tuple #[]) ∧ Dv w' S g (D.crashTo ps (k + 1)) ∧ Nx S wr S w') ∧
      Hid (∀ q, q = ps[D.cnt k]?.getD 0 → Calls Try.prog 44 #[.pointer (some ⟨h', k * 2, none⟩), .int .i64 q] wr.drew fun e w' => e = .returned (.tuple #[]) ∧ Dv w' S g (D.crashTo ps (k + 1)) ∧ Nx S wr S w')) := by
    intro wr k hk h
    have hd : Dv wr.drew S g (D.crashTo ps k) := h.kept (fun _ _ => rfl) (Nat.le_refl _)
    obtain ⟨m, hm⟩ := h
    have hk' : k < (D.crashTo ps k).n := by rw [hN] at hk; exact hk
    have e1 : (D.crashTo ps k).n = nn := by rw [hN]; rfl
    have e2 : (D.crashTo ps k).Y k = D.Y k := by simp [Dev.crashTo]
    obtain ⟨aw, cw, ew, _⟩ := (hm.wai k hk').shape
    have x1 := hm.cells.2.1
    have x2 := (hm.place hk').2.1
    rw [e1] at x1
    rw [ew, e2, Nat.mul_comm 2 k] at x2
    have hmd : DvM wr.drew S g (D.crashTo ps k) m := hm.kept (fun _ _ => rfl) (fun _ h => h) hm.lt
    refine ⟨m.h, aw, cw, x1, x2, fun q hq => ?_, fun q hq => ?_⟩
    · have := settle_any (k * 2) k m.h q S g _ m wr hm hk' (Nat.mul_comm _ _) rfl
      rw [hq, crash_step] at this
      rw [hq]
      exact this
    · have := settle_any (k * 2) k m.h q S g _ m wr.drew hmd hk' (Nat.mul_comm _ _) rfl
      rw [hq, crash_step] at this
      rw [hq]
      refine this.mono ?_
      rintro e w' ⟨y1, y2, y3⟩
      exact ⟨y1, y2, ⟨⟨y3.fr.os, y3.fr.tape, y3.fr.output, y3.fr.size, y3.fr.block⟩, y3.sub⟩⟩
  have KC : Hid (∃ h', w.cell? ⟨g, 1, none⟩ = some (.slice (some ⟨h', 0, none⟩) nn nn)) := by
    obtain ⟨m, h⟩ := hD
    rw [hN]
    exact ⟨m.h, h.cells.2.1⟩
  have KF : Hid (∀ wr D1, Dv wr S g D1 → ∃ x2 x3 x4, wr.cell? ⟨g, 2, none⟩ = some (.bool x2) ∧ wr.cell? ⟨g, 3, none⟩ = some (.int .i64 x3) ∧ wr.cell? ⟨g, 4, none⟩ = some (.bool x4) ∧ (∀ k, wr.frozen? ⟨g, k, none⟩ = false) ∧
      Hid (Dv (((wr.setCell ⟨g, 4, none⟩ (.bool false)).setCell ⟨g, 2, none⟩ (.bool false)).setCell ⟨g, 3, none⟩ (.int .i64 0)) S g D1.live ∧ Nx S wr S (((wr.setCell ⟨g, 4, none⟩ (.bool false)).setCell ⟨g, 2, none⟩ (.bool false)).setCell ⟨g, 3, none⟩ (.int .i64 0)))) := by
    intro wr D1 h
    obtain ⟨m, h⟩ := h
    obtain ⟨c0, c1, c2, c3, c4, c5⟩ := h.cells
    exact ⟨_, _, _, c2, c3, c4, h.free, h.setL⟩
  have F0 : Hid (Dv w S g (D.crashTo ps 0)) := by rw [crash_start]; exact hD
  rw [← hN] at hn hE
  have Nn : Hid (Nx S w S w) := Nx.refl _ _
  clear hN hD hp hc ho
  rw [unhide hE]
  clear hE
  obtain ⟨h0, c1⟩ := unhide KC
  clear KC
  go_enter Try.func19, Try.ntmps19
  go_upto_region 4 with fail
  clear c1
  go_loopw [15, 1] (fun i p wr => ∃ (k : Nat) (a' : Option Addr) (l' c' : Nat), k ≤ nn ∧ i = .int .i64 (k : Int) ∧ p = .slice a' l' c' ∧ Hid (Pk S wr ps (D.cnt k) a' l' c') ∧ Hid (Dv wr S g (D.crashTo ps k)) ∧ Hid (Nx S w S wr)) (fun i _ _ => nn - (intOf i).toNat)
  case atStart => exact ⟨0, a, len, cap, Nat.zero_le _, rfl, rfl, P0, F0, Nn⟩
  case round =>
    obtain ⟨k, a', l', c', hk, rfl, rfl, hP, hF, hX⟩ := hrel
    clear F0 Nn P0
    by_cases hlt : k < nn
    · obtain ⟨h', aw, cw, x1, x2, x3, x4⟩ := unhide KS wr k hlt (unhide hF)
      clear KS KF
      by_cases hY : D.Y k = []
      · rw [hY] at x2
        simp only [List.length_nil] at x2
        have P2 : Hid (Pk S wr ps (D.cnt (k + 1)) a' l' c') := by
          have e : D.cnt (k + 1) = D.cnt k := by simp [Dev.cnt, hY]
          rw [e]; exact unhide hP
        have F2 : Hid (Dv wr S g (D.crashTo ps (k + 1))) := by rw [← crash_skip D ps k hY]; exact unhide hF
        clear x3 x4 hP hF hY
        go_wp2_with fail
        exact ⟨⟨k + 1, a', l', c', by omega, by go_num, rfl, P2, F2, hX⟩, by simp [intOf]; omega⟩
      · have hl : (((D.Y k).length : Int) == 0) = false := by
          have := List.length_pos_iff.2 hY
          simp; exact hY
        have ec := hide (show D.cnt (k + 1) = D.cnt k + 1 by simp [Dev.cnt, hY])
        clear hY
        generalize (D.Y k).length = ly at *
        by_cases h0 : l' = 0
        · subst h0
          have eq : (0 : Int) = ps[D.cnt k]?.getD 0 := by
            have := (unhide hP).1
            rw [List.getElem?_eq_none (by omega)]; rfl
          have x5 := hide (unhide x3 0 eq)
          have P2 : Hid (Pk S wr ps (D.cnt (k + 1)) a' 0 c') := by rw [unhide ec]; exact (unhide hP).none
          clear x3 x4 eq
          go_wp2_with fail
          go_at_call 44
          refine (unhide x5).mono ?_
          rintro e w2 ⟨rfl, h3, h4⟩
          have F2 := hide h3
          have P3 := hide ((unhide P2).nx h4)
          have X2 := hide ((unhide hX).trans h4)
          clear x5 h3 h4 hF hX hP P2 x1 x2 ec
          go_wp2_with fail
          exact ⟨⟨k + 1, a', 0, c', by omega, by go_num, rfl, P3, F2, X2⟩, by simp [intOf]; omega⟩
        · have hl0 : 0 < l' := by omega
          obtain ⟨b, off, rfl, y1⟩ := (unhide hP).first hl0
          have y2 : wr.drew.cell? ⟨b, off, none⟩ = some (.int .i64 (ps[D.cnt k]?.getD 0)) := y1
          have x5 := hide (unhide x4 _ rfl)
          have P2 : Hid (Pk S wr ps (D.cnt (k + 1)) (cutAt (some ⟨b, off, none⟩) c' 1) (l' - 1) (c' - 1)) := by rw [unhide ec]; exact (unhide hP).next hl0
          have hcut := fun w => run_icut (some ⟨b, off, none⟩) l' c' hl0 w
          generalize hcc : cutAt (some ⟨b, off, none⟩) c' 1 = a2 at *
          clear x3 x4 hcc hP
          generalize ps[D.cnt k]?.getD 0 = q at *
          go_upto_region 10 with fail
          go_region
          go_wp2_with fail
          go_at_call 44
          refine (unhide x5).mono ?_
          rintro e w2 ⟨rfl, h3, h4⟩
          have F2 := hide h3
          have P3 := hide ((unhide P2).nx h4)
          have X2 := hide ((unhide hX).trans h4)
          clear x5 h3 h4 hF hX P2 x1 x2 ec hcut y1 y2
          go_wp2_with fail
          exact ⟨⟨k + 1, _, _, _, by omega, by go_num, rfl, P3, F2, X2⟩, by simp [intOf]; omega⟩
    · obtain rfl : k = nn := by omega
      obtain ⟨x2, x3, x4, y2, y3, y4, y5, y6⟩ := unhide KF wr _ (unhide hF)
      clear KS KF hF hP
      have f2 := y5 2
      have f3 := y5 3
      have f4 := y5 4
      clear y5
      go_wp2_with fail
      go_ret
      exact ⟨rfl, (unhide y6).1, (unhide hX).trans (unhide y6).2⟩

end Go.Proofs.Ytpkhllpghjldhaa
