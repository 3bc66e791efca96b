/- The contracts of Write and Flush. -/
import Derived.Test.YtpkhllpghjldhaaDWait
namespace Go.Proofs.Ytpkhllpghjldhaa
open Go.RowKit Go.Shelf
set_option linter.unusedVariables false

/-- A slice that lies in no block of S. -/
def Out (S : Nat → Prop) (len : Nat) (a : Option Addr) : Prop := 0 < len → ∀ x, a = some x → ¬ S x.block

theorem Row.nx {S S' : Nat → Prop} {w w' : World} {a : Option Addr} {len cap : Nat} {zs : List Int} (h : Row w.heap.size w a len cap zs) (hx : Nx S w S' w') (ho : Out S len a) : Row w'.heap.size w' a len cap zs := by
  obtain ⟨h1, h2, h3, h4, h5⟩ := h
  refine ⟨h1, h2, h3, h4, fun hp => ?_⟩
  obtain ⟨b, off, e, hlt, hc⟩ := h5 hp
  have hk := hx.keep hlt (ho hp _ e)
  exact ⟨b, off, e, hk.2.2, fun j hj => (World.cell?_of_block (a := ⟨b, off + j, none⟩) hk.1).trans (hc j hj)⟩

theorem IHas.nx {S S' : Nat → Prop} {w w' : World} {a : Option Addr} {len : Nat} {zs : List Int} (h : IHas w a len zs) (hx : Nx S w S' w') (ho : Out S len a) : IHas w' a len zs := by
  obtain ⟨h1, h5⟩ := h
  refine ⟨h1, fun hp => ?_⟩
  obtain ⟨b, off, e, hc⟩ := h5 hp
  have hlt : b < w.heap.size := cell_block_lt (hc 0 hp)
  have hk := hx.keep hlt (ho hp _ e)
  exact ⟨b, off, e, fun j hj => (World.cell?_of_block (a := ⟨b, off + j, none⟩) hk.1).trans (hc j hj)⟩

theorem Row.out {S : Nat → Prop} {B : Nat} {w : World} {a : Option Addr} {len cap : Nat} {zs : List Int} (h : Row B w a len cap zs) (hS : ∀ k, S k → B ≤ k) : Out S len a := fun hp x e hx => by
  obtain ⟨b, off, e', hlt, _⟩ := h.2.2.2.2 hp
  rw [e] at e'
  cases e'
  have := hS _ hx
  simp only at this
  omega

theorem write_bad (g : Nat) (b : Int) (a : Option Addr) (len cap : Nat) (S : Nat → Prop) (D : Dev) (w : World) (hD : Dv w S g D) (hr : refE D b len ≠ 0) :
    Calls Try.prog 59 #[.pointer (some ⟨g, 0, none⟩), .int .i64 b, .slice a len cap] w fun e w' => e = .returned (.int .i64 (refE D b len)) ∧ w = w' := by
  have H := hide (refuses_dev g b a len cap S D w hD)
  have hz : (refE D b len != 0) = true := by simpa using hr
  generalize refE D b len = q at *
  clear hD hr
  go_enter Try.func59, Try.ntmps59
  go_wp2_with fail
  go_at_call 65
  refine (unhide H).mono ?_
  rintro e w' ⟨rfl, rfl⟩
  clear H
  go_wp2
  go_ret
  exact ⟨rfl, rfl⟩

theorem refE_ok {D : Dev} {i : Nat} (hi : i < D.n) : refE D i D.blk = 0 := by unfold refE; rw [if_neg (by omega)]; simp

theorem write_dies (g i : Nat) (a : Option Addr) (cap : Nat) (S : Nat → Prop) (D : Dev) (w : World) (hD : Dv w S g D) (hi : i < D.n) (hb : D.burnt) :
    Calls Try.prog 59 #[.pointer (some ⟨g, 0, none⟩), .int .i64 i, .slice a D.blk cap] w fun e w' => e = .returned (.int .i64 7) ∧ Dv w' S g D.die ∧ Nx S w S w' := by
  have H := refuses_dev g i a D.blk cap S D w hD
  rw [refE_ok hi] at H
  replace H := hide H
  have K := hide (burn_dies g S D w hD hb)
  clear hD hb
  generalize D.blk = bb at *
  go_enter Try.func59, Try.ntmps59
  go_wp2_with fail
  go_at_call 65
  refine (unhide H).mono ?_
  rintro e w' ⟨rfl, rfl⟩
  clear H
  go_wp2_with fail
  go_at_call 43
  refine (unhide K).mono ?_
  rintro e w' ⟨rfl, h1⟩
  have F := hide h1
  clear K h1
  go_wp2
  go_ret
  exact ⟨rfl, unhide F⟩

theorem write_ok (g i : Nat) (a : Option Addr) (cap : Nat) (zs : List Int) (S : Nat → Prop) (D : Dev) (w : World) (hD : Dv w S g D) (hi : i < D.n) (hb : ¬ D.burnt) (hr : Row w.heap.size w a D.blk cap zs) (ho : Out S D.blk a) (hy : (D.Y i).length < 400) :
    Calls Try.prog 59 #[.pointer (some ⟨g, 0, none⟩), .int .i64 i, .slice a D.blk cap] w fun e w' => e = .returned (.int .i64 0) ∧ ∃ S', Dv w' S' g (D.burn.add i zs) ∧ Nx S w S' w' := by
  have H := refuses_dev g i a D.blk cap S D w hD
  rw [refE_ok hi] at H
  replace H := hide H
  have K := hide (burn_burns g S D w hD hb)
  have KW : Hid (∀ w1, Dv w1 S g D.burn → Nx S w S w1 → ∃ h n, w1.cell? ⟨g, 1, none⟩ = some (.slice (some ⟨h, 0, none⟩) n n) ∧ i < n ∧ n ≤ 4096 ∧ ∀ o, o = 2 * i →
      Calls Try.prog 66 #[.pointer (some ⟨h, o, none⟩), .slice a D.blk cap] w1 fun e w' => e = .returned (.tuple #[]) ∧ ∃ S', Dv w' S' g (D.burn.add i zs) ∧ Nx S w S' w') := by
    intro w1 hD1 hx
    obtain ⟨m, hm⟩ := hD1
    refine ⟨m.h, D.n, hm.cells.2.1, hi, hm.ok.n2, fun o ho2 => ?_⟩
    refine (wait_room o i m.h a cap zs S g D.burn m w1 hm hi ho2 rfl hy (hr.nx hx ho)).mono ?_
    rintro e w' ⟨e1, S', h1, h2⟩
    exact ⟨e1, S', h1, hx.trans h2⟩
  clear hD hb hr ho hy
  generalize D.burn.add i zs = D' at *
  generalize D.burn = D1 at *
  generalize D.blk = bb at *
  go_enter Try.func59, Try.ntmps59
  go_wp2_with fail
  go_at_call 65
  refine (unhide H).mono ?_
  rintro e w' ⟨rfl, rfl⟩
  clear H
  go_wp2_with fail
  go_at_call 43
  refine (unhide K).mono ?_
  rintro e w1 ⟨rfl, h1, h2⟩
  obtain ⟨h, n, c1, hin, hn, KW2⟩ := unhide KW w1 h1 h2
  replace KW := hide KW2
  clear K h1 h2 KW2
  go_wp2_with fail
  go_at_call 66
  refine (unhide KW _ (by omega)).mono ?_
  rintro e w2 ⟨rfl, h3⟩
  have F := hide h3
  clear KW h3
  go_wp2
  go_ret
  exact ⟨rfl, unhide F⟩

/-- The first k blocks are flushed. -/
def Dev.flushTo (D : Dev) (k : Nat) : Dev := { D with X := fun i => if i < k then D.rd i else D.X i, Y := fun i => if i < k then [] else D.Y i }

def Dev.flush (D : Dev) : Dev := D.flushTo D.n

theorem flush_start (D : Dev) : D.flushTo 0 = D := by cases D; simp [Dev.flushTo]

theorem flush_step (D : Dev) (k : Nat) : (D.flushTo k).settle k ((D.Y k).length : Int) = D.flushTo (k + 1) := by
  unfold Dev.settle
  have hy : (D.flushTo k).Y k = D.Y k := by simp [Dev.flushTo]
  have hx : (D.flushTo k).X k = D.X k := by simp [Dev.flushTo]
  have hp : (D.flushTo k).pick k ((D.Y k).length : Int) = D.rd k := by
    unfold Dev.pick Dev.rd
    rw [hy, hx]
    by_cases h0 : D.Y k = []
    · simp [h0]
    · have hl : 0 < (D.Y k).length := List.length_pos_iff.2 h0
      rw [if_neg (by omega), List.getLast?_eq_getElem?, show min ((D.Y k).length : Int).toNat (D.Y k).length - 1 = (D.Y k).length - 1 by omega]
  rw [hp]
  simp only [Dev.flushTo]
  congr 1
  · funext j
    by_cases e : j = k
    · subst e; simp
    · by_cases e2 : j < k
      · simp [e, e2, show j < k + 1 by omega]
      · simp [e, e2, show ¬ j < k + 1 by omega]
  · funext j
    by_cases e : j = k
    · subst e; simp
    · by_cases e2 : j < k
      · simp [e, e2, show j < k + 1 by omega]
      · simp [e, e2, show ¬ j < k + 1 by omega]

/-- What a walk wants of a device at place k. -/
theorem Dv.at {w : World} {S : Nat → Prop} {g : Nat} {D : Dev} (h : Dv w S g D) {k : Nat} (hk : k < D.n) :
    ∃ h' aw cw, w.cell? ⟨g, 1, none⟩ = some (.slice (some ⟨h', 0, none⟩) D.n D.n) ∧ w.cell? ⟨h', 2 * k + 1, none⟩ = some (.slice aw (D.Y k).length cw) ∧ (∀ o (j : Int), o = 2 * k → Calls Try.prog 44 #[.pointer (some ⟨h', o, none⟩), .int .i64 j] w fun e w' => e = .returned (.tuple #[]) ∧ Dv w' S g (D.settle k j) ∧ Nx S w S w') := by
  obtain ⟨m, h⟩ := h
  obtain ⟨aw, cw, ew, _⟩ := (h.wai k hk).shape
  refine ⟨m.h, aw, cw, h.cells.2.1, ?_, fun o j ho => settle_any o k m.h j S g D m w h hk ho rfl⟩
  rw [(h.place hk).2.1, ew]

theorem flush_dies (g : Nat) (S : Nat → Prop) (D : Dev) (w : World) (hD : Dv w S g D) (hb : D.burnt) :
    Calls Try.prog 18 #[.pointer (some ⟨g, 0, none⟩)] w fun e w' => e = .returned (.int .i64 7) ∧ Dv w' S g D.die ∧ Nx S w S w' := by
  have K := hide (burn_dies g S D w hD hb)
  clear hD hb
  go_enter Try.func18, Try.ntmps18
  go_wp2_with fail
  go_at_call 43
  refine (unhide K).mono ?_
  rintro e w' ⟨rfl, h1⟩
  have F := hide h1
  clear K h1
  go_wp2
  go_ret
  exact ⟨rfl, unhide F⟩

set_option maxHeartbeats 1000000 in
theorem flush_ok (g : Nat) (S : Nat → Prop) (D : Dev) (w : World) (hD : Dv w S g D) (hb : ¬ D.burnt) :
    Calls Try.prog 18 #[.pointer (some ⟨g, 0, none⟩)] w fun e w' => e = .returned (.int .i64 0) ∧ Dv w' S g D.burn.flush ∧ Nx S w S w' := by
  have K := hide (burn_burns g S D w hD hb)
  have hn := hD.ok.n2
  have hE : Hid (D.burn.flush = D.burn.flushTo D.n) := rfl
  obtain ⟨nn, hN⟩ : ∃ nn, nn = D.n := ⟨_, rfl⟩
  have KS : Hid (∀ wr k, k < nn → Dv wr S g (D.burn.flushTo k) → ∃ h' aw cw, wr.cell? ⟨g, 1, none⟩ = some (.slice (some ⟨h', 0, none⟩) nn nn) ∧ wr.cell? ⟨h', k * 2 + 1, none⟩ = some (.slice aw (D.burn.Y k).length cw) ∧ Hid (Calls Try.prog 44 #[.pointer (some ⟨h', k * 2, none⟩), .int .i64 ((D.burn.Y k).length : Int)] wr fun e w' => e = .returned (.tuple #[]) ∧ Dv w' S g (D.burn.flushTo (k + 1)) ∧ Nx S wr S w')) := by
    intro wr k hk h
    obtain ⟨h', aw, cw, x1, x2, x3⟩ := h.at (k := k) (by rw [hN] at hk; exact hk)
    have e1 : (D.burn.flushTo k).n = nn := by rw [hN]; rfl
    have e2 : (D.burn.flushTo k).Y k = D.burn.Y k := by simp [Dev.flushTo]
    rw [e1] at x1
    rw [e2, Nat.mul_comm 2 k] at x2
    have x4 := x3 (k * 2) ((D.burn.Y k).length : Int) (Nat.mul_comm _ _)
    rw [flush_step] at x4
    exact ⟨h', aw, cw, x1, x2, x4⟩
  have KC : Hid (∀ wr, Dv wr S g (D.burn.flushTo 0) → ∃ h', wr.cell? ⟨g, 1, none⟩ = some (.slice (some ⟨h', 0, none⟩) nn nn)) := by
    intro wr h
    obtain ⟨m, h⟩ := h
    rw [hN]
    exact ⟨m.h, h.cells.2.1⟩
  rw [← flush_start D.burn] at K
  rw [← hN] at hn hE
  clear hb hN hD
  generalize D.burn = D1 at *
  rw [unhide hE]
  clear hE
  go_enter Try.func18, Try.ntmps18
  go_wp2_with fail
  go_at_call 43
  refine (unhide K).mono ?_
  rintro e w1 ⟨rfl, h1, h2⟩
  obtain ⟨h', c1⟩ := unhide KC w1 h1
  have F := hide h1
  have Nn := hide h2
  clear K KC h1 h2
  go_upto_region 7 with fail
  clear c1
  go_loopw [18] (fun i wr => ∃ k : Nat, k ≤ nn ∧ i = .int .i64 (k : Int) ∧ Hid (Dv wr S g (D1.flushTo k)) ∧ Hid (Nx S w S wr)) (fun i _ => nn - (intOf i).toNat)
  case atStart => exact ⟨0, Nat.zero_le _, rfl, F, Nn⟩
  case round =>
    obtain ⟨k, hk, rfl, hF, hX⟩ := hrel
    clear F Nn
    by_cases hlt : k < nn
    · obtain ⟨h', aw, cw, x1, x2, x3⟩ := unhide KS wr k hlt (unhide hF)
      generalize (D1.Y k).length = ly at *
      clear KS
      go_wp2_with fail
      go_at_call 44
      refine (unhide x3).mono ?_
      rintro e w2 ⟨rfl, h3, h4⟩
      have F2 := hide h3
      have X2 := hide ((unhide hX).trans h4)
      clear x3 h3 h4 hF hX x1 x2
      go_wp2_with fail
      exact ⟨⟨k + 1, by omega, by go_num, F2, X2⟩, by simp [intOf]; omega⟩
    · obtain rfl : k = nn := by omega
      clear KS
      go_wp2_with fail
      go_ret
      exact ⟨rfl, unhide hF, unhide hX⟩

end Go.Proofs.Ytpkhllpghjldhaa
