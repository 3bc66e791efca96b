/- The contracts of the document's device: Flush, Waiting. -/
import Derived.Test.YtikpmchjlpobdaaDRRead
import Derived.BigRegion
namespace Go.Proofs.Ytikpmchjlpobdaa
open Go.RowKit Go.Shelf
set_option linter.unusedVariables false

theorem flush_put (D : Dev) (k : Nat) : (D.flushTo k).put k (D.rd k) [] = D.flushTo (k + 1) := by
  unfold Dev.put
  simp only [Dev.flushTo]
  congr 1
  · funext j
    by_cases e : j = k
    · subst e; simp
    · by_cases e2 : j < k
      · simp [e, e2, show j < k + 1 by omega]
      · simp [e, e2, show ¬ j < k + 1 by omega]
  · funext j
    by_cases e : j = k
    · subst e; simp
    · by_cases e2 : j < k
      · simp [e, e2, show j < k + 1 by omega]
      · simp [e, e2, show ¬ j < k + 1 by omega]

theorem Rv.drew {w : World} {S : Nat → Prop} {g : Nat} {D : Dev} (h : Rv w S g D) : Rv w.drew S g D := h.kept (fun _ _ => rfl) (Nat.le_refl _)

theorem Nx.drew {S S' : Nat → Prop} {w w' : World} (h : Nx S w S' w') : Nx S w S' w'.drew := ⟨⟨h.fr.os, h.fr.tape, h.fr.output, h.fr.size, h.fr.block⟩, h.sub⟩

/-- Row j of block k, stored as its only one. -/
theorem Rv.one {w : World} {S : Nat → Prop} {g : Nat} {D : Dev} (h : Rv w S g D) {k : Nat} (hk : k < D.n) (j : Nat) (hj : j ≤ (D.Y k).length) :
    ∃ hh hc kk c r1 r2, w.cell? ⟨g, 1, none⟩ = some (.slice (some ⟨hh, 0, none⟩) D.n hc) ∧ (∀ o, (w.alloc o).cell? ⟨g, 1, none⟩ = some (.slice (some ⟨hh, 0, none⟩) D.n hc)) ∧
      w.cell? ⟨hh, k, none⟩ = some (.slice (some ⟨kk, 0, none⟩) ((D.Y k).length + 1) c) ∧ (∀ o, (w.alloc o).cell? ⟨hh, k, none⟩ = some (.slice (some ⟨kk, 0, none⟩) ((D.Y k).length + 1) c)) ∧ (∀ o, (w.alloc o).frozen? ⟨hh, k, none⟩ = false) ∧
      w.cell? ⟨kk, j, none⟩ = some (.slice (some ⟨r1, 0, none⟩) D.blk r2) ∧ (∀ o, (w.alloc o).cell? ⟨kk, j, none⟩ = some (.slice (some ⟨r1, 0, none⟩) D.blk r2)) ∧
      Hid (∃ S', Rv ((w.alloc (.cells #[.slice (some ⟨r1, 0, none⟩) D.blk r2] 31)).setCell ⟨hh, k, none⟩ (.slice (some ⟨w.heap.size, 0, none⟩) 1 1)).drew S' g (D.put k ((D.X k :: D.Y k)[j]?.getD []) []) ∧ Nx S w S' ((w.alloc (.cells #[.slice (some ⟨r1, 0, none⟩) D.blk r2] 31)).setCell ⟨hh, k, none⟩ (.slice (some ⟨w.heap.size, 0, none⟩) 1 1)).drew) := by
  obtain ⟨m, h⟩ := h
  obtain ⟨kk, c, e1, e2, e3, e4, l1, l2, l3⟩ := h.list hk
  obtain ⟨r, l4, l5⟩ := l3 j (by omega)
  have hal : ∀ (p : Addr) (v : Value) (o : Obj), w.cell? p = some v → (w.alloc o).cell? p = some v := fun p v o hc => by
    have hb := (Below.refl w.heap.size w).alloc (Nat.le_refl _) o
    rw [hb.cell (p := p) (cell_block_lt hc)]
    exact hc
  refine ⟨m.h, m.hc, kk, c, r.1, r.2, h.cells.2.1, fun o => hal _ _ o h.cells.2.1, l1, fun o => hal _ _ o l1, fun o => (h.lis.alloc o).frozen k, l4, fun o => hal _ _ o l4, ?_⟩
  obtain ⟨S', x1, x2⟩ := h.fresh hk (Below.refl _ _) (l5.kept (S' := exS S w w) (fun _ _ _ _ => rfl) (fun k hk => .inl hk))
  exact ⟨S', x1.drew, x2.drew⟩

theorem rflush_dies (g : Nat) (S : Nat → Prop) (D : Dev) (w : World) (hD : Rv w S g D) (hb : D.burnt) :
    Calls Try.prog 18 #[.pointer (some ⟨g, 0, none⟩)] w fun e w' => e = .returned (.int .i64 7) ∧ Rv w' S g D.die ∧ Nx S w S w' := by
  have K := hide (rburn_dies g S D w hD hb)
  clear hD hb
  go_enter Try.func18, Try.ntmps18
  go_wp2_with fail
  go_at_call 49
  refine (unhide K).mono ?_
  rintro e w' ⟨rfl, h1⟩
  have F := hide h1
  clear K h1
  go_wp2
  go_ret
  exact ⟨rfl, unhide F⟩

set_option maxHeartbeats 2000000 in
theorem rflush_ok (g : Nat) (S : Nat → Prop) (D : Dev) (w : World) (hD : Rv w S g D) (hb : ¬ D.burnt) :
    Calls Try.prog 18 #[.pointer (some ⟨g, 0, none⟩)] w fun e w' => e = .returned (.int .i64 0) ∧ ∃ S', Rv w' S' g D.burn.flush ∧ Nx S w S' w' := by
  have K := hide (rburn_burns g S D w hD hb)
  have hn := hD.ok.n2
  have hE : Hid (D.burn.flush = D.burn.flushTo D.n) := rfl
  obtain ⟨nn, hN⟩ : ∃ nn, nn = D.n := ⟨_, rfl⟩
  have hyb : Hid (∀ k, k < nn → (D.burn.Y k).length ≤ 400) := by rw [hN]; exact hD.ok.y
  have KS : Hid (∀ wr S1 k, k < nn → Rv wr S1 g (D.burn.flushTo k) → Nx S w S1 wr → ∃ hh hc kk c r1 r2, wr.cell? ⟨g, 1, none⟩ = some (.slice (some ⟨hh, 0, none⟩) nn hc) ∧ (∀ o, (wr.alloc o).cell? ⟨g, 1, none⟩ = some (.slice (some ⟨hh, 0, none⟩) nn hc)) ∧
      wr.cell? ⟨hh, k, none⟩ = some (.slice (some ⟨kk, 0, none⟩) ((D.burn.Y k).length + 1) c) ∧ (∀ o, (wr.alloc o).cell? ⟨hh, k, none⟩ = some (.slice (some ⟨kk, 0, none⟩) ((D.burn.Y k).length + 1) c)) ∧ (∀ o, (wr.alloc o).frozen? ⟨hh, k, none⟩ = false) ∧
      wr.cell? ⟨kk, (D.burn.Y k).length, none⟩ = some (.slice (some ⟨r1, 0, none⟩) D.burn.blk r2) ∧ (∀ o, (wr.alloc o).cell? ⟨kk, (D.burn.Y k).length, none⟩ = some (.slice (some ⟨r1, 0, none⟩) D.burn.blk r2)) ∧
      Hid (∃ S', Rv ((wr.alloc (.cells #[.slice (some ⟨r1, 0, none⟩) D.burn.blk r2] 31)).setCell ⟨hh, k, none⟩ (.slice (some ⟨wr.heap.size, 0, none⟩) 1 1)).drew S' g (D.burn.flushTo (k + 1)) ∧ Nx S w S' ((wr.alloc (.cells #[.slice (some ⟨r1, 0, none⟩) D.burn.blk r2] 31)).setCell ⟨hh, k, none⟩ (.slice (some ⟨wr.heap.size, 0, none⟩) 1 1)).drew)) := by
    intro wr S1 k hk h hx
    have e2 : (D.burn.flushTo k).Y k = D.burn.Y k := by simp [Dev.flushTo]
    have e3 : (D.burn.flushTo k).X k = D.burn.X k := by simp [Dev.flushTo]
    obtain ⟨hh, hc, kk, c, r1, r2, x1, x2, x3, x4, x5, x6, x7, S', x8, x9⟩ := h.one (k := k) (by rw [hN] at hk; exact hk) (D.burn.Y k).length (by rw [e2]; exact Nat.le_refl _)
    rw [e2] at x3 x4
    rw [e2, e3, rd_last, flush_put] at x8
    rw [hN]
    exact ⟨hh, hc, kk, c, r1, r2, x1, x2, x3, x4, x5, x6, x7, S', x8, hx.trans x9⟩
  have KC : Hid (∀ wr S1 k, Rv wr S1 g (D.burn.flushTo k) → ∃ h' hc, wr.cell? ⟨g, 1, none⟩ = some (.slice (some ⟨h', 0, none⟩) nn hc)) := by
    intro wr S1 k h
    obtain ⟨m, h⟩ := h
    rw [hN]
    exact ⟨m.h, m.hc, h.cells.2.1⟩
  rw [← flush_start D.burn] at K
  rw [← hN] at hn hE
  clear hb hN hD
  generalize D.burn = D1 at *
  rw [unhide hE]
  clear hE
  go_enter Try.func18, Try.ntmps18
  go_wp2_with fail
  go_at_call 49
  refine (unhide K).mono ?_
  rintro e w1 ⟨rfl, h1, h2⟩
  have F : Hid (∃ S', Rv w1 S' g (D1.flushTo 0) ∧ Nx S w S' w1) := ⟨S, h1, h2⟩
  clear K h1 h2
  go_upto_region 4 with fail
  go_loopw [3] (fun i wr => ∃ k : Nat, k ≤ nn ∧ i = .int .i64 (k : Int) ∧ Hid (∃ S', Rv wr S' g (D1.flushTo k) ∧ Nx S w S' wr)) (fun i _ => nn - (intOf i).toNat)
  case atStart => exact ⟨0, Nat.zero_le _, rfl, F⟩
  case round =>
    obtain ⟨k, hk, rfl, hF⟩ := hrel
    clear F
    obtain ⟨S1, f1, f2⟩ := unhide hF
    by_cases hlt : k < nn
    · obtain ⟨hh, hc, kk, c, r1, r2, x1, x2, x3, x4, x5, x6, x7, x8⟩ := unhide KS wr S1 k hlt f1 f2
      have y1 : wr.drew.cell? ⟨g, 1, none⟩ = some (.slice (some ⟨hh, 0, none⟩) nn hc) := x1
      have y3 : wr.drew.cell? ⟨hh, k, none⟩ = some (.slice (some ⟨kk, 0, none⟩) ((D1.Y k).length + 1) c) := x3
      have y6 : wr.drew.cell? ⟨kk, (D1.Y k).length, none⟩ = some (.slice (some ⟨r1, 0, none⟩) D1.blk r2) := x6
      have hly := unhide hyb k hlt
      have hin : (k : Int) < (nn : Int) := by omega
      generalize (D1.Y k).length = ly at *
      generalize D1.blk = bb at *
      have m1 : IntKind.i64.wrap (((ly + 1 : Nat) : Int) - 1) = (ly : Int) := by rw [IntKind.wrap_i64]; omega
      have m2 : wrap64 (((ly + 1 : Nat) : Int) - 1) = (ly : Int) := by unfold wrap64; omega
      have m3 : ((ly + 1 : Nat) : Int) - 1 = (ly : Int) := by omega
      have m4 : (ly : Int) < ((ly + 1 : Nat) : Int) := by omega
      clear KS KC hF f1 f2 hyb
      go_upto_region 6 with fail
      clear x1
      go_region
      all_goals
        go_wp2_with fail
        exact ⟨⟨k + 1, by omega, by go_num, x8⟩, by simp [intOf]; omega⟩
    · obtain ⟨h', hc, c1⟩ := unhide KC wr S1 k f1
      have hkn : k = nn := by omega
      have F2 : Hid (∃ S', Rv wr S' g (D1.flushTo nn) ∧ Nx S w S' wr) := by rw [← hkn]; exact hF
      have nk : ¬ (k : Int) < (nn : Int) := by omega
      clear KS KC hF f1 f2 hkn hyb
      go_wp2_with fail
      go_ret
      exact ⟨rfl, unhide F2⟩

end Go.Proofs.Ytikpmchjlpobdaa
