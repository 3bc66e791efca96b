/- The contract of the document's Write, where there is room. -/
import Derived.Test.YtikpmchjlpobdaaDRWrite
namespace Go.Proofs.Ytikpmchjlpobdaa
open Go.RowKit Go.Shelf
set_option linter.unusedVariables false

/-- What the region that lets a write wait wants: the device in w. -/
structure WK (g i nn lenY bb : Nat) (a : Option Addr) (cap : Nat) (P : World → Prop) (w : World) (hh hc kk cl k c' : Nat) (w2 : World) (a2 : Option Addr) (c2 : Nat) (w3 : World) : Prop where
  x1 : w.cell? ⟨g, 1, none⟩ = some (.slice (some ⟨hh, 0, none⟩) nn hc)
  x2 : ∀ o, (w.alloc o).cell? ⟨g, 1, none⟩ = some (.slice (some ⟨hh, 0, none⟩) nn hc)
  x3 : w2.cell? ⟨g, 1, none⟩ = some (.slice (some ⟨hh, 0, none⟩) nn hc)
  x4 : ∀ o, (w2.alloc o).cell? ⟨g, 1, none⟩ = some (.slice (some ⟨hh, 0, none⟩) nn hc)
  x5 : w3.cell? ⟨g, 1, none⟩ = some (.slice (some ⟨hh, 0, none⟩) nn hc)
  y1 : w.cell? ⟨hh, i, none⟩ = some (.slice (some ⟨kk, 0, none⟩) (lenY + 1) cl)
  y2 : ∀ o, (w.alloc o).cell? ⟨hh, i, none⟩ = some (.slice (some ⟨kk, 0, none⟩) (lenY + 1) cl)
  y3 : w2.cell? ⟨hh, i, none⟩ = some (.slice (some ⟨kk, 0, none⟩) (lenY + 1) cl)
  y4 : ∀ o, (w2.alloc o).cell? ⟨hh, i, none⟩ = some (.slice (some ⟨kk, 0, none⟩) (lenY + 1) cl)
  y5 : w3.cell? ⟨hh, i, none⟩ = some (.slice (some ⟨kk, 0, none⟩) (lenY + 1) cl)
  y6 : w3.frozen? ⟨hh, i, none⟩ = false
  r1 : ∀ ty, (Builtin.append_ #[31, 31] ty #[.slice (some ⟨w.heap.size, 0, none⟩) 0 0, .slice a bb cap]).run Try.prog (w.alloc (.cells #[] 5)).drew = .ok (.slice (some ⟨k, 0, none⟩) bb c') w2
  r2 : ∀ ty, (Builtin.append_ #[54, 54] ty #[.slice (some ⟨kk, 0, none⟩) (lenY + 1) cl, .slice (some ⟨w2.heap.size, 0, none⟩) 1 1]).run Try.prog (w2.alloc (.cells #[.slice (some ⟨k, 0, none⟩) bb c'] 31)) = .ok (.slice a2 (lenY + 2) c2) w3
  fin : P (w3.setCell ⟨hh, i, none⟩ (.slice a2 (lenY + 2) c2))

theorem Rv.wk {w : World} {S : Nat → Prop} {g : Nat} {D : Dev} (h : Rv w S g D) {i : Nat} (hi : i < D.n) (hy : (D.Y i).length < 400) {a : Option Addr} {cap : Nat} {zs : List Int} (hr : Row w.heap.size w a D.blk cap zs) :
    ∃ hh hc kk cl k c' w2 a2 c2 w3, WK g i D.n (D.Y i).length D.blk a cap (fun wx => ∃ S', Rv wx S' g (D.add i zs) ∧ Nx S w S' wx) w hh hc kk cl k c' w2 a2 c2 w3 := by
  obtain ⟨m, h⟩ := h
  obtain ⟨a', c', w2, R1, hO, hB⟩ := app_newd (c := cap) hr.has (by have := h.ok.b2; omega)
  obtain ⟨k, rfl, hk1, hk2, hrow⟩ := own_rowAt (S := S) hO h.ok.b1 hr.2.2.2.1
  obtain ⟨a2, c2, w3, R2, kg, kh, F⟩ := h.append hi hy hB hrow
  obtain ⟨kk, cl, e1, _, _, _, l1, l2, _⟩ := h.list hi
  have g2 := h.grow hB
  obtain ⟨kk', cl', e1', _, _, _, l1', l2', _⟩ := g2.list hi
  rw [e1] at e1'
  cases e1'
  rw [e1] at R2
  refine ⟨m.h, m.hc, kk, cl, k, c', w2, a2, c2, w3, ⟨h.cells.2.1, fun o => (h.dev.alloc o).cell (i := 1) (by omega), g2.cells.2.1, fun o => (g2.dev.alloc o).cell (i := 1) (by omega), (g2.dev.of_block kg).cell (i := 1) (by omega), l1, fun o => ?_, l1', fun o => ?_, ?_, (g2.lis.of_block kh).frozen i, R1, R2, F⟩⟩
  · rw [(h.lis.alloc o).cell (by have := h.hn.1; omega), e1]
  · rw [(g2.lis.alloc o).cell (by have := h.hn.1; omega), e1]
  · rw [(g2.lis.of_block kh).cell (by have := h.hn.1; omega), e1]

set_option maxRecDepth 100000 in
set_option maxHeartbeats 8000000 in
theorem rwrite_ok (g i : Nat) (a : Option Addr) (cap : Nat) (zs : List Int) (S : Nat → Prop) (D : Dev) (w : World) (hD : Rv w S g D) (hi : i < D.n) (hb : ¬ D.burnt) (hr : Row w.heap.size w a D.blk cap zs) (ho : Out S D.blk a) (hy : (D.Y i).length < 400) :
    Calls Try.prog 16 #[.pointer (some ⟨g, 0, none⟩), .int .i64 i, .slice a D.blk cap] w fun e w' => e = .returned (.int .i64 0) ∧ ∃ S', Rv w' S' g (D.burn.add i zs) ∧ Nx S w S' w' := by
  have K := hide (rburn_burns g S D w hD hb)
  have KW : Hid (∀ w1, Rv w1 S g D.burn → Nx S w S w1 → ∃ hh hc kk cl k c' w2 a2 c2 w3, WK g i D.n (D.Y i).length D.blk a cap (fun wx => ∃ S', Rv wx S' g (D.burn.add i zs) ∧ Nx S w S' wx) w1 hh hc kk cl k c' w2 a2 c2 w3) := by
    intro w1 h hx
    obtain ⟨hh, hc, kk, cl, k, c', w2, a2, c2, w3, W⟩ := h.wk (i := i) hi hy (hr.nx hx ho)
    obtain ⟨S', q1, q2⟩ := W.fin
    exact ⟨hh, hc, kk, cl, k, c', w2, a2, c2, w3, { W with fin := ⟨S', q1, hx.trans q2⟩ }⟩
  obtain ⟨m, hD⟩ := hD
  obtain ⟨c0, c1, c2, c3, c4⟩ := hD.cells
  have hin : ¬ (D.n : Int) ≤ (i : Int) := by omega
  have hin2 : (i : Int) < (D.n : Int) := by omega
  have hz : ((D.blk : Int) != (D.blk : Int)) = false := by simp
  have hl4 : ¬ (400 : Int) < (((D.Y i).length + 1 : Nat) : Int) := by omega
  have hl5 : decide ((400 : Int) < (((D.Y i).length + 1 : Nat) : Int)) = false := decide_eq_false hl4
  clear hD hb hr ho hy
  generalize D.burn.add i zs = D' at *
  generalize D.burn = D1 at *
  generalize (D.Y i).length = ly at *
  generalize D.blk = bb at *
  generalize D.n = nn at *
  go_enter Try.func16, Try.ntmps16
  go_wp2_with fail
  go_at_call 49
  refine (unhide K).mono ?_
  rintro e w1 ⟨rfl, h1, h2⟩
  obtain ⟨hh, hc, kk, cl, k, c', w2, a2, c2', w3, W⟩ := unhide KW w1 h1 h2
  have x1 := W.x1
  have y1 := W.y1
  have HW := hide W
  clear K KW h1 h2 W c0 c1 c2 c3 c4 hi
  go_upto_region 9 with fail
  have x1' : w1.drew.cell? ⟨g, 1, none⟩ = some (.slice (some ⟨hh, 0, none⟩) nn hc) := x1
  have y1' : w1.drew.cell? ⟨hh, i, none⟩ = some (.slice (some ⟨kk, 0, none⟩) (ly + 1) cl) := y1
  have x2 := (unhide HW).x2
  have x3 := (unhide HW).x3
  have x4 := (unhide HW).x4
  have x5 := (unhide HW).x5
  have y2 := (unhide HW).y2
  have y3 := (unhide HW).y3
  have y4 := (unhide HW).y4
  have y5 := (unhide HW).y5
  have y6 := (unhide HW).y6
  have R1 := hide (unhide HW).r1
  have R2 := hide (unhide HW).r2
  have F := hide (unhide HW).fin
  clear HW x1 y1 hl4 hl5 hin
  go_cut [] (fun wx => Hid (∃ S', Rv wx S' g D' ∧ Nx S w S' wx))
  case first =>
    go_region_law (first
      | (refine step_append_run (by rfl) _ _ _ (by rfl) _ _ _ (by rfl) (by rfl) (unhide R1) ?_; clear R1)
      | (refine step_append_run (by rfl) _ _ _ (by rfl) _ _ _ (by rfl) (by rfl) (unhide R2) ?_; clear R2))
    all_goals
      go_wp2_with fail
      go_meet
      exact F
  case rest =>
    clear R1 R2 F x1' x2 x3 x4 x5 y1' y2 y3 y4 y5 y6
    go_wp2_with fail
    go_ret
    exact ⟨rfl, unhide hcut⟩

end Go.Proofs.Ytikpmchjlpobdaa
