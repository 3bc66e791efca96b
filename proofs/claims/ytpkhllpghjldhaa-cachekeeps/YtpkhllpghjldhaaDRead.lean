/- The contracts of Read and Fuse. -/
import Derived.Test.YtpkhllpghjldhaaDSettle
import Derived.Test.YtpkhllpghjldhaaDCopy
namespace Go.Proofs.Ytpkhllpghjldhaa
open Go.RowKit Go.Shelf
set_option linter.unusedVariables false

theorem read_dead (g : Nat) (b : Int) (S : Nat → Prop) (D : Dev) (w : World) (hD : Dv w S g D) (hd : D.dead = true) :
    Calls Try.prog 20 #[.pointer (some ⟨g, 0, none⟩), .int .i64 b] w fun e w' => e = .returned (.tuple #[.slice none 0 0, .int .i64 7]) ∧ w = w' := by
  obtain ⟨m, hD⟩ := hD
  obtain ⟨c0, c1, c2, c3, c4, c5⟩ := hD.cells
  rw [hd] at c4
  clear hD hd
  go_enter Try.func20, Try.ntmps20
  go_wp2
  go_ret2
  exact ⟨rfl, rfl⟩

theorem read_range (g : Nat) (b : Int) (S : Nat → Prop) (D : Dev) (w : World) (hD : Dv w S g D) (hd : D.dead = false) (hb : ¬ (0 ≤ b ∧ b < D.n)) :
    Calls Try.prog 20 #[.pointer (some ⟨g, 0, none⟩), .int .i64 b] w fun e w' => e = .returned (.tuple #[.slice none 0 0, .int .i64 2]) ∧ w = w' := by
  obtain ⟨m, hD⟩ := hD
  obtain ⟨c0, c1, c2, c3, c4, c5⟩ := hD.cells
  have H := has_any g m.h D.n b w c1
  rw [decide_eq_false hb] at H
  replace H := hide H
  rw [hd] at c4
  generalize m.h = hh at *
  generalize D.n = nn at *
  clear hD hd hb
  go_enter Try.func20, Try.ntmps20
  go_wp2_with fail
  go_at_call 45
  refine (unhide H).mono ?_
  rintro e w' ⟨rfl, rfl⟩
  clear H
  go_wp2
  go_ret2
  exact ⟨rfl, rfl⟩

theorem read_ok (g i : Nat) (S : Nat → Prop) (D : Dev) (w : World) (hD : Dv w S g D) (hd : D.dead = false) (hi : i < D.n) :
    Calls Try.prog 20 #[.pointer (some ⟨g, 0, none⟩), .int .i64 i] w fun e w' => e = .returned (.tuple #[.slice (some ⟨w.heap.size, 0, none⟩) D.blk D.blk, .int .i64 0]) ∧ Block w' w.heap.size (D.rd i) ∧ Below w.heap.size w w' := by
  obtain ⟨m, hD⟩ := hD
  obtain ⟨c0, c1, c2, c3, c4, c5⟩ := hD.cells
  have H := has_any g m.h D.n i w c1
  rw [decide_eq_true (by omega)] at H
  replace H := hide H
  rw [hd] at c4
  have L := hide (fun o (ho : o = 2 * i) => last_some o i m.h S g D m w hD hi ho rfl)
  have hb := hide hD.ok.b2
  have hn := hD.ok.n2
  generalize hq : D.rd i = zs at *
  clear hq
  generalize m.h = hh at *
  generalize D.n = nn at *
  generalize D.blk = bb at *
  clear hD hd
  go_enter Try.func20, Try.ntmps20
  go_wp2_with fail
  go_at_call 45
  refine (unhide H).mono ?_
  rintro e w' ⟨rfl, rfl⟩
  clear H
  go_wp2_with fail
  go_at_call 47
  refine (unhide L _ (by omega)).mono ?_
  rintro e w' ⟨⟨r, rfl, hr⟩, rfl⟩
  clear L
  have C := hide (copied_any _ _ _ _ w (hr.row (unhide hb)))
  clear hr
  obtain ⟨r1, r2⟩ := r
  go_wp2_with fail
  go_at_call 46
  refine (unhide C).mono ?_
  rintro e w' ⟨rfl, hB, hW⟩
  have B := hide hB
  have W := hide hW
  clear hB hW C
  go_wp2
  go_ret2
  exact ⟨rfl, unhide B, unhide W⟩

end Go.Proofs.Ytpkhllpghjldhaa
