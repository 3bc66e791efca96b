/- The contracts of the device's small functions. -/
import Derived.Test.YtpkhllpghjldhaaDBase
namespace Go.Proofs.Ytpkhllpghjldhaa
open Go.RowKit Go.Shelf
set_option linter.unusedVariables false

theorem has_any (g h n : Nat) (b : Int) (w : World) (c1 : w.cell? ⟨g, 1, none⟩ = some (.slice (some ⟨h, 0, none⟩) n n)) :
    Calls Try.prog 45 #[.pointer (some ⟨g, 0, none⟩), .int .i64 b] w fun e w' => e = .returned (.bool (decide (0 ≤ b ∧ b < n))) ∧ w = w' := by
  generalize hq : decide (0 ≤ b ∧ b < (n : Int)) = q
  have hQ := hide hq
  clear hq
  by_cases h0 : 0 ≤ b
  · by_cases h1 : b < n
    · go_enter Try.func45, Try.ntmps45
      go_wp2
      go_ret
      exact ⟨ret_bool (by rw [← unhide hQ]; symm; apply decide_eq_true; omega), rfl⟩
    · go_enter Try.func45, Try.ntmps45
      go_wp2
      go_ret
      exact ⟨ret_bool (by rw [← unhide hQ]; symm; apply decide_eq_false; omega), rfl⟩
  · go_enter Try.func45, Try.ntmps45
    go_wp2
    go_ret
    exact ⟨ret_bool (by rw [← unhide hQ]; symm; apply decide_eq_false; omega), rfl⟩

theorem block_dev (g : Nat) (w : World) (x : Int) (c0 : w.cell? ⟨g, 0, none⟩ = some (.int .i64 x)) :
    Calls Try.prog 52 #[.pointer (some ⟨g, 0, none⟩)] w fun e w' => e = .returned (.int .i64 x) ∧ w = w' := by
  go_enter Try.func52, Try.ntmps52
  go_wp2
  go_ret
  exact ⟨rfl, rfl⟩

theorem blocks_dev (g h n : Nat) (w : World) (c1 : w.cell? ⟨g, 1, none⟩ = some (.slice (some ⟨h, 0, none⟩) n n)) :
    Calls Try.prog 55 #[.pointer (some ⟨g, 0, none⟩)] w fun e w' => e = .returned (.int .i64 n) ∧ w = w' := by
  go_enter Try.func55, Try.ntmps55
  go_wp2
  go_ret
  exact ⟨rfl, rfl⟩

/-- What refuses answers. -/
def refE (D : Dev) (b : Int) (len : Nat) : Int := if ¬ (0 ≤ b ∧ b < D.n) then 2 else if len ≠ D.blk then 1 else 0

theorem refuses_dev (g : Nat) (b : Int) (a : Option Addr) (len cap : Nat) (S : Nat → Prop) (D : Dev) (w : World) (hD : Dv w S g D) :
    Calls Try.prog 65 #[.pointer (some ⟨g, 0, none⟩), .int .i64 b, .slice a len cap] w fun e w' => e = .returned (.int .i64 (refE D b len)) ∧ w = w' := by
  obtain ⟨m, hD⟩ := hD
  obtain ⟨c0, c1, _⟩ := hD.cells
  have H := hide (has_any g m.h D.n b w c1)
  generalize m.h = h at *
  clear hD
  generalize hq : refE D b len = q
  have hQ := hide hq
  clear hq
  unfold refE at hQ
  by_cases h0 : (0 ≤ b ∧ b < D.n)
  · by_cases h1 : len = D.blk
    · have d0 : decide (0 ≤ b ∧ b < (D.n : Int)) = true := by simpa using h0
      rw [d0] at H
      have hx := hide h0; have hy := hide h1; have hz : ((len : Int) != (D.blk : Int)) = false := by simp [h1]
      clear h0 h1
      generalize D.blk = bb at *
      generalize D.n = nn at *
      go_enter Try.func65, Try.ntmps65
      go_wp2_with fail
      go_at_call 45
      refine (unhide H).mono ?_
      rintro e w' ⟨rfl, rfl⟩
      go_wp2
      go_ret
      exact ⟨ret_int (by rw [← unhide hQ, if_neg (fun h => h (unhide hx))]; simp [unhide hy]), rfl⟩
    · have d0 : decide (0 ≤ b ∧ b < (D.n : Int)) = true := by simpa using h0
      rw [d0] at H
      have hx := hide h0; have hy := hide h1; have hz : ((len : Int) != (D.blk : Int)) = true := by simp; omega
      clear h0 h1
      generalize D.blk = bb at *
      generalize D.n = nn at *
      go_enter Try.func65, Try.ntmps65
      go_wp2_with fail
      go_at_call 45
      refine (unhide H).mono ?_
      rintro e w' ⟨rfl, rfl⟩
      go_wp2
      go_ret
      exact ⟨ret_int (by rw [← unhide hQ, if_neg (fun h => h (unhide hx))]; simp [unhide hy]), rfl⟩
  · have d0 : decide (0 ≤ b ∧ b < (D.n : Int)) = false := by simpa using h0
    rw [d0] at H
    have hx := hide h0
    clear h0
    generalize D.blk = bb at *
    generalize D.n = nn at *
    go_enter Try.func65, Try.ntmps65
    go_wp2_with fail
    go_at_call 45
    refine (unhide H).mono ?_
    rintro e w' ⟨rfl, rfl⟩
    go_wp2
    go_ret
    exact ⟨ret_int (by rw [← unhide hQ, if_pos (unhide hx)]), rfl⟩

end Go.Proofs.Ytpkhllpghjldhaa
