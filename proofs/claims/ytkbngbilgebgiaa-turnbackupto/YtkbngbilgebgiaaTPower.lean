/- Powers of i. -/
import Derived.Test.YtkbngbilgebgiaaGBase
import Derived.Test.YtkbngbilgebgiaaGFloat4
import Derived.Laws.ComplexArith
import Derived.OwnWalk
namespace Go.Proofs.Ytkbngbilgebgiaa
open Go.RowKit Go.Shelf
set_option linter.unusedVariables false

theorem i64_and3 (n : Int) : bits .and .i64 n 3 = n % 4 := by
  have h3 : (BitVec.ofInt 64 3).toNat = 2 ^ 2 - 1 := by decide
  have key : (BitVec.ofInt 64 n &&& BitVec.ofInt 64 3).toNat = (n % ((2 ^ 64 : Nat) : Int)).toNat % 2 ^ 2 := by
    rw [BitVec.toNat_and, BitVec.toNat_ofInt, h3, Nat.and_two_pow_sub_one_eq_mod]
  show IntKind.i64.wrap ((BitVec.ofInt 64 n &&& BitVec.ofInt 64 3).toNat : Nat) = n % 4
  rw [key, IntKind.wrap_i64]
  omega

/-- The real part of i to the n. -/
def ire (n : Int) : Int := if n % 4 = 0 then 1 else if n % 4 = 2 then -1 else 0
/-- The imaginary part of i to the n. -/
def iim (n : Int) : Int := if n % 4 = 1 then 1 else if n % 4 = 3 then -1 else 0

theorem store_c (a : Addr) (x y : Nat) (m : Mode) (w : World) : (store a (.complex .f64 x y) m).run Try.prog w = stored Try.prog w a (.complex .f64 x y) m := run_store Try.prog w a _ m rfl

theorem power_any (n : Int) (w : World) : Calls Try.prog 10 #[.int .i64 n] w fun e w' => ∃ x y, e = .returned (.complex .f64 x y) ∧ Rc x y (ire n) (iim n) ∧ Below w.heap.size w w' := by
  have hs := store_c
  have ha := i64_and3 n
  have h4 : n % 4 = 0 ∨ n % 4 = 1 ∨ n % 4 = 2 ∨ n % 4 = 3 := by omega
  rcases h4 with h | h | h | h
  · have R : Hid (Rc 4607182418800017408 0 (ire n) (iim n)) := by simp only [ire, iim, h]; exact ⟨rd_one, rd_zero⟩
    rw [h] at ha; clear h
    go_enter Try.func10, Try.ntmps10
    go_wp2
    go_ret
    exact ⟨_, _, rfl, unhide R, (Below.refl _ _).alloc (Nat.le_refl _) _⟩
  · have R : Hid (Rc 0 4607182418800017408 (ire n) (iim n)) := by simp only [ire, iim, h]; exact ⟨rd_zero, rd_one⟩
    rw [h] at ha; clear h
    go_enter Try.func10, Try.ntmps10
    go_wp2
    go_ret
    exact ⟨_, _, rfl, unhide R, (Below.refl _ _).alloc (Nat.le_refl _) _⟩
  · have R : Hid (Rc 13830554455654793216 0 (ire n) (iim n)) := by simp only [ire, iim, h]; exact ⟨rd_minus, rd_zero⟩
    rw [h] at ha; clear h
    go_enter Try.func10, Try.ntmps10
    go_wp2
    go_ret
    exact ⟨_, _, rfl, unhide R, (Below.refl _ _).alloc (Nat.le_refl _) _⟩
  · have R : Hid (Rc 0 13830554455654793216 (ire n) (iim n)) := by simp only [ire, iim, h]; exact ⟨rd_zero, rd_minus⟩
    rw [h] at ha; clear h
    go_enter Try.func10, Try.ntmps10
    go_wp2
    go_ret
    exact ⟨_, _, rfl, unhide R, (Below.refl _ _).alloc (Nat.le_refl _) _⟩
end Go.Proofs.Ytkbngbilgebgiaa
