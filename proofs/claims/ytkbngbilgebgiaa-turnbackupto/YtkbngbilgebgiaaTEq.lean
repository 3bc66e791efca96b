/- Two arrays of four complex numbers with the same parts are equal. -/
import Derived.Test.YtkbngbilgebgiaaTOf
import Derived.ChangeKeysEq
namespace Go.Proofs.Ytkbngbilgebgiaa
open Go.RowKit Go.Shelf
set_option linter.unusedVariables false

theorem info24 : (Try.prog.info? 24).isSome = true := by kernel_rfl
theorem cells24 : Try.prog.cellsOf 24 = 1 := by kernel_rfl
theorem under24 : Try.prog.underlying 24 = some (.complex .f64) := by kernel_rfl
theorem under26 : Try.prog.underlying 26 = some (.array 4 24) := by kernel_rfl

theorem part24 (V : Nat → Value) (k : Nat) (hk : k < 4) (w : World) : (part 24 #[V 0, V 1, V 2, V 3] (k * 1)).run Try.prog w = .ok (V k) w := by
  have h := four_get V k hk
  simp only [part, isAgg, Sem.run_bind, run_underlying under24, Result.andThen_ok, Sem.run_pure, Nat.mul_one]
  rw [h]
  rfl

theorem equal_cx {v u : Value} {a b : Int} (hv : Cx v a b) (hu : Cx u a b) (d : Nat) (w : World) : (Op.equalIn (d + 1) 24 v u).run Try.prog w = .ok true w := by
  obtain ⟨x, y, rfl, h1⟩ := hv
  obtain ⟨p, q, rfl, h2⟩ := hu
  have h := rc_eq h1 h2
  simp only [decide_true, Bool.and_true] at h
  simp only [Op.equalIn, Sem.run_bind, run_underlying under24, Result.andThen_ok, if_true, Sem.run_pure]
  rw [← h]
  rfl

theorem items_yes {V U : Nat → Value} {a b : Nat → Int} (hV : C4 V a b) (hU : C4 U a b) (d : Nat) (w : World) : ∀ is : List Nat, (∀ i ∈ is, i < 4) → (Op.eqItems (d + 1) 24 1 #[V 0, V 1, V 2, V 3] #[U 0, U 1, U 2, U 3] is).run Try.prog w = .ok true w
  | [], _ => by simp [Op.eqItems]
  | i :: is, h => by
    have hi := h i (by simp)
    simp only [Op.eqItems, Sem.run_bind, part24 V i hi, part24 U i hi, Result.andThen_ok, equal_cx (hV i hi) (hU i hi)]
    simpa using items_yes hV hU d w is (fun j hj => h j (by simp [hj]))

theorem equal_four {V U : Nat → Value} {a b : Nat → Int} (hV : C4 V a b) (hU : C4 U a b) (w : World) : (Op.equalIn 10000 26 (.agg #[V 0, V 1, V 2, V 3]) (.agg #[U 0, U 1, U 2, U 3])).run Try.prog w = .ok true w := by
  obtain ⟨i, hi⟩ := Option.isSome_iff_exists.1 info24
  rw [run_equalIn_array w 9999 _ _ under26 hi, cells24]
  exact items_yes hV hU 9998 w _ (fun j hj => by simpa using hj)

theorem eql_yes {V U : Nat → Value} {a b : Nat → Int} (hV : C4 V a b) (hU : C4 U a b) (w : World) : (binOp .eql 26 (.agg #[V 0, V 1, V 2, V 3]) (.agg #[U 0, U 1, U 2, U 3])).run Try.prog w = .ok (.bool true) w := by
  rw [run_eql_struct, equal_four hV hU]; rfl

theorem neq_no {V U : Nat → Value} {a b : Nat → Int} (hV : C4 V a b) (hU : C4 U a b) (w : World) : (binOp .neq 26 (.agg #[V 0, V 1, V 2, V 3]) (.agg #[U 0, U 1, U 2, U 3])).run Try.prog w = .ok (.bool false) w := by
  rw [run_neq_struct, equal_four hV hU]; rfl

theorem C4.congr {V : Nat → Value} {a b c d : Nat → Int} (h : C4 V a b) (h1 : ∀ j, j < 4 → a j = c j) (h2 : ∀ j, j < 4 → b j = d j) : C4 V c d := by
  intro j hj
  rw [← h1 j hj, ← h2 j hj]
  exact h j hj
end Go.Proofs.Ytkbngbilgebgiaa
