/- Two plans compared. -/
import Derived.Test.YtkdiifoipfkmcaaPBase
namespace Go.Proofs.Ytkdiifoipfkmcaa
open Go.RowKit Go.Shelf
set_option linter.unusedVariables false

theorem under24 : Try.prog.underlying 23 = some (.struct (Try.prog.fieldsOf 23)) := by kernel_rfl
theorem stood24 : Try.prog.stoodInHeld 23 = false := by kernel_rfl

theorem fields24 : (Try.prog.fieldsOf 23).toList.map (fun f => (f.name, f.type, f.offset)) = [("Block", 3, 0), ("Blocks", 3, 1), ("Inodes", 3, 2), ("Log", 3, 3), ("LogAt", 3, 4), ("IBits", 3, 5), ("ILen", 3, 6), ("BBits", 3, 7), ("BLen", 3, 8), ("Table", 3, 9), ("TLen", 3, 10), ("Data", 3, 11)] := by kernel_rfl

theorem part3 (P : Nat → Int) (k : Nat) (hk : k < 12) (w : World) : (part 3 (Pc P) k).run Try.prog w = .ok (.int .i64 (P k)) w := by
  have h := pc_get P k hk
  simp only [part, isAgg, Sem.run_bind, run_underlying Try.underlying3, Result.andThen_ok, Sem.run_pure]
  rw [h]
  rfl

theorem eq_fields (P Q : Nat → Int) (w : World) : ∀ fs : List Field, (∀ f ∈ fs, f.name ≠ "_" ∧ f.type = 3 ∧ f.offset < 12) →
    ∃ r : Bool, (Op.eqFields 9999 (Pc P) (Pc Q) fs).run Try.prog w = .ok r w ∧ (r = true ↔ ∀ f ∈ fs, P f.offset = Q f.offset)
  | [], _ => ⟨true, by simp [Op.eqFields], by simp⟩
  | f :: fs, h => by
    obtain ⟨h1, h2, h3⟩ := h f (by simp)
    obtain ⟨r, hr, hi⟩ := eq_fields P Q w fs (fun g hg => h g (by simp [hg]))
    by_cases hE : P f.offset = Q f.offset
    · refine ⟨r, ?_, by simp [hi, hE]⟩
      simp only [Op.eqFields, h1, ne_eq, not_false_eq_true, if_true, Sem.run_bind, h2, part3 P _ h3, part3 Q _ h3, Result.andThen_ok, run_equalIn_int w 9998 3 .i64 .i64 _ _ Try.underlying3, hE]
      simpa using hr
    · refine ⟨false, ?_, by simp [hE]⟩
      simp only [Op.eqFields, h1, ne_eq, not_false_eq_true, if_true, Sem.run_bind, h2, part3 P _ h3, part3 Q _ h3, Result.andThen_ok, run_equalIn_int w 9998 3 .i64 .i64 _ _ Try.underlying3]
      simp [hE]

theorem fields_ok : ∀ f ∈ (Try.prog.fieldsOf 23).toList, f.name ≠ "_" ∧ f.type = 3 ∧ f.offset < 12 := by
  have h := fields24
  intro f hf
  have : (f.name, f.type, f.offset) ∈ (Try.prog.fieldsOf 23).toList.map (fun f => (f.name, f.type, f.offset)) := List.mem_map.2 ⟨f, hf, rfl⟩
  rw [h] at this
  simp only [List.mem_cons, List.not_mem_nil, or_false, Prod.mk.injEq] at this
  rcases this with ⟨a, b, c⟩ | ⟨a, b, c⟩ | ⟨a, b, c⟩ | ⟨a, b, c⟩ | ⟨a, b, c⟩ | ⟨a, b, c⟩ | ⟨a, b, c⟩ | ⟨a, b, c⟩ | ⟨a, b, c⟩ | ⟨a, b, c⟩ | ⟨a, b, c⟩ | ⟨a, b, c⟩ <;> exact ⟨by rw [a]; decide, b, by omega⟩

theorem fields_all (k : Nat) (hk : k < 12) : ∃ f ∈ (Try.prog.fieldsOf 23).toList, f.offset = k := by
  have h := fields24
  have : k ∈ ((Try.prog.fieldsOf 23).toList.map (fun f => (f.name, f.type, f.offset))).map (·.2.2) := by
    rw [h]
    simp
    omega
  rw [List.map_map, List.mem_map] at this
  obtain ⟨f, hf, e⟩ := this
  exact ⟨f, hf, e⟩

theorem equal_plan (P Q : Nat → Int) (w : World) : ∃ r : Bool, (Op.equalIn 10000 23 (Pv P) (Pv Q)).run Try.prog w = .ok r w ∧ (r = true ↔ ∀ k, k < 12 → P k = Q k) := by
  obtain ⟨r, hr, hi⟩ := eq_fields P Q w _ fields_ok
  refine ⟨r, ?_, ?_⟩
  · rw [run_equalIn_struct w 9999 23 _ _ under24 stood24]
    exact hr
  · rw [hi]
    constructor
    · intro h k hk
      obtain ⟨f, hf, rfl⟩ := fields_all k hk
      exact h f hf
    · intro h f hf
      exact h _ (fields_ok f hf).2.2

theorem eql_plan_yes {P Q : Nat → Int} (h : ∀ k, k < 12 → P k = Q k) (w : World) : (binOp .eql 23 (Pv P) (Pv Q)).run Try.prog w = .ok (.bool true) w := by
  obtain ⟨r, hr, hi⟩ := equal_plan P Q w
  rw [run_eql_struct, hr, hi.2 h]; rfl

theorem neq_plan_no {P Q : Nat → Int} (h : ∀ k, k < 12 → P k = Q k) (w : World) : (binOp .neq 23 (Pv P) (Pv Q)).run Try.prog w = .ok (.bool false) w := by
  obtain ⟨r, hr, hi⟩ := equal_plan P Q w
  rw [run_neq_struct, hr, hi.2 h]; rfl

theorem neq_plan_yes {P Q : Nat → Int} (h : ¬ ∀ k, k < 12 → P k = Q k) (w : World) : (binOp .neq 23 (Pv P) (Pv Q)).run Try.prog w = .ok (.bool true) w := by
  obtain ⟨r, hr, hi⟩ := equal_plan P Q w
  have : r = false := by cases r with | false => rfl | true => exact absurd (hi.1 rfl) h
  rw [run_neq_struct, hr, this]; rfl

end Go.Proofs.Ytkdiifoipfkmcaa
