/- A plan that came in, opened. -/
import Derived.Test.YtadnlljknocbbaaGreatDoorWoJ30
import Derived.Test.YtadnlljknocbbaaGreatDoorWoGOpen
import Derived.Test.YtadnlljknocbbaaGreatDoorWoPOpenP
import Derived.ChangeArms
namespace Go.Proofs.YtadnlljknocbbaaGreatDoor
open Go.ChangeAt Go.ChangeShapes Go.RowKit Go.Shelf Go.WideShapes
set_option linter.unusedVariables false
set_option maxRecDepth 100000

theorem under25H : Tryz.prog.underlying 57 = some (.struct (Tryz.prog.fieldsOf 57)) := by kernel_rfl
theorem stood25H : Tryz.prog.stoodInHeld 57 = false := by kernel_rfl

theorem fields25H : (Tryz.prog.fieldsOf 57).toList.map (fun f => (f.name, f.type, f.offset)) = [("Seq", 3, 0), ("Tail", 3, 1), ("Used", 3, 2)] := by kernel_rfl

theorem hc_get (P : Nat → Int) (k : Nat) (hk : k < 3) : (Hc P)[k]? = some (.int .i64 (P k)) := by
  have : k = 0 ∨ k = 1 ∨ k = 2 := by omega
  rcases this with rfl | rfl | rfl <;> rfl

theorem part3H (P : Nat → Int) (k : Nat) (hk : k < 3) (w : World) : (part 3 (Hc P) k).run Tryz.prog w = .ok (.int .i64 (P k)) w := by
  have h := hc_get P k hk
  simp only [part, isAgg, Sem.run_bind, run_underlying Tryz.underlying3, Result.andThen_ok, Sem.run_pure]
  rw [h]
  rfl

theorem eq_fieldsH (P Q : Nat → Int) (w : World) : ∀ fs : List Field, (∀ f ∈ fs, f.name ≠ "_" ∧ f.type = 3 ∧ f.offset < 3) →
    ∃ r : Bool, (Op.eqFields 9999 (Hc P) (Hc Q) fs).run Tryz.prog w = .ok r w ∧ (r = true ↔ ∀ f ∈ fs, P f.offset = Q f.offset)
  | [], _ => ⟨true, by simp [Op.eqFields], by simp⟩
  | f :: fs, h => by
    obtain ⟨h1, h2, h3⟩ := h f (by simp)
    obtain ⟨r, hr, hi⟩ := eq_fieldsH P Q w fs (fun g hg => h g (by simp [hg]))
    by_cases hE : P f.offset = Q f.offset
    · refine ⟨r, ?_, by simp [hi, hE]⟩
      simp only [Op.eqFields, h1, ne_eq, not_false_eq_true, if_true, Sem.run_bind, h2, part3H P _ h3, part3H Q _ h3, Result.andThen_ok, run_equalIn_int w 9998 3 .i64 .i64 _ _ Tryz.underlying3, hE]
      simpa using hr
    · refine ⟨false, ?_, by simp [hE]⟩
      simp only [Op.eqFields, h1, ne_eq, not_false_eq_true, if_true, Sem.run_bind, h2, part3H P _ h3, part3H Q _ h3, Result.andThen_ok, run_equalIn_int w 9998 3 .i64 .i64 _ _ Tryz.underlying3]
      simp [hE]

theorem fields_okH : ∀ f ∈ (Tryz.prog.fieldsOf 57).toList, f.name ≠ "_" ∧ f.type = 3 ∧ f.offset < 3 := by
  have h := fields25H
  intro f hf
  have : (f.name, f.type, f.offset) ∈ (Tryz.prog.fieldsOf 57).toList.map (fun f => (f.name, f.type, f.offset)) := List.mem_map.2 ⟨f, hf, rfl⟩
  rw [h] at this
  simp only [List.mem_cons, List.not_mem_nil, or_false, Prod.mk.injEq] at this
  rcases this with ⟨a, b, c⟩ | ⟨a, b, c⟩ | ⟨a, b, c⟩ <;> exact ⟨by rw [a]; decide, b, by omega⟩

theorem fields_allH (k : Nat) (hk : k < 3) : ∃ f ∈ (Tryz.prog.fieldsOf 57).toList, f.offset = k := by
  have h := fields25H
  have : k ∈ ((Tryz.prog.fieldsOf 57).toList.map (fun f => (f.name, f.type, f.offset))).map (·.2.2) := by
    rw [h]
    simp
    omega
  rw [List.map_map, List.mem_map] at this
  obtain ⟨f, hf, e⟩ := this
  exact ⟨f, hf, e⟩

theorem equal_planH (P Q : Nat → Int) (w : World) : ∃ r : Bool, (Op.equalIn 10000 57 (Hv P) (Hv Q)).run Tryz.prog w = .ok r w ∧ (r = true ↔ ∀ k, k < 3 → P k = Q k) := by
  obtain ⟨r, hr, hi⟩ := eq_fieldsH P Q w _ fields_okH
  refine ⟨r, ?_, ?_⟩
  · rw [run_equalIn_struct w 9999 57 _ _ under25H stood25H]
    exact hr
  · rw [hi]
    constructor
    · intro h k hk
      obtain ⟨f, hf, rfl⟩ := fields_allH k hk
      exact h f hf
    · intro h f hf
      exact h _ (fields_okH f hf).2.2

theorem eql_plan_yesH {P Q : Nat → Int} (h : ∀ k, k < 3 → P k = Q k) (w : World) : (binOp .eql 57 (Hv P) (Hv Q)).run Tryz.prog w = .ok (.bool true) w := by
  obtain ⟨r, hr, hi⟩ := equal_planH P Q w
  rw [run_eql_struct, hr, hi.2 h]; rfl

theorem neq_plan_noH {P Q : Nat → Int} (h : ∀ k, k < 3 → P k = Q k) (w : World) : (binOp .neq 57 (Hv P) (Hv Q)).run Tryz.prog w = .ok (.bool false) w := by
  obtain ⟨r, hr, hi⟩ := equal_planH P Q w
  rw [run_neq_struct, hr, hi.2 h]; rfl

theorem neq_plan_yesH {P Q : Nat → Int} (h : ¬ ∀ k, k < 3 → P k = Q k) (w : World) : (binOp .neq 57 (Hv P) (Hv Q)).run Tryz.prog w = .ok (.bool true) w := by
  obtain ⟨r, hr, hi⟩ := equal_planH P Q w
  have : r = false := by cases r with | false => rfl | true => exact absurd (hi.1 rfl) h
  rw [run_neq_struct, hr, this]; rfl

theorem cells24H : Tryz.prog.cellsOf 57 = 3 := by kernel_rfl
theorem count24H : (Tryz.prog.fieldsOf 57).size = 3 := by kernel_rfl

theorem field_atH (k : Nat) (hk : k < 3) : ∃ f, (Tryz.prog.fieldsOf 57)[k]? = some f ∧ f.type = 3 ∧ f.offset = k := by
  have h := fields25H
  have hs : k < (Tryz.prog.fieldsOf 57).size := by rw [count24H]; exact hk
  refine ⟨(Tryz.prog.fieldsOf 57)[k], by simp [hs], ?_⟩
  have hg : ((Tryz.prog.fieldsOf 57).toList.map (fun f => (f.name, f.type, f.offset)))[k]? = some (((Tryz.prog.fieldsOf 57)[k]).name, ((Tryz.prog.fieldsOf 57)[k]).type, ((Tryz.prog.fieldsOf 57)[k]).offset) := by
    rw [List.getElem?_map, Array.getElem?_toList, Array.getElem?_eq_getElem hs]; rfl
  rw [h] at hg
  generalize (Tryz.prog.fieldsOf 57)[k] = f at *
  rcases (show k = 0 ∨ k = 1 ∨ k = 2 by omega) with rfl | rfl | rfl
  all_goals
    simp only [List.getElem?_cons_zero, List.getElem?_cons_succ, Option.some.injEq, Prod.mk.injEq] at hg
    exact ⟨hg.2.1.symm, hg.2.2.symm⟩

theorem open_header {H : Type} {enc : TypeId × Value → H} {W : World} {r : Reach} {b0 : Nat} {v : Value} {d : DataW H} {ps : List MemPlace} (hval : Value.okWide Tryz.prog W r b0 57 v) (hd : DataW.Trod enc Tryz.prog W 0 (fun _ => true) true 57 v d ps) :
    ∃ P : Nat → Int, v = Hv P ∧ ∀ k, k < 3 → -9223372036854775808 ≤ P k ∧ P k ≤ 9223372036854775807 := by
  obtain ⟨cs, rfl, hsz⟩ := okWide_struct under25H hval
  obtain ⟨fuel, hf⟩ := hd
  obtain ⟨xs, n, rfl, hx, hl, hxl, hall⟩ := DataW.trod_struct under25H hf
  rw [cells24H] at hsz
  rw [count24H] at hxl
  have key : ∀ k, k < 3 → ∃ z, cs[k]? = some (.int .i64 z) ∧ (Lit.int .i64 z).wf = true := by
    intro k hk
    obtain ⟨f, h1, h2, h3⟩ := field_atH k hk
    have h4 := hall k f h1
    rw [h2, h3, cellsP3, List.getElem?_eq_getElem (by omega)] at h4
    obtain ⟨z, h5, _, h6⟩ := DataW.trod_int Tryz.underlying3 h4
    refine ⟨z, ?_, h6⟩
    have h7 : ((cs.toList.drop k).take 1)[0]? = some (.int .i64 z) := by
      have : (Value.agg cs).cells.toList = cs.toList := rfl
      rw [this] at h5
      rw [h5]; rfl
    rw [List.getElem?_take_of_lt (by omega), List.getElem?_drop, Nat.add_zero, Array.getElem?_toList] at h7
    exact h7
  refine ⟨numAt cs, ?_, ?_⟩
  · have : cs = Hc (numAt cs) := by
      apply Array.ext_getElem?
      intro i
      by_cases hi : i < 3
      · obtain ⟨z, hz, _⟩ := key i hi
        rw [hc_get _ i hi, hz, numAt, hz]
      · rw [Array.getElem?_eq_none (by omega), Array.getElem?_eq_none (by simp; omega)]
    exact congrArg Value.agg this
  · intro k hk
    obtain ⟨z, hz, hw⟩ := key k hk
    rw [numAt, hz]
    exact int_max hw

end Go.Proofs.YtadnlljknocbbaaGreatDoor
