/- append(b, s...): a text's bytes behind a row of the call's own. -/
import Derived.Test.YtmdkcoenjadieaaDoorVJ21
import Derived.Test.YtmdkcoenjadieaaDoorVCText
import Derived.Lib.AppendStr
namespace Go.Proofs.YtmdkcoenjadieaaDoor
open Go.RowKit Go.Shelf
set_option linter.unusedVariables false
set_option maxRecDepth 100000

theorem strCells_byts (s : ByteArray) : Lib.strCells s = (byts s).map (Value.int .u8) := by simp [Lib.strCells, byts]

theorem append_text {B : Nat} {w : World} {a : Option Addr} {n c : Nat} {xs : List Int} (h : Own B w a n c xs) (hB : B ≤ w.heap.size) (s : ByteArray) (hn : n + s.size ≤ 140737488355328) :
    ∃ a' c' w', (∀ ty, (Builtin.append_ #[26, 9] ty #[.slice a n c, .string s]).run Tryd.prog w = .ok (.slice a' (n + s.size) c') w') ∧ Own B w' a' (n + s.size) c' (xs ++ byts s) ∧ Below B w w' := by
  obtain ⟨i0, hi, hz0, hz1, hz2⟩ := info_parts info5
  obtain ⟨v', w', hr, ho, hg, _⟩ := Lib.run_append_own_string (P := Tryd.prog) w B 26 9 0 5 i0 Tryd.underlying26 Tryd.underlying9 hi hz0 hz1 hz2 (.slice a n c) n _ h.owns s (by unfold maxLen; omega) hn hB
  rw [strCells_byts, ← List.map_append] at ho
  obtain ⟨a', c', rfl, ho'⟩ := Own.of_owns ho
  refine ⟨a', c', w', fun ty => hr, ho', ?_⟩
  refine (Below.refl B w).grown hg hB (fun k e => ?_)
  rcases h.2.2.2 with ⟨ha, _, _⟩ | ⟨g, _, ha, hgB, _⟩
  · rw [ha] at e; simp [Value.ownBlock] at e
  · rw [ha] at e
    simp [Value.ownBlock] at e
    omega

theorem step_append_text {w w' : World} {ops : Array Oper} {o : Oper} {a : Act} {K' : Act → World → Prop} {Q : Exit → Act → World → Prop} {E : Prop} (hw : Region.wanted o (yielded ops a.tmps) = true) (d s : Operand) (t u : TypeId)
    (ho : o.op = .call { callee := .builtin .append, args := #[d, s], argTypes := #[t, u] }) (v x v' : Value) (hd : a.eval d = v) (hs : a.eval s = x)
    (hrun : ∀ ty, (Builtin.append_ #[t, u] ty #[v, x]).run Tryd.prog w = .ok v' w')
    (h : K' (a.put o.dst v') w') : if Region.wanted o (yielded ops a.tmps) = true then Oper.wp Tryd.prog o a w K' Q else E := by
  rw [if_pos hw]
  have hr := hrun o.type
  unfold Oper.wp
  simp [execOp, ho, resolve, invoke, builtin, hd, hs, hr, Result.andThen]
  exact h

end Go.Proofs.YtmdkcoenjadieaaDoor
