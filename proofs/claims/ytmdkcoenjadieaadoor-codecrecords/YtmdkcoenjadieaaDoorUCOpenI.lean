/- Inodes and names in directories that came in, opened. -/
import Derived.Test.YtmdkcoenjadieaaDoorUCEq
import Derived.Test.YtmdkcoenjadieaaDoorUGOpen
import Derived.ChangeArms
import Derived.OpenShut
namespace Go.Proofs.YtmdkcoenjadieaaDoor
open Go.ChangeAt Go.ChangeShapes Go.RowKit Go.Shelf Go.WideShapes
set_option linter.unusedVariables false
set_option maxRecDepth 100000

theorem cellsI : Tryd.prog.cellsOf 55 = 13 := by kernel_rfl
theorem cellsD : Tryd.prog.cellsOf 60 = 2 := by kernel_rfl
theorem cells9e : Tryd.prog.cellsOf 9 = 1 := by kernel_rfl

/-- The number, the text in cell k. -/
def numIn (cs : Array Value) (k : Nat) : Int := match cs[k]? with
  | some (.int _ z) => z
  | _ => 0

def strIn (cs : Array Value) (k : Nat) : ByteArray := match cs[k]? with
  | some (.string s) => s
  | _ => ⟨#[]⟩

theorem field_of {fs : Array Field} {L : List (String × TypeId × Nat)} (h : fs.toList.map (fun f => (f.name, f.type, f.offset)) = L) (k : Nat) (n : String) (t : TypeId) (o : Nat) (hk : L[k]? = some (n, t, o)) : ∃ f, fs[k]? = some f ∧ f.type = t ∧ f.offset = o := by
  rw [← h, List.getElem?_map, Array.getElem?_toList] at hk
  cases hf : fs[k]? with
  | none => rw [hf] at hk; cases hk
  | some f =>
    rw [hf] at hk
    simp at hk
    exact ⟨f, rfl, hk.2.1, hk.2.2⟩

theorem cell_of_take {cs : Array Value} {k n j : Nat} {v : Value} (h : ((cs.toList.drop k).take n)[j]? = some v) (hj : j < n) : cs[k + j]? = some v := by
  rw [List.getElem?_take_of_lt hj, List.getElem?_drop, Array.getElem?_toList] at h
  exact h

theorem open_inode {H : Type} {enc : TypeId × Value → H} {W : World} {r : Reach} {b0 : Nat} {v : Value} {d : DataW H} {ps : List MemPlace} (hval : Value.okWide Tryd.prog W r b0 55 v) (hd : DataW.Trod enc Tryd.prog W 0 (fun _ => true) true 55 v d ps) :
    ∃ X : Nat → Int, v = Iv X := by
  obtain ⟨cs, rfl, hsz⟩ := okWide_struct underI hval
  obtain ⟨fuel, hf⟩ := hd
  obtain ⟨xs, n, rfl, hx, hl, hxl, hall⟩ := DataW.trod_struct underI hf
  rw [cellsI] at hsz
  have hcs : (Value.agg cs).cells.toList = cs.toList := rfl
  have one : ∀ (j : Nat) (nm : String) (o : Nat), ([("Kind", 3, 0), ("Links", 3, 1), ("Size", 3, 2), ("Direct", 53, 3), ("Single", 3, 11), ("Double", 3, 12)] : List (String × TypeId × Nat))[j]? = some (nm, 3, o) → ∃ z : Int, cs[o]? = some (Value.int .i64 z) := by
    intro j nm o hj
    obtain ⟨f, h1, h2, h3⟩ := field_of fieldsI j nm 3 o hj
    have h4 := hall j f h1
    have hjl : j < xs.length := by
      rw [hxl]
      exact (Array.getElem?_eq_some_iff.1 h1).1
    rw [h2, h3, cells3e, List.getElem?_eq_getElem hjl, hcs] at h4
    obtain ⟨z, h5, _, _⟩ := DataW.trod_int Tryd.underlying3 h4
    exact ⟨z, cell_of_take (k := o) (n := 1) (j := 0) (by rw [h5]; rfl) (by omega)⟩
  have arr : ∀ i, i < 8 → ∃ z : Int, cs[3 + i]? = some (Value.int .i64 z) := by
    intro i hi
    obtain ⟨f, h1, h2, h3⟩ := field_of fieldsI 3 "Direct" 53 3 rfl
    have h4 := hall 3 f h1
    have hjl : 3 < xs.length := by
      rw [hxl]
      exact (Array.getElem?_eq_some_iff.1 h1).1
    rw [h2, h3, cellsA8, List.getElem?_eq_getElem hjl, hcs] at h4
    obtain ⟨ys, m, rfl, hy, hyl, hyn, hal⟩ := DataW.trod_array underA8 h4
    have h6 := hal i hi
    rw [cells3e, List.getElem?_eq_getElem (by omega)] at h6
    obtain ⟨z, h5, _, _⟩ := DataW.trod_int Tryd.underlying3 h6
    refine ⟨z, cell_of_take (k := 3) (n := 8) (j := i) ?_ hi⟩
    have h7 : ((((cs.toList.drop 3).take 8).drop (i * 1)).take 1)[0]? = some (.int .i64 z) := by rw [h5]; rfl
    rw [List.getElem?_take_of_lt (by omega), List.getElem?_drop, Nat.mul_one, Nat.add_zero] at h7
    exact h7
  have key : ∀ k, k < 13 → ∃ z : Int, cs[k]? = some (Value.int .i64 z) := by
    intro k hk
    have : k = 0 ∨ k = 1 ∨ k = 2 ∨ (3 ≤ k ∧ k < 11) ∨ k = 11 ∨ k = 12 := by omega
    rcases this with rfl | rfl | rfl | h | rfl | rfl
    · exact one 0 _ _ rfl
    · exact one 1 _ _ rfl
    · exact one 2 _ _ rfl
    · have := arr (k - 3) (by omega)
      rwa [show 3 + (k - 3) = k by omega] at this
    · exact one 4 _ _ rfl
    · exact one 5 _ _ rfl
  refine ⟨numIn cs, ?_⟩
  have : cs = Ic (numIn cs) := by
    apply Array.ext_getElem?
    intro i
    by_cases hi : i < 13
    · obtain ⟨z, hz⟩ := key i hi
      rw [ic_get _ i hi, hz, numIn, hz]
    · rw [Array.getElem?_eq_none (by omega), Array.getElem?_eq_none (by simp; omega)]
  exact congrArg Value.agg this

theorem open_dirent {H : Type} {enc : TypeId × Value → H} {W : World} {r : Reach} {b0 : Nat} {v : Value} {d : DataW H} {ps : List MemPlace} (hval : Value.okWide Tryd.prog W r b0 60 v) (hd : DataW.Trod enc Tryd.prog W 0 (fun _ => true) true 60 v d ps) :
    ∃ i s, v = Dv i s ∧ s.size ≤ 9223372036854775807 := by
  obtain ⟨cs, rfl, hsz⟩ := okWide_struct underD hval
  obtain ⟨fuel, hf⟩ := hd
  obtain ⟨xs, n, rfl, hx, hl, hxl, hall⟩ := DataW.trod_struct underD hf
  rw [cellsD] at hsz
  have hcs : (Value.agg cs).cells.toList = cs.toList := rfl
  obtain ⟨z, hz⟩ : ∃ z, cs[0]? = some (.int .i64 z) := by
    obtain ⟨f, h1, h2, h3⟩ := field_of fieldsD 0 "Inode" 3 0 rfl
    have h4 := hall 0 f h1
    have hjl : 0 < xs.length := by
      rw [hxl]
      exact (Array.getElem?_eq_some_iff.1 h1).1
    rw [h2, h3, cells3e, List.getElem?_eq_getElem hjl, hcs] at h4
    obtain ⟨z, h5, _, _⟩ := DataW.trod_int Tryd.underlying3 h4
    exact ⟨z, cell_of_take (k := 0) (n := 1) (j := 0) (by rw [h5]; rfl) (by omega)⟩
  obtain ⟨s, hs, hm⟩ : ∃ s, cs[1]? = some (.string s) ∧ s.size ≤ maxLen := by
    obtain ⟨f, h1, h2, h3⟩ := field_of fieldsD 1 "Name" 9 1 rfl
    have h4 := hall 1 f h1
    have hjl : 1 < xs.length := by
      rw [hxl]
      exact (Array.getElem?_eq_some_iff.1 h1).1
    rw [h2, h3, cells9e, List.getElem?_eq_getElem hjl, hcs] at h4
    obtain ⟨s, h5, _, h6⟩ := DataW.trod_string Tryd.underlying9 h4
    exact ⟨s, cell_of_take (k := 1) (n := 1) (j := 0) (by rw [h5]; rfl) (by omega), h6⟩
  refine ⟨z, s, ?_, by unfold maxLen at hm; omega⟩
  have : cs = Dc z s := by
    apply Array.ext_getElem?
    intro i
    by_cases h0 : i = 0
    · subst h0; rw [hz]; rfl
    · by_cases h1 : i = 1
      · subst h1; rw [hs]; rfl
      · rw [Array.getElem?_eq_none (by omega), Array.getElem?_eq_none (by simp; omega)]
  exact congrArg Value.agg this

end Go.Proofs.YtmdkcoenjadieaaDoor
