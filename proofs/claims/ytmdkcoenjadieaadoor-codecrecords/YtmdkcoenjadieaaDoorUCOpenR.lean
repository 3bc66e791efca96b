/- A record that came in, opened. -/
import Derived.Test.YtmdkcoenjadieaaDoorUCOpenI
import Derived.Test.YtmdkcoenjadieaaDoorUJ38
import Derived.SizedLaws
namespace Go.Proofs.YtmdkcoenjadieaaDoor
open Go.ChangeAt Go.ChangeShapes Go.RowKit Go.Shelf Go.WideShapes
set_option linter.unusedVariables false
set_option maxRecDepth 100000

theorem cellsR : Tryd.prog.cellsOf 48 = 9 := by kernel_rfl

theorem types_of {fs : Array Field} {L : List (String × TypeId × Nat)} (h : fs.toList.map (fun f => (f.name, f.type, f.offset)) = L) : fs.toList.map (·.type) = L.map (·.2.1) := by
  subst h
  rw [List.map_map]
  rfl

theorem open_record {H : Type} {enc : TypeId × Value → H} {W : World} {r : Reach} {b0 : Nat} {v : Value} {d : DataW H} {ps : List MemPlace} (hval : Value.okWide Tryd.prog W r b0 48 v) (hd : DataW.Trod enc Tryd.prog W 0 (fun _ => true) true 48 v d ps) :
    ∃ (Z : Nat → Int) (s : ByteArray), v = Rv Z s ∧ s.data.toList.length ∈ DataW.weights Tryd.prog 48 d := by
  obtain ⟨cs, rfl, hsz⟩ := okWide_struct underR hval
  obtain ⟨fuel, hf⟩ := hd
  obtain ⟨xs, n, rfl, hx, hl, hxl, hall⟩ := DataW.trod_struct underR hf
  rw [cellsR] at hsz
  have hcs : (Value.agg cs).cells.toList = cs.toList := rfl
  have fld : ∀ (j : Nat) (nm : String) (t : TypeId) (o : Nat), ([("Base", 3, 0), ("Seq", 3, 1), ("Seal", 44, 2), ("Edit", 46, 6)] : List (String × TypeId × Nat))[j]? = some (nm, t, o) → ∃ hj : j < xs.length, DataW.trod enc Tryd.prog W 0 (fun _ => true) true n t ((cs.toList.drop o).take (Tryd.prog.cellsOf t)) = some xs[j] := by
    intro j nm t o hj
    obtain ⟨f, h1, h2, h3⟩ := field_of fieldsR j nm t o hj
    have h4 := hall j f h1
    have hjl : j < xs.length := by
      rw [hxl]
      exact (Array.getElem?_eq_some_iff.1 h1).1
    rw [h2, h3, List.getElem?_eq_getElem hjl, hcs] at h4
    exact ⟨hjl, h4⟩
  have one : ∀ (j : Nat) (nm : String) (o : Nat), ([("Base", 3, 0), ("Seq", 3, 1), ("Seal", 44, 2), ("Edit", 46, 6)] : List (String × TypeId × Nat))[j]? = some (nm, 3, o) → ∃ z : Int, cs[o]? = some (Value.int .i64 z) := by
    intro j nm o hj
    obtain ⟨_, h4⟩ := fld j nm 3 o hj
    rw [cells3e] at h4
    obtain ⟨z, h5, _, _⟩ := DataW.trod_int Tryd.underlying3 h4
    exact ⟨z, cell_of_take (k := o) (n := 1) (j := 0) (by rw [h5]; rfl) (by omega)⟩
  have arr : ∀ i, i < 4 → ∃ z : Int, cs[2 + i]? = some (Value.int .i64 z) := by
    intro i hi
    obtain ⟨_, h4⟩ := fld 2 "Seal" 44 2 rfl
    rw [cellsA4] at h4
    obtain ⟨ys, m, rfl, hy, hyl, hyn, hal⟩ := DataW.trod_array underA4 h4
    have h6 := hal i hi
    rw [cells3e, List.getElem?_eq_getElem (by omega)] at h6
    obtain ⟨z, h5, _, _⟩ := DataW.trod_int Tryd.underlying3 h6
    refine ⟨z, cell_of_take (k := 2) (n := 4) (j := i) ?_ hi⟩
    have h7 : ((((cs.toList.drop 2).take 4).drop (i * 1)).take 1)[0]? = some (.int .i64 z) := by rw [h5]; rfl
    rw [List.getElem?_take_of_lt (by omega), List.getElem?_drop, Nat.mul_one, Nat.add_zero] at h7
    exact h7
  obtain ⟨hj3, h4⟩ := fld 3 "Edit" 46 6 rfl
  rw [cellsE] at h4
  obtain ⟨ys, m, rfl, hy, hyl, hyn, hal⟩ := DataW.trod_struct underE h4
  have efl : ∀ (j : Nat) (nm : String) (t : TypeId) (o : Nat), ([("At", 3, 0), ("N", 3, 1), ("Text", 9, 2)] : List (String × TypeId × Nat))[j]? = some (nm, t, o) → ∃ hj : j < ys.length, DataW.trod enc Tryd.prog W 0 (fun _ => true) true m t ((((cs.toList.drop 6).take 3).drop o).take (Tryd.prog.cellsOf t)) = some ys[j] := by
    intro j nm t o hj
    obtain ⟨f, h1, h2, h3⟩ := field_of fieldsE j nm t o hj
    have h4 := hal j f h1
    have hjl : j < ys.length := by
      rw [hyn]
      exact (Array.getElem?_eq_some_iff.1 h1).1
    rw [h2, h3, List.getElem?_eq_getElem hjl] at h4
    exact ⟨hjl, h4⟩
  have inner : ∀ (o : Nat) (u : Value), o < 3 → (((cs.toList.drop 6).take 3).drop o).take 1 = [u] → cs[6 + o]? = some u := by
    intro o u ho h
    refine cell_of_take (k := 6) (n := 3) (j := o) ?_ ho
    have h7 : ((((cs.toList.drop 6).take 3).drop o).take 1)[0]? = some u := by rw [h]; rfl
    rw [List.getElem?_take_of_lt (by omega), List.getElem?_drop, Nat.add_zero] at h7
    exact h7
  obtain ⟨z6, h6⟩ : ∃ z : Int, cs[6]? = some (Value.int .i64 z) := by
    obtain ⟨_, h5⟩ := efl 0 "At" 3 0 rfl
    rw [cells3e] at h5
    obtain ⟨z, h6, _, _⟩ := DataW.trod_int Tryd.underlying3 h5
    exact ⟨z, inner 0 _ (by omega) h6⟩
  obtain ⟨z7, h7⟩ : ∃ z : Int, cs[7]? = some (Value.int .i64 z) := by
    obtain ⟨_, h5⟩ := efl 1 "N" 3 1 rfl
    rw [cells3e] at h5
    obtain ⟨z, h6, _, _⟩ := DataW.trod_int Tryd.underlying3 h5
    exact ⟨z, inner 1 _ (by omega) h6⟩
  obtain ⟨hj2, h5⟩ := efl 2 "Text" 9 2 rfl
  rw [cells9e] at h5
  obtain ⟨s, h8, hy2, _⟩ := DataW.trod_string Tryd.underlying9 h5
  have hs : cs[8]? = some (.string s) := inner 2 _ (by omega) h8
  have key : ∀ k, k < 8 → ∃ z : Int, cs[k]? = some (Value.int .i64 z) := by
    intro k hk
    have : k = 0 ∨ k = 1 ∨ (2 ≤ k ∧ k < 6) ∨ k = 6 ∨ k = 7 := by omega
    rcases this with rfl | rfl | h | rfl | rfl
    · exact one 0 _ _ rfl
    · exact one 1 _ _ rfl
    · have := arr (k - 2) (by omega)
      rwa [show 2 + (k - 2) = k by omega] at this
    · exact ⟨z6, h6⟩
    · exact ⟨z7, h7⟩
  refine ⟨numIn cs, s, ?_, ?_⟩
  · have : cs = Rc (numIn cs) s := by
      apply Array.ext_getElem?
      intro i
      by_cases hi : i < 8
      · obtain ⟨z, hz⟩ := key i hi
        have hrc : (Rc (numIn cs) s)[i]? = some (.int .i64 (numIn cs i)) := by
          have : i = 0 ∨ i = 1 ∨ i = 2 ∨ i = 3 ∨ i = 4 ∨ i = 5 ∨ i = 6 ∨ i = 7 := by omega
          rcases this with rfl | rfl | rfl | rfl | rfl | rfl | rfl | rfl <;> rfl
        rw [hrc, hz, numIn, hz]
      · by_cases h8 : i = 8
        · subst h8; rw [hs]; rfl
        · rw [Array.getElem?_eq_none (by omega), Array.getElem?_eq_none (by simp; omega)]
    exact congrArg Value.agg this
  · have hd : d = .agg (xs.map (·.1)) := (Prod.mk.inj hx).1
    have hd3 : xs[3].1 = .agg (ys.map (·.1)) := by rw [hy]
    have hd2 : ys[2].1 = .lit (.string s.data.toList) := by rw [hy2]
    have hw2 : s.data.toList.length ∈ DataW.weights Tryd.prog 46 xs[3].1 := by
      rw [hd3, DataW.weights, underE]
      show _ ∈ DataW.weightsEach _ _ _
      rw [types_of fieldsE]
      exact DataW.weights_mem_each (j := 2) (t := 9) rfl (by rw [List.getElem?_map, List.getElem?_eq_getElem hj2, Option.map_some, hd2]) _ (by simp [DataW.weights])
    rw [hd, DataW.weights, underR]
    show _ ∈ DataW.weightsEach _ _ _
    rw [types_of fieldsR]
    exact DataW.weights_mem_each (j := 3) (t := 46) rfl (by rw [List.getElem?_map, List.getElem?_eq_getElem hj3, Option.map_some]) _ hw2

end Go.Proofs.YtmdkcoenjadieaaDoor
