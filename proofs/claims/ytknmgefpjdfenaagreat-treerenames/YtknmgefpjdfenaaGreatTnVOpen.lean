/- Texts and lists of texts that came in, opened: within the reach of the form. -/
import Derived.Test.YtknmgefpjdfenaaGreatTnGOpen
import Derived.Test.YtknmgefpjdfenaaGreatTnVBase
import Derived.SliceStrings
namespace Go.Proofs.YtknmgefpjdfenaaGreat
open Go.ChangeShapes Go.WideShapes Go.ChangeAt Go.RowKit
set_option linter.unusedVariables false
set_option maxRecDepth 100000

theorem bytes9 : Tryz.prog.bytesOf 9 = 16 := by kernel_rfl

theorem cells9 : Tryz.prog.cellsOf 9 = 1 := by kernel_rfl

theorem str_len {a : ByteArray} (h : a.data.toList.length ≤ reachBytes) : a.data.toList.length ≤ 9223372036854775807 := by
  simp only [reachBytes] at h
  omega

theorem open_texts {H : Type} {enc : TypeId × Value → H} {W : World} {a0 : Option Addr} {len0 cap0 : Nat} {d0 : DataW H} {p0 : List MemPlace} (h0 : DataW.Trod enc Tryz.prog W 0 (fun _ => true) true 103 (.slice a0 len0 cap0) d0 p0)
    (hsz : ∀ elems spare, d0 = .slice elems spare → (elems.length + spare.length) * Tryz.prog.bytesOf 9 ≤ reachBytes) : ∃ xs, HasS W a0 len0 xs ∧ len0 ≤ cap0 ∧ len0 ≤ 8796093021952 ∧ ∀ j : Nat, (xs[j]?.getD []).length ≤ 9223372036854775807 := by
  obtain ⟨fuel, hf⟩ := h0
  rcases open_strings Tryz.underlying103 Tryz.underlying9 cells9 hf with ⟨hcs, _⟩ | ⟨x, l, c, ss, hcs, _, hl, hm, hz, hx, hcell, hwz⟩
  · simp [Value.cells] at hcs
    obtain ⟨rfl, rfl, rfl⟩ := hcs
    exact ⟨[], HasS.nil _ _, Nat.le_refl _, by omega, by simp⟩
  · simp [Value.cells] at hcs
    obtain ⟨rfl, rfl, rfl⟩ := hcs
    have hz' : ss.length = cap0 := by simpa using hz
    have hb := hsz _ _ (congrArg Prod.fst hx)
    rw [bytes9] at hb
    simp only [strs, List.length_map, List.length_take, List.length_drop, reachBytes] at hb
    refine ⟨(ss.take len0).map (·.data.toList), ⟨by simp; omega, fun hp => ?_⟩, hl, by omega, fun j => ?_⟩
    · obtain ⟨b, off, spot⟩ := x
      have hc := hcell 0 (by omega)
      have hspot : spot = none := by simpa [Addr.add] using World.cell?_spot hc
      subst hspot
      have hblk := cell_block_lt hc
      refine ⟨b, off, rfl, by simpa [Addr.add] using hblk, fun j hj => ?_⟩
      have := hcell j (by omega)
      rw [World.add_zero_spot] at this
      rw [this]
      have hjl : j < ss.length := by omega
      unfold sv
      rw [List.getElem?_map, List.getElem?_take_of_lt hj, List.getElem?_eq_getElem hjl]
      simp [St_data, List.getD, List.getElem?_eq_getElem hjl]
    · rw [List.getElem?_map]
      cases hj : (ss.take len0)[j]? with
      | none => simp
      | some s =>
        have := hwz s (List.mem_of_mem_take (List.mem_of_getElem? hj))
        unfold maxLen at this
        exact this

end Go.Proofs.YtknmgefpjdfenaaGreat
