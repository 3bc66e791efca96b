/- The contract of device.copied. -/
import Derived.Test.YtpkhllpghjldhaaGBase
namespace Go.Proofs.Ytpkhllpghjldhaa
open Go.RowKit Go.Shelf
set_option linter.unusedVariables false

set_option maxRecDepth 100000 in
set_option maxHeartbeats 1000000 in
theorem copied_any (a : Option Addr) (len cap : Nat) (zs : List Int) (w : World) (hr : Row w.heap.size w a len cap zs) :
    Calls Try.prog 46 #[.slice a len cap] w fun e w' => e = .returned (.slice (some ⟨w.heap.size, 0, none⟩) len len) ∧ Block w' w.heap.size zs ∧ Below w.heap.size w w' := by
  obtain ⟨hlen, hlc, hcm, hby, hcell⟩ := hr
  have hmk := run_make_row' (P := Try.prog) 36 5 (.int .u8 0) 1 Try.underlying36 info5 rfl .i64 .i64 len (by omega) (by omega)
  have hb0 : Below w.heap.size w (w.alloc (.cells (madeCells #[.int .u8 0] len) 5)) := (Below.refl _ w).alloc (Nat.le_refl _) _
  have hsrc : 0 < len → ∃ ad, a = some ad ∧ ∀ (j : Nat) v, (zs.map (Value.int .u8))[j]? = some v → (w.alloc (.cells (madeCells #[.int .u8 0] len) 5)).cell? (ad.add j) = some v := by
    intro hp
    obtain ⟨b, off, rfl, hb, hc⟩ := hcell hp
    refine ⟨_, rfl, fun j v hv => ?_⟩
    rw [World.add_zero_spot, hb0.cell (p := ⟨b, off + j, none⟩) hb]
    have hj : j < zs.length := by
      have := (List.getElem?_eq_some_iff.1 hv).1
      simpa using this
    rw [hc j (by omega)]
    rw [List.getElem?_map, List.getElem?_eq_getElem hj] at hv
    rw [List.getElem?_eq_getElem hj]
    simpa using hv
  have hg : (w.alloc (.cells (madeCells #[.int .u8 0] len) 5)).heap[w.heap.size]? = some (.cells (List.replicate len (Value.int .u8 0)).toArray 5 (0, 0)) := by
    rw [World.alloc_heap_new, ← toList_madeCells_one, Array.toArray_toList]
  obtain ⟨w2, hcp, hg2, hb2⟩ : ∃ w2, (∀ ty, (Builtin.copy_ #[36, 36] ty #[.slice (some ⟨w.heap.size, 0, none⟩) len len, .slice a len cap]).run Try.prog (w.alloc (.cells (madeCells #[.int .u8 0] len) 5)) = .ok (goInt len) w2) ∧ Block w2 w.heap.size zs ∧ Below w.heap.size w w2 := by
    by_cases h0 : len = 0
    · subst h0
      have hz : zs = [] := List.eq_nil_of_length_eq_zero hlen
      subst hz
      exact ⟨_, fun ty => run_copy_none _ 36 36 ty 5 _ _ _ _ _ _ Try.underlying36 size5 rfl, hg, hb0⟩
    · obtain ⟨ad, rfl, hs⟩ := hsrc (by omega)
      refine ⟨_, fun ty => ?_, ?_, below_setRow hb0 (Nat.le_refl _) (zs.map (Value.int .u8)).toArray⟩
      · have h := run_copy_row (P := Try.prog) (w.alloc (.cells (madeCells #[.int .u8 0] len) 5)) 36 36 ty 5 w.heap.size 0 len len ad len cap _ 5 (zs.map (Value.int .u8)) Try.underlying36 size5 hg (by rw [List.length_map, hlen]; exact (Nat.min_self _).symm) hs (by simp [hlen]) (oneCell_bytes zs)
        have e : (List.take 0 (List.replicate len (Value.int .u8 0)).toArray.toList ++ zs.map (Value.int .u8) ++ List.drop (0 + (zs.map (Value.int .u8)).length) (List.replicate len (Value.int .u8 0)).toArray.toList) = zs.map (Value.int .u8) := by
          simp [hlen]
        rw [e, List.length_map, hlen] at h
        exact h
      · exact setRow_heap _ _ _ _ 5 _ hg
  clear hg hsrc hcell
  go_enter Try.func46, Try.ntmps46
  go_wp2
  go_ret
  exact ⟨rfl, hg2, hb2⟩

theorem copied_at (a : Option Addr) (len cap : Nat) (zs : List Int) (w : World) (n : Nat) (hn : w.heap.size = n) (hr : Row w.heap.size w a len cap zs) :
    Calls Try.prog 46 #[.slice a len cap] w fun e w' => e = .returned (.slice (some ⟨n, 0, none⟩) len len) ∧ Hid (Block w' n zs) ∧ Below n w w' := by
  subst hn; exact copied_any a len cap zs w hr

end Go.Proofs.Ytpkhllpghjldhaa
