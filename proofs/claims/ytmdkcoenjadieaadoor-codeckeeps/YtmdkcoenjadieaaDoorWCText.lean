/- []byte(s): a text's bytes, in a row of the call's own. -/
import Derived.Test.YtmdkcoenjadieaaDoorWCStep
import Derived.Laws.IdiomStrings
namespace Go.Proofs.YtmdkcoenjadieaaDoor
open Go.RowKit Go.Shelf
set_option linter.unusedVariables false
set_option maxRecDepth 100000

theorem text_conv (n0 : Nat) (s : ByteArray) (u : World) (hn : n0 ≤ u.heap.size) (hs : s.size ≤ 140737488355328) :
    ∃ v u', (convert 9 26 (.string s)).run Tryd.prog u = .ok v u' ∧ spBytes s.size (byts s) v u' ∧ Grw n0 u u' := by
  have hr := run_bytes_of_string (P := Tryd.prog) u 9 26 5 s Tryd.underlying9 Tryd.underlying26 Tryd.underlying5
  have h1 := grownCap_ge u s.size 0 5
  have h2 := grownCap_le_maxLen u s.size 0 5 (by unfold maxLen; omega)
  unfold maxLen at h2
  generalize grownCap u s.size 0 5 = c at *
  refine ⟨_, _, hr, ⟨_, _, rfl, ⟨byts_length s, fun hp => ⟨u.heap.size, 0, rfl, fun j hj => ?_⟩⟩, byts_byte s, h1, by omega⟩, ?_⟩
  · have h := World.alloc_heap_new u.drew (.cells (bytesRow s c) 5 ((bytesRow s c).size, (bytesRow s c).size + 1))
    have e : u.drew.heap.size = u.heap.size := rfl
    rw [e] at h
    simp only [World.cell?, h, Nat.zero_add]
    have := bytesRow_at s c j hj
    rw [byts_get s j hj]
    exact this
  · have hb : Below u.heap.size u (u.drew.alloc (.cells (bytesRow s c) 5 ((bytesRow s c).size, (bytesRow s c).size + 1))) := (Below.refl u.heap.size u).drew.alloc (Nat.le_refl _) _
    exact Grw.of_below hn hb

end Go.Proofs.YtmdkcoenjadieaaDoor
