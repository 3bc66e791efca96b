/- The table stays; rows of bytes. -/
import Derived.Test.YtmdkcoenjadieaaDoorUFol
namespace Go.Proofs.YtmdkcoenjadieaaDoor
open Go.RowKit Go.Shelf
set_option linter.unusedVariables false

theorem tab_size {w : World} (h : Tab w) : 0 < w.heap.size := by
  have h0 := h 0 (by omega)
  cases hb : w.heap[0]? with
  | none => simp [World.cell?, hb] at h0
  | some o => exact (Array.getElem?_eq_some_iff.1 hb).1

theorem Tab.below {n : Nat} {w w' : World} (h : Tab w) (hb : Below n w w') (hn : 0 < n) : Tab w' := fun k hk => (hb.cell (p := ⟨0, k, none⟩) hn).trans (h k hk)

theorem Row.byts {n : Nat} {w : World} {a : Option Addr} {len cap : Nat} {zs : List Int} (h : Row n w a len cap zs) : Byts zs := h.2.2.2.1

end Go.Proofs.YtmdkcoenjadieaaDoor
