/- Slices of numbers. -/
import Derived.Test.YtknmgefpjdfenaaGreatTnGBase
namespace Go.Proofs.YtknmgefpjdfenaaGreat
open Go.RowKit Go.Shelf
set_option linter.unusedVariables false

/-- A slice holds these numbers. -/
def IHas (w : World) (a : Option Addr) (len : Nat) (ns : List Int) : Prop :=
  ns.length = len ∧ (0 < len → ∃ b off, a = some ⟨b, off, none⟩ ∧ ∀ j, j < len → w.cell? ⟨b, off + j, none⟩ = some (.int .i64 (ns[j]?.getD 0)))

theorem IHas.lt {w : World} {a : Option Addr} {len : Nat} {zs : List Int} (h : IHas w a len zs) {b off : Nat} (hp : 0 < len) (e : a = some ⟨b, off, none⟩) : b < w.heap.size := by
  obtain ⟨b', off', e', hc⟩ := h.2 hp
  rw [e] at e'
  cases e'
  exact cell_block_lt (hc 0 hp)

theorem IHas.later {w w' : World} {a : Option Addr} {len : Nat} {zs : List Int} (h : IHas w a len zs) (hb : Below w.heap.size w w') : IHas w' a len zs := by
  refine ⟨h.1, fun hp => ?_⟩
  obtain ⟨b, off, e, hc⟩ := h.2 hp
  exact ⟨b, off, e, fun j hj => (hb.cell (p := ⟨b, off + j, none⟩) (h.lt hp e)).trans (hc j hj)⟩

end Go.Proofs.YtknmgefpjdfenaaGreat
