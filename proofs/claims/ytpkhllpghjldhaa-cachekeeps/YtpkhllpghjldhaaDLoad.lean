/- The contract of Load. -/
import Derived.Test.YtpkhllpghjldhaaDFuse
import Derived.Deep.RegionHeld3
namespace Go.Proofs.Ytpkhllpghjldhaa
open Go.RowKit Go.Shelf
set_option linter.unusedVariables false

theorem undrew {B : Nat} {w w' : World} (h : Below B w.drew w') : Below B w w' := ⟨h.os, h.tape, h.output, h.size, h.block⟩

/-- A device's blocks, and what was made since. -/
def exS (S : Nat → Prop) (w w' : World) (k : Nat) : Prop := S k ∨ (w.heap.size ≤ k ∧ k < w'.heap.size)

theorem DvM.grow {w w' : World} {S : Nat → Prop} {g : Nat} {D : Dev} {m : Mem} (h : DvM w S g D m) (hb : Below w.heap.size w w') : DvM w' (exS S w w') g D m :=
  h.kept (fun k hk => hb.block k (h.lt k hk)) (fun k hk => .inl hk) (fun k hk => by
    rcases hk with hk | hk
    · exact Nat.lt_of_lt_of_le (h.lt k hk) hb.size
    · exact hk.2)

theorem Nx.grow {S : Nat → Prop} {w w' : World} (hb : Below w.heap.size w w') : Nx S w (exS S w w') w' :=
  ⟨Below.fr hb S, fun k hk hS => by
    rcases hS with hS | hS
    · exact hS
    · omega⟩

theorem RowAt.new {w w' : World} {S : Nat → Prop} {zs : List Int} {len : Nat} (hB : Block w' w.heap.size zs) (hl : zs.length = len) (hm : len ≤ 4096) (hz : ∀ z ∈ zs, 0 ≤ z ∧ z ≤ 255) : RowAt w' (exS S w w') len (w.heap.size, len) zs :=
  ⟨⟨hl, _, hB, by rw [List.toList_toArray, List.take_of_length_le (by simp [hl])]⟩, .inr ⟨Nat.le_refl _, hB.lt⟩, Nat.le_refl _, by unfold maxLen; omega, hz⟩

theorem DvM.loads {w w1 : World} {S : Nat → Prop} {g : Nat} {D : Dev} {m : Mem} (h : DvM w S g D m) {i : Nat} (hi : i < D.n) (hb : Below w.heap.size w w1) {zs : List Int} (hB : Block w1 w.heap.size zs) (hl : zs.length = D.blk) (hz : ∀ z ∈ zs, 0 ≤ z ∧ z ≤ 255) :
    ∃ S', Dv ((w1.setCell ⟨m.h, 2 * i, none⟩ (.slice (some ⟨w.heap.size, 0, none⟩) D.blk D.blk)).setCell ⟨m.h, 2 * i + 1, none⟩ (.slice none 0 0)) S' g (D.load i zs) ∧ Nx S w S' ((w1.setCell ⟨m.h, 2 * i, none⟩ (.slice (some ⟨w.heap.size, 0, none⟩) D.blk D.blk)).setCell ⟨m.h, 2 * i + 1, none⟩ (.slice none 0 0)) := by
  have h1 := (h.grow hb).setA hi (RowAt.new (S := S) hB hl h.ok.b2 hz)
  have h2 := h1.noneW (i := i) hi
  refine ⟨exS S w w1, ⟨_, h2⟩, ?_⟩
  exact ((Nx.grow hb).trans (Nx.set (p := ⟨m.h, 2 * i, none⟩) (h.grow hb).sh _)).trans (Nx.set (p := ⟨m.h, 2 * i + 1, none⟩) (h.grow hb).sh _)

end Go.Proofs.Ytpkhllpghjldhaa
