/- Dump. -/
import Derived.Test.YtknmgefpjdfenaaGreatTnJ41
namespace Go.Proofs.YtknmgefpjdfenaaGreat
open Go.RowKit Go.Shelf Go.Maps
set_option linter.unusedVariables false
set_option maxRecDepth 100000

set_option maxHeartbeats 2000000 in
theorem dump_ok {w : World} {S : Nat → Prop} {g r : Nat} {s : Tr} {rk : Nat → Nat} (h : TM w S g s) (hk : Ok s r) (hdp : Deep s rk) (n : Nat) (hn : rk r < n) (hnn : n ≤ 1000000) (hl : (dumpL s n [47] r).length ≤ 1000000) :
    Calls Tryz.prog 12 #[.pointer (some ⟨g, 0, none⟩)] w fun e w' => ∃ v ys, e = .returned v ∧ DL w.heap.size w' v ys ∧ ys.map (fun x => (x.p, x.t)) = dumpL s n [47] r ∧ Below w.heap.size w w' := by
  have KN := hide (isnone_no h hk.row_ne)
  have hb0 : Below w.heap.size w (w.alloc (.cells #[.slice none 0 0] 38)) := (Below.refl _ w).alloc (Nat.le_refl _) _
  obtain ⟨t, ht, _⟩ := hk.dir
  have h1 := h.below hb0
  have KE : Hid (Calls Tryz.prog 47 #[.pointer (some ⟨r, 0, none⟩), .string ⟨#[47]⟩, .func (.func 48) #[] #[.pointer (some ⟨w.heap.size, 0, none⟩)]] (w.alloc (.cells #[.slice none 0 0] 38)) fun e w' => e = .returned (.bool true) ∧ EP w.heap.size w.heap.size s n [47] r [] (w.alloc (.cells #[.slice none 0 0] 38)) w') :=
    each_dump h.lt (Nat.le_refl _) hdp n r [47] _ (.slice none 0 0) [] t ht hn h1 (Bl.new _ _ _) (DL.nil _ _) hb0.size (by simpa using hl) (by simp; omega)
  obtain ⟨_, c1, _, _⟩ := h1.tree_cells
  have hln := hk.row_len
  obtain ⟨rg, hra, _, cr, _⟩ := h1.row.cell (j := 1) hln
  rw [hk.root] at cr
  simp only [Option.getD_some, ptrO, Option.map_some] at cr
  rw [hra] at c1
  have i1 : (1 : Int) < (s.row.length : Int) := by omega
  have HB := hide hb0
  clear h hk hdp h1 hn hnn hl hb0 ht hra
  generalize s.row.length = rl at *
  go_enter Tryz.func12, Tryz.ntmps12
  go_wp2_with fail
  refine (unhide KN).mono ?_
  rintro e w1 ⟨rfl, rfl⟩
  clear KN
  go_upto_region 4 with fail
  change Code.wp _ _ _ _ (w1.alloc (.cells #[.slice none 0 0] 38))
  generalize w1.alloc (.cells #[.slice none 0 0] 38) = w2 at *
  go_wp2_with fail
  refine (unhide KE).mono ?_
  rintro e w3 ⟨rfl, v, ys, hbl, hD, hm, hb, hf⟩
  have z0 := hbl.cell 0 _ rfl
  have HR : Hid (DL w1.heap.size w3 v ys ∧ ys.map (fun x => (x.p, x.t)) = dumpL s n [47] r ∧ Below w1.heap.size w1 w3) := ⟨hD, hm, HB.out.trans hb⟩
  clear KE hbl hD hm hb hf HB c1 cr
  go_wp2_with fail
  go_ret
  exact ⟨v, ys, rfl, HR.out⟩

end Go.Proofs.YtknmgefpjdfenaaGreat
