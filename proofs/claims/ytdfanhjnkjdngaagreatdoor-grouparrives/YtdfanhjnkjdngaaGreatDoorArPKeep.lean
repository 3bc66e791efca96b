/- A plan that came in, kept in its block. -/
import Derived.Test.YtdfanhjnkjdngaaGreatDoorArJ9
import Derived.Deep.RegionHeld3
namespace Go.Proofs.YtdfanhjnkjdngaaGreatDoor
set_option maxRecDepth 100000
set_option maxHeartbeats 8000000
open Go.RowKit Go.Shelf
set_option linter.unusedVariables false

def Kp (w:World) (P:Nat→Int) (u:World):Prop:=R12 u w.heap.size P∧Below w.heap.size w u

theorem Kp.start (w:World) (P:Nat→Int):Kp w P (w.alloc (.cells (Pc P) 25)):=⟨R12.new w P,(Below.refl _ _).alloc (Nat.le_refl _) _⟩

theorem Kp.call {w u u':World} {P:Nat→Int} (h:Kp w P u) (hb:Below u.heap.size u u'):Kp w P u':=⟨h.1.below hb h.1.lt,h.2.trans (hb.mono h.2.size)⟩

theorem Kp.drew {w u:World} {P:Nat→Int} (h:Kp w P u):Kp w P u.drew:=⟨h.1,h.2.drew⟩

theorem Kp.cells {w u:World} {P:Nat→Int} (h:Kp w P u):u.cell? ⟨w.heap.size,0,none⟩=some (.int .i64 (P 0))∧u.cell? ⟨w.heap.size,1,none⟩=some (.int .i64 (P 1))∧u.cell? ⟨w.heap.size,2,none⟩=some (.int .i64 (P 2))∧u.cell? ⟨w.heap.size,3,none⟩=some (.int .i64 (P 3))∧u.cell? ⟨w.heap.size,4,none⟩=some (.int .i64 (P 4))∧u.cell? ⟨w.heap.size,5,none⟩=some (.int .i64 (P 5))∧u.cell? ⟨w.heap.size,6,none⟩=some (.int .i64 (P 6))∧u.cell? ⟨w.heap.size,7,none⟩=some (.int .i64 (P 7))∧u.cell? ⟨w.heap.size,8,none⟩=some (.int .i64 (P 8))∧u.cell? ⟨w.heap.size,9,none⟩=some (.int .i64 (P 9))∧u.cell? ⟨w.heap.size,10,none⟩=some (.int .i64 (P 10))∧u.cell? ⟨w.heap.size,11,none⟩=some (.int .i64 (P 11)) :=
 ⟨h.1.cell 0 (by omega),h.1.cell 1 (by omega),h.1.cell 2 (by omega),h.1.cell 3 (by omega),h.1.cell 4 (by omega),h.1.cell 5 (by omega),h.1.cell 6 (by omega),h.1.cell 7 (by omega),h.1.cell 8 (by omega),h.1.cell 9 (by omega),h.1.cell 10 (by omega),h.1.cell 11 (by omega)⟩

theorem Kp.js {w u:World} {P:Nat→Int} (h:Kp w P u):Hid (Kp w P u)∧u.cell? ⟨w.heap.size,0,none⟩=some (.int .i64 (P 0))∧u.cell? ⟨w.heap.size,1,none⟩=some (.int .i64 (P 1))∧u.cell? ⟨w.heap.size,2,none⟩=some (.int .i64 (P 2))∧u.cell? ⟨w.heap.size,3,none⟩=some (.int .i64 (P 3))∧u.cell? ⟨w.heap.size,4,none⟩=some (.int .i64 (P 4))∧u.cell? ⟨w.heap.size,5,none⟩=some (.int .i64 (P 5))∧u.cell? ⟨w.heap.size,6,none⟩=some (.int .i64 (P 6))∧u.cell? ⟨w.heap.size,7,none⟩=some (.int .i64 (P 7))∧u.cell? ⟨w.heap.size,8,none⟩=some (.int .i64 (P 8))∧u.cell? ⟨w.heap.size,9,none⟩=some (.int .i64 (P 9))∧u.cell? ⟨w.heap.size,10,none⟩=some (.int .i64 (P 10))∧u.cell? ⟨w.heap.size,11,none⟩=some (.int .i64 (P 11)):=⟨h,h.cells⟩

end Go.Proofs.YtdfanhjnkjdngaaGreatDoor
