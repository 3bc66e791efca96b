/- bytes.Clone. -/
import Derived.Test.YtknmgefpjdfenaaGreatSfJ1
import Derived.Test.YtknmgefpjdfenaaGreatSfJ1
import Derived.OwnWalk
namespace Go.Proofs.YtknmgefpjdfenaaGreat
set_option maxRecDepth 100000
set_option maxHeartbeats 8000000
open Go.RowKit Go.Shelf
set_option linter.unusedVariables false

theorem own_bare8 (w:World):Own w.heap.size (w.alloc (.cells #[] 5)) (some ⟨w.heap.size,0,none⟩) 0 0 [] :=
 ⟨rfl,Nat.le_refl _,by unfold maxLen; omega,.inr ⟨w.heap.size,#[],rfl,Nat.le_refl _,World.alloc_heap_new _ _,rfl,rfl⟩⟩

theorem Has.later8 {w w':World} {a:Option Addr} {len:Nat} {zs:List Int} (h:Has w a len zs) (hb:Below w.heap.size w w'):Has w' a len zs:=by
 refine ⟨h.1,fun hp=>?_⟩
 obtain ⟨b,off,e,hc⟩:=h.2 hp
 exact ⟨b,off,e,fun j hj=>by rw [hb.cell (p:=⟨b,off + j,none⟩) (cell_block_lt (hc j hj))]; exact hc j hj⟩

theorem bclone_any (x:Addr) (len cap:Nat) (zs:List Int) (w:World) (hr:Has w (some x) len zs) (hn:len ≤ 140737488351232) :
  Calls Tryz.prog 50 #[.slice (some x) len cap] w fun e w'=>∃ a c,e=.returned (.slice a len c)∧Own w.heap.size w' a len c zs∧Below w.heap.size w w':=by
 have hb0:Below w.heap.size w (w.alloc (.cells #[] 5)):=(Below.refl _ w).alloc (Nat.le_refl _) _
 obtain ⟨a1,c1,w1,r1,o1,_,b1⟩:=run_append_bytes (own_bare8 w) hb0.size cap (hr.later8 hb0) (by omega)
 rw [Nat.zero_add] at r1 o1
 rw [List.nil_append] at o1
 have R:=hide r1
 have O:=hide o1
 have B:=hide (hb0.trans b1)
 clear r1 o1 b1 hb0 hr hn
 have q:∀ (w:World) (a:Option Addr) (n c n' c':Nat),(binOp .eql 34 (.slice a n c) (.slice none n' c')).run Tryz.prog w=.ok (.bool a.isNone) w:=fun w a n c n' c'=>Lib.run_eql_slice_nil w _ _ a n c n' c' Tryz.underlying34
 go_enter Tryz.func50,Tryz.ntmps50
 go_wp2_with (at_builtin; refine wpList_append_run 34 rfl _ _ rfl _ _ _ rfl rfl (unhide R) ?_)
 go_ret
 exact ⟨_,_,rfl,unhide O,unhide B⟩

end Go.Proofs.YtknmgefpjdfenaaGreat
