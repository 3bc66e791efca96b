/- Joined: GOpen, GOpenI. -/
import Derived.Test.YtknmgefpjdfenaaGreatSfJ1
import Derived.ProofKit
import Derived.OpenShut
import Derived.ShutString
import Derived.ChangeOld
import Derived.SizedLaws
/- A slice of bytes that came in, opened: within the reach of the form. -/
namespace Go.Proofs.YtknmgefpjdfenaaGreat
set_option maxRecDepth 100000
set_option maxHeartbeats 8000000
open Go.ChangeShapes Go.WideShapes Go.ChangeAt Go.RowKit
set_option linter.unusedVariables false

theorem own:ownKnob Tryz.prog.godebug=none:=by kernel_rfl

theorem laidOut:laidOutB Tryz.prog=true:=by kernel_rfl

theorem bytes5:Tryz.prog.bytesOf 5=1:=by kernel_rfl

theorem cells5:Tryz.prog.cellsOf 5=1:=by kernel_rfl

theorem open_row {H:Type} {enc:TypeId × Value→H} {W:World} {a0:Option Addr} {len0 cap0:Nat} {d0:DataW H} {p0:List MemPlace} (h0:DataW.Trod enc Tryz.prog W 0 (fun _=>true) true 34 (.slice a0 len0 cap0) d0 p0)
  (hsz:∀ elems spare,d0=.slice elems spare→(elems.length + spare.length) * Tryz.prog.bytesOf 5 ≤ reachBytes):∃ zs,Row W.heap.size W a0 len0 cap0 zs:=by
 obtain ⟨fuel,hf⟩:=h0
 rcases open_ints Tryz.underlying34 Tryz.underlying5 cells5 hf with ⟨hcs,_⟩ | ⟨x,l,c,zs,hcs,_,hl,hm,hz,hx,hcell,hwz⟩
 ·simp [Value.cells] at hcs
  obtain ⟨rfl,rfl,rfl⟩:=hcs
  exact ⟨[],rfl,Nat.le_refl _,by omega,by simp,by omega⟩
 ·simp [Value.cells] at hcs
  obtain ⟨rfl,rfl,rfl⟩:=hcs
  have hz':zs.length=cap0:=by simpa using hz
  have hb:=hsz _ _ (congrArg Prod.fst hx)
  rw [bytes5] at hb
  simp only [lits,List.length_map,List.length_take,List.length_drop,reachBytes] at hb
  refine ⟨zs.take len0,by simp; omega,hl,by omega,?_,fun hp=>?_⟩
  ·intro z hz
   exact bounds_u8 (hwz z (List.mem_of_mem_take hz))
  ·obtain ⟨b,off,spot⟩:=x
   have hc:=hcell 0 (by omega)
   have hspot:spot=none:=by simpa [Addr.add] using World.cell?_spot hc
   subst hspot
   have hblk:=cell_block_lt hc
   refine ⟨b,off,rfl,by simpa [Addr.add] using hblk,fun j hj=>?_⟩
   have:=hcell j (by omega)
   rw [World.add_zero_spot] at this
   simpa [List.getElem?_take_of_lt hj] using this

theorem int_max {x:Int} (h:(Lit.int .i64 x).wf=true):-9223372036854775808 ≤ x∧x ≤ 9223372036854775807:=by
 simp [Lit.wf,IntKind.min,IntKind.max,IntKind.signed,IntKind.bits] at h
 omega

end Go.Proofs.YtknmgefpjdfenaaGreat

/- A slice of numbers that came in, opened: within the reach of the form. -/
namespace Go.Proofs.YtknmgefpjdfenaaGreat
set_option maxRecDepth 100000
set_option maxHeartbeats 8000000
open Go.ChangeShapes Go.WideShapes Go.ChangeAt Go.RowKit
set_option linter.unusedVariables false

theorem cells3:Tryz.prog.cellsOf 3=1:=by kernel_rfl

end Go.Proofs.YtknmgefpjdfenaaGreat

