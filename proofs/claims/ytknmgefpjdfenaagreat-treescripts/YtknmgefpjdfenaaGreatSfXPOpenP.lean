/- A plan that came in, opened. -/
import Derived.Test.YtknmgefpjdfenaaGreatSfJ9
import Derived.Test.YtknmgefpjdfenaaGreatSfJ5
import Derived.ChangeArms
namespace Go.Proofs.YtknmgefpjdfenaaGreat
set_option maxRecDepth 100000
set_option maxHeartbeats 8000000
open Go.ChangeShapes Go.WideShapes Go.ChangeAt Go.RowKit
set_option linter.unusedVariables false

theorem cellsP3:Tryz.prog.cellsOf 3=1:=by kernel_rfl
theorem cells24:Tryz.prog.cellsOf 23=12:=by kernel_rfl
theorem count24:(Tryz.prog.fieldsOf 23).size=12:=by kernel_rfl

theorem field_at (k:Nat) (hk:k < 12):∃ f,(Tryz.prog.fieldsOf 23)[k]?=some f∧f.type=3∧f.offset=k:=by
 have h:=fields24
 have hs:k < (Tryz.prog.fieldsOf 23).size:=by rw [count24]; exact hk
 refine ⟨(Tryz.prog.fieldsOf 23)[k],by simp [hs],?_⟩
 have hg:((Tryz.prog.fieldsOf 23).toList.map (fun f=>(f.name,f.type,f.offset)))[k]?=some (((Tryz.prog.fieldsOf 23)[k]).name,((Tryz.prog.fieldsOf 23)[k]).type,((Tryz.prog.fieldsOf 23)[k]).offset):=by
  rw [List.getElem?_map,Array.getElem?_toList,Array.getElem?_eq_getElem hs]; rfl
 rw [h] at hg
 generalize (Tryz.prog.fieldsOf 23)[k]=f at *
 rcases twelve hk with rfl | rfl | rfl | rfl | rfl | rfl | rfl | rfl | rfl | rfl | rfl | rfl
 all_goals
  simp only [List.getElem?_cons_zero,List.getElem?_cons_succ,Option.some.injEq,Prod.mk.injEq] at hg
  exact ⟨hg.2.1.symm,hg.2.2.symm⟩

def numAt (cs:Array Value) (k:Nat):Int:=match cs[k]? with
 | some (.int _ z)=>z
 | _=>0

theorem open_plan {H:Type} {enc:TypeId × Value→H} {W:World} {r:Reach} {b0:Nat} {v:Value} {d:DataW H} {ps:List MemPlace} (hval:Value.okWide Tryz.prog W r b0 23 v) (hd:DataW.Trod enc Tryz.prog W 0 (fun _=>true) true 23 v d ps) :
  ∃ P:Nat→Int,v=PvN P∧∀ k,k < 12→-9223372036854775808 ≤ P k∧P k ≤ 9223372036854775807:=by
 obtain ⟨cs,rfl,hsz⟩:=okWide_struct under24 hval
 obtain ⟨fuel,hf⟩:=hd
 obtain ⟨xs,n,rfl,hx,hl,hxl,hall⟩:=DataW.trod_struct under24 hf
 rw [cells24] at hsz
 rw [count24] at hxl
 have key:∀ k,k < 12→∃ z,cs[k]?=some (.int .i64 z)∧(Lit.int .i64 z).wf=true:=by
  intro k hk
  obtain ⟨f,h1,h2,h3⟩:=field_at k hk
  have h4:=hall k f h1
  rw [h2,h3,cellsP3,List.getElem?_eq_getElem (by omega)] at h4
  obtain ⟨z,h5,_,h6⟩:=DataW.trod_int Tryz.underlying3 h4
  refine ⟨z,?_,h6⟩
  have h7:((cs.toList.drop k).take 1)[0]?=some (.int .i64 z):=by
   have:(Value.agg cs).cells.toList=cs.toList:=rfl
   rw [this] at h5
   rw [h5]; rfl
  rw [List.getElem?_take_of_lt (by omega),List.getElem?_drop,Nat.add_zero,Array.getElem?_toList] at h7
  exact h7
 refine ⟨numAt cs,?_,?_⟩
 ·have:cs=Pc (numAt cs):=by
   apply Array.ext_getElem?
   intro i
   by_cases hi:i < 12
   ·obtain ⟨z,hz,_⟩:=key i hi
    rw [pc_get _ i hi,hz,numAt,hz]
   ·rw [Array.getElem?_eq_none (by omega),Array.getElem?_eq_none (by simp; omega)]
  exact congrArg Value.agg this
 ·intro k hk
  obtain ⟨z,hz,hw⟩:=key k hk
  rw [numAt,hz]
  exact int_max hw

end Go.Proofs.YtknmgefpjdfenaaGreat
