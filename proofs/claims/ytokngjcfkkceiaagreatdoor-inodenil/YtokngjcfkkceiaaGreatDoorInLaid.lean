/- What the row's condition on the listed table gives the walks, and that the program's own start meets it. -/
import Derived.Test.YtokngjcfkkceiaaGreatDoorInGOpen
import Derived.Test.YtokngjcfkkceiaaGreatDoorInJ1
import Derived.LaidMore
import Derived.Stop.Joined
namespace Go.Proofs.YtokngjcfkkceiaaGreatDoor
set_option maxRecDepth 100000
set_option maxHeartbeats 8000000
open Go.ChangeShapes Go.WideShapes Go.ChangeAt Go.RowKit
set_option linter.unusedVariables false

theorem gTab : Tryz.prog.globalNamed "skerry/crc.fourSteps" = some 0 := by kernel_rfl

theorem tTab:(Tryz.prog.globals[0]?).map (·.type)=some 276:=by kernel_rfl

abbrev laid1 : List (String × DataW Unit) := [("skerry/crc.fourSteps", Rows.laid_skerry_crc_fourSteps)]

theorem door_met (os:Os)(args:Array Value):laidMetH Tryz.prog laid1 ((World.doorLaid Tryz.prog 400 os).forCall (fun _ _=>0) ⟨#[],args,[]⟩).memory :=
 laidMetH_of_parts3 (fuel:=8) (laidMet_of_run' 8 (by kernel_rfl) (by kernel_rfl)) (by kernel_rfl) (by kernel_rfl)

theorem tab_of_laid {W:World}(h:laidMetH Tryz.prog laid1 W):Tab W:=by
 rw[MakeChecks.laidMetH_plain _ _ _ (by kernel_rfl)] at h
 obtain⟨ps,⟨g0,t0,cs0,f0,p0,q0,hg0,ht0,hv0,hd0,_,_⟩,_,_⟩:=h
 obtain rfl:=Option.some.inj (gTab.symm.trans hg0)
 obtain rfl:=Option.some.inj (tTab.symm.trans ht0)
 obtain⟨xs,m1,rfl,hx1,hlen,hn,hel⟩:=DataW.trod_array Tryz.underlying276 hd0
 have c39:Tryz.prog.cellsOf 248=1:=by kernel_rfl
 intro k hk
 have hk':=hel k hk
 have hxk:xs[k]?=some xs[k]:=List.getElem?_eq_getElem (by omega)
 rw[hxk] at hk'
 obtain⟨n,e1,e2,_⟩:=DataW.trod_int Tryz.underlying248 hk'
 have hd:(xs.map (·.1))[k]?=some (.lit (.int .u32 n)):=by rw[List.getElem?_map,hxk,e2];rfl
 have hx2:=congrArg Prod.fst hx1
 simp only[Rows.laid_skerry_crc_fourSteps,DataW.agg.injEq] at hx2
 rw[← hx2] at hd
 have hc:=World.var?_cell hg0 hv0 k
 rw[c39,Nat.mul_one] at e1
 have hck:cs0.toList[k]?=some (.int .u32 n):=by
  have:((cs0.toList.drop k).take 1)[0]?=some (.int .u32 n):=by rw[e1];rfl
  simpa using this
 have hn':n=((tab k:Nat):Int):=by
  have:k=0∨k=1∨k=2∨k=3∨k=4∨k=5∨k=6∨k=7∨k=8∨k=9∨k=10∨k=11∨k=12∨k=13∨k=14∨k=15:=by omega
  rcases this with rfl | rfl | rfl | rfl | rfl | rfl | rfl | rfl | rfl | rfl | rfl | rfl | rfl | rfl | rfl | rfl<;>(simp at hd;subst hd;rfl)
 subst hn'
 rw[hc]
 simpa using hck

end Go.Proofs.YtokngjcfkkceiaaGreatDoor
