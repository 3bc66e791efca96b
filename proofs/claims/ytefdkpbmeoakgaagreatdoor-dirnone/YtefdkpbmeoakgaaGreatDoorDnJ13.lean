/- Joined: GSort, Laid. -/
import Derived.Test.YtefdkpbmeoakgaaGreatDoorDnJ8
import Derived.Shelf.SortM.Plain
import Derived.Shelf.SortM.SortNone
import Derived.Sort.OwnSortedInts
import Derived.Test.YtefdkpbmeoakgaaGreatDoorDnJ10
import Derived.Test.YtefdkpbmeoakgaaGreatDoorDnJ1
import Derived.LaidMore
import Derived.Stop.Joined
/- slices.Sort at numbers, and an append of one number. -/
namespace Go.Proofs.YtefdkpbmeoakgaaGreatDoor
set_option maxRecDepth 100000
set_option maxHeartbeats 8000000
open Go.RowKit Go.Shelf Go.Maps
set_option linter.unusedVariables false

shelf_lay_g SlLaysM.n5 Slgm 5 at Tryz 194 as Tryz.sortL

def srt (zs:List Int):List Int:=zs.mergeSort fun x y=>decide (x≤y)

theorem acK (zs:List Int):(srt zs).length=zs.length:=List.length_mergeSort zs

theorem afc (zs:List Int):(srt zs).Perm zs:=List.mergeSort_perm _ _

theorem aku:∀ a b c:Int,decide (a≤b)=true→decide (b≤c)=true→decide (a≤c)=true:=fun a b c h1 h2=>by simp only[decide_eq_true_eq] at *;omega

theorem akv:∀ a b:Int,(decide (a≤b)||decide (b≤a))=true:=fun a b=>by simp only[Bool.or_eq_true,decide_eq_true_eq];omega

theorem aaZ (zs:List Int):(srt zs).Pairwise (fun a b=>decide (a≤b)=true):=List.pairwise_mergeSort aku akv zs

theorem ag0 {zs ts:List Int}(h:zs.Perm ts)(hs:ts.Pairwise (·≤·)):srt zs=ts:=by
 refine List.Perm.eq_of_pairwise (le:=fun a b=>decide (a≤b)=true) (fun a b _ _ h1 h2=>?_) (aaZ zs) (hs.imp (fun h=>by simpa using h)) ((afc zs).trans h)
 simp only[decide_eq_true_eq] at h1 h2
 omega

theorem afd (B:Nat)(v:Value)(zs:List Int)(w:World)(h:Gr B w v zs)(hn:zs.length≤17592186044416)(hB:B≤w.heap.size) :
  Calls Tryz.prog 194 #[v] w fun e w'=>e=.returned (.tuple #[])∧Gr B w' v (srt zs)∧Below B w w':=by
 obtain⟨h1,h2⟩:=h
 rcases h2 with ⟨rfl,h0⟩ | ⟨g,cap,cur,rfl,hg,hh,h2,h3,hc,ht⟩
 ·obtain rfl:zs=[]:=List.eq_nil_of_length_eq_zero h0
  have:=AnyM.slices_Sort_int_none Tryz.sortL none 0 w
  change Calls Tryz.prog 194 _ _ _ at this
  refine this.mono ?_
  rintro e w' ⟨rfl,rfl⟩
  have e0:srt []=[]:=by simp[srt]
  exact⟨rfl,by rw[e0];exact World.ownsRow_nil _ _ _ _,Below.refl _ _⟩
 ·have hH:Go.Sort.Holds (Value.int .i64) w g 0 zs.toArray:=holds_of_blockI hh (by simpa using ht)
  have hl:g<w.heap.size:=(Array.getElem?_eq_some_iff.1 hh).1
  have:=AnyM.slices_Sort_int Tryz.sortL g 0 cap zs w hH hl (by omega)
  change Calls Tryz.prog 194 _ _ _ at this
  refine this.mono ?_
  rintro e w' ⟨rfl,n,os,rfl⟩
  refine⟨rfl,?_,(Below.refl B w).grown (grownBy_sortedI _) hB (fun k e=>by cases e;exact hg)⟩
  have:=ownsRow_sortedI (n:=n) (os:=os) (ss:=zs) (ts:=srt zs) (acK zs) hg hh h2 h3 hc
  unfold Gr
  rw[acK]
  exact this

theorem Gr.one {B u v L}(h:Gr B u v L)(hB:B≤u.heap.size)(hl:L.length+1≤17592186044416)(x:Int) :
  ∃ v' w',(∀ ty,(Builtin.append_ #[102,102] ty #[v,.slice (some ⟨u.heap.size,0,none⟩) 1 1]).run Tryz.prog (u.alloc (zI x))=.ok v' w')∧Gr B w' v' (L++[x])∧Below B u w'∧(∀ k,k<u.heap.size→v.ownBlock≠some k→w'.heap[k]?=u.heap[k]?):=by
 obtain⟨i0,hi,hz0,hz1,hz2⟩:=info_parts info3
 have hb:Below u.heap.size u (u.alloc (zI x)):=(Below.refl _ _).alloc (Nat.le_refl _) _
 have hr:=World.rowIs_alloc u #[.int .i64 x] 3 (fun j=>.int .i64 x) (fun j hj=>by
  have:j=0:=by simp at hj;omega
  subst this;rfl)
 obtain⟨v',w',hrun,ho,hg,_⟩:=run_append_own (P:=Tryz.prog) (u.alloc (zI x)) B 102 0 3 i0 (.int .i64 0) 1 8 Tryz.underlying102 hi hz0 hz1 hz2 rfl (by decide) v L.length _ (h.later hb) ⟨u.heap.size,0,none⟩ 1 1 [.int .i64 x] rfl (by
   intro j z hj
   rw[World.aF,Nat.zero_add]
   have hj2:j=0:=by have:=(List.getElem?_eq_some_iff.1 hj).1;simp at this;omega
   rw[hr.cell (i:=j) (by simp;omega)]
   subst hj2;simpa using hj) (by intro z hz;simp at hz;subst hz;rfl) (by unfold maxLen;omega) (by omega) (Nat.le_trans hB hb.size)
 refine⟨v',w',fun ty=>hrun,?_,?_,fun k hk hne=>?_⟩
 ·unfold Gr
  rw[List.map_append,List.length_append]
  exact ho
 ·exact(hb.mono hB).grown hg (Nat.le_trans hB hb.size) (fun k e=>((h.later hb).lt k e).1)
 ·exact(hg.block k (Nat.lt_of_lt_of_le hk hb.size) (fun e=>hne e.symm)).trans (hb.block k hk)

end Go.Proofs.YtefdkpbmeoakgaaGreatDoor

/- What the row's condition on the listed table gives the walks, and that the program's own start meets it. -/
namespace Go.Proofs.YtefdkpbmeoakgaaGreatDoor
set_option maxRecDepth 100000
set_option maxHeartbeats 8000000
open Go.ChangeShapes Go.WideShapes Go.ChangeAt Go.RowKit
set_option linter.unusedVariables false

theorem gTab : Tryz.prog.globalNamed "skerry/crc.fourSteps" = some 1 := by kernel_rfl

theorem alT:(Tryz.prog.globals[1]?).map (·.type)=some 293:=by kernel_rfl

abbrev laid1 : List (String × DataW Unit) := [("skerry/crc.fourSteps", Rows.laid_skerry_crc_fourSteps)]

theorem door_met (os:Os)(args:Array Value):laidMetH Tryz.prog laid1 ((World.doorLaid Tryz.prog 400 os).forCall (fun _ _=>0) ⟨#[],args,[]⟩).memory :=
 laidMetH_of_parts3 (fuel:=8) (laidMet_of_run' 8 (by kernel_rfl) (by kernel_rfl)) (by kernel_rfl) (by kernel_rfl)

theorem yF {W:World}(h:laidMetH Tryz.prog laid1 W):Tab W:=by
 rw[MakeChecks.laidMetH_plain _ _ _ (by kernel_rfl)] at h
 obtain⟨ps,⟨g0,t0,cs0,f0,p0,q0,hg0,ht0,hv0,hd0,_,_⟩,_,_⟩:=h
 obtain rfl:=Option.some.inj (gTab.symm.trans hg0)
 obtain rfl:=Option.some.inj (alT.symm.trans ht0)
 obtain⟨xs,m1,rfl,hx1,hlen,hn,hel⟩:=DataW.trod_array Tryz.underlying293 hd0
 have c39:Tryz.prog.cellsOf 269=1:=by kernel_rfl
 intro k hk
 have hk':=hel k hk
 have hxk:xs[k]?=some xs[k]:=List.getElem?_eq_getElem (by omega)
 rw[hxk] at hk'
 obtain⟨n,e1,e2,_⟩:=DataW.trod_int Tryz.underlying269 hk'
 have hd:(xs.map (·.1))[k]?=some (.lit (.int .u32 n)):=by rw[List.getElem?_map,hxk,e2];rfl
 have hx2:=congrArg Prod.fst hx1
 simp only[Rows.laid_skerry_crc_fourSteps,DataW.agg.injEq] at hx2
 rw[← hx2] at hd
 have hc:=World.var?_cell hg0 hv0 k
 rw[c39,Nat.mul_one] at e1
 have hck:cs0.toList[k]?=some (.int .u32 n):=by
  have:((cs0.toList.drop k).take 1)[0]?=some (.int .u32 n):=by rw[e1];rfl
  simpa using this
 have hn':n=((tab k:Nat):Int):=by
  have:k=0∨k=1∨k=2∨k=3∨k=4∨k=5∨k=6∨k=7∨k=8∨k=9∨k=10∨k=11∨k=12∨k=13∨k=14∨k=15:=by omega
  rcases this with rfl | rfl | rfl | rfl | rfl | rfl | rfl | rfl | rfl | rfl | rfl | rfl | rfl | rfl | rfl | rfl<;>(simp at hd;subst hd;rfl)
 subst hn'
 rw[hc]
 simpa using hck

end Go.Proofs.YtefdkpbmeoakgaaGreatDoor
