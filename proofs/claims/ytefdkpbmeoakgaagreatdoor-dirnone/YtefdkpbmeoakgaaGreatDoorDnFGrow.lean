/- grow: a file that becomes longer. Written by tools/gen_fgrow.py. -/
import Derived.Test.YtefdkpbmeoakgaaGreatDoorDnJ44
import Derived.Test.YtefdkpbmeoakgaaGreatDoorDnJ47
import Derived.Test.YtefdkpbmeoakgaaGreatDoorDnJ43
namespace Go.Proofs.YtefdkpbmeoakgaaGreatDoor
set_option maxRecDepth 100000
set_option maxHeartbeats 8000000
open Go.RowKit Go.Shelf Go.Maps
set_option linter.unusedVariables false
attribute [local go_sem] Oper.semAt_some
theorem abU {n0}{Q Q':List (Nat×Obj)->World->Prop}(hq:Bun n0 Q){rows:List (Nat×Obj)}{u:World}(h:Q rows u){fg o tb:Nat}{cs:Array Value}{ty:TypeId}(hf:(fg,.cells cs ty)∈rows)(c0:cs[0]?=some (.pointer (some ⟨o,0,none⟩)))(c1:cs[1]?=some (.pointer (some ⟨tb,0,none⟩))){j:Int}(c14:cs[14]?=some (.int .i64 j)){s:Int}(c17:cs[17]?=some (.int .i64 s))(size:Int)(hs:s<size)(X:Nat->Int)
  (KG:∀ rows' v,(∀ x∈rows,x∈rows')->Q rows' v->Calls Tryz.prog 54 #[.pointer (some ⟨tb,0,none⟩),.pointer (some ⟨o,0,none⟩),.int .i64 j] v fun e v'=>e=.returned (.tuple #[Iv X,.int .i64 0])/\Hid (Q rows' v'))
  (KP:∀ rows' v,(∀ x∈rows,x∈rows')->Q rows' v->Calls Tryz.prog 23 #[.pointer (some ⟨tb,0,none⟩),.pointer (some ⟨o,0,none⟩),.int .i64 j,.agg #[.int .i64 (X 0),.int .i64 (X 1),.int .i64 size,.int .i64 (X 3),.int .i64 (X 4),.int .i64 (X 5),.int .i64 (X 6),.int .i64 (X 7),.int .i64 (X 8),.int .i64 (X 9),.int .i64 (X 10),.int .i64 (X 11),.int .i64 (X 12)]] v fun e v'=>e=.returned (.int .i64 0)/\Hid (Q' rows v'))
  (hQ':∀ v v',Q' rows v->Below v.heap.size v v'->Q' rows v') :
  Calls Tryz.prog 101 #[.pointer (some ⟨fg,0,none⟩),.int .i64 size] u fun e v=>e=.returned (.int .i64 0)/\Hid (Q' rows v):=by
 have y17:=Bl.cell (hq.row h hf:Bl u fg cs ty) 17 _ c17
 have HB:=hide hq
 have L0:=hide h
 have HF:=hide (And.intro hf (And.intro c0 (And.intro c1 c14)))
 have HKG:=hide KG
 have HKP:=hide KP
 have HQ':=hide hQ'
 have hle:¬ size<=s:=by omega
 clear hq h hf c0 c1 c14 c17 KG KP hQ'
 refine(callsIn_wide (n:=3)).1 ?_
 refine callsIn_of_wp Tryz.func101 rfl trivial ?_ rfl
 simp only[Tryz.ntmps101,List.size_toArray,List.length_cons,List.length_nil,Nat.reduceAdd,Nat.reduceSub,Array.replicate_succ,Array.replicate_zero,List.push_toArray,List.append_toArray,List.nil_append,List.cons_append]
 gi_upto_region 3 with fail
 clear y17
 haveI hne:Nonempty (RgC (fun v=>Q rows v)):=⟨⟨_,ah L0⟩⟩
 have r0:∀ x:RgC (fun v=>Q rows v),x.w.cell? ⟨fg,0,none⟩=some (.pointer (some ⟨o,0,none⟩)):=fun x=>Bl.cell ((ah HB).row x.ok (ah HF).1:Bl x.w fg cs ty) 0 _ (ah HF).2.1
 have r1:∀ x:RgC (fun v=>Q rows v),x.w.cell? ⟨fg,1,none⟩=some (.pointer (some ⟨tb,0,none⟩)):=fun x=>Bl.cell ((ah HB).row x.ok (ah HF).1:Bl x.w fg cs ty) 1 _ (ah HF).2.2.1
 have r14:∀ x:RgC (fun v=>Q rows v),x.w.cell? ⟨fg,14,none⟩=some (.int .i64 j):=fun x=>Bl.cell ((ah HB).row x.ok (ah HF).1:Bl x.w fg cs ty) 14 _ (ah HF).2.2.2
 refine lS (fun v=>Q rows v) 12 3 (by kernel_rfl) (by kernel_rfl) ((ah HB).later (ah L0) (below_drewN (Below.refl _ _) 1)) _ _ _ rfl rfl rfl _ (fun _ _ h=>h) ?_
 simp only[Nat.reduceAdd,List.take_succ_cons,List.take_zero,List.drop_succ_cons,List.drop_zero]
 repeat (gi_big_quiet_step (fail))
 refine wpQuietIn_nil ?_
 clear r0 r1 r14
 have L1:=hide ((ah HB).later (ah L0) (below_drewN (Below.refl _ _) 1))
 clear L0
 generalize u.drewN 1=w1 at *
 refine⟨?_,?_⟩
 ·have L2:Hid (Q ((w1.heap.size,.cells Iz 65)::rows) (w1.alloc (.cells Iz 65))):=(ah HB).new (ah L1) (.cells Iz 65)
  have HP1:Hid (n0<=w1.heap.size/\∀ x∈rows,x.1≠w1.heap.size):=⟨(ah HB).sz (ah L1),(ah HB).ne (ah L1)⟩
  gi_wp2
  refine ay ⟨(ah HB).pop (ah L2),?_⟩
  change wpListIn _ _ _ _ _ _ _ (w1.alloc (.cells Iz 65))
  clear L1
  generalize w1.alloc (.cells Iz 65)=w2 at *
  generalize w1.heap.size=p at *
  have K2:=hide (ah HKG _ w2 (fun x hx=>List.mem_cons_of_mem _ hx) (ah L2))
  clear L2
  gi_wp2
  refine⟨trivial,?_⟩
  refine(callsIn_wide.2 (ah K2)).mono ?_
  rintro e w9 ⟨rfl,LP⟩
  clear K2
  gi_wp2
  refine ay ⟨(ah HB).pop (ah LP),?_⟩
  repeat (gi_big_quiet_step (fail))
  refine wpQuietIn_nil ?_
  clear hne
  gi_wp2_with (refine fH rfl 65 _ _ rfl p (Ic X) rfl rfl 65 Iz ((ah HB).row (ah LP) (x:=(p,.cells Iz 65)) (by simp)) (by kernel_rfl) rfl (by simp[Value.oneCell']) ?_)
  have L5:=hide ((ah HB).whole (ah LP) (ah HP1).1 (ah HP1).2 (Ic X))
  clear LP
  refine ay ⟨(ah HB).pop (ah L5),?_⟩
  generalize w9.setRow p (Ic X)=wa at *
  have bp:Bl wa p (Ic X) 65:=(ah HB).row (ah L5) (x:=(p,.cells (Ic X) 65)) (by simp)
  have y2:=bp.cell 2 (.int .i64 (X 2)) rfl
  have z2:=bp.free 2
  have L6:Hid (Q ((p,.cells #[.int .i64 (X 0),.int .i64 (X 1),.int .i64 size,.int .i64 (X 3),.int .i64 (X 4),.int .i64 (X 5),.int .i64 (X 6),.int .i64 (X 7),.int .i64 (X 8),.int .i64 (X 9),.int .i64 (X 10),.int .i64 (X 11),.int .i64 (X 12)] 65)::rows) (wa.setCell ⟨p,2,none⟩ (.int .i64 size))):=(ah HB).put (ah L5) (ah HP1).1 (ah HP1).2 2 (.int .i64 size)
  clear bp L5
  gi_wp2
  refine jy ?_
  gi_upto_region 7 with fail
  change Code.wpIn _ _ _ _ _ _ (wa.setCell ⟨p,2,none⟩ (.int .i64 size))
  clear y2 z2
  generalize wa.setCell ⟨p,2,none⟩ (.int .i64 size)=wb at *
  have f0:=Bl.cell ((ah HB).row (ah L6) (List.mem_cons_of_mem _ (ah HF).1):Bl wb fg cs ty) 0 _ (ah HF).2.1
  have f1:=Bl.cell ((ah HB).row (ah L6) (List.mem_cons_of_mem _ (ah HF).1):Bl wb fg cs ty) 1 _ (ah HF).2.2.1
  have f14:=Bl.cell ((ah HB).row (ah L6) (List.mem_cons_of_mem _ (ah HF).1):Bl wb fg cs ty) 14 _ (ah HF).2.2.2
  have bq:Bl wb p #[.int .i64 (X 0),.int .i64 (X 1),.int .i64 size,.int .i64 (X 3),.int .i64 (X 4),.int .i64 (X 5),.int .i64 (X 6),.int .i64 (X 7),.int .i64 (X 8),.int .i64 (X 9),.int .i64 (X 10),.int .i64 (X 11),.int .i64 (X 12)] 65:=(ah HB).row (ah L6) (x:=(p,.cells #[.int .i64 (X 0),.int .i64 (X 1),.int .i64 size,.int .i64 (X 3),.int .i64 (X 4),.int .i64 (X 5),.int .i64 (X 6),.int .i64 (X 7),.int .i64 (X 8),.int .i64 (X 9),.int .i64 (X 10),.int .i64 (X 11),.int .i64 (X 12)] 65)) (by simp)
  have x0:=bq.cell 0 (.int .i64 (X 0)) rfl
  have x1:=bq.cell 1 (.int .i64 (X 1)) rfl
  have x2:=bq.cell 2 (.int .i64 size) rfl
  have x3:=bq.cell 3 (.int .i64 (X 3)) rfl
  have x4:=bq.cell 4 (.int .i64 (X 4)) rfl
  have x5:=bq.cell 5 (.int .i64 (X 5)) rfl
  have x6:=bq.cell 6 (.int .i64 (X 6)) rfl
  have x7:=bq.cell 7 (.int .i64 (X 7)) rfl
  have x8:=bq.cell 8 (.int .i64 (X 8)) rfl
  have x9:=bq.cell 9 (.int .i64 (X 9)) rfl
  have x10:=bq.cell 10 (.int .i64 (X 10)) rfl
  have x11:=bq.cell 11 (.int .i64 (X 11)) rfl
  have x12:=bq.cell 12 (.int .i64 (X 12)) rfl
  clear bq
  refine aK 13 (by kernel_rfl) (by kernel_rfl) ?_
  simp only[List.take_succ_cons,List.take_zero,List.drop_succ_cons,List.drop_zero]
  repeat (gi_big_quiet_step (fail))
  refine wpQuietIn_nil ?_
  rintro _ ⟨nq7,rfl⟩
  have L7:=(ah HB).later (ah L6) (below_drewN (Below.refl _ _) nq7)
  have K7:=hide (ah HKP _ _ (fun x hx=>List.mem_cons_of_mem _ hx) L7)
  clear L6 L7 f0 f1 f14 x0 x1 x2 x3 x4 x5 x6 x7 x8 x9 x10 x11 x12
  generalize wb.drewN nq7=wc at *
  gi_wp2
  refine⟨trivial,?_⟩
  refine(callsIn_wide.2 (ah K7)).mono ?_
  rintro e wd ⟨rfl,L8⟩
  clear K7
  gi_wp2
  refine ay ?_
  repeat (gi_big_quiet_step (fail))
  refine wpQuietIn_nil ?_
  rintro _ ⟨nq8,rfl⟩
  have L9:=hide (ah HQ' _ _ (ah L8) (below_drewN (Below.refl _ _) nq8))
  gi_wp2
  go_ret
  exact⟨rfl,L9⟩
 ·have K2:=hide (ah HKG _ w1 (fun x hx=>hx) (ah L1))
  clear L1
  gi_wp2
  refine⟨trivial,?_⟩
  refine(callsIn_wide.2 (ah K2)).mono ?_
  rintro e w2 ⟨rfl,L2⟩
  clear K2
  gi_wp2
  refine ay ⟨ah L2,?_⟩
  repeat (gi_big_quiet_step (fail))
  refine wpQuietIn_nil ?_
  clear hne
  have LP:Hid (Q ((w2.heap.size,.cells Iz 65)::rows) (w2.alloc (.cells Iz 65))):=(ah HB).new (ah L2) (.cells Iz 65)
  have HP1:Hid (n0<=w2.heap.size/\∀ x∈rows,x.1≠w2.heap.size):=⟨(ah HB).sz (ah L2),(ah HB).ne (ah L2)⟩
  gi_wp2
  refine ay ⟨(ah HB).pop (ah LP),?_⟩
  change wpListIn _ _ _ _ _ _ _ (w2.alloc (.cells Iz 65))
  clear L2
  generalize w2.alloc (.cells Iz 65)=w9 at *
  generalize w2.heap.size=p at *
  gi_wp2_with (refine fH rfl 65 _ _ rfl p (Ic X) rfl rfl 65 Iz ((ah HB).row (ah LP) (x:=(p,.cells Iz 65)) (by simp)) (by kernel_rfl) rfl (by simp[Value.oneCell']) ?_)
  have L5:=hide ((ah HB).whole (ah LP) (ah HP1).1 (ah HP1).2 (Ic X))
  clear LP
  refine ay ⟨(ah HB).pop (ah L5),?_⟩
  generalize w9.setRow p (Ic X)=wa at *
  have bp:Bl wa p (Ic X) 65:=(ah HB).row (ah L5) (x:=(p,.cells (Ic X) 65)) (by simp)
  have y2:=bp.cell 2 (.int .i64 (X 2)) rfl
  have z2:=bp.free 2
  have L6:Hid (Q ((p,.cells #[.int .i64 (X 0),.int .i64 (X 1),.int .i64 size,.int .i64 (X 3),.int .i64 (X 4),.int .i64 (X 5),.int .i64 (X 6),.int .i64 (X 7),.int .i64 (X 8),.int .i64 (X 9),.int .i64 (X 10),.int .i64 (X 11),.int .i64 (X 12)] 65)::rows) (wa.setCell ⟨p,2,none⟩ (.int .i64 size))):=(ah HB).put (ah L5) (ah HP1).1 (ah HP1).2 2 (.int .i64 size)
  clear bp L5
  gi_wp2
  refine jy ?_
  gi_upto_region 7 with fail
  change Code.wpIn _ _ _ _ _ _ (wa.setCell ⟨p,2,none⟩ (.int .i64 size))
  clear y2 z2
  generalize wa.setCell ⟨p,2,none⟩ (.int .i64 size)=wb at *
  have f0:=Bl.cell ((ah HB).row (ah L6) (List.mem_cons_of_mem _ (ah HF).1):Bl wb fg cs ty) 0 _ (ah HF).2.1
  have f1:=Bl.cell ((ah HB).row (ah L6) (List.mem_cons_of_mem _ (ah HF).1):Bl wb fg cs ty) 1 _ (ah HF).2.2.1
  have f14:=Bl.cell ((ah HB).row (ah L6) (List.mem_cons_of_mem _ (ah HF).1):Bl wb fg cs ty) 14 _ (ah HF).2.2.2
  have bq:Bl wb p #[.int .i64 (X 0),.int .i64 (X 1),.int .i64 size,.int .i64 (X 3),.int .i64 (X 4),.int .i64 (X 5),.int .i64 (X 6),.int .i64 (X 7),.int .i64 (X 8),.int .i64 (X 9),.int .i64 (X 10),.int .i64 (X 11),.int .i64 (X 12)] 65:=(ah HB).row (ah L6) (x:=(p,.cells #[.int .i64 (X 0),.int .i64 (X 1),.int .i64 size,.int .i64 (X 3),.int .i64 (X 4),.int .i64 (X 5),.int .i64 (X 6),.int .i64 (X 7),.int .i64 (X 8),.int .i64 (X 9),.int .i64 (X 10),.int .i64 (X 11),.int .i64 (X 12)] 65)) (by simp)
  have x0:=bq.cell 0 (.int .i64 (X 0)) rfl
  have x1:=bq.cell 1 (.int .i64 (X 1)) rfl
  have x2:=bq.cell 2 (.int .i64 size) rfl
  have x3:=bq.cell 3 (.int .i64 (X 3)) rfl
  have x4:=bq.cell 4 (.int .i64 (X 4)) rfl
  have x5:=bq.cell 5 (.int .i64 (X 5)) rfl
  have x6:=bq.cell 6 (.int .i64 (X 6)) rfl
  have x7:=bq.cell 7 (.int .i64 (X 7)) rfl
  have x8:=bq.cell 8 (.int .i64 (X 8)) rfl
  have x9:=bq.cell 9 (.int .i64 (X 9)) rfl
  have x10:=bq.cell 10 (.int .i64 (X 10)) rfl
  have x11:=bq.cell 11 (.int .i64 (X 11)) rfl
  have x12:=bq.cell 12 (.int .i64 (X 12)) rfl
  clear bq
  refine aK 13 (by kernel_rfl) (by kernel_rfl) ?_
  simp only[List.take_succ_cons,List.take_zero,List.drop_succ_cons,List.drop_zero]
  repeat (gi_big_quiet_step (fail))
  refine wpQuietIn_nil ?_
  rintro _ ⟨nq7,rfl⟩
  have L7:=(ah HB).later (ah L6) (below_drewN (Below.refl _ _) nq7)
  have K7:=hide (ah HKP _ _ (fun x hx=>List.mem_cons_of_mem _ hx) L7)
  clear L6 L7 f0 f1 f14 x0 x1 x2 x3 x4 x5 x6 x7 x8 x9 x10 x11 x12
  generalize wb.drewN nq7=wc at *
  gi_wp2
  refine⟨trivial,?_⟩
  refine(callsIn_wide.2 (ah K7)).mono ?_
  rintro e wd ⟨rfl,L8⟩
  clear K7
  gi_wp2
  refine ay ?_
  repeat (gi_big_quiet_step (fail))
  refine wpQuietIn_nil ?_
  rintro _ ⟨nq8,rfl⟩
  have L9:=hide (ah HQ' _ _ (ah L8) (below_drewN (Below.refl _ _) nq8))
  gi_wp2
  go_ret
  exact⟨rfl,L9⟩
end Go.Proofs.YtefdkpbmeoakgaaGreatDoor
