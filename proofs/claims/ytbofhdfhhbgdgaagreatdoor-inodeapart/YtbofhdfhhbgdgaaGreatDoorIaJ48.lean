/- Joined: IWalk, IBlocks. -/
import Derived.Test.YtbofhdfhhbgdgaaGreatDoorIaIWalkA
import Derived.Laws.EntriesVeiled
import Derived.Test.YtbofhdfhhbgdgaaGreatDoorIaJ40
/- walk with aly visit; Blocks. -/
namespace Go.Proofs.YtbofhdfhhbgdgaaGreatDoor
set_option maxRecDepth 100000
set_option maxHeartbeats 8000000
open Go.RowKit Go.Shelf Go.Maps
set_option linter.unusedVariables false
theorem Two.amQ {w P G E g o rows i V F V' K u dg pg ds ps}(h:Two w P G E g o rows i V F V' K dg pg ds ps u)(a b c d e:Obj):Two w P G E g o ((u.heap.size+1+1+1+1,e)::(u.heap.size+1+1+1,d)::(u.heap.size+1+1,c)::(u.heap.size+1,b)::(u.heap.size,a)::rows) i V F V' K dg pg ds ps (((((u.alloc a).alloc b).alloc c).alloc d).alloc e):=by
 have:=((((h.new a).new b).new c).new d).new e
 simp only[size_alloc] at this
 exact this
theorem ajG (X:Nat->Int)(v:World):(Instr.index 48 (.agg #[.int .i64 (X 3),.int .i64 (X 4),.int .i64 (X 5),.int .i64 (X 6),.int .i64 (X 7),.int .i64 (X 8),.int .i64 (X 9),.int .i64 (X 10)]) (.int .i64 0)).run Tryz.prog v=.ok (.int .i64 (X 3)) v:=by kernel_rfl
theorem ajF (X:Nat->Int)(v:World):(Instr.index 48 (.agg #[.int .i64 (X 3),.int .i64 (X 4),.int .i64 (X 5),.int .i64 (X 6),.int .i64 (X 7),.int .i64 (X 8),.int .i64 (X 9),.int .i64 (X 10)]) (.int .i64 1)).run Tryz.prog v=.ok (.int .i64 (X 4)) v:=by kernel_rfl
theorem ajE (X:Nat->Int)(v:World):(Instr.index 48 (.agg #[.int .i64 (X 3),.int .i64 (X 4),.int .i64 (X 5),.int .i64 (X 6),.int .i64 (X 7),.int .i64 (X 8),.int .i64 (X 9),.int .i64 (X 10)]) (.int .i64 2)).run Tryz.prog v=.ok (.int .i64 (X 5)) v:=by kernel_rfl
theorem ajD (X:Nat->Int)(v:World):(Instr.index 48 (.agg #[.int .i64 (X 3),.int .i64 (X 4),.int .i64 (X 5),.int .i64 (X 6),.int .i64 (X 7),.int .i64 (X 8),.int .i64 (X 9),.int .i64 (X 10)]) (.int .i64 3)).run Tryz.prog v=.ok (.int .i64 (X 6)) v:=by kernel_rfl
theorem ajC (X:Nat->Int)(v:World):(Instr.index 48 (.agg #[.int .i64 (X 3),.int .i64 (X 4),.int .i64 (X 5),.int .i64 (X 6),.int .i64 (X 7),.int .i64 (X 8),.int .i64 (X 9),.int .i64 (X 10)]) (.int .i64 4)).run Tryz.prog v=.ok (.int .i64 (X 7)) v:=by kernel_rfl
theorem ajB (X:Nat->Int)(v:World):(Instr.index 48 (.agg #[.int .i64 (X 3),.int .i64 (X 4),.int .i64 (X 5),.int .i64 (X 6),.int .i64 (X 7),.int .i64 (X 8),.int .i64 (X 9),.int .i64 (X 10)]) (.int .i64 5)).run Tryz.prog v=.ok (.int .i64 (X 8)) v:=by kernel_rfl
theorem ajA (X:Nat->Int)(v:World):(Instr.index 48 (.agg #[.int .i64 (X 3),.int .i64 (X 4),.int .i64 (X 5),.int .i64 (X 6),.int .i64 (X 7),.int .i64 (X 8),.int .i64 (X 9),.int .i64 (X 10)]) (.int .i64 6)).run Tryz.prog v=.ok (.int .i64 (X 9)) v:=by kernel_rfl
theorem aj9 (X:Nat->Int)(v:World):(Instr.index 48 (.agg #[.int .i64 (X 3),.int .i64 (X 4),.int .i64 (X 5),.int .i64 (X 6),.int .i64 (X 7),.int .i64 (X 8),.int .i64 (X 9),.int .i64 (X 10)]) (.int .i64 7)).run Tryz.prog v=.ok (.int .i64 (X 10)) v:=by kernel_rfl
theorem xu {w P G E g o rows i V F V' K u}{tb a dg pg:Nat}{X:Nat->Int}(h:Two w P G E g o rows i V F V' K dg pg [] [] u)(ht:(tb,tbO a P)∈rows)(h0:0<w.heap.size)(hB:G.blk=64)(hP:P 0=64)(o11:okP E (X 11))(o12:okP E (X 12))(hok:X 12≠0->∀ k,k<32->okP E (gV V' (X 12) k)) :
  Calls Tryz.prog 47 #[.pointer (some ⟨tb,0,none⟩),.pointer (some ⟨o,0,none⟩),Iv X,.int .i64 0,.func (.func 48) #[] #[.pointer (some ⟨pg,0,none⟩),.pointer (some ⟨dg,0,none⟩)]] u fun e u'=>e=.returned (.int .i64 0)/\Hid (Two w P G E g o rows i V F V' K dg pg (sW V' X).1 (sW V' X).2 u'):=by
 have hwu:w.heap.size<=u.heap.size:=h.lp.bel.size
 have hlt:∀ y∈rows,y.1<u.heap.size:=fun y hy=>h.lp.lt hy
 have L0:Hid (Two w P G E g o ((u.heap.size+1+1+1+1,.cells #[.func (.func 48) #[] #[.pointer (some ⟨pg,0,none⟩),.pointer (some ⟨dg,0,none⟩)]] 111)::(u.heap.size+1+1+1,zI 0)::(u.heap.size+1+1,.cells (Ic X) 50)::((u.heap.size+1),zC o 32)::(u.heap.size,zC tb 29)::rows) i V F V' K dg pg [] [] (((((u.alloc (zC tb 29)).alloc (zC o 32)).alloc (.cells (Ic X) 50)).alloc (zI 0)).alloc (.cells #[.func (.func 48) #[] #[.pointer (some ⟨pg,0,none⟩),.pointer (some ⟨dg,0,none⟩)]] 111))):=h.amQ _ _ _ _ _
 have hsz:(((((u.alloc (zC tb 29)).alloc (zC o 32)).alloc (.cells (Ic X) 50)).alloc (zI 0)).alloc (.cells #[.func (.func 48) #[] #[.pointer (some ⟨pg,0,none⟩),.pointer (some ⟨dg,0,none⟩)]] 111)).heap.size=u.heap.size+5:=by simp only[size_alloc]
 have KP:Hid (∀ v,Two w P G E g o ((u.heap.size+1+1+1+1,.cells #[.func (.func 48) #[] #[.pointer (some ⟨pg,0,none⟩),.pointer (some ⟨dg,0,none⟩)]] 111)::(u.heap.size+1+1+1,zI 0)::(u.heap.size+1+1,.cells (Ic X) 50)::((u.heap.size+1),zC o 32)::(u.heap.size,zC tb 29)::rows) i V F V' K dg pg [] [] v->Calls Tryz.prog 107 #[.pointer (some ⟨tb,0,none⟩)] v fun e u'=>e=.returned (.int .i64 32)/\v=u'):=fun v hv=>afd (a:=a) (hv.row (x:=(tb,tbO a P)) (by simp[ht])) hP
 have L2:Hid (∀ v,v.heap.size=u.heap.size+5->Two w P G E g o ((u.heap.size+1+1+1+1,.cells #[.func (.func 48) #[] #[.pointer (some ⟨pg,0,none⟩),.pointer (some ⟨dg,0,none⟩)]] 111)::(u.heap.size+1+1+1,zI 0)::(u.heap.size+1+1,.cells (Ic X) 50)::((u.heap.size+1),zC o 32)::(u.heap.size,zC tb 29)::rows) i V F V' K dg pg [] [] v->∀ nf,Two w P G E g o ((u.heap.size+5+1,.cells #[nf] 184)::((u.heap.size+5,zI 32)::((u.heap.size+1+1+1+1,.cells #[.func (.func 48) #[] #[.pointer (some ⟨pg,0,none⟩),.pointer (some ⟨dg,0,none⟩)]] 111)::(u.heap.size+1+1+1,zI 0)::(u.heap.size+1+1,.cells (Ic X) 50)::((u.heap.size+1),zC o 32)::(u.heap.size,zC tb 29)::rows))) i V F V' K dg pg [] [] ((v.alloc (zI 32)).alloc (.cells #[nf] 184))/\Two w P G E g o ((u.heap.size+5+1,.cells #[.func (.func 108) #[] #[.pointer (some ⟨u.heap.size+1+1+1,0,none⟩),.pointer (some ⟨u.heap.size+1+1+1+1,0,none⟩),.pointer (some ⟨u.heap.size,0,none⟩),.pointer (some ⟨u.heap.size+1,0,none⟩),.pointer (some ⟨u.heap.size+5,0,none⟩),.pointer (some ⟨u.heap.size+5+1,0,none⟩)]] 184)::((u.heap.size+5,zI 32)::((u.heap.size+1+1+1+1,.cells #[.func (.func 48) #[] #[.pointer (some ⟨pg,0,none⟩),.pointer (some ⟨dg,0,none⟩)]] 111)::(u.heap.size+1+1+1,zI 0)::(u.heap.size+1+1,.cells (Ic X) 50)::((u.heap.size+1),zC o 32)::(u.heap.size,zC tb 29)::rows))) i V F V' K dg pg [] [] (((v.alloc (zI 32)).alloc (.cells #[nf] 184)).setCell ⟨u.heap.size+5+1,0,none⟩ (.func (.func 108) #[] #[.pointer (some ⟨u.heap.size+1+1+1,0,none⟩),.pointer (some ⟨u.heap.size+1+1+1+1,0,none⟩),.pointer (some ⟨u.heap.size,0,none⟩),.pointer (some ⟨u.heap.size+1,0,none⟩),.pointer (some ⟨u.heap.size+5,0,none⟩),.pointer (some ⟨u.heap.size+5+1,0,none⟩)]))):=fun v hz hv nf=>by
  have h1:=(hv.new (zI 32)).new (.cells #[nf] 184)
  rw[size_alloc,hz] at h1
  refine⟨h1,h1.turn h0 (by omega) (fun y hy=>?_) _ ?_⟩
  ·simp only[List.mem_cons] at hy
   rcases hy with rfl | rfl | rfl | rfl | rfl | rfl | hy
   ·show u.heap.size+5≠u.heap.size+5+1;omega
   ·show u.heap.size+1+1+1+1≠u.heap.size+5+1;omega
   ·show u.heap.size+1+1+1≠u.heap.size+5+1;omega
   ·show u.heap.size+1+1≠u.heap.size+5+1;omega
   ·show u.heap.size+1≠u.heap.size+5+1;omega
   ·show u.heap.size≠u.heap.size+5+1;omega
   ·have:=hlt y hy;omega
  ·have hb:Bl _ (u.heap.size+5+1) #[nf] 184:=h1.row (x:=(u.heap.size+5+1,.cells #[nf] 184)) (by simp)
   exact hb.set 0 _
 have WK:Wk ((u.heap.size+5+1,.cells #[.func (.func 108) #[] #[.pointer (some ⟨u.heap.size+1+1+1,0,none⟩),.pointer (some ⟨u.heap.size+1+1+1+1,0,none⟩),.pointer (some ⟨u.heap.size,0,none⟩),.pointer (some ⟨u.heap.size+1,0,none⟩),.pointer (some ⟨u.heap.size+5,0,none⟩),.pointer (some ⟨u.heap.size+5+1,0,none⟩)]] 184)::((u.heap.size+5,zI 32)::((u.heap.size+1+1+1+1,.cells #[.func (.func 48) #[] #[.pointer (some ⟨pg,0,none⟩),.pointer (some ⟨dg,0,none⟩)]] 111)::(u.heap.size+1+1+1,zI 0)::(u.heap.size+1+1,.cells (Ic X) 50)::((u.heap.size+1),zC o 32)::(u.heap.size,zC tb 29)::rows))) P o tb a dg pg (u.heap.size+1+1+1) (u.heap.size+1+1+1+1) u.heap.size (u.heap.size+1) (u.heap.size+5) (u.heap.size+5+1):=⟨by simp,by simp,by simp,by simp,by simp,by simp,by simp[ht]⟩
 have HC:Hid (∀ v (st:List Int×List Int),Two w P G E g o ((u.heap.size+5+1,.cells #[.func (.func 108) #[] #[.pointer (some ⟨u.heap.size+1+1+1,0,none⟩),.pointer (some ⟨u.heap.size+1+1+1+1,0,none⟩),.pointer (some ⟨u.heap.size,0,none⟩),.pointer (some ⟨u.heap.size+1,0,none⟩),.pointer (some ⟨u.heap.size+5,0,none⟩),.pointer (some ⟨u.heap.size+5+1,0,none⟩)]] 184)::((u.heap.size+5,zI 32)::((u.heap.size+1+1+1+1,.cells #[.func (.func 48) #[] #[.pointer (some ⟨pg,0,none⟩),.pointer (some ⟨dg,0,none⟩)]] 111)::(u.heap.size+1+1+1,zI 0)::(u.heap.size+1+1,.cells (Ic X) 50)::((u.heap.size+1),zC o 32)::(u.heap.size,zC tb 29)::rows))) i V F V' K dg pg st.1 st.2 v->v.cell? ⟨u.heap.size+5+1,0,none⟩=some (.func (.func 108) #[] #[.pointer (some ⟨u.heap.size+1+1+1,0,none⟩),.pointer (some ⟨u.heap.size+1+1+1+1,0,none⟩),.pointer (some ⟨u.heap.size,0,none⟩),.pointer (some ⟨u.heap.size+1,0,none⟩),.pointer (some ⟨u.heap.size+5,0,none⟩),.pointer (some ⟨u.heap.size+5+1,0,none⟩)])/\v.cell? ⟨u.heap.size+5,0,none⟩=some (.int .i64 32)/\Bl v (u.heap.size+1+1) (Ic X) 50):=fun v st hv=>⟨aj (hv.row (x:=(u.heap.size+5+1,.cells #[.func (.func 108) #[] #[.pointer (some ⟨u.heap.size+1+1+1,0,none⟩),.pointer (some ⟨u.heap.size+1+1+1+1,0,none⟩),.pointer (some ⟨u.heap.size,0,none⟩),.pointer (some ⟨u.heap.size+1,0,none⟩),.pointer (some ⟨u.heap.size+5,0,none⟩),.pointer (some ⟨u.heap.size+5+1,0,none⟩)]] 184)) (by simp)),aj (hv.row (x:=(u.heap.size+5,zI 32)) (by simp)),hv.row (x:=(u.heap.size+1+1,.cells (Ic X) 50)) (by simp)⟩
 have KD:Hid (∀ v (k:Nat),k<8->Two w P G E g o ((u.heap.size+5+1,.cells #[.func (.func 108) #[] #[.pointer (some ⟨u.heap.size+1+1+1,0,none⟩),.pointer (some ⟨u.heap.size+1+1+1+1,0,none⟩),.pointer (some ⟨u.heap.size,0,none⟩),.pointer (some ⟨u.heap.size+1,0,none⟩),.pointer (some ⟨u.heap.size+5,0,none⟩),.pointer (some ⟨u.heap.size+5+1,0,none⟩)]] 184)::((u.heap.size+5,zI 32)::((u.heap.size+1+1+1+1,.cells #[.func (.func 48) #[] #[.pointer (some ⟨pg,0,none⟩),.pointer (some ⟨dg,0,none⟩)]] 111)::(u.heap.size+1+1+1,zI 0)::(u.heap.size+1+1,.cells (Ic X) 50)::((u.heap.size+1),zC o 32)::(u.heap.size,zC tb 29)::rows))) i V F V' K dg pg (iC X k ([],[])).1 (iC X k ([],[])).2 v->Calls Tryz.prog 108 #[.int .i64 (X (3+k)),.int .i64 (k:Int),.int .i64 1,.pointer (some ⟨u.heap.size+1+1+1,0,none⟩),.pointer (some ⟨u.heap.size+1+1+1+1,0,none⟩),.pointer (some ⟨u.heap.size,0,none⟩),.pointer (some ⟨u.heap.size+1,0,none⟩),.pointer (some ⟨u.heap.size+5,0,none⟩),.pointer (some ⟨u.heap.size+5+1,0,none⟩)] v fun e u'=>e=.returned (.int .i64 0)/\Hid (Two w P G E g o ((u.heap.size+5+1,.cells #[.func (.func 108) #[] #[.pointer (some ⟨u.heap.size+1+1+1,0,none⟩),.pointer (some ⟨u.heap.size+1+1+1+1,0,none⟩),.pointer (some ⟨u.heap.size,0,none⟩),.pointer (some ⟨u.heap.size+1,0,none⟩),.pointer (some ⟨u.heap.size+5,0,none⟩),.pointer (some ⟨u.heap.size+5+1,0,none⟩)]] 184)::((u.heap.size+5,zI 32)::((u.heap.size+1+1+1+1,.cells #[.func (.func 48) #[] #[.pointer (some ⟨pg,0,none⟩),.pointer (some ⟨dg,0,none⟩)]] 111)::(u.heap.size+1+1+1,zI 0)::(u.heap.size+1+1,.cells (Ic X) 50)::((u.heap.size+1),zC o 32)::(u.heap.size,zC tb 29)::rows))) i V F V' K dg pg (iC X (k+1) ([],[])).1 (iC X (k+1) ([],[])).2 u')):=fun v k hk hv=>aa0 hv WK h0 _ k ((iy rfl k).1) (by omega)
 have KS:Hid (∀ v,Two w P G E g o ((u.heap.size+5+1,.cells #[.func (.func 108) #[] #[.pointer (some ⟨u.heap.size+1+1+1,0,none⟩),.pointer (some ⟨u.heap.size+1+1+1+1,0,none⟩),.pointer (some ⟨u.heap.size,0,none⟩),.pointer (some ⟨u.heap.size+1,0,none⟩),.pointer (some ⟨u.heap.size+5,0,none⟩),.pointer (some ⟨u.heap.size+5+1,0,none⟩)]] 184)::((u.heap.size+5,zI 32)::((u.heap.size+1+1+1+1,.cells #[.func (.func 48) #[] #[.pointer (some ⟨pg,0,none⟩),.pointer (some ⟨dg,0,none⟩)]] 111)::(u.heap.size+1+1+1,zI 0)::(u.heap.size+1+1,.cells (Ic X) 50)::((u.heap.size+1),zC o 32)::(u.heap.size,zC tb 29)::rows))) i V F V' K dg pg (iC X 8 ([],[])).1 (iC X 8 ([],[])).2 v->Calls Tryz.prog 108 #[.int .i64 (X 11),.int .i64 8,.int .i64 32,.pointer (some ⟨u.heap.size+1+1+1,0,none⟩),.pointer (some ⟨u.heap.size+1+1+1+1,0,none⟩),.pointer (some ⟨u.heap.size,0,none⟩),.pointer (some ⟨u.heap.size+1,0,none⟩),.pointer (some ⟨u.heap.size+5,0,none⟩),.pointer (some ⟨u.heap.size+5+1,0,none⟩)] v fun e u'=>e=.returned (.int .i64 0)/\Hid (Two w P G E g o ((u.heap.size+5+1,.cells #[.func (.func 108) #[] #[.pointer (some ⟨u.heap.size+1+1+1,0,none⟩),.pointer (some ⟨u.heap.size+1+1+1+1,0,none⟩),.pointer (some ⟨u.heap.size,0,none⟩),.pointer (some ⟨u.heap.size+1,0,none⟩),.pointer (some ⟨u.heap.size+5,0,none⟩),.pointer (some ⟨u.heap.size+5+1,0,none⟩)]] 184)::((u.heap.size+5,zI 32)::((u.heap.size+1+1+1+1,.cells #[.func (.func 48) #[] #[.pointer (some ⟨pg,0,none⟩),.pointer (some ⟨dg,0,none⟩)]] 111)::(u.heap.size+1+1+1,zI 0)::(u.heap.size+1+1,.cells (Ic X) 50)::((u.heap.size+1),zC o 32)::(u.heap.size,zC tb 29)::rows))) i V F V' K dg pg (s32 V' (iC X 8 ([],[])) (X 11) 8).1 (s32 V' (iC X 8 ([],[])) (X 11) 8).2 u')):=fun v hv=>ag4 hv WK h0 hB _ 8 o11 ((iy rfl 8).1) (by omega) (by rw[(iy rfl 8).2];simp)
 have KT:Hid (∀ v,Two w P G E g o ((u.heap.size+5+1,.cells #[.func (.func 108) #[] #[.pointer (some ⟨u.heap.size+1+1+1,0,none⟩),.pointer (some ⟨u.heap.size+1+1+1+1,0,none⟩),.pointer (some ⟨u.heap.size,0,none⟩),.pointer (some ⟨u.heap.size+1,0,none⟩),.pointer (some ⟨u.heap.size+5,0,none⟩),.pointer (some ⟨u.heap.size+5+1,0,none⟩)]] 184)::((u.heap.size+5,zI 32)::((u.heap.size+1+1+1+1,.cells #[.func (.func 48) #[] #[.pointer (some ⟨pg,0,none⟩),.pointer (some ⟨dg,0,none⟩)]] 111)::(u.heap.size+1+1+1,zI 0)::(u.heap.size+1+1,.cells (Ic X) 50)::((u.heap.size+1),zC o 32)::(u.heap.size,zC tb 29)::rows))) i V F V' K dg pg (s32 V' (iC X 8 ([],[])) (X 11) 8).1 (s32 V' (iC X 8 ([],[])) (X 11) 8).2 v->Calls Tryz.prog 108 #[.int .i64 (X 12),.int .i64 40,.int .i64 1024,.pointer (some ⟨u.heap.size+1+1+1,0,none⟩),.pointer (some ⟨u.heap.size+1+1+1+1,0,none⟩),.pointer (some ⟨u.heap.size,0,none⟩),.pointer (some ⟨u.heap.size+1,0,none⟩),.pointer (some ⟨u.heap.size+5,0,none⟩),.pointer (some ⟨u.heap.size+5+1,0,none⟩)] v fun e u'=>e=.returned (.int .i64 0)/\Hid (Two w P G E g o rows i V F V' K dg pg (sW V' X).1 (sW V' X).2 u')):=fun v hv=>by
  obtain⟨x1,x2⟩:=rU (V':=V') (b:=X 11) (st:=iC X 8 ([],[])) ((iy rfl 8).1)
  rw[(iy (X:=X) (st:=([],[])) rfl 8).2] at x2
  refine(abP hv WK h0 hB _ 40 o12 hok (by omega) (by omega) (by simp at x2;omega)).mono ?_
  rintro e u' ⟨rfl,Z⟩
  exact⟨rfl,(ah Z).sub (fun x hx=>by simp[hx])⟩
 have c0:=aj ((ah L0).row (x:=(u.heap.size,zC tb 29)) (by simp))
 have ix0:=ajG X
 have ix1:=ajF X
 have ix2:=ajE X
 have ix3:=ajD X
 have ix4:=ajC X
 have ix5:=ajB X
 have ix6:=ajA X
 have ix7:=aj9 X
 clear h ht h0 hB hP o11 o12 hok hwu hlt WK
 generalize sW V' X=SW at *
 generalize s32 V' (iC X 8 ([],[])) (X 11) 8=S9 at *
 go_enter Tryz.func47,Tryz.ntmps47
 go_upto_region 1 with fail
 change Code.wp _ _ _ _ (((((u.alloc (zC tb 29)).alloc (zC o 32)).alloc (.cells (Ic X) 50)).alloc (zI 0)).alloc (.cells #[.func (.func 48) #[] #[.pointer (some ⟨pg,0,none⟩),.pointer (some ⟨dg,0,none⟩)]] 111))
 generalize (((((u.alloc (zC tb 29)).alloc (zC o 32)).alloc (.cells (Ic X) 50)).alloc (zI 0)).alloc (.cells #[.func (.func 48) #[] #[.pointer (some ⟨pg,0,none⟩),.pointer (some ⟨dg,0,none⟩)]] 111))=w0 at *
 generalize u.heap.size=m at *
 have K1:=hide (ah KP w0 (ah L0))
 clear KP
 go_wp2_with fail
 go_at_call 107
 refine(ah K1).mono ?_
 rintro e w1 ⟨rfl,rfl⟩
 obtain⟨La,Lb⟩:=ah L2 w0 hsz (ah L0) .nilFunc
 have LB:=hide Lb
 have bn:Bl ((w0.alloc (zI 32)).alloc (.cells #[.nilFunc] 184)) (m+5+1) #[.nilFunc] 184:=La.row (x:=(m+5+1,.cells #[.nilFunc] 184)) (by simp)
 clear K1 L2 L0 c0 La Lb
 go_upto_region 3 with fail
 change Code.wp _ _ _ _ ((w0.alloc (zI 32)).alloc (.cells #[.nilFunc] 184))
 generalize (w0.alloc (zI 32)).alloc (.cells #[.nilFunc] 184)=w2 at *
 have y6:=bn.cell 0 _ rfl
 have z6:=bn.free 0
 clear bn
 go_upto_region 4 with fail
 change Code.wp _ _ _ _ (w2.setCell ⟨m+5+1,0,none⟩ (.func (.func 108) #[] #[.pointer (some ⟨m+1+1+1,0,none⟩),.pointer (some ⟨m+1+1+1+1,0,none⟩),.pointer (some ⟨m,0,none⟩),.pointer (some ⟨m+1,0,none⟩),.pointer (some ⟨m+5,0,none⟩),.pointer (some ⟨m+5+1,0,none⟩)]))
 generalize w2.setCell ⟨m+5+1,0,none⟩ (.func (.func 108) #[] #[.pointer (some ⟨m+1+1+1,0,none⟩),.pointer (some ⟨m+1+1+1+1,0,none⟩),.pointer (some ⟨m,0,none⟩),.pointer (some ⟨m+1,0,none⟩),.pointer (some ⟨m+5,0,none⟩),.pointer (some ⟨m+5+1,0,none⟩)])=w3 at *
 have Z0:Hid (Two w P G E g o ((m+5+1,.cells #[.func (.func 108) #[] #[.pointer (some ⟨m+1+1+1,0,none⟩),.pointer (some ⟨m+1+1+1+1,0,none⟩),.pointer (some ⟨m,0,none⟩),.pointer (some ⟨m+1,0,none⟩),.pointer (some ⟨m+5,0,none⟩),.pointer (some ⟨m+5+1,0,none⟩)]] 184)::((m+5,zI 32)::((m+1+1+1+1,.cells #[.func (.func 48) #[] #[.pointer (some ⟨pg,0,none⟩),.pointer (some ⟨dg,0,none⟩)]] 111)::(m+1+1+1,zI 0)::(m+1+1,.cells (Ic X) 50)::((m+1),zC o 32)::(m,zC tb 29)::rows))) i V F V' K dg pg (iC X 0 ([],[])).1 (iC X 0 ([],[])).2 w3):=ah LB
 obtain⟨d6,d5,bx⟩:=ah HC _ (iC X 0 ([],[])) (ah Z0)
 have x0:=bx.cell 0 (.int .i64 (X 0)) rfl
 have x1:=bx.cell 1 (.int .i64 (X 1)) rfl
 have x2:=bx.cell 2 (.int .i64 (X 2)) rfl
 have x3:=bx.cell 3 (.int .i64 (X 3)) rfl
 have x4:=bx.cell 4 (.int .i64 (X 4)) rfl
 have x5:=bx.cell 5 (.int .i64 (X 5)) rfl
 have x6:=bx.cell 6 (.int .i64 (X 6)) rfl
 have x7:=bx.cell 7 (.int .i64 (X 7)) rfl
 have x8:=bx.cell 8 (.int .i64 (X 8)) rfl
 have x9:=bx.cell 9 (.int .i64 (X 9)) rfl
 have x10:=bx.cell 10 (.int .i64 (X 10)) rfl
 have x11:=bx.cell 11 (.int .i64 (X 11)) rfl
 have x12:=bx.cell 12 (.int .i64 (X 12)) rfl
 clear LB y6 z6 bx
 go_upto_region 5 with fail
 refine wp_loop_rounds 9 ?_
 clear x0 x1 x2 x3 x4 x5 x6 x7 x8 x9 x10 x11 x12
 rw[rounds_succ]
 have KX:=hide (ah KD _ 0 (by omega) (ah Z0))
 clear Z0
 go_wp2_with fail
 go_at_call 108
 refine(ah KX).mono ?_
 rintro e v1 ⟨rfl,Z1⟩
 clear KX d6
 obtain⟨d6,d5,bx⟩:=ah HC _ (iC X 1 ([],[])) (ah Z1)
 go_wp2_with fail
 rw[rounds_succ]
 have KX:=hide (ah KD _ 1 (by omega) (ah Z1))
 clear Z1
 go_wp2_with fail
 go_at_call 108
 refine(ah KX).mono ?_
 rintro e v2 ⟨rfl,Z2⟩
 clear KX d6
 obtain⟨d6,d5,bx⟩:=ah HC _ (iC X 2 ([],[])) (ah Z2)
 go_wp2_with fail
 rw[rounds_succ]
 have KX:=hide (ah KD _ 2 (by omega) (ah Z2))
 clear Z2
 go_wp2_with fail
 go_at_call 108
 refine(ah KX).mono ?_
 rintro e v3 ⟨rfl,Z3⟩
 clear KX d6
 obtain⟨d6,d5,bx⟩:=ah HC _ (iC X 3 ([],[])) (ah Z3)
 go_wp2_with fail
 rw[rounds_succ]
 have KX:=hide (ah KD _ 3 (by omega) (ah Z3))
 clear Z3
 go_wp2_with fail
 go_at_call 108
 refine(ah KX).mono ?_
 rintro e v4 ⟨rfl,Z4⟩
 clear KX d6
 obtain⟨d6,d5,bx⟩:=ah HC _ (iC X 4 ([],[])) (ah Z4)
 go_wp2_with fail
 rw[rounds_succ]
 have KX:=hide (ah KD _ 4 (by omega) (ah Z4))
 clear Z4
 go_wp2_with fail
 go_at_call 108
 refine(ah KX).mono ?_
 rintro e v5 ⟨rfl,Z5⟩
 clear KX d6
 obtain⟨d6,d5,bx⟩:=ah HC _ (iC X 5 ([],[])) (ah Z5)
 go_wp2_with fail
 rw[rounds_succ]
 have KX:=hide (ah KD _ 5 (by omega) (ah Z5))
 clear Z5
 go_wp2_with fail
 go_at_call 108
 refine(ah KX).mono ?_
 rintro e v6 ⟨rfl,Z6⟩
 clear KX d6
 obtain⟨d6,d5,bx⟩:=ah HC _ (iC X 6 ([],[])) (ah Z6)
 go_wp2_with fail
 rw[rounds_succ]
 have KX:=hide (ah KD _ 6 (by omega) (ah Z6))
 clear Z6
 go_wp2_with fail
 go_at_call 108
 refine(ah KX).mono ?_
 rintro e v7 ⟨rfl,Z7⟩
 clear KX d6
 obtain⟨d6,d5,bx⟩:=ah HC _ (iC X 7 ([],[])) (ah Z7)
 go_wp2_with fail
 rw[rounds_succ]
 have KX:=hide (ah KD _ 7 (by omega) (ah Z7))
 clear Z7
 go_wp2_with fail
 go_at_call 108
 refine(ah KX).mono ?_
 rintro e v8 ⟨rfl,Z8⟩
 clear KX d6
 obtain⟨d6,d5,bx⟩:=ah HC _ (iC X 8 ([],[])) (ah Z8)
 go_wp2_with fail
 rw[rounds_succ]
 have KX:=hide (ah KS _ (ah Z8))
 have x0:=bx.cell 0 (.int .i64 (X 0)) rfl
 have x1:=bx.cell 1 (.int .i64 (X 1)) rfl
 have x2:=bx.cell 2 (.int .i64 (X 2)) rfl
 have x3:=bx.cell 3 (.int .i64 (X 3)) rfl
 have x4:=bx.cell 4 (.int .i64 (X 4)) rfl
 have x5:=bx.cell 5 (.int .i64 (X 5)) rfl
 have x6:=bx.cell 6 (.int .i64 (X 6)) rfl
 have x7:=bx.cell 7 (.int .i64 (X 7)) rfl
 have x8:=bx.cell 8 (.int .i64 (X 8)) rfl
 have x9:=bx.cell 9 (.int .i64 (X 9)) rfl
 have x10:=bx.cell 10 (.int .i64 (X 10)) rfl
 have x11:=bx.cell 11 (.int .i64 (X 11)) rfl
 have x12:=bx.cell 12 (.int .i64 (X 12)) rfl
 clear Z8 KD KS bx
 go_wp2_with fail
 go_at_call 108
 refine(ah KX).mono ?_
 rintro e v9 ⟨rfl,Z9⟩
 obtain⟨d6,d5,bx⟩:=ah HC _ S9 (ah Z9)
 have KY:=hide (ah KT _ (ah Z9))
 clear x0 x1 x2 x3 x4 x5 x6 x7 x8 x9 x10 x11 x12
 have x0:=bx.cell 0 (.int .i64 (X 0)) rfl
 have x1:=bx.cell 1 (.int .i64 (X 1)) rfl
 have x2:=bx.cell 2 (.int .i64 (X 2)) rfl
 have x3:=bx.cell 3 (.int .i64 (X 3)) rfl
 have x4:=bx.cell 4 (.int .i64 (X 4)) rfl
 have x5:=bx.cell 5 (.int .i64 (X 5)) rfl
 have x6:=bx.cell 6 (.int .i64 (X 6)) rfl
 have x7:=bx.cell 7 (.int .i64 (X 7)) rfl
 have x8:=bx.cell 8 (.int .i64 (X 8)) rfl
 have x9:=bx.cell 9 (.int .i64 (X 9)) rfl
 have x10:=bx.cell 10 (.int .i64 (X 10)) rfl
 have x11:=bx.cell 11 (.int .i64 (X 11)) rfl
 have x12:=bx.cell 12 (.int .i64 (X 12)) rfl
 clear KX KT Z9 HC bx
 go_wp2_with fail
 go_at_call 108
 refine(ah KY).mono ?_
 rintro e v10 ⟨rfl,Z⟩
 clear KY d6 d5 x0 x1 x2 x3 x4 x5 x6 x7 x8 x9 x10 x11 x12
 go_wp2_with fail
 go_ret
 exact⟨rfl,Z⟩
theorem Two.start {w P G E g o rows i V F V' K u}(h:Lp w P G E g o rows i V F V' K u):Two w P G E g o rows i V F V' K u.heap.size (u.heap.size+1) [] [] ((u.alloc (.cells #[.slice none 0 0] 22)).alloc (.cells #[.slice none 0 0] 22)):=by
 have l:=(h.new (.cells #[.slice none 0 0] 22)).new (.cells #[.slice none 0 0] 22)
 rw[size_alloc] at l
 have hlt:∀ y∈rows,y.1<u.heap.size:=fun y hy=>h.lt hy
 have hs:=h.bel.size
 refine⟨none,0,[],none,0,[],⟨Ir.nil _ _,Ir.nil _ _,by omega,fun y hy=>by have:=hlt y hy;omega,fun y hy=>by have:=hlt y hy;omega,hs,by omega⟩,l.sub (fun x hx=>?_)⟩
 simp only[List.nil_append,List.mem_cons,List.length_nil] at hx ⊢
 rcases hx with e | e | e
 ·exact .inr (.inl e)
 ·exact .inl e
 ·exact .inr (.inr e)
def akj (w:World) (P:Nat->Int) (G:Geo) (E:Nat->Bool) (g o:Nat) (rows:List (Nat×Obj)) (i:Nat) (V:Nat->List Int) (F:Nat->Bool) (V':Nat->List Int) (K:Nat->Bool) (ds ps:List Int) (da:Option Addr) (dc:Nat) (pa:Option Addr) (pc:Nat) (u:World):Prop :=
 ∃ Rd Rp,Ir w.heap.size (Rp++rows) da ds.length dc ds Rd/\Ir w.heap.size (Rd++rows) pa ps.length pc ps Rp/\Lp w P G E g o (Rd++(Rp++rows)) i V F V' K u
theorem Two.end {w P G E g o rows i V F V' K u dg pg ds ps}(h:Two w P G E g o rows i V F V' K dg pg ds ps u)(h0:0<w.heap.size):∃ da dc pa pc,Bl u dg #[.slice da ds.length dc] 22/\Bl u pg #[.slice pa ps.length pc] 22/\dg≠pg/\Hid (akj w P G E g o rows i V F V' K ds ps da dc pa pc ((u.setCell ⟨dg,0,none⟩ (.slice da ds.length dc)).setCell ⟨pg,0,none⟩ (.slice pa ps.length pc))):=by
 obtain⟨da,dc,Rd,pa,pc,Rp,t,l⟩:=h
 have hbd:Bl u dg #[.slice da ds.length dc] 22:=l.row (x:=(dg,.cells #[.slice da ds.length dc] 22)) (by simp)
 have hbp:Bl u pg #[.slice pa ps.length pc] 22:=l.row (x:=(pg,.cells #[.slice pa ps.length pc] 22)) (by simp)
 have nqd:∀ x∈Rd,x.1≠dg/\x.1≠pg:=fun x hx=>by
  obtain⟨_,_,_,h4⟩:=t.d
  rcases h4 with ⟨_,_,_,e4⟩ | ⟨q,cur,_,_,e4,_,_,e7⟩
  ·rw[e4] at hx;simp at hx
  ·rw[e4,List.mem_singleton] at hx
   rw[hx]
   exact⟨fun e=>e7 (dg,.cells #[.slice da ds.length dc] 22) (by simp) e.symm,fun e=>e7 (pg,.cells #[.slice pa ps.length pc] 22) (by simp) e.symm⟩
 have nqp:∀ x∈Rp,x.1≠dg/\x.1≠pg:=fun x hx=>by
  obtain⟨_,_,_,h4⟩:=t.p
  rcases h4 with ⟨_,_,_,e4⟩ | ⟨q,cur,_,_,e4,_,_,e7⟩
  ·rw[e4] at hx;simp at hx
  ·rw[e4,List.mem_singleton] at hx
   rw[hx]
   exact⟨fun e=>e7 (dg,.cells #[.slice da ds.length dc] 22) (by simp) e.symm,fun e=>e7 (pg,.cells #[.slice pa ps.length pc] 22) (by simp) e.symm⟩
 have l1:Lp w P G E g o ((dg,.cells #[.slice da ds.length dc] 22)::(pg,.cells #[.slice pa ps.length pc] 22)::(Rd++(Rp++rows))) i V F V' K u:=l.sub (fun x hx=>by
  simp only[List.mem_cons,List.mem_append] at hx ⊢
  rcases hx with e | e | e | e | e
  ·exact .inr (.inl e)
  ·exact .inr (.inr (.inr (.inl e)))
  ·exact .inl e
  ·exact .inr (.inr (.inl e))
  ·exact .inr (.inr (.inr (.inr e))))
 have l2:=l1.swap t.bd h0 (fun y hy=>by
  simp only[List.mem_cons,List.mem_append] at hy
  rcases hy with e | e | e | e
  ·rw[e];exact t.dp.symm
  ·exact(nqd y e).1
  ·exact(nqp y e).1
  ·exact t.rd y e) (u':=u.setCell ⟨dg,0,none⟩ (.slice da ds.length dc)) (fun q hq=>Below.heap_setCell _ _ _ _ hq) ((Below.refl _ _).setCell (p:=⟨dg,0,none⟩) t.bd _) (hbd.set 0 (.slice da ds.length dc))
 have ang:Bl (u.setCell ⟨dg,0,none⟩ (.slice da ds.length dc)) pg #[.slice pa ps.length pc] 22:=hbp.other ⟨dg,0,none⟩ _ t.dp.symm
 have l3:=(l2.pop).swap t.bp h0 (fun y hy=>by
  simp only[List.mem_append] at hy
  rcases hy with e | e | e
  ·exact(nqd y e).2
  ·exact(nqp y e).2
  ·exact t.rp y e) (u':=(u.setCell ⟨dg,0,none⟩ (.slice da ds.length dc)).setCell ⟨pg,0,none⟩ (.slice pa ps.length pc)) (fun q hq=>Below.heap_setCell _ _ _ _ hq) ((Below.refl _ _).setCell (p:=⟨pg,0,none⟩) t.bp _) (ang.set 0 (.slice pa ps.length pc))
 refine⟨da,dc,pa,pc,hbd,hbp,t.dp,Rd,Rp,t.d.ext (n:=u.heap.size) (fun x hx=>l.lt (by simp[hx])) (fun y hy=>?_),t.p.ext (n:=u.heap.size) (fun x hx=>l.lt (by simp[hx])) (fun y hy=>?_),l3.pop⟩
 ·simp only[List.mem_cons,List.mem_append] at hy ⊢
  rcases hy with e | e
  ·exact .inl (.inr (.inl e))
  ·exact .inl (.inr (.inr (.inr e)))
 ·simp only[List.mem_cons,List.mem_append] at hy ⊢
  rcases hy with e | e
  ·exact .inl (.inr (.inl e))
  ·exact .inl (.inr (.inr (.inr e)))
theorem aaI {w P G E g o rows i V F V' K u}(h:Lp w P G E g o rows i V F V' K u){a tb bk at0:Nat}(X:Nat->Int)(j:Int)(ht:(tb,tbO a P)∈rows)(h0:0<w.heap.size)(e1:gU P j=0)(e2:jE P j=(bk:Int))(e3:jF P j=(at0:Int))(hfit:at0+32<=G.blk)(hb:E bk=true)(hi:iQ (((V' bk).drop at0).take 32))(hX:Iv (bG (((V' bk).drop at0).take 32))=Iv X)(hB:G.blk=64)(hP:P 0=64)(o11:okP E (X 11))(o12:okP E (X 12))(hok:X 12≠0->∀ k,k<32->okP E (gV V' (X 12) k)) :
  Calls Tryz.prog 15 #[.pointer (some ⟨tb,0,none⟩),.pointer (some ⟨o,0,none⟩),.int .i64 j] u fun e u'=>∃ da dc pa pc,e=.returned (.tuple #[.slice da (sW V' X).1.length dc,.slice pa (sW V' X).2.length pc,.int .i64 0])/\Hid (akj w P G E g o rows i V F V' K (sW V' X).1 (sW V' X).2 da dc pa pc u'):=by
 have T0:=hide (Two.start h)
 have KG:Hid (∀ v,Two w P G E g o rows i V F V' K u.heap.size (u.heap.size+1) [] [] v->Calls Tryz.prog 19 #[.pointer (some ⟨tb,0,none⟩),.pointer (some ⟨o,0,none⟩),.int .i64 j] v fun r u'=>r=.returned (.tuple #[Iv X,.int .i64 0])/\Hid (Two w P G E g o rows i V F V' K u.heap.size (u.heap.size+1) [] [] u')):=fun v hv=>by
  obtain⟨da,dc,Rd,pa,pc,Rp,t,l⟩:=hv
  refine(dJ (a:=a) l X j (by simp[ht]) h0 e1 e2 e3 hfit hb hi hX).mono ?_
  rintro e u' ⟨rfl,Z⟩
  exact⟨rfl,da,dc,Rd,pa,pc,Rp,t,ah Z⟩
 have KW:Hid (∀ v,Two w P G E g o rows i V F V' K u.heap.size (u.heap.size+1) [] [] v->Calls Tryz.prog 47 #[.pointer (some ⟨tb,0,none⟩),.pointer (some ⟨o,0,none⟩),Iv X,.int .i64 0,.func (.func 48) #[] #[.pointer (some ⟨u.heap.size+1,0,none⟩),.pointer (some ⟨u.heap.size,0,none⟩)]] v fun e u'=>e=.returned (.int .i64 0)/\Hid (∃ da dc pa pc,Bl u' u.heap.size #[.slice da (sW V' X).1.length dc] 22/\Bl u' (u.heap.size+1) #[.slice pa (sW V' X).2.length pc] 22/\u.heap.size≠u.heap.size+1/\Hid (akj w P G E g o rows i V F V' K (sW V' X).1 (sW V' X).2 da dc pa pc ((u'.setCell ⟨u.heap.size,0,none⟩ (.slice da (sW V' X).1.length dc)).setCell ⟨u.heap.size+1,0,none⟩ (.slice pa (sW V' X).2.length pc))))):=fun v hv=>by
  refine(xu (a:=a) hv ht h0 hB hP o11 o12 hok).mono ?_
  rintro e u' ⟨rfl,Z⟩
  exact⟨rfl,(ah Z).end h0⟩
 clear h ht h0 e1 e2 e3 hfit hb hi hX hB hP o11 o12 hok
 generalize (sW V' X).1=ds at *
 generalize (sW V' X).2=ps at *
 go_enter Tryz.func15,Tryz.ntmps15
 go_upto_region 1 with fail
 change Code.wp _ _ _ _ ((u.alloc (.cells #[.slice none 0 0] 22)).alloc (.cells #[.slice none 0 0] 22))
 generalize ((u.alloc (.cells #[.slice none 0 0] 22)).alloc (.cells #[.slice none 0 0] 22))=w0 at *
 generalize u.heap.size=m at *
 have K1:=hide (ah KG w0 (ah T0))
 clear KG T0
 go_wp2_with fail
 go_at_call 19
 refine(ah K1).mono ?_
 rintro e w1 ⟨rfl,Z1⟩
 have Z2:=hide ((ah Z1).later ((Below.refl _ _).alloc (Nat.le_refl _) (.cells (Ic X) 50)))
 have bx:=Bl.new w1 (Ic X) 50
 clear K1 Z1
 go_upto_region 2 with fail
 change Code.wp _ _ _ _ (w1.alloc (.cells (Ic X) 50))
 generalize w1.alloc (.cells (Ic X) 50)=w2 at *
 generalize w1.heap.size=m1 at *
 have K2:=hide (ah KW w2 (ah Z2))
 have x0:=bx.cell 0 (.int .i64 (X 0)) rfl
 have x1:=bx.cell 1 (.int .i64 (X 1)) rfl
 have x2:=bx.cell 2 (.int .i64 (X 2)) rfl
 have x3:=bx.cell 3 (.int .i64 (X 3)) rfl
 have x4:=bx.cell 4 (.int .i64 (X 4)) rfl
 have x5:=bx.cell 5 (.int .i64 (X 5)) rfl
 have x6:=bx.cell 6 (.int .i64 (X 6)) rfl
 have x7:=bx.cell 7 (.int .i64 (X 7)) rfl
 have x8:=bx.cell 8 (.int .i64 (X 8)) rfl
 have x9:=bx.cell 9 (.int .i64 (X 9)) rfl
 have x10:=bx.cell 10 (.int .i64 (X 10)) rfl
 have x11:=bx.cell 11 (.int .i64 (X 11)) rfl
 have x12:=bx.cell 12 (.int .i64 (X 12)) rfl
 clear KW Z2 bx
 go_wp2_with fail
 go_at_call 47
 refine(ah K2).mono ?_
 rintro e w3 ⟨rfl,Y⟩
 obtain⟨da,dc,pa,pc,b1,b2,hne,Z⟩:=ah Y
 have y1:=b1.cell 0 _ rfl
 have y2:=b2.cell 0 _ rfl
 have z1:=b1.free 0
 have z2:=b2.free 0
 have A1:=hide ((b1.set 0 (.slice da ds.length dc)).other ⟨m+1,0,none⟩ (.slice pa ps.length pc) hne)
 have A2:=hide ((b2.other ⟨m,0,none⟩ (.slice da ds.length dc) hne.symm).set 0 (.slice pa ps.length pc))
 have y3:=(b2.other ⟨m,0,none⟩ (.slice da ds.length dc) hne.symm).cell 0 _ rfl
 have z3:=(b2.other ⟨m,0,none⟩ (.slice da ds.length dc) hne.symm).free 0
 clear K2 Y b1 b2 x0 x1 x2 x3 x4 x5 x6 x7 x8 x9 x10 x11 x12
 go_upto_region 7 with fail
 go_region
 have hA1:Bl ((w3.setCell ⟨m,0,none⟩ (.slice da ds.length dc)).setCell ⟨m+1,0,none⟩ (.slice pa ps.length pc)).drew m #[.slice da ds.length dc] 22:=(ah A1).drew
 have hA2:Bl ((w3.setCell ⟨m,0,none⟩ (.slice da ds.length dc)).setCell ⟨m+1,0,none⟩ (.slice pa ps.length pc)).drew (m+1) #[.slice pa ps.length pc] 22:=(ah A2).drew
 have HW:Hid (akj w P G E g o rows i V F V' K ds ps da dc pa pc ((w3.setCell ⟨m,0,none⟩ (.slice da ds.length dc)).setCell ⟨m+1,0,none⟩ (.slice pa ps.length pc)).drew):=by
  obtain⟨Rd,Rp,r1,r2,l⟩:=ah Z
  exact⟨Rd,Rp,r1,r2,l.later (Below.refl _ _).drew⟩
 clear A1 A2 Z y1 y2 y3 z1 z2 z3 hne
 go_wp2_with fail
 change bodyPost _ _ _ _ _ ((w3.setCell ⟨m,0,none⟩ (.slice da ds.length dc)).setCell ⟨m+1,0,none⟩ (.slice pa ps.length pc)).drew
 generalize ((w3.setCell ⟨m,0,none⟩ (.slice da ds.length dc)).setCell ⟨m+1,0,none⟩ (.slice pa ps.length pc)).drew=wf at *
 refine bodyPost_ret (v:=.tuple #[.slice da ds.length dc,.slice pa ps.length pc,.int .i64 0]) ?_ rfl ⟨da,dc,pa,pc,rfl,HW⟩
 simp[results,Tryz.results15,go_sem,hA1.cell 0 _ rfl,hA2.cell 0 _ rfl]
end Go.Proofs.YtbofhdfhhbgdgaaGreatDoor
