/- Joined: IFolA, IFolM1, IMakeT, IErr. -/
import Derived.Test.YtokngjcfkkceiaaGreatDoorInJ49
import Derived.LoopN
import Derived.Test.YtokngjcfkkceiaaGreatDoorInJ11
/- What follow asks of a visit, and of enter. -/
namespace Go.Proofs.YtokngjcfkkceiaaGreatDoor
set_option maxRecDepth 100000
set_option maxHeartbeats 8000000
open Go.RowKit Go.Shelf Go.Maps
set_option linter.unusedVariables false

def VisM (w:World) (P:Nat→Int) (G:Geo) (g o i:Nat) (V:Nat→List Int) (F K:Nat→Bool) (rows0:List (Nat×Obj)) (fg tg og:Nat) (tb:Nat) (j:Int) (kx:Nat) (la:Bool) (X:Nat→Int) (q1:Bool) (E:Nat→Bool) (V':Nat→List Int) (b e:Int) (X1:Nat→Int) (q2:Bool) (E1:Nat→Bool) (V1:Nat→List Int):Prop :=
 ∀ v xg fc m0 m1 m2 rows,(fc,.cells #[.pointer (some ⟨xg,kx,none⟩)] 145 (0,0))∈rows→(m0,.cells #[.pointer (some ⟨tb,0,none⟩)] 29 (0,0))∈rows→(m1,.cells #[.pointer (some ⟨o,0,none⟩)] 32 (0,0))∈rows→(m2,.cells #[.int .i64 j] 3 (0,0))∈rows→w.heap.size≤xg→(∀ y∈rows,y.1≠xg)→fg≠xg→(∀ y∈(xg,.cells (Ic X) 50 (0,0))::rows,y.1≠fg)→(∀ y∈rows0,y∈rows)→Lp w P G E g o ((fg,.cells #[.bool q1] 4 (0,0))::(xg,.cells (Ic X) 50 (0,0))::rows) i V F V' K v→Calls Tryz.prog 34 #[.agg #[.int .i64 (X kx),.bool la,.func (.func 78) #[] #[.pointer (some ⟨fc,0,none⟩),.pointer (some ⟨m0,0,none⟩),.pointer (some ⟨m1,0,none⟩),.pointer (some ⟨m2,0,none⟩),.pointer (some ⟨xg,0,none⟩)]],.pointer (some ⟨fg,0,none⟩),.pointer (some ⟨tg,0,none⟩),.pointer (some ⟨og,0,none⟩)] v fun r u'=>r=.returned (.tuple #[.int .i64 b,.int .i64 e])∧Hid (Lp w P G E1 g o ((fg,.cells #[.bool q2] 4 (0,0))::(xg,.cells (Ic X1) 50 (0,0))::rows) i V F V1 K u')

theorem pof_lt {s:Nat}(hs:s≤9):pof s<13∧3≤pof s:=by
 unfold pof
 split
 ·omega
 ·split<;>omega

theorem ic_at (X:Nat→Int){k:Nat}(hk:k<13):(Ic X)[k]?=some (.int .i64 (X k)):=by
 have:k=0∨k=1∨k=2∨k=3∨k=4∨k=5∨k=6∨k=7∨k=8∨k=9∨k=10∨k=11∨k=12:=by omega
 rcases this with rfl | rfl | rfl | rfl | rfl | rfl | rfl | rfl | rfl | rfl | rfl | rfl | rfl<;>rfl

theorem folM_one {w:World}{P:Nat→Int}{G:Geo}{E:Nat→Bool}{g o:Nat}{rows:List (Nat×Obj)}{i:Nat}{V:Nat→List Int}{F:Nat→Bool}{V':Nat→List Int}{K:Nat→Bool}{u:World}{a tb bk at0 s0:Nat}{fg tg og:Nat}{q0:Bool}  {X X1:Nat→Int}{j ix:Int}{b1 e1:Int}{E1:Nat→Bool}{V1:Nat→List Int}{q1:Bool}(h:Lp w P G E g o ((fg,.cells #[.bool q0] 4 (0,0))::rows) i V F V' K u)(ht:(tb,tbO a P)∈rows)(h0:0<w.heap.size)(hwf:w.heap.size≤fg)(hfg:∀ y∈rows,y.1≠fg)(p1:plcE P j=0)(p2:plcB P j=(bk:Int))(p3:plcA P j=(at0:Int))(hfit:at0+32≤G.blk)(hb:E bk=true)(hi:inoIs (((V' bk).drop at0).take 32))(hX:Iv (inoOf (((V' bk).drop at0).take 32))=Iv X)(hs:s0≤9)(HS:Hid (∀ v,Calls Tryz.prog 76 #[Pv P,.int .i64 ix] v fun r w'=>(∃ k,r=.returned (.tuple #[.slice (some ⟨k,0,none⟩) 1 1,.int .i64 0])∧v.heap.size≤k∧w'.heap[k]?=some (.cells #[.int .i64 (s0:Int)] 3 (0,0)))∧Below v.heap.size v w'))(HV:VisM w P G g o i V F K rows fg tg og tb j (pof s0) true X q0 E V' b1 e1 X1 q1 E1 V1) :
  Calls Tryz.prog 32 #[.pointer (some ⟨tb,0,none⟩),.pointer (some ⟨o,0,none⟩),.int .i64 j,.int .i64 ix,.func (.func 34) #[] #[.pointer (some ⟨fg,0,none⟩),.pointer (some ⟨tg,0,none⟩),.pointer (some ⟨og,0,none⟩)]] u fun r u'=>r=.returned (.tuple #[.int .i64 b1,.int .i64 e1])∧Hid (Lp w P G E1 g o ((fg,.cells #[.bool q1] 4 (0,0))::rows) i V F V1 K u'):=by
 have hwu:w.heap.size≤u.heap.size:=h.bel.size
 have hfu:fg<u.heap.size:=h.lt (x:=(fg,.cells #[.bool q0] 4 (0,0))) (by simp)
 have L0:Hid (Lp w P G E g o ((fg,.cells #[.bool q0] 4 (0,0))::((u.heap.size+2),.cells #[.int .i64 j] 3 (0,0))::((u.heap.size+1),.cells #[.pointer (some ⟨o,0,none⟩)] 32 (0,0))::(u.heap.size,.cells #[.pointer (some ⟨tb,0,none⟩)] 29 (0,0))::rows) i V F V' K (((u.alloc (.cells #[.pointer (some ⟨tb,0,none⟩)] 29)).alloc (.cells #[.pointer (some ⟨o,0,none⟩)] 32)).alloc (.cells #[.int .i64 j] 3))):=(h.new3 _ _ _).sub (fun x hx=>by
  simp only[List.mem_cons] at hx ⊢
  rcases hx with h | h | h | h | h<;>simp[h])
 have hlt0:∀ y∈rows,y.1<u.heap.size:=fun y hy=>h.lt (List.mem_cons_of_mem _ hy)
 have HT:Hid (∀ v E2 V2 qq,Lp w P G E2 g o ((fg,.cells #[.bool qq] 4 (0,0))::((u.heap.size+2),.cells #[.int .i64 j] 3 (0,0))::((u.heap.size+1),.cells #[.pointer (some ⟨o,0,none⟩)] 32 (0,0))::(u.heap.size,.cells #[.pointer (some ⟨tb,0,none⟩)] 29 (0,0))::rows) i V F V2 K v→v.heap[tb]?=some (tbO a P)∧v.cell? ⟨u.heap.size,0,none⟩=some (.pointer (some ⟨tb,0,none⟩))∧v.cell? ⟨u.heap.size+1,0,none⟩=some (.pointer (some ⟨o,0,none⟩))∧v.cell? ⟨u.heap.size+2,0,none⟩=some (.int .i64 j)∧u.heap.size+2<v.heap.size):=fun v E2 V2 qq hv =>
  ⟨hv.row (List.mem_cons_of_mem _ (List.mem_cons_of_mem _ (List.mem_cons_of_mem _ (List.mem_cons_of_mem _ (ht))))),row_cell (hv.row (x:=(u.heap.size,.cells #[.pointer (some ⟨tb,0,none⟩)] 29 (0,0))) (by simp)),row_cell (hv.row (x:=((u.heap.size+1),.cells #[.pointer (some ⟨o,0,none⟩)] 32 (0,0))) (by simp)),row_cell (hv.row (x:=((u.heap.size+2),.cells #[.int .i64 j] 3 (0,0))) (by simp)),hv.lt (x:=((u.heap.size+2),.cells #[.int .i64 j] 3 (0,0))) (by simp)⟩
 have KS:Hid (∀ v,Lp w P G E g o ((fg,.cells #[.bool q0] 4 (0,0))::((u.heap.size+2),.cells #[.int .i64 j] 3 (0,0))::((u.heap.size+1),.cells #[.pointer (some ⟨o,0,none⟩)] 32 (0,0))::(u.heap.size,.cells #[.pointer (some ⟨tb,0,none⟩)] 29 (0,0))::rows) i V F V' K v→Calls Tryz.prog 76 #[Pv P,.int .i64 ix] v fun r w'=>∃ ks,r=.returned (.tuple #[.slice (some ⟨ks,0,none⟩) 1 1,.int .i64 0])∧Hid (v.heap.size≤ks∧Lp w P G E g o ((fg,.cells #[.bool q0] 4 (0,0))::(ks,.cells #[.int .i64 (s0:Int)] 3 (0,0))::((u.heap.size+2),.cells #[.int .i64 j] 3 (0,0))::((u.heap.size+1),.cells #[.pointer (some ⟨o,0,none⟩)] 32 (0,0))::(u.heap.size,.cells #[.pointer (some ⟨tb,0,none⟩)] 29 (0,0))::rows) i V F V' K w')):=fun v hv=>by
  refine(unhide HS v).mono ?_
  rintro r w' ⟨⟨k,rfl,hk1,hk2⟩,b1⟩
  exact⟨k,rfl,hk1,(hv.push b1 hk1 hk2).sub mem_swap⟩
 have KG:Hid (∀ v ks,Lp w P G E g o ((fg,.cells #[.bool q0] 4 (0,0))::(ks,.cells #[.int .i64 (s0:Int)] 3 (0,0))::((u.heap.size+2),.cells #[.int .i64 j] 3 (0,0))::((u.heap.size+1),.cells #[.pointer (some ⟨o,0,none⟩)] 32 (0,0))::(u.heap.size,.cells #[.pointer (some ⟨tb,0,none⟩)] 29 (0,0))::rows) i V F V' K v→Calls Tryz.prog 17 #[.pointer (some ⟨tb,0,none⟩),.pointer (some ⟨o,0,none⟩),.int .i64 j] v fun r u'=>r=.returned (.tuple #[Iv X,.int .i64 0])∧Hid (Lp w P G E g o ((fg,.cells #[.bool q0] 4 (0,0))::(ks,.cells #[.int .i64 (s0:Int)] 3 (0,0))::((u.heap.size+2),.cells #[.int .i64 j] 3 (0,0))::((u.heap.size+1),.cells #[.pointer (some ⟨o,0,none⟩)] 32 (0,0))::(u.heap.size,.cells #[.pointer (some ⟨tb,0,none⟩)] 29 (0,0))::rows) i V F V' K u')):=fun v ks hv=>tget_ok hv X j (List.mem_cons_of_mem _ (List.mem_cons_of_mem _ (List.mem_cons_of_mem _ (List.mem_cons_of_mem _ (List.mem_cons_of_mem _ (ht)))))) h0 p1 p2 p3 hfit hb hi hX
 have KV:Hid (∀ v ks zxg zfc,u.heap.size+2<ks→ks<zxg→zxg<zfc→Lp w P G E g o ((fg,.cells #[.bool q0] 4 (0,0))::((zxg),.cells (Ic X) 50 (0,0))::((zfc),.cells #[.pointer (some ⟨zxg,pof s0,none⟩)] 145 (0,0))::(ks,.cells #[.int .i64 (s0:Int)] 3 (0,0))::((u.heap.size+2),.cells #[.int .i64 j] 3 (0,0))::((u.heap.size+1),.cells #[.pointer (some ⟨o,0,none⟩)] 32 (0,0))::(u.heap.size,.cells #[.pointer (some ⟨tb,0,none⟩)] 29 (0,0))::rows) i V F V' K v→Calls Tryz.prog 34 #[.agg #[.int .i64 (X (pof s0)),.bool true,.func (.func 78) #[] #[.pointer (some ⟨zfc,0,none⟩),.pointer (some ⟨u.heap.size,0,none⟩),.pointer (some ⟨u.heap.size+1,0,none⟩),.pointer (some ⟨u.heap.size+2,0,none⟩),.pointer (some ⟨zxg,0,none⟩)]],.pointer (some ⟨fg,0,none⟩),.pointer (some ⟨tg,0,none⟩),.pointer (some ⟨og,0,none⟩)] v fun r u'=>r=.returned (.tuple #[.int .i64 b1,.int .i64 e1])∧Hid (Lp w P G E1 g o ((fg,.cells #[.bool q1] 4 (0,0))::((zxg),.cells (Ic X1) 50 (0,0))::((zfc),.cells #[.pointer (some ⟨zxg,pof s0,none⟩)] 145 (0,0))::(ks,.cells #[.int .i64 (s0:Int)] 3 (0,0))::((u.heap.size+2),.cells #[.int .i64 j] 3 (0,0))::((u.heap.size+1),.cells #[.pointer (some ⟨o,0,none⟩)] 32 (0,0))::(u.heap.size,.cells #[.pointer (some ⟨tb,0,none⟩)] 29 (0,0))::rows) i V F V1 K u')):=fun v ks zxg zfc c1 c2 c3 hv=>by
  refine HV v zxg zfc u.heap.size (u.heap.size+1) (u.heap.size+2) _ (by simp) (by simp) (by simp) (by simp) (by omega) (fun y hy=>?_) (by omega) (fun y hy=>?_) (fun y hy=>by simp[hy]) hv
  ·simp only[List.mem_cons] at hy
   rcases hy with rfl | rfl | rfl | rfl | rfl | hy
   ·show zfc≠zxg;omega
   ·show ks≠zxg;omega
   ·show u.heap.size+2≠zxg;omega
   ·show u.heap.size+1≠zxg;omega
   ·show u.heap.size≠zxg;omega
   ·have:=hlt0 y hy;omega
  ·simp only[List.mem_cons] at hy
   rcases hy with rfl | rfl | rfl | rfl | rfl | rfl | hy
   ·show zxg≠fg;omega
   ·show zfc≠fg;omega
   ·show ks≠fg;omega
   ·show u.heap.size+2≠fg;omega
   ·show u.heap.size+1≠fg;omega
   ·show u.heap.size≠fg;omega
   ·exact hfg y hy
 have HC1:Hid (∀ v ks zxg zfc,Lp w P G E1 g o ((fg,.cells #[.bool q1] 4 (0,0))::((zxg),.cells (Ic X1) 50 (0,0))::((zfc),.cells #[.pointer (some ⟨zxg,pof s0,none⟩)] 145 (0,0))::(ks,.cells #[.int .i64 (s0:Int)] 3 (0,0))::((u.heap.size+2),.cells #[.int .i64 j] 3 (0,0))::((u.heap.size+1),.cells #[.pointer (some ⟨o,0,none⟩)] 32 (0,0))::(u.heap.size,.cells #[.pointer (some ⟨tb,0,none⟩)] 29 (0,0))::rows) i V F V1 K v→v.cell? ⟨u.heap.size,0,none⟩=some (.pointer (some ⟨tb,0,none⟩))∧v.cell? ⟨u.heap.size+1,0,none⟩=some (.pointer (some ⟨o,0,none⟩))∧Bl v ks #[.int .i64 (s0:Int)] 3):=fun v ks zxg zfc hv=>⟨row_cell (hv.row (x:=(u.heap.size,.cells #[.pointer (some ⟨tb,0,none⟩)] 29 (0,0))) (by simp)),row_cell (hv.row (x:=((u.heap.size+1),.cells #[.pointer (some ⟨o,0,none⟩)] 32 (0,0))) (by simp)),hv.row (x:=(ks,.cells #[.int .i64 (s0:Int)] 3 (0,0))) (by simp)⟩
 have HO:Hid (∀ v ks zxg zfc,Lp w P G E1 g o ((fg,.cells #[.bool q1] 4 (0,0))::((zxg),.cells (Ic X1) 50 (0,0))::((zfc),.cells #[.pointer (some ⟨zxg,pof s0,none⟩)] 145 (0,0))::(ks,.cells #[.int .i64 (s0:Int)] 3 (0,0))::((u.heap.size+2),.cells #[.int .i64 j] 3 (0,0))::((u.heap.size+1),.cells #[.pointer (some ⟨o,0,none⟩)] 32 (0,0))::(u.heap.size,.cells #[.pointer (some ⟨tb,0,none⟩)] 29 (0,0))::rows) i V F V1 K v→Lp w P G E1 g o ((fg,.cells #[.bool q1] 4 (0,0))::rows) i V F V1 K v):=fun v ks zxg zfc hv=>hv.sub (fun x hx=>by
  simp only[List.mem_cons] at hx ⊢
  rcases hx with h | h<;>simp[h])
 have HX:Hid (∀ v ks,Lp w P G E g o ((fg,.cells #[.bool q0] 4 (0,0))::(ks,.cells #[.int .i64 (s0:Int)] 3 (0,0))::((u.heap.size+2),.cells #[.int .i64 j] 3 (0,0))::((u.heap.size+1),.cells #[.pointer (some ⟨o,0,none⟩)] 32 (0,0))::(u.heap.size,.cells #[.pointer (some ⟨tb,0,none⟩)] 29 (0,0))::rows) i V F V' K v→u.heap.size+2<ks∧ks<v.heap.size∧Bl v ks #[.int .i64 (s0:Int)] 3→Lp w P G E g o ((fg,.cells #[.bool q0] 4 (0,0))::((v.heap.size),.cells (Ic X) 50 (0,0))::((v.heap.size+1),.cells #[.pointer (some ⟨v.heap.size,pof s0,none⟩)] 145 (0,0))::(ks,.cells #[.int .i64 (s0:Int)] 3 (0,0))::((u.heap.size+2),.cells #[.int .i64 j] 3 (0,0))::((u.heap.size+1),.cells #[.pointer (some ⟨o,0,none⟩)] 32 (0,0))::(u.heap.size,.cells #[.pointer (some ⟨tb,0,none⟩)] 29 (0,0))::rows) i V F V' K ((v.alloc (.cells (Ic X) 50)).alloc (.cells #[.pointer (some ⟨v.heap.size,pof s0,none⟩)] 145))):=fun v ks hv _=>by
  have:=hv.new2 (.cells (Ic X) 50 (0,0)) (.cells #[.pointer (some ⟨v.heap.size,pof s0,none⟩)] 145 (0,0))
  exact this.sub (fun x hx=>by
   simp only[List.mem_cons] at hx ⊢
   rcases hx with h | h | h | h | h | h | h | h<;>simp[h])
 have HKS:Hid (∀ v ks,Lp w P G E g o ((fg,.cells #[.bool q0] 4 (0,0))::(ks,.cells #[.int .i64 (s0:Int)] 3 (0,0))::((u.heap.size+2),.cells #[.int .i64 j] 3 (0,0))::((u.heap.size+1),.cells #[.pointer (some ⟨o,0,none⟩)] 32 (0,0))::(u.heap.size,.cells #[.pointer (some ⟨tb,0,none⟩)] 29 (0,0))::rows) i V F V' K v→u.heap.size+2<v.heap.size∧ks<v.heap.size∧Bl v ks #[.int .i64 (s0:Int)] 3):=fun v ks hv=>⟨hv.lt (x:=((u.heap.size+2),.cells #[.int .i64 j] 3 (0,0))) (by simp),hv.lt (x:=(ks,.cells #[.int .i64 (s0:Int)] 3 (0,0))) (by simp),hv.row (x:=(ks,.cells #[.int .i64 (s0:Int)] 3 (0,0))) (by simp)⟩
 have KQ:Hid (∀ v xg,Calls Tryz.prog 77 #[.pointer (some ⟨xg,0,none⟩),.int .i64 (s0:Int)] v fun r u'=>r=.returned (.pointer (some ⟨xg,pof s0,none⟩))∧v=u'):=fun v xg=>pointerOf_any xg s0 v hs
 have hpo:=(pof_lt hs).1
 have HPO:Hid (∀ v xg,Bl v xg (Ic X) 50→v.cell? ⟨xg,pof s0,none⟩=some (.int .i64 (X (pof s0)))):=fun v xg hv=>hv.cell _ _ (ic_at X hpo)
 clear h ht h0 p1 p2 p3 hfit hb hi hX hs HS HV  hlt0 hwu hpo hwf hfg hfu
 generalize (s0:Int)=si at *
 generalize hps:pof s0=px at *
 clear hps
 generalize X px=xv at *
 go_enter Tryz.func32,Tryz.ntmps32
 go_upto_region 1 with fail
 change Code.wp _ _ _ _ (((u.alloc (.cells #[.pointer (some ⟨tb,0,none⟩)] 29)).alloc (.cells #[.pointer (some ⟨o,0,none⟩)] 32)).alloc (.cells #[.int .i64 j] 3))
 generalize (((u.alloc (.cells #[.pointer (some ⟨tb,0,none⟩)] 29)).alloc (.cells #[.pointer (some ⟨o,0,none⟩)] 32)).alloc (.cells #[.int .i64 j] 3))=w0 at *
 generalize u.heap.size=m at *
 obtain⟨tc,d0,d1,d2,hms⟩:=unhide HT _ _ _ _ (unhide L0)
 obtain⟨f0,f1,f2,f3,f4,f5,f6,f7,f8,f9,f10,f11⟩:=tb_cells tc
 have K1:=hide (unhide KS w0 (unhide L0))
 have HMS:=hide hms
 clear KS L0 tc hms
 go_wp2_with fail
 go_at_call 76
 refine(unhide K1).mono ?_
 rintro e w1 ⟨ks,rfl,Y1⟩
 obtain⟨hks,L1⟩:=unhide Y1
 have HKL:=hide (Nat.lt_of_lt_of_le (unhide HMS) hks)
 have K2:=hide (unhide KG w1 ks L1)
 obtain⟨_,d0',d1',d2',_⟩:=unhide HT w1 _ _ _ ((L1.sub mem_swap).pop)
 clear K1 Y1 KG hks L1 HMS HT d0 d1 d2 f0 f1 f2 f3 f4 f5 f6 f7 f8 f9 f10 f11
 go_wp2_with fail
 go_at_call 17
 refine(unhide K2).mono ?_
 rintro e w2 ⟨rfl,L2⟩
 obtain⟨_,hk2,bs⟩:=unhide HKS w2 ks (unhide L2)
 have L3:=hide (unhide HX w2 ks (unhide L2) ⟨unhide HKL,hk2,bs⟩)
 have HK2:=hide hk2
 have bx:=Bl.new w2 (Ic X) 50
 have bs3:=bs.alloc (.cells (Ic X) 50)
 clear K2 HKS HX L2 d0' d1' d2' hk2 bs
 go_upto_region 7 with fail
 change Code.wp _ _ _ _ (w2.alloc (.cells (Ic X) 50))
 have hz:(w2.alloc (.cells (Ic X) 50)).heap.size=w2.heap.size+1:=size_alloc _ _
 generalize w2.alloc (.cells (Ic X) 50)=w3 at *
 generalize w2.heap.size=xg at *
 have i0:=bs3.cell 0 _ rfl
 have HBX:=hide bx
 have HZ:=hide hz
 clear bs3 bx hz
 go_wp2_with fail
 go_at_call 77
 refine(unhide KQ w3 xg).mono ?_
 rintro e w4 ⟨rfl,rfl⟩
 have px1:=unhide HPO _ _ ((unhide HBX).alloc (.cells #[.pointer (some ⟨xg,px,none⟩)] 145))
 have fc1:=row_cell (Bl.new w3 #[.pointer (some ⟨xg,px,none⟩)] 145)
 have K4:=hide (unhide KV _ ks xg (xg+1) (unhide HKL) (unhide HK2) (by omega) (unhide L3))
 rw[unhide HZ] at fc1
 clear KQ HPO HBX KV L3 i0
 go_upto_region 10 with fail
 change Code.wp _ _ _ _ (w3.alloc (.cells #[.pointer (some ⟨xg,px,none⟩)] 145))
 generalize w3.alloc (.cells #[.pointer (some ⟨xg,px,none⟩)] 145)=w5 at *
 simp only[unhide HZ]
 clear HZ
 go_wp2_with fail
 go_at_call 34
 refine(unhide K4).mono ?_
 rintro e w6 ⟨rfl,Z1⟩
 obtain⟨t0,t1,bk1⟩:=unhide HC1 w6 ks xg (xg+1) (unhide Z1)
 have i0:=bk1.cell 0 _ rfl
 clear K4 px1 fc1 HC1 bk1
 go_wp2_with fail
 refine wp_loop_rounds 1 ?_
 rw[rounds_succ]
 go_wp2_with fail
 go_ret2
 exact⟨rfl,hide (unhide HO _ _ _ _ (unhide Z1))⟩

def FolM (w:World) (P:Nat→Int) (G:Geo) (g o i:Nat) (V:Nat→List Int) (F K:Nat→Bool) (rows0:List (Nat×Obj)) (tb:Nat) (j ix:Int) (E:Nat→Bool) (V':Nat→List Int) (b e:Int) (q:Bool) (E1:Nat→Bool) (V1:Nat→List Int):Prop :=
 ∀ v fg tg og rows,(∀ y∈rows0,y∈rows)→(tg,.cells #[.pointer (some ⟨tb,0,none⟩)] 29 (0,0))∈rows→(og,.cells #[.pointer (some ⟨o,0,none⟩)] 32 (0,0))∈rows→w.heap.size≤fg→(∀ y∈rows,y.1≠fg)→Lp w P G E g o ((fg,.cells #[.bool false] 4 (0,0))::rows) i V F V' K v→Calls Tryz.prog 32 #[.pointer (some ⟨tb,0,none⟩),.pointer (some ⟨o,0,none⟩),.int .i64 j,.int .i64 ix,.func (.func 34) #[] #[.pointer (some ⟨fg,0,none⟩),.pointer (some ⟨tg,0,none⟩),.pointer (some ⟨og,0,none⟩)]] v fun r u'=>r=.returned (.tuple #[.int .i64 b,.int .i64 e])∧Hid (Lp w P G E1 g o ((fg,.cells #[.bool q] 4 (0,0))::rows) i V F V1 K u')

theorem tmake_ok {w:World}{P:Nat→Int}{G:Geo}{E:Nat→Bool}{g o:Nat}{rows:List (Nat×Obj)}{i:Nat}{V:Nat→List Int}{F:Nat→Bool}{V':Nat→List Int}{K:Nat→Bool}{u:World}(h:Lp w P G E g o rows i V F V' K u){tb:Nat}{j ix b e:Int}{q:Bool}{E1:Nat→Bool}{V1:Nat→List Int}(h0:0<w.heap.size)(he:e=0)(HF:FolM w P G g o i V F K rows tb j ix E V' b e q E1 V1) :
  Calls Tryz.prog 12 #[.pointer (some ⟨tb,0,none⟩),.pointer (some ⟨o,0,none⟩),.int .i64 j,.int .i64 ix] u fun r u'=>r=.returned (.tuple #[.int .i64 b,.bool q,.int .i64 0])∧Hid (Lp w P G E1 g o rows i V F V1 K u'):=by
 have hwu:w.heap.size≤u.heap.size:=h.bel.size
 have hlt:∀ y∈rows,y.1<u.heap.size:=fun y hy=>h.lt hy
 have L0:Hid (Lp w P G E g o ((u.heap.size+2,.cells #[.bool false] 4 (0,0))::((u.heap.size+1),.cells #[.pointer (some ⟨o,0,none⟩)] 32 (0,0))::(u.heap.size,.cells #[.pointer (some ⟨tb,0,none⟩)] 29 (0,0))::rows) i V F V' K (((u.alloc (.cells #[.pointer (some ⟨tb,0,none⟩)] 29)).alloc (.cells #[.pointer (some ⟨o,0,none⟩)] 32)).alloc (.cells #[.bool false] 4))):=h.new3 _ _ _
 have c0:=row_cell ((unhide L0).row (x:=(u.heap.size,.cells #[.pointer (some ⟨tb,0,none⟩)] 29 (0,0))) (by simp))
 have c1:=row_cell ((unhide L0).row (x:=((u.heap.size+1),.cells #[.pointer (some ⟨o,0,none⟩)] 32 (0,0))) (by simp))
 have KF:Hid (∀ v,Lp w P G E g o ((u.heap.size+2,.cells #[.bool false] 4 (0,0))::((u.heap.size+1),.cells #[.pointer (some ⟨o,0,none⟩)] 32 (0,0))::(u.heap.size,.cells #[.pointer (some ⟨tb,0,none⟩)] 29 (0,0))::rows) i V F V' K v→Calls Tryz.prog 32 #[.pointer (some ⟨tb,0,none⟩),.pointer (some ⟨o,0,none⟩),.int .i64 j,.int .i64 ix,.func (.func 34) #[] #[.pointer (some ⟨u.heap.size+2,0,none⟩),.pointer (some ⟨u.heap.size,0,none⟩),.pointer (some ⟨u.heap.size+1,0,none⟩)]] v fun r u'=>r=.returned (.tuple #[.int .i64 b,.int .i64 e])∧Hid (Lp w P G E1 g o ((u.heap.size+2,.cells #[.bool q] 4 (0,0))::((u.heap.size+1),.cells #[.pointer (some ⟨o,0,none⟩)] 32 (0,0))::(u.heap.size,.cells #[.pointer (some ⟨tb,0,none⟩)] 29 (0,0))::rows) i V F V1 K u')):=fun v hv=>by
  refine HF v (u.heap.size+2) u.heap.size (u.heap.size+1) _ (fun y hy=>by simp[hy]) (by simp) (by simp) (by omega) (fun y hy=>?_) hv
  simp only[List.mem_cons] at hy
  rcases hy with rfl | rfl | hy
  ·show u.heap.size+1≠u.heap.size+2;omega
  ·show u.heap.size≠u.heap.size+2;omega
  ·have:=hlt y hy;omega
 have HO:Hid (∀ v,Lp w P G E1 g o ((u.heap.size+2,.cells #[.bool q] 4 (0,0))::((u.heap.size+1),.cells #[.pointer (some ⟨o,0,none⟩)] 32 (0,0))::(u.heap.size,.cells #[.pointer (some ⟨tb,0,none⟩)] 29 (0,0))::rows) i V F V1 K v→Bl v (u.heap.size+2) #[.bool q] 4∧Lp w P G E1 g o ((u.heap.size+2,.cells #[.bool q] 4 (0,0))::((u.heap.size+1),.cells #[.pointer (some ⟨o,0,none⟩)] 32 (0,0))::(u.heap.size,.cells #[.pointer (some ⟨tb,0,none⟩)] 29 (0,0))::rows) i V F V1 K (v.setCell ⟨u.heap.size+2,0,none⟩ (.bool q))∧Bl (v.setCell ⟨u.heap.size+2,0,none⟩ (.bool q)) (u.heap.size+2) #[.bool q] 4):=fun v hv=>by
  have hB:Bl v (u.heap.size+2) #[.bool q] 4:=hv.row (x:=(u.heap.size+2,.cells #[.bool q] 4 (0,0))) (by simp)
  have h2:=hv.swap (by omega) h0 (fun y hy=>by
   simp only[List.mem_cons] at hy
   rcases hy with rfl | rfl | hy
   ·show u.heap.size+1≠u.heap.size+2;omega
   ·show u.heap.size≠u.heap.size+2;omega
   ·have:=hlt y hy;omega) (u':=v.setCell ⟨u.heap.size+2,0,none⟩ (.bool q)) (fun q hq=>Below.heap_setCell _ _ _ _ hq) ((Below.refl _ _).setCell (p:=⟨u.heap.size+2,0,none⟩) (by show w.heap.size≤u.heap.size+2;omega) _) (hB.set 0 (.bool q))
  exact⟨hB,h2,hB.set 0 (.bool q)⟩
 subst he
 clear h h0 hwu hlt HF 
 go_enter Tryz.func12,Tryz.ntmps12
 go_upto_region 1 with fail
 change Code.wp _ _ _ _ (((u.alloc (.cells #[.pointer (some ⟨tb,0,none⟩)] 29)).alloc (.cells #[.pointer (some ⟨o,0,none⟩)] 32)).alloc (.cells #[.bool false] 4))
 generalize (((u.alloc (.cells #[.pointer (some ⟨tb,0,none⟩)] 29)).alloc (.cells #[.pointer (some ⟨o,0,none⟩)] 32)).alloc (.cells #[.bool false] 4))=w0 at *
 generalize u.heap.size=m at *
 have K1:=hide (unhide KF w0 (unhide L0))
 clear KF L0
 go_wp2_with fail
 go_at_call 32
 refine(unhide K1).mono ?_
 rintro r w1 ⟨rfl,Z⟩
 obtain⟨hB,L2,hB2⟩:=unhide HO w1 (unhide Z)
 have g0:=hB.cell 0 _ rfl
 have g1:=hB.free 0
 have ZL:=hide L2
 have ZB:=hide hB2
 clear K1 HO Z hB L2 hB2 c0 c1
 go_upto_region 4 with fail
 go_region
 have hW:Lp w P G E1 g o ((m+2,.cells #[.bool q] 4 (0,0))::((m+1),.cells #[.pointer (some ⟨o,0,none⟩)] 32 (0,0))::(m,.cells #[.pointer (some ⟨tb,0,none⟩)] 29 (0,0))::rows) i V F V1 K (w1.setCell ⟨m+2,0,none⟩ (.bool q)).drew:=(unhide ZL).later (Below.refl _ _).drew
 have hA:Bl (w1.setCell ⟨m+2,0,none⟩ (.bool q)).drew (m+2) #[.bool q] 4:=(unhide ZB).drew
 have HW:=hide hW
 clear hW ZL ZB g0 g1
 go_wp2_with fail
 change bodyPost _ _ _ _ _ (w1.setCell ⟨m+2,0,none⟩ (.bool q)).drew
 generalize (w1.setCell ⟨m+2,0,none⟩ (.bool q)).drew=wf at *
 refine bodyPost_ret (v:=.tuple #[.int .i64 b,.bool q,.int .i64 0]) ?_ rfl ⟨rfl,hide (unhide HW).pop.pop.pop⟩
 simp[results,Tryz.results12,go_sem,hA.cell 0 _ rfl]

theorem folM_nil (u:World)(q:Option Addr)(j ix:Int)(fg tg og:Nat)  :
  Calls Tryz.prog 32 #[.pointer none,.pointer q,.int .i64 j,.int .i64 ix,.func (.func 34) #[] #[.pointer (some ⟨fg,0,none⟩),.pointer (some ⟨tg,0,none⟩),.pointer (some ⟨og,0,none⟩)]] u fun r u'=>r=.returned (.tuple #[.int .i64 0,.int .i64 1])∧Below u.heap.size u u':=by
 have HB:Hid (Below u.heap.size u (((u.alloc (.cells #[.pointer none] 29)).alloc (.cells #[.pointer q] 32)).alloc (.cells #[.int .i64 j] 3))):=(((Below.refl _ _).alloc (Nat.le_refl _) _).alloc (by simp) _).alloc (by simp;omega) _
 have c0:(((u.alloc (.cells #[.pointer none] 29)).alloc (.cells #[.pointer q] 32)).alloc (.cells #[.int .i64 j] 3)).cell? ⟨u.heap.size,0,none⟩=some (.pointer none):=row_cell (((Bl.new u #[.pointer none] 29).alloc _).alloc _)
 go_enter Tryz.func32,Tryz.ntmps32
 go_upto_region 1 with fail
 change Code.wp _ _ _ _ (((u.alloc (.cells #[.pointer none] 29)).alloc (.cells #[.pointer q] 32)).alloc (.cells #[.int .i64 j] 3))
 generalize (((u.alloc (.cells #[.pointer none] 29)).alloc (.cells #[.pointer q] 32)).alloc (.cells #[.int .i64 j] 3))=w0 at *
 go_wp2_with fail
 go_ret2
 exact⟨rfl,unhide HB⟩

theorem folF_nil (u:World)(q:Option Addr)(j ix:Int)  :
  Calls Tryz.prog 32 #[.pointer none,.pointer q,.int .i64 j,.int .i64 ix,.func (.func 33) #[] #[]] u fun r u'=>r=.returned (.tuple #[.int .i64 0,.int .i64 1])∧Below u.heap.size u u':=by
 have HB:Hid (Below u.heap.size u (((u.alloc (.cells #[.pointer none] 29)).alloc (.cells #[.pointer q] 32)).alloc (.cells #[.int .i64 j] 3))):=(((Below.refl _ _).alloc (Nat.le_refl _) _).alloc (by simp) _).alloc (by simp;omega) _
 have c0:(((u.alloc (.cells #[.pointer none] 29)).alloc (.cells #[.pointer q] 32)).alloc (.cells #[.int .i64 j] 3)).cell? ⟨u.heap.size,0,none⟩=some (.pointer none):=row_cell (((Bl.new u #[.pointer none] 29).alloc _).alloc _)
 go_enter Tryz.func32,Tryz.ntmps32
 go_upto_region 1 with fail
 change Code.wp _ _ _ _ (((u.alloc (.cells #[.pointer none] 29)).alloc (.cells #[.pointer q] 32)).alloc (.cells #[.int .i64 j] 3))
 generalize (((u.alloc (.cells #[.pointer none] 29)).alloc (.cells #[.pointer q] 32)).alloc (.cells #[.int .i64 j] 3))=w0 at *
 go_wp2_with fail
 go_ret2
 exact⟨rfl,unhide HB⟩

theorem folM_range (u:World)(q:Option Addr)(j ix:Int)(fg tg og:Nat)  {tb a:Nat}{P:Nat→Int}(ht:u.heap[tb]?=some (tbO a P))(HS:Hid (∀ v,Calls Tryz.prog 76 #[Pv P,.int .i64 ix] v fun r w'=>(∃ a n c,r=.returned (.tuple #[.slice a n c,.int .i64 2]))∧Below v.heap.size v w')) :
  Calls Tryz.prog 32 #[.pointer (some ⟨tb,0,none⟩),.pointer q,.int .i64 j,.int .i64 ix,.func (.func 34) #[] #[.pointer (some ⟨fg,0,none⟩),.pointer (some ⟨tg,0,none⟩),.pointer (some ⟨og,0,none⟩)]] u fun r u'=>r=.returned (.tuple #[.int .i64 0,.int .i64 2])∧Below u.heap.size u u':=by
 have HB:Hid (Below u.heap.size u (((u.alloc (.cells #[.pointer (some ⟨tb,0,none⟩)] 29)).alloc (.cells #[.pointer q] 32)).alloc (.cells #[.int .i64 j] 3))):=(((Below.refl _ _).alloc (Nat.le_refl _) _).alloc (by simp) _).alloc (by simp;omega) _
 have c0:(((u.alloc (.cells #[.pointer (some ⟨tb,0,none⟩)] 29)).alloc (.cells #[.pointer q] 32)).alloc (.cells #[.int .i64 j] 3)).cell? ⟨u.heap.size,0,none⟩=some (.pointer (some ⟨tb,0,none⟩)):=row_cell (((Bl.new u #[.pointer (some ⟨tb,0,none⟩)] 29).alloc _).alloc _)
 have HT:Bl (((u.alloc (.cells #[.pointer (some ⟨tb,0,none⟩)] 29)).alloc (.cells #[.pointer q] 32)).alloc (.cells #[.int .i64 j] 3)) tb (tbA a P) 109:=Bl.alloc (Bl.alloc (Bl.alloc (u:=u) ht _) _) _
 clear ht
 go_enter Tryz.func32,Tryz.ntmps32
 go_upto_region 1 with fail
 change Code.wp _ _ _ _ (((u.alloc (.cells #[.pointer (some ⟨tb,0,none⟩)] 29)).alloc (.cells #[.pointer q] 32)).alloc (.cells #[.int .i64 j] 3))
 generalize (((u.alloc (.cells #[.pointer (some ⟨tb,0,none⟩)] 29)).alloc (.cells #[.pointer q] 32)).alloc (.cells #[.int .i64 j] 3))=w0 at *
 obtain⟨f0,f1,f2,f3,f4,f5,f6,f7,f8,f9,f10,f11⟩:=tb_cells HT
 clear HT
 go_wp2_with fail
 go_at_call 76
 refine(unhide HS _).mono ?_
 rintro r w1 ⟨⟨a1,n1,c1,rfl⟩,hb⟩
 replace HB:=hide ((unhide HB).trans (hb.mono (unhide HB).size))
 clear HS hb c0 f0 f1 f2 f3 f4 f5 f6 f7 f8 f9 f10 f11
 go_wp2_with fail
 go_ret2
 exact⟨rfl,unhide HB⟩

theorem folF_range (u:World)(q:Option Addr)(j ix:Int)  {tb a:Nat}{P:Nat→Int}(ht:u.heap[tb]?=some (tbO a P))(HS:Hid (∀ v,Calls Tryz.prog 76 #[Pv P,.int .i64 ix] v fun r w'=>(∃ a n c,r=.returned (.tuple #[.slice a n c,.int .i64 2]))∧Below v.heap.size v w')) :
  Calls Tryz.prog 32 #[.pointer (some ⟨tb,0,none⟩),.pointer q,.int .i64 j,.int .i64 ix,.func (.func 33) #[] #[]] u fun r u'=>r=.returned (.tuple #[.int .i64 0,.int .i64 2])∧Below u.heap.size u u':=by
 have HB:Hid (Below u.heap.size u (((u.alloc (.cells #[.pointer (some ⟨tb,0,none⟩)] 29)).alloc (.cells #[.pointer q] 32)).alloc (.cells #[.int .i64 j] 3))):=(((Below.refl _ _).alloc (Nat.le_refl _) _).alloc (by simp) _).alloc (by simp;omega) _
 have c0:(((u.alloc (.cells #[.pointer (some ⟨tb,0,none⟩)] 29)).alloc (.cells #[.pointer q] 32)).alloc (.cells #[.int .i64 j] 3)).cell? ⟨u.heap.size,0,none⟩=some (.pointer (some ⟨tb,0,none⟩)):=row_cell (((Bl.new u #[.pointer (some ⟨tb,0,none⟩)] 29).alloc _).alloc _)
 have HT:Bl (((u.alloc (.cells #[.pointer (some ⟨tb,0,none⟩)] 29)).alloc (.cells #[.pointer q] 32)).alloc (.cells #[.int .i64 j] 3)) tb (tbA a P) 109:=Bl.alloc (Bl.alloc (Bl.alloc (u:=u) ht _) _) _
 clear ht
 go_enter Tryz.func32,Tryz.ntmps32
 go_upto_region 1 with fail
 change Code.wp _ _ _ _ (((u.alloc (.cells #[.pointer (some ⟨tb,0,none⟩)] 29)).alloc (.cells #[.pointer q] 32)).alloc (.cells #[.int .i64 j] 3))
 generalize (((u.alloc (.cells #[.pointer (some ⟨tb,0,none⟩)] 29)).alloc (.cells #[.pointer q] 32)).alloc (.cells #[.int .i64 j] 3))=w0 at *
 obtain⟨f0,f1,f2,f3,f4,f5,f6,f7,f8,f9,f10,f11⟩:=tb_cells HT
 clear HT
 go_wp2_with fail
 go_at_call 76
 refine(unhide HS _).mono ?_
 rintro r w1 ⟨⟨a1,n1,c1,rfl⟩,hb⟩
 replace HB:=hide ((unhide HB).trans (hb.mono (unhide HB).size))
 clear HS hb c0 f0 f1 f2 f3 f4 f5 f6 f7 f8 f9 f10 f11
 go_wp2_with fail
 go_ret2
 exact⟨rfl,unhide HB⟩

theorem tmake_nil (u:World)(q:Option Addr)(j ix:Int) :
  Calls Tryz.prog 12 #[.pointer none,.pointer q,.int .i64 j,.int .i64 ix] u fun r u'=>r=.returned (.tuple #[.int .i64 0,.bool false,.int .i64 1])∧Below u.heap.size u u':=by
 have HB:Hid (Below u.heap.size u (((u.alloc (.cells #[.pointer none] 29)).alloc (.cells #[.pointer q] 32)).alloc (.cells #[.bool false] 4))):=(((Below.refl _ _).alloc (Nat.le_refl _) _).alloc (by simp) _).alloc (by simp;omega) _
 have c0:(((u.alloc (.cells #[.pointer none] 29)).alloc (.cells #[.pointer q] 32)).alloc (.cells #[.bool false] 4)).cell? ⟨u.heap.size,0,none⟩=some (.pointer none):=row_cell (((Bl.new u #[.pointer none] 29).alloc _).alloc _)
 have c1:(((u.alloc (.cells #[.pointer none] 29)).alloc (.cells #[.pointer q] 32)).alloc (.cells #[.bool false] 4)).cell? ⟨u.heap.size+1,0,none⟩=some (.pointer q):=by
  have:=row_cell ((Bl.new (u.alloc (.cells #[.pointer none] 29)) #[.pointer q] 32).alloc (.cells #[.bool false] 4))
  rwa [size_alloc] at this
 have b2:Bl (((u.alloc (.cells #[.pointer none] 29)).alloc (.cells #[.pointer q] 32)).alloc (.cells #[.bool false] 4)) (u.heap.size+2) #[.bool false] 4:=by
  have:=Bl.new ((u.alloc (.cells #[.pointer none] 29)).alloc (.cells #[.pointer q] 32)) #[.bool false] 4
  rwa [size_alloc,size_alloc] at this
 have KF:=hide (folM_nil (((u.alloc (.cells #[.pointer none] 29)).alloc (.cells #[.pointer q] 32)).alloc (.cells #[.bool false] 4)) q j ix (u.heap.size+2) u.heap.size (u.heap.size+1))
 have HB2:=hide b2
 clear b2 
 go_enter Tryz.func12,Tryz.ntmps12
 go_upto_region 1 with fail
 change Code.wp _ _ _ _ (((u.alloc (.cells #[.pointer none] 29)).alloc (.cells #[.pointer q] 32)).alloc (.cells #[.bool false] 4))
 generalize (((u.alloc (.cells #[.pointer none] 29)).alloc (.cells #[.pointer q] 32)).alloc (.cells #[.bool false] 4))=w0 at *
 go_wp2_with fail
 go_at_call 32
 refine(unhide KF).mono ?_
 rintro r w1 ⟨rfl,hb⟩
 have bl:=(unhide HB2).call hb
 have g0:=bl.cell 0 _ rfl
 have g1:=bl.free 0
 have hA:=bl.set 0 (.bool false)
 have HW:Hid (Below u.heap.size u (w1.setCell ⟨u.heap.size+2,0,none⟩ (.bool false))):=((unhide HB).trans (hb.mono (unhide HB).size)).setCell (p:=⟨u.heap.size+2,0,none⟩) (by show u.heap.size≤u.heap.size+2;omega) _
 clear KF HB HB2 hb bl c0 c1
 go_wp2_with fail
 change bodyPost _ _ _ _ _ (w1.setCell ⟨u.heap.size+2,0,none⟩ (.bool false))
 generalize w1.setCell ⟨u.heap.size+2,0,none⟩ (.bool false)=wf at *
 refine bodyPost_ret (v:=.tuple #[.int .i64 0,.bool false,.int .i64 1]) ?_ rfl ⟨rfl,unhide HW⟩
 simp[results,Tryz.results12,go_sem,hA.cell 0 _ rfl]

theorem tfind_nil (u:World)(q:Option Addr)(j ix:Int) :
  Calls Tryz.prog 11 #[.pointer none,.pointer q,.int .i64 j,.int .i64 ix] u fun r u'=>r=.returned (.tuple #[.int .i64 0,.int .i64 1])∧Below u.heap.size u u':=by
 have KF:=hide (folF_nil u q j ix)
 go_enter Tryz.func11,Tryz.ntmps11
 go_wp2_with fail
 go_at_call 32
 refine(unhide KF).mono ?_
 rintro r w1 ⟨rfl,hb⟩
 have HB:=hide hb
 clear KF hb
 go_wp2_with fail
 go_ret2
 exact⟨rfl,unhide HB⟩

theorem tmake_range (u:World)(q:Option Addr)(j ix:Int){tb a:Nat}{P:Nat→Int}(ht:u.heap[tb]?=some (tbO a P))(HS:Hid (∀ v,Calls Tryz.prog 76 #[Pv P,.int .i64 ix] v fun r w'=>(∃ a n c,r=.returned (.tuple #[.slice a n c,.int .i64 2]))∧Below v.heap.size v w')) :
  Calls Tryz.prog 12 #[.pointer (some ⟨tb,0,none⟩),.pointer q,.int .i64 j,.int .i64 ix] u fun r u'=>r=.returned (.tuple #[.int .i64 0,.bool false,.int .i64 2])∧Below u.heap.size u u':=by
 have HB:Hid (Below u.heap.size u (((u.alloc (.cells #[.pointer (some ⟨tb,0,none⟩)] 29)).alloc (.cells #[.pointer q] 32)).alloc (.cells #[.bool false] 4))):=(((Below.refl _ _).alloc (Nat.le_refl _) _).alloc (by simp) _).alloc (by simp;omega) _
 have c0:(((u.alloc (.cells #[.pointer (some ⟨tb,0,none⟩)] 29)).alloc (.cells #[.pointer q] 32)).alloc (.cells #[.bool false] 4)).cell? ⟨u.heap.size,0,none⟩=some (.pointer (some ⟨tb,0,none⟩)):=row_cell (((Bl.new u #[.pointer (some ⟨tb,0,none⟩)] 29).alloc _).alloc _)
 have c1:(((u.alloc (.cells #[.pointer (some ⟨tb,0,none⟩)] 29)).alloc (.cells #[.pointer q] 32)).alloc (.cells #[.bool false] 4)).cell? ⟨u.heap.size+1,0,none⟩=some (.pointer q):=by
  have:=row_cell ((Bl.new (u.alloc (.cells #[.pointer (some ⟨tb,0,none⟩)] 29)) #[.pointer q] 32).alloc (.cells #[.bool false] 4))
  rwa [size_alloc] at this
 have b2:Bl (((u.alloc (.cells #[.pointer (some ⟨tb,0,none⟩)] 29)).alloc (.cells #[.pointer q] 32)).alloc (.cells #[.bool false] 4)) (u.heap.size+2) #[.bool false] 4:=by
  have:=Bl.new ((u.alloc (.cells #[.pointer (some ⟨tb,0,none⟩)] 29)).alloc (.cells #[.pointer q] 32)) #[.bool false] 4
  rwa [size_alloc,size_alloc] at this
 have KF:=hide (folM_range (((u.alloc (.cells #[.pointer (some ⟨tb,0,none⟩)] 29)).alloc (.cells #[.pointer q] 32)).alloc (.cells #[.bool false] 4)) q j ix (u.heap.size+2) u.heap.size (u.heap.size+1) (Bl.alloc (Bl.alloc (Bl.alloc (u:=u) ht _) _) _) HS)
 have HB2:=hide b2
 clear b2 ht HS
 go_enter Tryz.func12,Tryz.ntmps12
 go_upto_region 1 with fail
 change Code.wp _ _ _ _ (((u.alloc (.cells #[.pointer (some ⟨tb,0,none⟩)] 29)).alloc (.cells #[.pointer q] 32)).alloc (.cells #[.bool false] 4))
 generalize (((u.alloc (.cells #[.pointer (some ⟨tb,0,none⟩)] 29)).alloc (.cells #[.pointer q] 32)).alloc (.cells #[.bool false] 4))=w0 at *
 go_wp2_with fail
 go_at_call 32
 refine(unhide KF).mono ?_
 rintro r w1 ⟨rfl,hb⟩
 have bl:=(unhide HB2).call hb
 have g0:=bl.cell 0 _ rfl
 have g1:=bl.free 0
 have hA:=bl.set 0 (.bool false)
 have HW:Hid (Below u.heap.size u (w1.setCell ⟨u.heap.size+2,0,none⟩ (.bool false))):=((unhide HB).trans (hb.mono (unhide HB).size)).setCell (p:=⟨u.heap.size+2,0,none⟩) (by show u.heap.size≤u.heap.size+2;omega) _
 clear KF HB HB2 hb bl c0 c1
 go_wp2_with fail
 change bodyPost _ _ _ _ _ (w1.setCell ⟨u.heap.size+2,0,none⟩ (.bool false))
 generalize w1.setCell ⟨u.heap.size+2,0,none⟩ (.bool false)=wf at *
 refine bodyPost_ret (v:=.tuple #[.int .i64 0,.bool false,.int .i64 2]) ?_ rfl ⟨rfl,unhide HW⟩
 simp[results,Tryz.results12,go_sem,hA.cell 0 _ rfl]

theorem tfind_range (u:World)(q:Option Addr)(j ix:Int){tb a:Nat}{P:Nat→Int}(ht:u.heap[tb]?=some (tbO a P))(HS:Hid (∀ v,Calls Tryz.prog 76 #[Pv P,.int .i64 ix] v fun r w'=>(∃ a n c,r=.returned (.tuple #[.slice a n c,.int .i64 2]))∧Below v.heap.size v w')) :
  Calls Tryz.prog 11 #[.pointer (some ⟨tb,0,none⟩),.pointer q,.int .i64 j,.int .i64 ix] u fun r u'=>r=.returned (.tuple #[.int .i64 0,.int .i64 2])∧Below u.heap.size u u':=by
 have KF:=hide (folF_range u q j ix ht HS)
 clear ht HS
 go_enter Tryz.func11,Tryz.ntmps11
 go_wp2_with fail
 go_at_call 32
 refine(unhide KF).mono ?_
 rintro r w1 ⟨rfl,hb⟩
 have HB:=hide hb
 clear KF hb
 go_wp2_with fail
 go_ret2
 exact⟨rfl,unhide HB⟩

theorem tcut_nil (q r j:Value)(u:World):Calls Tryz.prog 16 #[.pointer none,q,r,j] u fun e u'=>e=.returned (.int .i64 1)∧u=u':=by
 go_enter Tryz.func16,Tryz.ntmps16
 go_wp2_with fail
 go_ret
 exact⟨rfl,rfl⟩

theorem tcut_range (q r:Value)(n:Int){u:World}{tb a:Nat}{P:Nat→Int}(ht:u.heap[tb]?=some (tbO a P))(hn:whE P n=2) :
  Calls Tryz.prog 16 #[.pointer (some ⟨tb,0,none⟩),q,r,.int .i64 n] u fun e u'=>e=.returned (.int .i64 2)∧Below u.heap.size u u':=by
 have KW:Hid (∀ v,Calls Tryz.prog 48 #[Pv P,.int .i64 n] v fun e w'=>(∃ x y,e=.returned (.tuple #[.int .i64 x,.int .i64 y,.int .i64 2]))∧Below v.heap.size v w'):=fun v=>by
  have:=whole_any P n v
  rw[hn] at this
  exact this.mono fun e w' ⟨x,y⟩=>⟨⟨_,_,x⟩,y⟩
 obtain⟨f0,f1,f2,f3,f4,f5,f6,f7,f8,f9,f10,f11⟩:=tb_cells ht
 clear ht hn
 go_enter Tryz.func16,Tryz.ntmps16
 go_wp2_with fail
 go_at_call 48
 refine(unhide KW _).mono ?_
 rintro e w1 ⟨⟨x,y,rfl⟩,hb⟩
 have HB:=hide hb
 clear KW hb f0 f1 f2 f3 f4 f5 f6 f7 f8 f9 f10 f11
 go_wp2_with fail
 go_ret
 exact⟨rfl,unhide HB⟩

theorem tcut_get (q:Value)(j n er:Int){u:World}{tb a:Nat}{P:Nat→Int}(ht:u.heap[tb]?=some (tbO a P))(hn:whE P n=0)(hne:er≠0)(KG:Hid (∀ v,Below u.heap.size u v→Calls Tryz.prog 17 #[.pointer (some ⟨tb,0,none⟩),q,.int .i64 j] v fun e u'=>e=.returned (.tuple #[.agg Iz,.int .i64 er])∧Below v.heap.size v u')) :
  Calls Tryz.prog 16 #[.pointer (some ⟨tb,0,none⟩),q,.int .i64 j,.int .i64 n] u fun e u'=>e=.returned (.int .i64 er)∧Below u.heap.size u u':=by
 have KW:Hid (∀ v,Calls Tryz.prog 48 #[Pv P,.int .i64 n] v fun e w'=>(∃ x y,e=.returned (.tuple #[.int .i64 x,.int .i64 y,.int .i64 0]))∧Below v.heap.size v w'):=fun v=>by
  have:=whole_any P n v
  rw[hn] at this
  exact this.mono fun e w' ⟨x,y⟩=>⟨⟨_,_,x⟩,y⟩
 obtain⟨f0,f1,f2,f3,f4,f5,f6,f7,f8,f9,f10,f11⟩:=tb_cells ht
 have hne':(er != 0)=true:=by simpa using hne
 clear ht hn hne
 go_enter Tryz.func16,Tryz.ntmps16
 go_wp2_with fail
 go_at_call 48
 refine(unhide KW _).mono ?_
 rintro e w1 ⟨⟨x,y,rfl⟩,hb⟩
 have K2:=hide (unhide KG w1 hb)
 have HB:=hide hb
 clear KW KG hb f0 f1 f2 f3 f4 f5 f6 f7 f8 f9 f10 f11
 go_wp2_with fail
 go_at_call 17
 refine(unhide K2).mono ?_
 rintro e w2 ⟨rfl,hb2⟩
 have HB2:=hide (((unhide HB).trans (hb2.mono (unhide HB).size)).alloc ((unhide HB).trans (hb2.mono (unhide HB).size)).size (.cells Iz 50))
 clear K2 HB hb2
 go_upto_region 7 with fail
 change Code.wp _ _ _ _ (w2.alloc (.cells Iz 50))
 generalize w2.alloc (.cells Iz 50)=w3 at *
 go_wp2_with fail
 go_ret
 exact⟨rfl,unhide HB2⟩

theorem tblocks_nil (q j:Value)(u:World):Calls Tryz.prog 13 #[.pointer none,q,j] u fun e u'=>e=.returned (.tuple #[.slice none 0 0,.slice none 0 0,.int .i64 1])∧Below u.heap.size u u':=by
 have B0:Hid (Below u.heap.size u ((u.alloc (.cells #[.slice none 0 0] 22)).alloc (.cells #[.slice none 0 0] 22))):=((Below.refl _ _).alloc (Nat.le_refl _) _).alloc (by simp) _
 have b1:Hid (Bl ((u.alloc (.cells #[.slice none 0 0] 22)).alloc (.cells #[.slice none 0 0] 22)) u.heap.size #[.slice none 0 0] 22):=(Bl.new u #[.slice none 0 0] 22).alloc _
 have b2:Hid (Bl ((u.alloc (.cells #[.slice none 0 0] 22)).alloc (.cells #[.slice none 0 0] 22)) (u.heap.size+1) #[.slice none 0 0] 22):=by
  have:=Bl.new (u.alloc (.cells #[.slice none 0 0] 22)) #[.slice none 0 0] 22
  rwa [size_alloc] at this
 have KG:Hid (∀ v,Calls Tryz.prog 17 #[.pointer none,q,j] v fun e u'=>e=.returned (.tuple #[.agg Iz,.int .i64 1])∧Below v.heap.size v u'):=fun v=>tget_nil q j v
 go_enter Tryz.func13,Tryz.ntmps13
 go_upto_region 1 with fail
 change Code.wp _ _ _ _ ((u.alloc (.cells #[.slice none 0 0] 22)).alloc (.cells #[.slice none 0 0] 22))
 generalize (u.alloc (.cells #[.slice none 0 0] 22)).alloc (.cells #[.slice none 0 0] 22)=w0 at *
 go_wp2_with fail
 go_at_call 17
 refine(unhide KG _).mono ?_
 rintro e w1 ⟨rfl,hb⟩
 have a1:=((unhide b1).call hb).alloc (.cells Iz 50)
 have a2:=((unhide b2).call hb).alloc (.cells Iz 50)
 have HB:=hide (((unhide B0).trans (hb.mono (unhide B0).size)).alloc ((unhide B0).trans (hb.mono (unhide B0).size)).size (.cells Iz 50))
 clear KG b1 b2 B0 hb
 go_upto_region 2 with fail
 change Code.wp _ _ _ _ (w1.alloc (.cells Iz 50))
 generalize w1.alloc (.cells Iz 50)=w2 at *
 have y1:=a1.cell 0 _ rfl
 have y2:=a2.cell 0 _ rfl
 have z1:=a1.free 0
 have z2:=a2.free 0
 have a3:=(a1.set 0 (.slice none 0 0)).other ⟨u.heap.size+1,0,none⟩ (.slice none 0 0) (by show u.heap.size≠u.heap.size+1;omega)
 have a4:=(a2.other ⟨u.heap.size,0,none⟩ (.slice none 0 0) (by show u.heap.size+1≠u.heap.size;omega)).set 0 (.slice none 0 0)
 have y3:=(a2.other ⟨u.heap.size,0,none⟩ (.slice none 0 0) (by show u.heap.size+1≠u.heap.size;omega)).cell 0 _ rfl
 have z3:=(a2.other ⟨u.heap.size,0,none⟩ (.slice none 0 0) (by show u.heap.size+1≠u.heap.size;omega)).free 0
 have HW:=hide (((unhide HB).setCell (p:=⟨u.heap.size,0,none⟩) (Nat.le_refl _) (.slice none 0 0)).setCell (p:=⟨u.heap.size+1,0,none⟩) (by show u.heap.size≤u.heap.size+1;omega) (.slice none 0 0))
 clear HB a1 a2
 go_wp2_with fail
 change bodyPost _ _ _ _ _ ((w2.setCell ⟨u.heap.size,0,none⟩ (.slice none 0 0)).setCell ⟨u.heap.size+1,0,none⟩ (.slice none 0 0))
 generalize (w2.setCell ⟨u.heap.size,0,none⟩ (.slice none 0 0)).setCell ⟨u.heap.size+1,0,none⟩ (.slice none 0 0)=wf at *
 refine bodyPost_ret (v:=.tuple #[.slice none 0 0,.slice none 0 0,.int .i64 1]) ?_ rfl ⟨rfl,unhide HW⟩
 simp[results,Tryz.results13,go_sem,a3.cell 0 _ rfl,a4.cell 0 _ rfl]

end Go.Proofs.YtokngjcfkkceiaaGreatDoor
