/- Joined: IFolA, IEnt, IFolF1, IFolM1, IMakeT. -/
import Derived.Test.YtefdkpbmeoakgaaGreatDoorDnJ37
import Derived.LoopN
/- What follow asks of a visit, and of enter. -/
namespace Go.Proofs.YtefdkpbmeoakgaaGreatDoor
set_option maxRecDepth 100000
set_option maxHeartbeats 8000000
open Go.RowKit Go.Shelf Go.Maps
set_option linter.unusedVariables false
def amB (w:World) (P:Nat->Int) (G:Geo) (g o i:Nat) (V:Nat->List Int) (F K:Nat->Bool) (yN:List (Nat×Obj)) (fg tg og:Nat) (tb:Nat) (j:Int) (kx:Nat) (la:Bool) (X:Nat->Int) (q1:Bool) (E:Nat->Bool) (V':Nat->List Int) (b e:Int) (X1:Nat->Int) (q2:Bool) (E1:Nat->Bool) (V1:Nat->List Int):Prop :=
 ∀ v xg fc m0 m1 m2 rows,(fc,.cells #[.pointer (some ⟨xg,kx,none⟩)] 217)∈rows->(m0,zC tb 27)∈rows->(m1,zC o 28)∈rows->(m2,zI j)∈rows->w.heap.size<=xg->(∀ y∈rows,y.1≠xg)->fg≠xg->(∀ y∈(xg,.cells (Ic X) 65)::rows,y.1≠fg)->(∀ y∈yN,y∈rows)->Lp w P G E g o ((fg,zB q1)::(xg,.cells (Ic X) 65)::rows) i V F V' K v->Calls Tryz.prog 179 #[.agg #[.int .i64 (X kx),.bool la,.func (.func 146) #[] #[.pointer (some ⟨fc,0,none⟩),.pointer (some ⟨m0,0,none⟩),.pointer (some ⟨m1,0,none⟩),.pointer (some ⟨m2,0,none⟩),.pointer (some ⟨xg,0,none⟩)]],.pointer (some ⟨fg,0,none⟩),.pointer (some ⟨tg,0,none⟩),.pointer (some ⟨og,0,none⟩)] v fun r u'=>r=.returned (.tuple #[.int .i64 b,.int .i64 e])/\Hid (Lp w P G E1 g o ((fg,zB q2)::(xg,.cells (Ic X1) 65)::rows) i V F V1 K u')
def ald (w:World) (P:Nat->Int) (G:Geo) (g o i:Nat) (V:Nat->List Int) (F K:Nat->Bool) (yN:List (Nat×Obj)) (tb:Nat) (j:Int) (kx:Nat) (la:Bool) (X:Nat->Int) (E:Nat->Bool) (V':Nat->List Int) (b e:Int) (X1:Nat->Int) (E1:Nat->Bool) (V1:Nat->List Int):Prop :=
 ∀ v xg fc m0 m1 m2 rows,(fc,.cells #[.pointer (some ⟨xg,kx,none⟩)] 217)∈rows->(m0,zC tb 27)∈rows->(m1,zC o 28)∈rows->(m2,zI j)∈rows->w.heap.size<=xg->(∀ y∈rows,y.1≠xg)->(∀ y∈yN,y∈rows)->Lp w P G E g o ((xg,.cells (Ic X) 65)::rows) i V F V' K v->Calls Tryz.prog 98 #[.agg #[.int .i64 (X kx),.bool la,.func (.func 146) #[] #[.pointer (some ⟨fc,0,none⟩),.pointer (some ⟨m0,0,none⟩),.pointer (some ⟨m1,0,none⟩),.pointer (some ⟨m2,0,none⟩),.pointer (some ⟨xg,0,none⟩)]]] v fun r u'=>r=.returned (.tuple #[.int .i64 b,.int .i64 e])/\Hid (Lp w P G E1 g o ((xg,.cells (Ic X1) 65)::rows) i V F V1 K u')
theorem agA {s:Nat}(hs:s<=9):pof s<13/\3<=pof s:=by
 unfold pof
 split
 ·omega
 ·split<;>omega
theorem ajx (X:Nat->Int){k:Nat}(hk:k<13):(Ic X)[k]?=some (.int .i64 (X k)):=by
 have:k=0\/k=1\/k=2\/k=3\/k=4\/k=5\/k=6\/k=7\/k=8\/k=9\/k=10\/k=11\/k=12:=by omega
 rcases this with rfl | rfl | rfl | rfl | rfl | rfl | rfl | rfl | rfl | rfl | rfl | rfl | rfl<;>rfl
theorem aec (pb:Int)(la:Bool)(fn:FuncId)(cs:Array Value)(u:World):Calls Tryz.prog 98 #[.agg #[.int .i64 pb,.bool la,.func (.func fn) #[] cs]] u fun r u'=>r=.returned (.tuple #[.int .i64 pb,.int .i64 0])/\Below u.heap.size u u':=by
 have HB:=hide ((Below.refl u.heap.size u).alloc (Nat.le_refl _) (.cells #[.int .i64 pb,.bool la,.func (.func fn) #[] cs] 172))
 go_enter Tryz.func98,Tryz.ntmps98
 go_wp2_with fail
 go_ret2
 exact⟨rfl,ah HB⟩
theorem aeP {w:World}{P:Nat->Int}{G:Geo}{g o i:Nat}{V:Nat->List Int}{F K:Nat->Bool}{yN:List (Nat×Obj)}{tb kx:Nat}{la:Bool}{X:Nat->Int}{j:Int}{E:Nat->Bool}{V':Nat->List Int} :
  ald w P G g o i V F K yN tb j kx la X E V' (X kx) 0 X E V':=by
 intro v xg fc m0 m1 m2 rows rf r0 r1 r2 hx hne hsub hv
 refine(aec _ la _ _ v).mono ?_
 rintro r u' ⟨rfl,b1⟩
 exact⟨rfl,hv.later b1⟩
theorem afZ {w P G E g o}{rows:List (Nat×Obj)}{i V F V' K u}{a tb bk at0 s0:Nat}{X X1:Nat->Int}{j ix:Int}{b1 e1:Int}{E1:Nat->Bool}{V1:Nat->List Int}(h:Lp w P G E g o (rows) i V F V' K u)(ht:(tb,tbO a P)∈rows)(h0:1<w.heap.size)(p1:jJ P j=0)(p2:oL P j=(bk:Int))(p3:oM P j=(at0:Int))(hfit:at0+32<=G.blk)(hb:E bk=true)(hi:pR (((V' bk).drop at0).take 32))(hX:Iv (bD (((V' bk).drop at0).take 32))=Iv X)(hs:s0<=9)(HS:Hid (∀ v,Calls Tryz.prog 144 #[Pv P,.int .i64 ix] v fun r w'=>(∃ k,r=.returned (.tuple #[.slice (some ⟨k,0,none⟩) 1 1,.int .i64 0])/\v.heap.size<=k/\w'.heap[k]?=some (zI (s0:Int)))/\Below v.heap.size v w'))(HV:ald w P G g o i V F K rows tb j (pof s0) true X E V' b1 e1 X1 E1 V1) :
  Calls Tryz.prog 97 #[.pointer (some ⟨tb,0,none⟩),.pointer (some ⟨o,0,none⟩),.int .i64 j,.int .i64 ix,.func (.func 98) #[] #[]] u fun r u'=>r=.returned (.tuple #[.int .i64 b1,.int .i64 e1])/\Hid (Lp w P G E1 g o (rows) i V F V1 K u'):=by
 have hwu:w.heap.size<=u.heap.size:=h.bel.size
 have L0:Hid (Lp w P G E g o (((u.heap.size+2),zI j)::((u.heap.size+1),zC o 28)::(u.heap.size,zC tb 27)::rows) i V F V' K (((u.alloc (zC tb 27)).alloc (zC o 28)).alloc (zI j))):=h.aks _ _ _
 have hlt0:∀ y∈rows,y.1<u.heap.size:=fun y hy=>h.lt (hy)
 have HT:Hid (∀ v E2 V2,Lp w P G E2 g o (((u.heap.size+2),zI j)::((u.heap.size+1),zC o 28)::(u.heap.size,zC tb 27)::rows) i V F V2 K v->v.heap[tb]?=some (tbO a P)/\v.cell? ⟨u.heap.size,0,none⟩=some (.pointer (some ⟨tb,0,none⟩))/\v.cell? ⟨u.heap.size+1,0,none⟩=some (.pointer (some ⟨o,0,none⟩))/\v.cell? ⟨u.heap.size+2,0,none⟩=some (.int .i64 j)/\u.heap.size+2<v.heap.size):=fun v E2 V2 hv =>
  ⟨hv.row (List.mem_cons_of_mem _ (List.mem_cons_of_mem _ (List.mem_cons_of_mem _ (ht)))),aW (hv.row (x:=(u.heap.size,zC tb 27)) (by simp)),aW (hv.row (x:=((u.heap.size+1),zC o 28)) (by simp)),aW (hv.row (x:=((u.heap.size+2),zI j)) (by simp)),hv.lt (x:=((u.heap.size+2),zI j)) (by simp)⟩
 have KS:Hid (∀ v,Lp w P G E g o (((u.heap.size+2),zI j)::((u.heap.size+1),zC o 28)::(u.heap.size,zC tb 27)::rows) i V F V' K v->Calls Tryz.prog 144 #[Pv P,.int .i64 ix] v fun r w'=>∃ ks,r=.returned (.tuple #[.slice (some ⟨ks,0,none⟩) 1 1,.int .i64 0])/\Hid (v.heap.size<=ks/\Lp w P G E g o ((ks,zI (s0:Int))::((u.heap.size+2),zI j)::((u.heap.size+1),zC o 28)::(u.heap.size,zC tb 27)::rows) i V F V' K w')):=fun v hv=>by
  refine(ah HS v).mono ?_
  rintro r w' ⟨⟨k,rfl,hk1,hk2⟩,b1⟩
  exact⟨k,rfl,hk1,hv.push b1 hk1 hk2⟩
 have KG:Hid (∀ v ks,Lp w P G E g o ((ks,zI (s0:Int))::((u.heap.size+2),zI j)::((u.heap.size+1),zC o 28)::(u.heap.size,zC tb 27)::rows) i V F V' K v->Calls Tryz.prog 54 #[.pointer (some ⟨tb,0,none⟩),.pointer (some ⟨o,0,none⟩),.int .i64 j] v fun r u'=>r=.returned (.tuple #[Iv X,.int .i64 0])/\Hid (Lp w P G E g o ((ks,zI (s0:Int))::((u.heap.size+2),zI j)::((u.heap.size+1),zC o 28)::(u.heap.size,zC tb 27)::rows) i V F V' K u')):=fun v ks hv=>tu hv X j (List.mem_cons_of_mem _ (List.mem_cons_of_mem _ (List.mem_cons_of_mem _ (List.mem_cons_of_mem _ (ht))))) h0 p1 p2 p3 hfit hb hi hX
 have KV:Hid (∀ v ks zxg zfc,u.heap.size+2<ks->ks<zxg->zxg<zfc->Lp w P G E g o (((zxg),.cells (Ic X) 65)::((zfc),.cells #[.pointer (some ⟨zxg,pof s0,none⟩)] 217)::(ks,zI (s0:Int))::((u.heap.size+2),zI j)::((u.heap.size+1),zC o 28)::(u.heap.size,zC tb 27)::rows) i V F V' K v->Calls Tryz.prog 98 #[.agg #[.int .i64 (X (pof s0)),.bool true,.func (.func 146) #[] #[.pointer (some ⟨zfc,0,none⟩),.pointer (some ⟨u.heap.size,0,none⟩),.pointer (some ⟨u.heap.size+1,0,none⟩),.pointer (some ⟨u.heap.size+2,0,none⟩),.pointer (some ⟨zxg,0,none⟩)]]] v fun r u'=>r=.returned (.tuple #[.int .i64 b1,.int .i64 e1])/\Hid (Lp w P G E1 g o (((zxg),.cells (Ic X1) 65)::((zfc),.cells #[.pointer (some ⟨zxg,pof s0,none⟩)] 217)::(ks,zI (s0:Int))::((u.heap.size+2),zI j)::((u.heap.size+1),zC o 28)::(u.heap.size,zC tb 27)::rows) i V F V1 K u')):=fun v ks zxg zfc c1 c2 c3 hv=>by
  refine HV v zxg zfc u.heap.size (u.heap.size+1) (u.heap.size+2) _ (by simp) (by simp) (by simp) (by simp) (by omega) (fun y hy=>?_) (fun y hy=>by simp[hy]) hv
  ·simp only[List.mem_cons] at hy
   rcases hy with rfl | rfl | rfl | rfl | rfl | hy
   ·show zfc≠zxg;omega
   ·show ks≠zxg;omega
   ·show u.heap.size+2≠zxg;omega
   ·show u.heap.size+1≠zxg;omega
   ·show u.heap.size≠zxg;omega
   ·have:=hlt0 y hy;omega
 have HC1:Hid (∀ v ks zxg zfc,Lp w P G E1 g o (((zxg),.cells (Ic X1) 65)::((zfc),.cells #[.pointer (some ⟨zxg,pof s0,none⟩)] 217)::(ks,zI (s0:Int))::((u.heap.size+2),zI j)::((u.heap.size+1),zC o 28)::(u.heap.size,zC tb 27)::rows) i V F V1 K v->v.cell? ⟨u.heap.size,0,none⟩=some (.pointer (some ⟨tb,0,none⟩))/\v.cell? ⟨u.heap.size+1,0,none⟩=some (.pointer (some ⟨o,0,none⟩))/\Bl v ks #[.int .i64 (s0:Int)] 3):=fun v ks zxg zfc hv=>⟨aW (hv.row (x:=(u.heap.size,zC tb 27)) (by simp)),aW (hv.row (x:=((u.heap.size+1),zC o 28)) (by simp)),hv.row (x:=(ks,zI (s0:Int))) (by simp)⟩
 have HO:Hid (∀ v ks zxg zfc,Lp w P G E1 g o (((zxg),.cells (Ic X1) 65)::((zfc),.cells #[.pointer (some ⟨zxg,pof s0,none⟩)] 217)::(ks,zI (s0:Int))::((u.heap.size+2),zI j)::((u.heap.size+1),zC o 28)::(u.heap.size,zC tb 27)::rows) i V F V1 K v->Lp w P G E1 g o (rows) i V F V1 K v):=fun v ks zxg zfc hv=>hv.sub (fun x hx=>by
  simp[hx])
 have HX:Hid (∀ v ks,Lp w P G E g o ((ks,zI (s0:Int))::((u.heap.size+2),zI j)::((u.heap.size+1),zC o 28)::(u.heap.size,zC tb 27)::rows) i V F V' K v->u.heap.size+2<ks/\ks<v.heap.size/\Bl v ks #[.int .i64 (s0:Int)] 3->Lp w P G E g o (((v.heap.size),.cells (Ic X) 65)::((v.heap.size+1),.cells #[.pointer (some ⟨v.heap.size,pof s0,none⟩)] 217)::(ks,zI (s0:Int))::((u.heap.size+2),zI j)::((u.heap.size+1),zC o 28)::(u.heap.size,zC tb 27)::rows) i V F V' K ((v.alloc (.cells (Ic X) 65)).alloc (.cells #[.pointer (some ⟨v.heap.size,pof s0,none⟩)] 217))):=fun v ks hv _=>by
  have:=hv.new2 (.cells (Ic X) 65) (.cells #[.pointer (some ⟨v.heap.size,pof s0,none⟩)] 217)
  exact this.sub (fun x hx=>by
   simp only[List.mem_cons] at hx ⊢
   rcases hx with h | h | h | h | h | h | h<;>simp[h])
 have HKS:Hid (∀ v ks,Lp w P G E g o ((ks,zI (s0:Int))::((u.heap.size+2),zI j)::((u.heap.size+1),zC o 28)::(u.heap.size,zC tb 27)::rows) i V F V' K v->u.heap.size+2<v.heap.size/\ks<v.heap.size/\Bl v ks #[.int .i64 (s0:Int)] 3):=fun v ks hv=>⟨hv.lt (x:=((u.heap.size+2),zI j)) (by simp),hv.lt (x:=(ks,zI (s0:Int))) (by simp),hv.row (x:=(ks,zI (s0:Int))) (by simp)⟩
 have KQ:Hid (∀ v xg,Calls Tryz.prog 145 #[.pointer (some ⟨xg,0,none⟩),.int .i64 (s0:Int)] v fun r u'=>r=.returned (.pointer (some ⟨xg,pof s0,none⟩))/\v=u'):=fun v xg=>kQ xg s0 v hs
 have hpo:=(agA hs).1
 have HPO:Hid (∀ v xg,Bl v xg (Ic X) 65->v.cell? ⟨xg,pof s0,none⟩=some (.int .i64 (X (pof s0)))):=fun v xg hv=>hv.cell _ _ (ajx X hpo)
 clear h ht h0 p1 p2 p3 hfit hb hi hX hs HS HV  hlt0 hwu hpo 
 generalize (s0:Int)=si at *
 generalize hps:pof s0=px at *
 clear hps
 generalize X px=xv at *
 go_enter Tryz.func97,Tryz.ntmps97
 go_upto_region 1 with fail
 change Code.wp _ _ _ _ (((u.alloc (zC tb 27)).alloc (zC o 28)).alloc (zI j))
 generalize (((u.alloc (zC tb 27)).alloc (zC o 28)).alloc (zI j))=w0 at *
 generalize u.heap.size=m at *
 obtain⟨tc,d0,d1,d2,hms⟩:=ah HT _ _ _ (ah L0)
 obtain⟨f0,f1,f2,f3,f4,f5,f6,f7,f8,f9,f10,f11⟩:=fU tc
 have K1:=hide (ah KS w0 (ah L0))
 have HMS:=hide hms
 clear KS L0 tc hms
 go_wp2_with fail
 go_at_call 144
 refine(ah K1).mono ?_
 rintro e w1 ⟨ks,rfl,Y1⟩
 obtain⟨hks,L1⟩:=ah Y1
 have HKL:=hide (Nat.lt_of_lt_of_le (ah HMS) hks)
 have K2:=hide (ah KG w1 ks L1)
 obtain⟨_,d0',d1',d2',_⟩:=ah HT w1 _ _ (L1.pop)
 clear K1 Y1 KG hks L1 HMS HT d0 d1 d2 f0 f1 f2 f3 f4 f5 f6 f7 f8 f9 f10 f11
 go_wp2_with fail
 go_at_call 54
 refine(ah K2).mono ?_
 rintro e w2 ⟨rfl,L2⟩
 obtain⟨_,hk2,bs⟩:=ah HKS w2 ks (ah L2)
 have L3:=hide (ah HX w2 ks (ah L2) ⟨ah HKL,hk2,bs⟩)
 have HK2:=hide hk2
 have bx:=Bl.new w2 (Ic X) 65
 have bs3:=bs.alloc (.cells (Ic X) 65)
 clear K2 HKS HX L2 d0' d1' d2' hk2 bs
 go_upto_region 7 with fail
 change Code.wp _ _ _ _ (w2.alloc (.cells (Ic X) 65))
 have hz:(w2.alloc (.cells (Ic X) 65)).heap.size=w2.heap.size+1:=size_alloc _ _
 generalize w2.alloc (.cells (Ic X) 65)=w3 at *
 generalize w2.heap.size=xg at *
 have i0:=bs3.cell 0 _ rfl
 have HBX:=hide bx
 have HZ:=hide hz
 clear bs3 bx hz
 go_wp2_with fail
 go_at_call 145
 refine(ah KQ w3 xg).mono ?_
 rintro e w4 ⟨rfl,rfl⟩
 have px1:=ah HPO _ _ ((ah HBX).alloc (.cells #[.pointer (some ⟨xg,px,none⟩)] 217))
 have fc1:=aW (Bl.new w3 #[.pointer (some ⟨xg,px,none⟩)] 217)
 have K4:=hide (ah KV _ ks xg (xg+1) (ah HKL) (ah HK2) (by omega) (ah L3))
 rw[ah HZ] at fc1
 clear KQ HPO HBX KV L3 i0
 go_upto_region 10 with fail
 change Code.wp _ _ _ _ (w3.alloc (.cells #[.pointer (some ⟨xg,px,none⟩)] 217))
 generalize w3.alloc (.cells #[.pointer (some ⟨xg,px,none⟩)] 217)=w5 at *
 simp only[ah HZ]
 clear HZ
 go_wp2_with fail
 go_at_call 98
 refine(ah K4).mono ?_
 rintro e w6 ⟨rfl,Z1⟩
 obtain⟨t0,t1,bk1⟩:=ah HC1 w6 ks xg (xg+1) (ah Z1)
 have i0:=bk1.cell 0 _ rfl
 clear K4 px1 fc1 HC1 bk1
 go_wp2_with fail
 refine wp_loop_rounds 1 ?_
 rw[rounds_succ]
 go_wp2_with fail
 go_ret2
 exact⟨rfl,hide (ah HO _ _ _ _ (ah Z1))⟩
theorem afY {w P G E g o}{rows:List (Nat×Obj)}{i V F V' K u}{a tb bk at0 s0:Nat}{fg tg og:Nat}{q0:Bool}{X X1:Nat->Int}{j ix:Int}{b1 e1:Int}{E1:Nat->Bool}{V1:Nat->List Int}{q1:Bool}(h:Lp w P G E g o ((fg,zB q0)::rows) i V F V' K u)(ht:(tb,tbO a P)∈rows)(h0:1<w.heap.size)(hwf:w.heap.size<=fg)(hfg:∀ y∈rows,y.1≠fg)(p1:jJ P j=0)(p2:oL P j=(bk:Int))(p3:oM P j=(at0:Int))(hfit:at0+32<=G.blk)(hb:E bk=true)(hi:pR (((V' bk).drop at0).take 32))(hX:Iv (bD (((V' bk).drop at0).take 32))=Iv X)(hs:s0<=9)(HS:Hid (∀ v,Calls Tryz.prog 144 #[Pv P,.int .i64 ix] v fun r w'=>(∃ k,r=.returned (.tuple #[.slice (some ⟨k,0,none⟩) 1 1,.int .i64 0])/\v.heap.size<=k/\w'.heap[k]?=some (zI (s0:Int)))/\Below v.heap.size v w'))(HV:amB w P G g o i V F K rows fg tg og tb j (pof s0) true X q0 E V' b1 e1 X1 q1 E1 V1) :
  Calls Tryz.prog 97 #[.pointer (some ⟨tb,0,none⟩),.pointer (some ⟨o,0,none⟩),.int .i64 j,.int .i64 ix,.func (.func 179) #[] #[.pointer (some ⟨fg,0,none⟩),.pointer (some ⟨tg,0,none⟩),.pointer (some ⟨og,0,none⟩)]] u fun r u'=>r=.returned (.tuple #[.int .i64 b1,.int .i64 e1])/\Hid (Lp w P G E1 g o ((fg,zB q1)::rows) i V F V1 K u'):=by
 have hwu:w.heap.size<=u.heap.size:=h.bel.size
 have hfu:fg<u.heap.size:=h.lt (x:=(fg,zB q0)) (by simp)
 have L0:Hid (Lp w P G E g o ((fg,zB q0)::((u.heap.size+2),zI j)::((u.heap.size+1),zC o 28)::(u.heap.size,zC tb 27)::rows) i V F V' K (((u.alloc (zC tb 27)).alloc (zC o 28)).alloc (zI j))):=(h.aks _ _ _).sub (fun x hx=>by
  simp only[List.mem_cons] at hx ⊢
  rcases hx with h | h | h | h | h<;>simp[h])
 have hlt0:∀ y∈rows,y.1<u.heap.size:=fun y hy=>h.lt (List.mem_cons_of_mem _ hy)
 have HT:Hid (∀ v E2 V2 qq,Lp w P G E2 g o ((fg,zB qq)::((u.heap.size+2),zI j)::((u.heap.size+1),zC o 28)::(u.heap.size,zC tb 27)::rows) i V F V2 K v->v.heap[tb]?=some (tbO a P)/\v.cell? ⟨u.heap.size,0,none⟩=some (.pointer (some ⟨tb,0,none⟩))/\v.cell? ⟨u.heap.size+1,0,none⟩=some (.pointer (some ⟨o,0,none⟩))/\v.cell? ⟨u.heap.size+2,0,none⟩=some (.int .i64 j)/\u.heap.size+2<v.heap.size):=fun v E2 V2 qq hv =>
  ⟨hv.row (List.mem_cons_of_mem _ (List.mem_cons_of_mem _ (List.mem_cons_of_mem _ (List.mem_cons_of_mem _ (ht))))),aW (hv.row (x:=(u.heap.size,zC tb 27)) (by simp)),aW (hv.row (x:=((u.heap.size+1),zC o 28)) (by simp)),aW (hv.row (x:=((u.heap.size+2),zI j)) (by simp)),hv.lt (x:=((u.heap.size+2),zI j)) (by simp)⟩
 have KS:Hid (∀ v,Lp w P G E g o ((fg,zB q0)::((u.heap.size+2),zI j)::((u.heap.size+1),zC o 28)::(u.heap.size,zC tb 27)::rows) i V F V' K v->Calls Tryz.prog 144 #[Pv P,.int .i64 ix] v fun r w'=>∃ ks,r=.returned (.tuple #[.slice (some ⟨ks,0,none⟩) 1 1,.int .i64 0])/\Hid (v.heap.size<=ks/\Lp w P G E g o ((fg,zB q0)::(ks,zI (s0:Int))::((u.heap.size+2),zI j)::((u.heap.size+1),zC o 28)::(u.heap.size,zC tb 27)::rows) i V F V' K w')):=fun v hv=>by
  refine(ah HS v).mono ?_
  rintro r w' ⟨⟨k,rfl,hk1,hk2⟩,b1⟩
  exact⟨k,rfl,hk1,(hv.push b1 hk1 hk2).sub iU⟩
 have KG:Hid (∀ v ks,Lp w P G E g o ((fg,zB q0)::(ks,zI (s0:Int))::((u.heap.size+2),zI j)::((u.heap.size+1),zC o 28)::(u.heap.size,zC tb 27)::rows) i V F V' K v->Calls Tryz.prog 54 #[.pointer (some ⟨tb,0,none⟩),.pointer (some ⟨o,0,none⟩),.int .i64 j] v fun r u'=>r=.returned (.tuple #[Iv X,.int .i64 0])/\Hid (Lp w P G E g o ((fg,zB q0)::(ks,zI (s0:Int))::((u.heap.size+2),zI j)::((u.heap.size+1),zC o 28)::(u.heap.size,zC tb 27)::rows) i V F V' K u')):=fun v ks hv=>tu hv X j (List.mem_cons_of_mem _ (List.mem_cons_of_mem _ (List.mem_cons_of_mem _ (List.mem_cons_of_mem _ (List.mem_cons_of_mem _ (ht)))))) h0 p1 p2 p3 hfit hb hi hX
 have KV:Hid (∀ v ks zxg zfc,u.heap.size+2<ks->ks<zxg->zxg<zfc->Lp w P G E g o ((fg,zB q0)::((zxg),.cells (Ic X) 65)::((zfc),.cells #[.pointer (some ⟨zxg,pof s0,none⟩)] 217)::(ks,zI (s0:Int))::((u.heap.size+2),zI j)::((u.heap.size+1),zC o 28)::(u.heap.size,zC tb 27)::rows) i V F V' K v->Calls Tryz.prog 179 #[.agg #[.int .i64 (X (pof s0)),.bool true,.func (.func 146) #[] #[.pointer (some ⟨zfc,0,none⟩),.pointer (some ⟨u.heap.size,0,none⟩),.pointer (some ⟨u.heap.size+1,0,none⟩),.pointer (some ⟨u.heap.size+2,0,none⟩),.pointer (some ⟨zxg,0,none⟩)]],.pointer (some ⟨fg,0,none⟩),.pointer (some ⟨tg,0,none⟩),.pointer (some ⟨og,0,none⟩)] v fun r u'=>r=.returned (.tuple #[.int .i64 b1,.int .i64 e1])/\Hid (Lp w P G E1 g o ((fg,zB q1)::((zxg),.cells (Ic X1) 65)::((zfc),.cells #[.pointer (some ⟨zxg,pof s0,none⟩)] 217)::(ks,zI (s0:Int))::((u.heap.size+2),zI j)::((u.heap.size+1),zC o 28)::(u.heap.size,zC tb 27)::rows) i V F V1 K u')):=fun v ks zxg zfc c1 c2 c3 hv=>by
  refine HV v zxg zfc u.heap.size (u.heap.size+1) (u.heap.size+2) _ (by simp) (by simp) (by simp) (by simp) (by omega) (fun y hy=>?_) (by omega) (fun y hy=>?_) (fun y hy=>by simp[hy]) hv
  ·simp only[List.mem_cons] at hy
   rcases hy with rfl | rfl | rfl | rfl | rfl | hy
   ·show zfc≠zxg;omega
   ·show ks≠zxg;omega
   ·show u.heap.size+2≠zxg;omega
   ·show u.heap.size+1≠zxg;omega
   ·show u.heap.size≠zxg;omega
   ·have:=hlt0 y hy;omega
  ·simp only[List.mem_cons] at hy
   rcases hy with rfl | rfl | rfl | rfl | rfl | rfl | hy
   ·show zxg≠fg;omega
   ·show zfc≠fg;omega
   ·show ks≠fg;omega
   ·show u.heap.size+2≠fg;omega
   ·show u.heap.size+1≠fg;omega
   ·show u.heap.size≠fg;omega
   ·exact hfg y hy
 have HC1:Hid (∀ v ks zxg zfc,Lp w P G E1 g o ((fg,zB q1)::((zxg),.cells (Ic X1) 65)::((zfc),.cells #[.pointer (some ⟨zxg,pof s0,none⟩)] 217)::(ks,zI (s0:Int))::((u.heap.size+2),zI j)::((u.heap.size+1),zC o 28)::(u.heap.size,zC tb 27)::rows) i V F V1 K v->v.cell? ⟨u.heap.size,0,none⟩=some (.pointer (some ⟨tb,0,none⟩))/\v.cell? ⟨u.heap.size+1,0,none⟩=some (.pointer (some ⟨o,0,none⟩))/\Bl v ks #[.int .i64 (s0:Int)] 3):=fun v ks zxg zfc hv=>⟨aW (hv.row (x:=(u.heap.size,zC tb 27)) (by simp)),aW (hv.row (x:=((u.heap.size+1),zC o 28)) (by simp)),hv.row (x:=(ks,zI (s0:Int))) (by simp)⟩
 have HO:Hid (∀ v ks zxg zfc,Lp w P G E1 g o ((fg,zB q1)::((zxg),.cells (Ic X1) 65)::((zfc),.cells #[.pointer (some ⟨zxg,pof s0,none⟩)] 217)::(ks,zI (s0:Int))::((u.heap.size+2),zI j)::((u.heap.size+1),zC o 28)::(u.heap.size,zC tb 27)::rows) i V F V1 K v->Lp w P G E1 g o ((fg,zB q1)::rows) i V F V1 K v):=fun v ks zxg zfc hv=>hv.sub (fun x hx=>by
  simp only[List.mem_cons] at hx ⊢
  rcases hx with h | h<;>simp[h])
 have HX:Hid (∀ v ks,Lp w P G E g o ((fg,zB q0)::(ks,zI (s0:Int))::((u.heap.size+2),zI j)::((u.heap.size+1),zC o 28)::(u.heap.size,zC tb 27)::rows) i V F V' K v->u.heap.size+2<ks/\ks<v.heap.size/\Bl v ks #[.int .i64 (s0:Int)] 3->Lp w P G E g o ((fg,zB q0)::((v.heap.size),.cells (Ic X) 65)::((v.heap.size+1),.cells #[.pointer (some ⟨v.heap.size,pof s0,none⟩)] 217)::(ks,zI (s0:Int))::((u.heap.size+2),zI j)::((u.heap.size+1),zC o 28)::(u.heap.size,zC tb 27)::rows) i V F V' K ((v.alloc (.cells (Ic X) 65)).alloc (.cells #[.pointer (some ⟨v.heap.size,pof s0,none⟩)] 217))):=fun v ks hv _=>by
  have:=hv.new2 (.cells (Ic X) 65) (.cells #[.pointer (some ⟨v.heap.size,pof s0,none⟩)] 217)
  exact this.sub (fun x hx=>by
   simp only[List.mem_cons] at hx ⊢
   rcases hx with h | h | h | h | h | h | h | h<;>simp[h])
 have HKS:Hid (∀ v ks,Lp w P G E g o ((fg,zB q0)::(ks,zI (s0:Int))::((u.heap.size+2),zI j)::((u.heap.size+1),zC o 28)::(u.heap.size,zC tb 27)::rows) i V F V' K v->u.heap.size+2<v.heap.size/\ks<v.heap.size/\Bl v ks #[.int .i64 (s0:Int)] 3):=fun v ks hv=>⟨hv.lt (x:=((u.heap.size+2),zI j)) (by simp),hv.lt (x:=(ks,zI (s0:Int))) (by simp),hv.row (x:=(ks,zI (s0:Int))) (by simp)⟩
 have KQ:Hid (∀ v xg,Calls Tryz.prog 145 #[.pointer (some ⟨xg,0,none⟩),.int .i64 (s0:Int)] v fun r u'=>r=.returned (.pointer (some ⟨xg,pof s0,none⟩))/\v=u'):=fun v xg=>kQ xg s0 v hs
 have hpo:=(agA hs).1
 have HPO:Hid (∀ v xg,Bl v xg (Ic X) 65->v.cell? ⟨xg,pof s0,none⟩=some (.int .i64 (X (pof s0)))):=fun v xg hv=>hv.cell _ _ (ajx X hpo)
 clear h ht h0 p1 p2 p3 hfit hb hi hX hs HS HV  hlt0 hwu hpo hwf hfg hfu
 generalize (s0:Int)=si at *
 generalize hps:pof s0=px at *
 clear hps
 generalize X px=xv at *
 go_enter Tryz.func97,Tryz.ntmps97
 go_upto_region 1 with fail
 change Code.wp _ _ _ _ (((u.alloc (zC tb 27)).alloc (zC o 28)).alloc (zI j))
 generalize (((u.alloc (zC tb 27)).alloc (zC o 28)).alloc (zI j))=w0 at *
 generalize u.heap.size=m at *
 obtain⟨tc,d0,d1,d2,hms⟩:=ah HT _ _ _ _ (ah L0)
 obtain⟨f0,f1,f2,f3,f4,f5,f6,f7,f8,f9,f10,f11⟩:=fU tc
 have K1:=hide (ah KS w0 (ah L0))
 have HMS:=hide hms
 clear KS L0 tc hms
 go_wp2_with fail
 go_at_call 144
 refine(ah K1).mono ?_
 rintro e w1 ⟨ks,rfl,Y1⟩
 obtain⟨hks,L1⟩:=ah Y1
 have HKL:=hide (Nat.lt_of_lt_of_le (ah HMS) hks)
 have K2:=hide (ah KG w1 ks L1)
 obtain⟨_,d0',d1',d2',_⟩:=ah HT w1 _ _ _ ((L1.sub iU).pop)
 clear K1 Y1 KG hks L1 HMS HT d0 d1 d2 f0 f1 f2 f3 f4 f5 f6 f7 f8 f9 f10 f11
 go_wp2_with fail
 go_at_call 54
 refine(ah K2).mono ?_
 rintro e w2 ⟨rfl,L2⟩
 obtain⟨_,hk2,bs⟩:=ah HKS w2 ks (ah L2)
 have L3:=hide (ah HX w2 ks (ah L2) ⟨ah HKL,hk2,bs⟩)
 have HK2:=hide hk2
 have bx:=Bl.new w2 (Ic X) 65
 have bs3:=bs.alloc (.cells (Ic X) 65)
 clear K2 HKS HX L2 d0' d1' d2' hk2 bs
 go_upto_region 7 with fail
 change Code.wp _ _ _ _ (w2.alloc (.cells (Ic X) 65))
 have hz:(w2.alloc (.cells (Ic X) 65)).heap.size=w2.heap.size+1:=size_alloc _ _
 generalize w2.alloc (.cells (Ic X) 65)=w3 at *
 generalize w2.heap.size=xg at *
 have i0:=bs3.cell 0 _ rfl
 have HBX:=hide bx
 have HZ:=hide hz
 clear bs3 bx hz
 go_wp2_with fail
 go_at_call 145
 refine(ah KQ w3 xg).mono ?_
 rintro e w4 ⟨rfl,rfl⟩
 have px1:=ah HPO _ _ ((ah HBX).alloc (.cells #[.pointer (some ⟨xg,px,none⟩)] 217))
 have fc1:=aW (Bl.new w3 #[.pointer (some ⟨xg,px,none⟩)] 217)
 have K4:=hide (ah KV _ ks xg (xg+1) (ah HKL) (ah HK2) (by omega) (ah L3))
 rw[ah HZ] at fc1
 clear KQ HPO HBX KV L3 i0
 go_upto_region 10 with fail
 change Code.wp _ _ _ _ (w3.alloc (.cells #[.pointer (some ⟨xg,px,none⟩)] 217))
 generalize w3.alloc (.cells #[.pointer (some ⟨xg,px,none⟩)] 217)=w5 at *
 simp only[ah HZ]
 clear HZ
 go_wp2_with fail
 go_at_call 179
 refine(ah K4).mono ?_
 rintro e w6 ⟨rfl,Z1⟩
 obtain⟨t0,t1,bk1⟩:=ah HC1 w6 ks xg (xg+1) (ah Z1)
 have i0:=bk1.cell 0 _ rfl
 clear K4 px1 fc1 HC1 bk1
 go_wp2_with fail
 refine wp_loop_rounds 1 ?_
 rw[rounds_succ]
 go_wp2_with fail
 go_ret2
 exact⟨rfl,hide (ah HO _ _ _ _ (ah Z1))⟩
def al7 (w:World) (P:Nat->Int) (G:Geo) (g o i:Nat) (V:Nat->List Int) (F K:Nat->Bool) (yN:List (Nat×Obj)) (tb:Nat) (j ix:Int) (E:Nat->Bool) (V':Nat->List Int) (b e:Int) (q:Bool) (E1:Nat->Bool) (V1:Nat->List Int):Prop :=
 ∀ v fg tg og rows,(∀ y∈yN,y∈rows)->(tg,zC tb 27)∈rows->(og,zC o 28)∈rows->w.heap.size<=fg->(∀ y∈rows,y.1≠fg)->Lp w P G E g o ((fg,zB false)::rows) i V F V' K v->Calls Tryz.prog 97 #[.pointer (some ⟨tb,0,none⟩),.pointer (some ⟨o,0,none⟩),.int .i64 j,.int .i64 ix,.func (.func 179) #[] #[.pointer (some ⟨fg,0,none⟩),.pointer (some ⟨tg,0,none⟩),.pointer (some ⟨og,0,none⟩)]] v fun r u'=>r=.returned (.tuple #[.int .i64 b,.int .i64 e])/\Hid (Lp w P G E1 g o ((fg,zB q)::rows) i V F V1 K u')
theorem aeT {w P G E g o rows i V F V' K u}(h:Lp w P G E g o rows i V F V' K u){tb:Nat}{j ix b e:Int}{q:Bool}{E1:Nat->Bool}{V1:Nat->List Int}(h0:1<w.heap.size)(he:e=0)(HF:al7 w P G g o i V F K rows tb j ix E V' b e q E1 V1) :
  Calls Tryz.prog 142 #[.pointer (some ⟨tb,0,none⟩),.pointer (some ⟨o,0,none⟩),.int .i64 j,.int .i64 ix] u fun r u'=>r=.returned (.tuple #[.int .i64 b,.bool q,.int .i64 0])/\Hid (Lp w P G E1 g o rows i V F V1 K u'):=by
 have hwu:w.heap.size<=u.heap.size:=h.bel.size
 have hlt:∀ y∈rows,y.1<u.heap.size:=fun y hy=>h.lt hy
 have L0:Hid (Lp w P G E g o ((u.heap.size+2,zB false)::((u.heap.size+1),zC o 28)::(u.heap.size,zC tb 27)::rows) i V F V' K (((u.alloc (zC tb 27)).alloc (zC o 28)).alloc (zB false))):=h.aks _ _ _
 have c0:=aW ((ah L0).row (x:=(u.heap.size,zC tb 27)) (by simp))
 have c1:=aW ((ah L0).row (x:=((u.heap.size+1),zC o 28)) (by simp))
 have KF:Hid (∀ v,Lp w P G E g o ((u.heap.size+2,zB false)::((u.heap.size+1),zC o 28)::(u.heap.size,zC tb 27)::rows) i V F V' K v->Calls Tryz.prog 97 #[.pointer (some ⟨tb,0,none⟩),.pointer (some ⟨o,0,none⟩),.int .i64 j,.int .i64 ix,.func (.func 179) #[] #[.pointer (some ⟨u.heap.size+2,0,none⟩),.pointer (some ⟨u.heap.size,0,none⟩),.pointer (some ⟨u.heap.size+1,0,none⟩)]] v fun r u'=>r=.returned (.tuple #[.int .i64 b,.int .i64 e])/\Hid (Lp w P G E1 g o ((u.heap.size+2,zB q)::((u.heap.size+1),zC o 28)::(u.heap.size,zC tb 27)::rows) i V F V1 K u')):=fun v hv=>by
  refine HF v (u.heap.size+2) u.heap.size (u.heap.size+1) _ (fun y hy=>by simp[hy]) (by simp) (by simp) (by omega) (fun y hy=>?_) hv
  simp only[List.mem_cons] at hy
  rcases hy with rfl | rfl | hy
  ·show u.heap.size+1≠u.heap.size+2;omega
  ·show u.heap.size≠u.heap.size+2;omega
  ·have:=hlt y hy;omega
 have HO:Hid (∀ v,Lp w P G E1 g o ((u.heap.size+2,zB q)::((u.heap.size+1),zC o 28)::(u.heap.size,zC tb 27)::rows) i V F V1 K v->Bl v (u.heap.size+2) #[.bool q] 4/\Lp w P G E1 g o ((u.heap.size+2,zB q)::((u.heap.size+1),zC o 28)::(u.heap.size,zC tb 27)::rows) i V F V1 K (v.setCell ⟨u.heap.size+2,0,none⟩ (.bool q))/\Bl (v.setCell ⟨u.heap.size+2,0,none⟩ (.bool q)) (u.heap.size+2) #[.bool q] 4):=fun v hv=>by
  have hB:Bl v (u.heap.size+2) #[.bool q] 4:=hv.row (x:=(u.heap.size+2,zB q)) (by simp)
  have h2:=hv.swap (by omega) h0 (fun y hy=>by
   simp only[List.mem_cons] at hy
   rcases hy with rfl | rfl | hy
   ·show u.heap.size+1≠u.heap.size+2;omega
   ·show u.heap.size≠u.heap.size+2;omega
   ·have:=hlt y hy;omega) (u':=v.setCell ⟨u.heap.size+2,0,none⟩ (.bool q)) (fun q hq=>Below.heap_setCell _ _ _ _ hq) ((Below.refl _ _).setCell (p:=⟨u.heap.size+2,0,none⟩) (by show w.heap.size<=u.heap.size+2;omega) _) (hB.set 0 (.bool q))
  exact⟨hB,h2,hB.set 0 (.bool q)⟩
 subst he
 clear h h0 hwu hlt HF 
 go_enter Tryz.func142,Tryz.ntmps142
 go_upto_region 1 with fail
 change Code.wp _ _ _ _ (((u.alloc (zC tb 27)).alloc (zC o 28)).alloc (zB false))
 generalize (((u.alloc (zC tb 27)).alloc (zC o 28)).alloc (zB false))=w0 at *
 generalize u.heap.size=m at *
 have K1:=hide (ah KF w0 (ah L0))
 clear KF L0
 go_wp2_with fail
 go_at_call 97
 refine(ah K1).mono ?_
 rintro r w1 ⟨rfl,Z⟩
 obtain⟨hB,L2,hB2⟩:=ah HO w1 (ah Z)
 have g0:=hB.cell 0 _ rfl
 have g1:=hB.free 0
 have ZL:=hide L2
 have ZB:=hide hB2
 clear K1 HO Z hB L2 hB2 c0 c1
 go_upto_region 4 with fail
 go_region
 have hW:Lp w P G E1 g o ((m+2,zB q)::((m+1),zC o 28)::(m,zC tb 27)::rows) i V F V1 K (w1.setCell ⟨m+2,0,none⟩ (.bool q)).drew:=(ah ZL).later (Below.refl _ _).drew
 have hA:Bl (w1.setCell ⟨m+2,0,none⟩ (.bool q)).drew (m+2) #[.bool q] 4:=(ah ZB).drew
 have HW:=hide hW
 clear hW ZL ZB g0 g1
 go_wp2_with fail
 change bodyPost _ _ _ _ _ (w1.setCell ⟨m+2,0,none⟩ (.bool q)).drew
 generalize (w1.setCell ⟨m+2,0,none⟩ (.bool q)).drew=wf at *
 refine bodyPost_ret (v:=.tuple #[.int .i64 b,.bool q,.int .i64 0]) ?_ rfl ⟨rfl,hide (ah HW).pop.pop.pop⟩
 simp[results,Tryz.results142,go_sem,hA.cell 0 _ rfl]
theorem acC {u:World}{tb o:Nat}{j ix b e:Int}{Q:World->Prop}(KF:Hid (Calls Tryz.prog 97 #[.pointer (some ⟨tb,0,none⟩),.pointer (some ⟨o,0,none⟩),.int .i64 j,.int .i64 ix,.func (.func 98) #[] #[]] u fun r u'=>r=.returned (.tuple #[.int .i64 b,.int .i64 e])/\Hid (Q u'))) :
  Calls Tryz.prog 61 #[.pointer (some ⟨tb,0,none⟩),.pointer (some ⟨o,0,none⟩),.int .i64 j,.int .i64 ix] u fun r u'=>r=.returned (.tuple #[.int .i64 b,.int .i64 e])/\Hid (Q u'):=by
 go_enter Tryz.func61,Tryz.ntmps61
 go_wp2_with fail
 go_at_call 97
 refine(ah KF).mono ?_
 rintro r w1 ⟨rfl,Z⟩
 clear KF
 go_wp2_with fail
 go_ret2
 exact⟨rfl,Z⟩
end Go.Proofs.YtefdkpbmeoakgaaGreatDoor
