/- Joined: IFolA, IEnt, IFolF1, IFolF2, IFolF3, IFolM1, IFolM2, IFolM3, IMakeT, IErr, IStopF, IStopM. -/
import Derived.Test.YtbofhdfhhbgdgaaGreatDoorIaJ40
import Derived.LoopN
import Derived.Test.YtbofhdfhhbgdgaaGreatDoorIaJ10
/- What follow asks of a visit, and of enter. -/
namespace Go.Proofs.YtbofhdfhhbgdgaaGreatDoor
set_option maxRecDepth 100000
set_option maxHeartbeats 8000000
open Go.RowKit Go.Shelf Go.Maps
set_option linter.unusedVariables false
def aeG (w:World) (P:Nat->Int) (G:Geo) (g o i:Nat) (V:Nat->List Int) (F K:Nat->Bool) (aC:List (Nat×Obj)) (fg tg og:Nat) (tb:Nat) (j:Int) (kx:Nat) (la:Bool) (X:Nat->Int) (q1:Bool) (E:Nat->Bool) (V':Nat->List Int) (b e:Int) (X1:Nat->Int) (q2:Bool) (E1:Nat->Bool) (V1:Nat->List Int):Prop :=
 ∀ v xg fc m0 m1 m2 rows,(fc,.cells #[.pointer (some ⟨xg,kx,none⟩)] 179)∈rows->(m0,zC tb 29)∈rows->(m1,zC o 32)∈rows->(m2,zI j)∈rows->w.heap.size<=xg->(∀ y∈rows,y.1≠xg)->fg≠xg->(∀ y∈(xg,.cells (Ic X) 50)::rows,y.1≠fg)->(∀ y∈aC,y∈rows)->Lp w P G E g o ((fg,zB q1)::(xg,.cells (Ic X) 50)::rows) i V F V' K v->Calls Tryz.prog 45 #[.agg #[.int .i64 (X kx),.bool la,.func (.func 104) #[] #[.pointer (some ⟨fc,0,none⟩),.pointer (some ⟨m0,0,none⟩),.pointer (some ⟨m1,0,none⟩),.pointer (some ⟨m2,0,none⟩),.pointer (some ⟨xg,0,none⟩)]],.pointer (some ⟨fg,0,none⟩),.pointer (some ⟨tg,0,none⟩),.pointer (some ⟨og,0,none⟩)] v fun r u'=>r=.returned (.tuple #[.int .i64 b,.int .i64 e])/\Hid (Lp w P G E1 g o ((fg,zB q2)::(xg,.cells (Ic X1) 50)::rows) i V F V1 K u')
def aeP (w:World) (P:Nat->Int) (G:Geo) (g o i:Nat) (V:Nat->List Int) (F K:Nat->Bool) (aC:List (Nat×Obj)) (fg tg og:Nat) (tb:Nat) (b0 s:Int) (la:Bool) (q1:Bool) (E:Nat->Bool) (V':Nat->List Int) (b e:Int) (q2:Bool) (E1:Nat->Bool) (V1:Nat->List Int):Prop :=
 ∀ v rows,(∀ y∈aC,y∈rows)->(∀ y∈rows,y.1≠fg)->Lp w P G E g o ((fg,zB q1)::rows) i V F V' K v->Calls Tryz.prog 105 #[.pointer (some ⟨tb,0,none⟩),.pointer (some ⟨o,0,none⟩),.int .i64 b0,.int .i64 s,.bool la,.func (.func 45) #[] #[.pointer (some ⟨fg,0,none⟩),.pointer (some ⟨tg,0,none⟩),.pointer (some ⟨og,0,none⟩)]] v fun r u'=>r=.returned (.tuple #[.int .i64 b,.int .i64 e])/\Hid (Lp w P G E1 g o ((fg,zB q2)::rows) i V F V1 K u')
def aiE (w:World) (P:Nat->Int) (G:Geo) (g o i:Nat) (V:Nat->List Int) (F K:Nat->Bool) (aC:List (Nat×Obj)) (tb:Nat) (j:Int) (kx:Nat) (la:Bool) (X:Nat->Int) (E:Nat->Bool) (V':Nat->List Int) (b e:Int) (X1:Nat->Int) (E1:Nat->Bool) (V1:Nat->List Int):Prop :=
 ∀ v xg fc m0 m1 m2 rows,(fc,.cells #[.pointer (some ⟨xg,kx,none⟩)] 179)∈rows->(m0,zC tb 29)∈rows->(m1,zC o 32)∈rows->(m2,zI j)∈rows->w.heap.size<=xg->(∀ y∈rows,y.1≠xg)->(∀ y∈aC,y∈rows)->Lp w P G E g o ((xg,.cells (Ic X) 50)::rows) i V F V' K v->Calls Tryz.prog 44 #[.agg #[.int .i64 (X kx),.bool la,.func (.func 104) #[] #[.pointer (some ⟨fc,0,none⟩),.pointer (some ⟨m0,0,none⟩),.pointer (some ⟨m1,0,none⟩),.pointer (some ⟨m2,0,none⟩),.pointer (some ⟨xg,0,none⟩)]]] v fun r u'=>r=.returned (.tuple #[.int .i64 b,.int .i64 e])/\Hid (Lp w P G E1 g o ((xg,.cells (Ic X1) 50)::rows) i V F V1 K u')
def aiG (w:World) (P:Nat->Int) (G:Geo) (g o i:Nat) (V:Nat->List Int) (F K:Nat->Bool) (aC:List (Nat×Obj)) (tb:Nat) (b0 s:Int) (la:Bool) (E:Nat->Bool) (V':Nat->List Int) (b e:Int) (E1:Nat->Bool) (V1:Nat->List Int):Prop :=
 ∀ v rows,(∀ y∈aC,y∈rows)->Lp w P G E g o (rows) i V F V' K v->Calls Tryz.prog 105 #[.pointer (some ⟨tb,0,none⟩),.pointer (some ⟨o,0,none⟩),.int .i64 b0,.int .i64 s,.bool la,.func (.func 44) #[] #[]] v fun r u'=>r=.returned (.tuple #[.int .i64 b,.int .i64 e])/\Hid (Lp w P G E1 g o (rows) i V F V1 K u')
theorem fO {s:Nat}(hs:s<=9):pof s<13/\3<=pof s:=by
 unfold pof
 split
 ·omega
 ·split<;>omega
theorem mF (X:Nat->Int){k:Nat}(hk:k<13):(Ic X)[k]?=some (.int .i64 (X k)):=by
 have:k=0\/k=1\/k=2\/k=3\/k=4\/k=5\/k=6\/k=7\/k=8\/k=9\/k=10\/k=11\/k=12:=by omega
 rcases this with rfl | rfl | rfl | rfl | rfl | rfl | rfl | rfl | rfl | rfl | rfl | rfl | rfl<;>rfl
theorem kX {w:World}{P:Nat->Int}{G:Geo}{g o i:Nat}{V:Nat->List Int}{F K:Nat->Bool}{aC:List (Nat×Obj)}{fg tg og:Nat}{tb a bn sn:Nat}{la:Bool}{q1 q2:Bool}{E E1:Nat->Bool}{V' V1:Nat->List Int}{b e:Int}(ht:(tb,tbO a P)∈aC)(hwf:w.heap.size<=fg)(hb:E bn=true)(hs:2*sn+2<=G.blk)(KV:∀ v m rows,(∀ y∈aC,y∈rows)->(∀ y∈((m+3),zI (sn:Int))::((m+2),zI (bn:Int))::((m+1),zC o 32)::(m,zC tb 29)::rows,y.1≠fg)->Lp w P G E g o ((fg,zB q1)::((m+3),zI (sn:Int))::((m+2),zI (bn:Int))::((m+1),zC o 32)::(m,zC tb 29)::rows) i V F V' K v->Calls Tryz.prog 45 #[.agg #[.int .i64 (ak (V' bn) ((sn:Int)*2) 2),.bool la,.func (.func 170) #[] #[.pointer (some ⟨m,0,none⟩),.pointer (some ⟨m+1,0,none⟩),.pointer (some ⟨m+2,0,none⟩),.pointer (some ⟨m+3,0,none⟩)]],.pointer (some ⟨fg,0,none⟩),.pointer (some ⟨tg,0,none⟩),.pointer (some ⟨og,0,none⟩)] v fun r u'=>r=.returned (.tuple #[.int .i64 b,.int .i64 e])/\Hid (Lp w P G E1 g o ((fg,zB q2)::((m+3),zI (sn:Int))::((m+2),zI (bn:Int))::((m+1),zC o 32)::(m,zC tb 29)::rows) i V F V1 K u')) :
  aeP w P G g o i V F K aC fg tg og tb (bn:Int) (sn:Int) la q1 E V' b e q2 E1 V1:=by
 intro u rows hsub hfg h
 have hbk:=h.ok.ok.blk
 have hvb:=h.vb hb
 have hfu:fg<u.heap.size:=h.lt (x:=(fg,zB q1)) (by simp)
 have L0:Hid (Lp w P G E g o ((fg,zB q1)::((u.heap.size+3),zI (sn:Int))::((u.heap.size+2),zI (bn:Int))::((u.heap.size+1),zC o 32)::(u.heap.size,zC tb 29)::rows) i V F V' K ((((u.alloc (zC tb 29)).alloc (zC o 32)).alloc (zI (bn:Int))).alloc (zI (sn:Int)))):=(h.akH _ _ _ _).sub (fun x hx=>by
  simp only[List.mem_cons] at hx ⊢
  rcases hx with h | h | h | h | h | h<;>simp[h])
 have KR:Hid (∀ v,Lp w P G E g o ((fg,zB q1)::((u.heap.size+3),zI (sn:Int))::((u.heap.size+2),zI (bn:Int))::((u.heap.size+1),zC o 32)::(u.heap.size,zC tb 29)::rows) i V F V' K v->Calls Tryz.prog 57 #[.pointer (some ⟨tb,0,none⟩),.pointer (some ⟨o,0,none⟩),.int .i64 (bn:Int)] v fun e u1=>∃ k c,e=.returned (.tuple #[.slice (some ⟨k,0,none⟩) G.blk c,.int .i64 0])/\Hid (Calls Tryz.prog 109 #[.slice (some ⟨k,0,none⟩) G.blk c,.int .i64 (sn:Int)] u1 fun r u2=>r=.returned (.int .i64 (ak (V' bn) ((sn:Int)*2) 2))/\Hid (Lp w P G E g o ((fg,zB q1)::((u.heap.size+3),zI (sn:Int))::((u.heap.size+2),zI (bn:Int))::((u.heap.size+1),zC o 32)::(u.heap.size,zC tb 29)::rows) i V F V' K u2))/\u1.cell? ⟨u.heap.size+3,0,none⟩=some (.int .i64 (sn:Int))):=fun v hv=>by
  refine(jy (a:=a) hv (by simp[hsub _ ht]) hb).mono ?_
  rintro e u1 ⟨k,c,rfl,Y⟩
  obtain⟨ob,hd,_,hl⟩:=ah Y
  refine⟨k,c,rfl,?_,aj (hl.row (x:=((u.heap.size+3),zI (sn:Int))) (by simp))⟩
  refine(jA _ _ _ _ (sn:Int) u1 (hd.row (hl.row (x:=(k,ob)) (by simp)) (by omega) hvb.2) (by omega)).mono ?_
  rintro r u2 ⟨rfl,b1⟩
  exact⟨rfl,(hl.later b1).pop⟩
 have KV2:Hid (∀ v,Lp w P G E g o ((fg,zB q1)::((u.heap.size+3),zI (sn:Int))::((u.heap.size+2),zI (bn:Int))::((u.heap.size+1),zC o 32)::(u.heap.size,zC tb 29)::rows) i V F V' K v->Calls Tryz.prog 45 #[.agg #[.int .i64 (ak (V' bn) ((sn:Int)*2) 2),.bool la,.func (.func 170) #[] #[.pointer (some ⟨u.heap.size,0,none⟩),.pointer (some ⟨u.heap.size+1,0,none⟩),.pointer (some ⟨u.heap.size+2,0,none⟩),.pointer (some ⟨u.heap.size+3,0,none⟩)]],.pointer (some ⟨fg,0,none⟩),.pointer (some ⟨tg,0,none⟩),.pointer (some ⟨og,0,none⟩)] v fun r u'=>r=.returned (.tuple #[.int .i64 b,.int .i64 e])/\Hid (Lp w P G E1 g o ((fg,zB q2)::rows) i V F V1 K u')):=fun v hv=>by
  refine(KV v u.heap.size rows hsub (fun y hy=>?_) hv).mono ?_
  ·simp only[List.mem_cons] at hy
   rcases hy with rfl | rfl | rfl | rfl | hy
   ·show u.heap.size+3≠fg;omega
   ·show u.heap.size+2≠fg;omega
   ·show u.heap.size+1≠fg;omega
   ·show u.heap.size≠fg;omega
   ·exact hfg y hy
  ·rintro r u' ⟨rfl,Z⟩
   exact⟨rfl,(ah Z).sub (fun x hx=>by
    simp only[List.mem_cons] at hx ⊢
    rcases hx with h | h<;>simp[h])⟩
 have c0:=aj ((ah L0).row (x:=(u.heap.size,zC tb 29)) (by simp))
 have c1:=aj ((ah L0).row (x:=((u.heap.size+1),zC o 32)) (by simp))
 have c2:=aj ((ah L0).row (x:=((u.heap.size+2),zI (bn:Int))) (by simp))
 clear h ht hb hs hbk hvb KV hsub hwf hfg hfu
 generalize ak (V' bn) ((sn:Int)*2) 2=pv at *
 generalize (bn:Int)=bi at *
 generalize (sn:Int)=si at *
 go_enter Tryz.func105,Tryz.ntmps105
 go_upto_region 1 with fail
 change Code.wp _ _ _ _ ((((u.alloc (zC tb 29)).alloc (zC o 32)).alloc (zI bi)).alloc (zI si))
 generalize ((((u.alloc (zC tb 29)).alloc (zC o 32)).alloc (zI bi)).alloc (zI si))=w0 at *
 generalize u.heap.size=m at *
 have K1:=hide (ah KR w0 (ah L0))
 clear KR L0
 go_wp2_with fail
 go_at_call 57
 refine(ah K1).mono ?_
 rintro e w1 ⟨k,c,rfl,Y⟩
 obtain⟨K2,c3⟩:=ah Y
 clear K1 Y c0 c1 c2
 go_wp2_with fail
 go_at_call 109
 refine(ah K2).mono ?_
 rintro e w2 ⟨rfl,L2⟩
 have K3:=hide (ah KV2 w2 (ah L2))
 clear K2 KV2 L2 c3
 go_wp2_with fail
 go_at_call 45
 refine(ah K3).mono ?_
 rintro e w3 ⟨rfl,Z⟩
 clear K3
 go_wp2_with fail
 go_ret2
 exact⟨rfl,Z⟩
theorem aeg {w:World}{P:Nat->Int}{G:Geo}{g o i:Nat}{V:Nat->List Int}{F K:Nat->Bool}{aC:List (Nat×Obj)}{tb a bn sn:Nat}{la:Bool}{E E1:Nat->Bool}{V' V1:Nat->List Int}{b e:Int}(ht:(tb,tbO a P)∈aC)(hb:E bn=true)(hs:2*sn+2<=G.blk)(KV:∀ v m rows,(∀ y∈aC,y∈rows)->Lp w P G E g o (((m+3),zI (sn:Int))::((m+2),zI (bn:Int))::((m+1),zC o 32)::(m,zC tb 29)::rows) i V F V' K v->Calls Tryz.prog 44 #[.agg #[.int .i64 (ak (V' bn) ((sn:Int)*2) 2),.bool la,.func (.func 170) #[] #[.pointer (some ⟨m,0,none⟩),.pointer (some ⟨m+1,0,none⟩),.pointer (some ⟨m+2,0,none⟩),.pointer (some ⟨m+3,0,none⟩)]]] v fun r u'=>r=.returned (.tuple #[.int .i64 b,.int .i64 e])/\Hid (Lp w P G E1 g o (((m+3),zI (sn:Int))::((m+2),zI (bn:Int))::((m+1),zC o 32)::(m,zC tb 29)::rows) i V F V1 K u')) :
  aiG w P G g o i V F K aC tb (bn:Int) (sn:Int) la E V' b e E1 V1:=by
 intro u rows hsub h
 have hbk:=h.ok.ok.blk
 have hvb:=h.vb hb
 have L0:Hid (Lp w P G E g o (((u.heap.size+3),zI (sn:Int))::((u.heap.size+2),zI (bn:Int))::((u.heap.size+1),zC o 32)::(u.heap.size,zC tb 29)::rows) i V F V' K ((((u.alloc (zC tb 29)).alloc (zC o 32)).alloc (zI (bn:Int))).alloc (zI (sn:Int)))):=h.akH _ _ _ _
 have KR:Hid (∀ v,Lp w P G E g o (((u.heap.size+3),zI (sn:Int))::((u.heap.size+2),zI (bn:Int))::((u.heap.size+1),zC o 32)::(u.heap.size,zC tb 29)::rows) i V F V' K v->Calls Tryz.prog 57 #[.pointer (some ⟨tb,0,none⟩),.pointer (some ⟨o,0,none⟩),.int .i64 (bn:Int)] v fun e u1=>∃ k c,e=.returned (.tuple #[.slice (some ⟨k,0,none⟩) G.blk c,.int .i64 0])/\Hid (Calls Tryz.prog 109 #[.slice (some ⟨k,0,none⟩) G.blk c,.int .i64 (sn:Int)] u1 fun r u2=>r=.returned (.int .i64 (ak (V' bn) ((sn:Int)*2) 2))/\Hid (Lp w P G E g o (((u.heap.size+3),zI (sn:Int))::((u.heap.size+2),zI (bn:Int))::((u.heap.size+1),zC o 32)::(u.heap.size,zC tb 29)::rows) i V F V' K u2))/\u1.cell? ⟨u.heap.size+3,0,none⟩=some (.int .i64 (sn:Int))):=fun v hv=>by
  refine(jy (a:=a) hv (by simp[hsub _ ht]) hb).mono ?_
  rintro e u1 ⟨k,c,rfl,Y⟩
  obtain⟨ob,hd,_,hl⟩:=ah Y
  refine⟨k,c,rfl,?_,aj (hl.row (x:=((u.heap.size+3),zI (sn:Int))) (by simp))⟩
  refine(jA _ _ _ _ (sn:Int) u1 (hd.row (hl.row (x:=(k,ob)) (by simp)) (by omega) hvb.2) (by omega)).mono ?_
  rintro r u2 ⟨rfl,b1⟩
  exact⟨rfl,(hl.later b1).pop⟩
 have KV2:Hid (∀ v,Lp w P G E g o (((u.heap.size+3),zI (sn:Int))::((u.heap.size+2),zI (bn:Int))::((u.heap.size+1),zC o 32)::(u.heap.size,zC tb 29)::rows) i V F V' K v->Calls Tryz.prog 44 #[.agg #[.int .i64 (ak (V' bn) ((sn:Int)*2) 2),.bool la,.func (.func 170) #[] #[.pointer (some ⟨u.heap.size,0,none⟩),.pointer (some ⟨u.heap.size+1,0,none⟩),.pointer (some ⟨u.heap.size+2,0,none⟩),.pointer (some ⟨u.heap.size+3,0,none⟩)]]] v fun r u'=>r=.returned (.tuple #[.int .i64 b,.int .i64 e])/\Hid (Lp w P G E1 g o (rows) i V F V1 K u')):=fun v hv=>by
  refine(KV v u.heap.size rows hsub hv).mono ?_
  rintro r u' ⟨rfl,Z⟩
  exact⟨rfl,(ah Z).sub (fun x hx=>by simp[hx])⟩
 have c0:=aj ((ah L0).row (x:=(u.heap.size,zC tb 29)) (by simp))
 have c1:=aj ((ah L0).row (x:=((u.heap.size+1),zC o 32)) (by simp))
 have c2:=aj ((ah L0).row (x:=((u.heap.size+2),zI (bn:Int))) (by simp))
 clear h ht hb hs hbk hvb KV hsub 
 generalize ak (V' bn) ((sn:Int)*2) 2=pv at *
 generalize (bn:Int)=bi at *
 generalize (sn:Int)=si at *
 go_enter Tryz.func105,Tryz.ntmps105
 go_upto_region 1 with fail
 change Code.wp _ _ _ _ ((((u.alloc (zC tb 29)).alloc (zC o 32)).alloc (zI bi)).alloc (zI si))
 generalize ((((u.alloc (zC tb 29)).alloc (zC o 32)).alloc (zI bi)).alloc (zI si))=w0 at *
 generalize u.heap.size=m at *
 have K1:=hide (ah KR w0 (ah L0))
 clear KR L0
 go_wp2_with fail
 go_at_call 57
 refine(ah K1).mono ?_
 rintro e w1 ⟨k,c,rfl,Y⟩
 obtain⟨K2,c3⟩:=ah Y
 clear K1 Y c0 c1 c2
 go_wp2_with fail
 go_at_call 109
 refine(ah K2).mono ?_
 rintro e w2 ⟨rfl,L2⟩
 have K3:=hide (ah KV2 w2 (ah L2))
 clear K2 KV2 L2 c3
 go_wp2_with fail
 go_at_call 44
 refine(ah K3).mono ?_
 rintro e w3 ⟨rfl,Z⟩
 clear K3
 go_wp2_with fail
 go_ret2
 exact⟨rfl,Z⟩
theorem agw {w:World}{P:Nat->Int}{G:Geo}{g o i:Nat}{V:Nat->List Int}{F K:Nat->Bool}{aC:List (Nat×Obj)}{fg tg og tb a:Nat}{q1:Bool}{E:Nat->Bool}{V':Nat->List Int}{bn sn:Nat}{la:Bool}(ht:(tb,tbO a P)∈aC)(ha:(a,alO g P)∈aC)(rt:(tg,zC tb 29)∈aC)(ro:(og,zC o 32)∈aC)(hwf:w.heap.size<=fg)(h0:0<w.heap.size)(hb:E bn=true)(hs:2*sn+2<=G.blk)(hp:ak (V' bn) ((sn:Int)*2) 2≠0) :
  aeP w P G g o i V F K aC fg tg og tb (bn:Int) (sn:Int) la q1 E V' (ak (V' bn) ((sn:Int)*2) 2) 0 false E V':=by
 refine kX ht hwf hb hs ?_
 intro v m rows hsub hfg hv
 exact vM (a:=a) (tb:=tb) (b:=bn) (s:=sn) hv _ la hp hwf h0 hfg
theorem aeV {w:World}{P:Nat->Int}{G:Geo}{g o i:Nat}{V:Nat->List Int}{F K:Nat->Bool}{aC:List (Nat×Obj)}{fg tg og tb a:Nat}{q1:Bool}{E:Nat->Bool}{V':Nat->List Int}{bk at0 kx:Nat}{X:Nat->Int}{j:Int}{la:Bool}(ht:(tb,tbO a P)∈aC)(ha:(a,alO g P)∈aC)(rt:(tg,zC tb 29)∈aC)(ro:(og,zC o 32)∈aC)(hwf:w.heap.size<=fg)(h0:0<w.heap.size)(e1:gU P j=0)(e2:jE P j=(bk:Int))(e3:jF P j=(at0:Int))(hfit:at0+32<=G.blk)(hb:E bk=true)(hk:kx<13)(hp:X kx≠0) :
  aeG w P G g o i V F K aC fg tg og tb j kx la X q1 E V' (X kx) 0 X false E V':=by
 intro v xg fc m0 m1 m2 rows rf r0 r1 r2 hx hne hfx hfg hsub hv
 exact vK (a:=a) (tb:=tb) (bk:=bk) (at0:=at0) (kx:=kx) (j:=j) hv _ la hp hwf h0 hfg
theorem aef {w:World}{P:Nat->Int}{G:Geo}{g o i:Nat}{V:Nat->List Int}{F K:Nat->Bool}{aC:List (Nat×Obj)}{fg tg og tb a:Nat}{q1:Bool}{E:Nat->Bool}{V':Nat->List Int}{bn sn:Nat}{la:Bool}(ht:(tb,tbO a P)∈aC)(ha:(a,alO g P)∈aC)(rt:(tg,zC tb 29)∈aC)(ro:(og,zC o 32)∈aC)(hwf:w.heap.size<=fg)(h0:0<w.heap.size)(hb:E bn=true)(hs:2*sn+2<=G.blk){bb da ni:Nat}(hA:Ab P G E bb da ni)(hp:ak (V' bn) ((sn:Int)*2) 2=0)(hn:fG (V' bb) K da G.n=G.n) :
  aeP w P G g o i V F K aC fg tg og tb (bn:Int) (sn:Int) la q1 E V' 0 10 true E V':=by
 refine kX ht hwf hb hs ?_
 intro v m rows hsub hfg hv
 rw[hp]
 exact sQ (a:=a) (tb:=tb) (b:=bn) (s:=sn) hv hA (List.mem_cons_of_mem _ (List.mem_cons_of_mem _ (List.mem_cons_of_mem _ (List.mem_cons_of_mem _ (hsub _ ht))))) (List.mem_cons_of_mem _ (List.mem_cons_of_mem _ (List.mem_cons_of_mem _ (List.mem_cons_of_mem _ (hsub _ ha))))) (List.mem_cons_of_mem _ (List.mem_cons_of_mem _ (List.mem_cons_of_mem _ (List.mem_cons_of_mem _ (hsub _ rt))))) (List.mem_cons_of_mem _ (List.mem_cons_of_mem _ (List.mem_cons_of_mem _ (List.mem_cons_of_mem _ (hsub _ ro))))) hwf h0 hfg la hn
theorem acr {w:World}{P:Nat->Int}{G:Geo}{g o i:Nat}{V:Nat->List Int}{F K:Nat->Bool}{aC:List (Nat×Obj)}{fg tg og tb a:Nat}{q1:Bool}{E:Nat->Bool}{V':Nat->List Int}{bk at0 kx:Nat}{X:Nat->Int}{j:Int}{la:Bool}(ht:(tb,tbO a P)∈aC)(ha:(a,alO g P)∈aC)(rt:(tg,zC tb 29)∈aC)(ro:(og,zC o 32)∈aC)(hwf:w.heap.size<=fg)(h0:0<w.heap.size)(e1:gU P j=0)(e2:jE P j=(bk:Int))(e3:jF P j=(at0:Int))(hfit:at0+32<=G.blk)(hb:E bk=true)(hk:kx<13){bb da ni:Nat}(hA:Ab P G E bb da ni)(hp:X kx=0)(hn:fG (V' bb) K da G.n=G.n) :
  aeG w P G g o i V F K aC fg tg og tb j kx la X q1 E V' 0 10 X true E V':=by
 intro v xg fc m0 m1 m2 rows rf r0 r1 r2 hx hne hfx hfg hsub hv
 rw[hp]
 exact sK (a:=a) (tb:=tb) (bk:=bk) (at0:=at0) (kx:=kx) (j:=j) hv hA (hsub _ ht) (hsub _ ha) (hsub _ rt) (hsub _ ro) hwf h0 hfg la hn
theorem aee {w:World}{P:Nat->Int}{G:Geo}{g o i:Nat}{V:Nat->List Int}{F K:Nat->Bool}{aC:List (Nat×Obj)}{fg tg og tb a:Nat}{q1:Bool}{E:Nat->Bool}{V':Nat->List Int}{bn sn:Nat}(ht:(tb,tbO a P)∈aC)(ha:(a,alO g P)∈aC)(rt:(tg,zC tb 29)∈aC)(ro:(og,zC o 32)∈aC)(hwf:w.heap.size<=fg)(h0:0<w.heap.size)(hb:E bn=true)(hs:2*sn+2<=G.blk){bb da ni:Nat}(hA:Ab P G E bb da ni)(hp:ak (V' bn) ((sn:Int)*2) 2=0){nb:Nat}(hn:fG (V' bb) K da G.n=nb)(hlt:nb<G.n) :
  aeP w P G g o i V F K aC fg tg og tb (bn:Int) (sn:Int) true q1 E V' (nb:Int) 0 true E (fun q=>if q=bn then ptZ ((fun j=>if j=bb then setB (V' bb) nb true else V' j) bn) sn (nb:Int) else (fun j=>if j=bb then setB (V' bb) nb true else V' j) q):=by
 refine kX ht hwf hb hs ?_
 intro v m rows hsub hfg hv
 rw[hp]
 exact sO (a:=a) (tb:=tb) (b:=bn) (s:=sn) hv hA (List.mem_cons_of_mem _ (List.mem_cons_of_mem _ (List.mem_cons_of_mem _ (List.mem_cons_of_mem _ (hsub _ ht))))) (List.mem_cons_of_mem _ (List.mem_cons_of_mem _ (List.mem_cons_of_mem _ (List.mem_cons_of_mem _ (hsub _ ha))))) (List.mem_cons_of_mem _ (List.mem_cons_of_mem _ (List.mem_cons_of_mem _ (List.mem_cons_of_mem _ (hsub _ rt))))) (List.mem_cons_of_mem _ (List.mem_cons_of_mem _ (List.mem_cons_of_mem _ (List.mem_cons_of_mem _ (hsub _ ro))))) hwf h0 hfg (by simp) (by simp) (by simp) (by simp) hb hs hn hlt
theorem acp {w:World}{P:Nat->Int}{G:Geo}{g o i:Nat}{V:Nat->List Int}{F K:Nat->Bool}{aC:List (Nat×Obj)}{fg tg og tb a:Nat}{q1:Bool}{E:Nat->Bool}{V':Nat->List Int}{bk at0 kx:Nat}{X:Nat->Int}{j:Int}(ht:(tb,tbO a P)∈aC)(ha:(a,alO g P)∈aC)(rt:(tg,zC tb 29)∈aC)(ro:(og,zC o 32)∈aC)(hwf:w.heap.size<=fg)(h0:0<w.heap.size)(e1:gU P j=0)(e2:jE P j=(bk:Int))(e3:jF P j=(at0:Int))(hfit:at0+32<=G.blk)(hb:E bk=true)(hk:kx<13){bb da ni:Nat}(hA:Ab P G E bb da ni)(hp:X kx=0){nb:Nat}(hn:fG (V' bb) K da G.n=nb)(hlt:nb<G.n)(hi:bP (bU X kx (nb:Int))) :
  aeG w P G g o i V F K aC fg tg og tb j kx true X q1 E V' (nb:Int) 0 (bU X kx (nb:Int)) true E (fun q=>if q=bk then put ((fun j=>if j=bb then setB (V' bb) nb true else V' j) bk) at0 (bW 32 (dG (bU X kx (nb:Int)))) else (fun j=>if j=bb then setB (V' bb) nb true else V' j) q):=by
 intro v xg fc m0 m1 m2 rows rf r0 r1 r2 hx hne hfx hfg hsub hv
 rw[hp]
 exact kE (a:=a) (tb:=tb) hv hA (hsub _ ht) (hsub _ ha) (hsub _ rt) (hsub _ ro) hwf h0 hfg rf r0 r1 r2 hx hne e1 e2 e3 hfit hb hk hfx hn hlt hi
theorem aed {w:World}{P:Nat->Int}{G:Geo}{g o i:Nat}{V:Nat->List Int}{F K:Nat->Bool}{aC:List (Nat×Obj)}{fg tg og tb a:Nat}{q1:Bool}{E:Nat->Bool}{V':Nat->List Int}{bn sn:Nat}(ht:(tb,tbO a P)∈aC)(ha:(a,alO g P)∈aC)(rt:(tg,zC tb 29)∈aC)(ro:(og,zC o 32)∈aC)(hwf:w.heap.size<=fg)(h0:0<w.heap.size)(hb:E bn=true)(hs:2*sn+2<=G.blk){bb da ni:Nat}(hA:Ab P G E bb da ni)(hp:ak (V' bn) ((sn:Int)*2) 2=0){nb:Nat}(hn:fG (V' bb) K da G.n=nb)(hlt:nb<G.n)(hd:da<=nb) :
  aeP w P G g o i V F K aC fg tg og tb (bn:Int) (sn:Int) false q1 E V' (nb:Int) 0 true (fun j=>if j=nb then true else E j) (fun q=>if q=nb then (List.replicate G.blk 0) else (fun q=>if q=bn then ptZ ((fun j=>if j=bb then setB (V' bb) nb true else V' j) bn) sn (nb:Int) else (fun j=>if j=bb then setB (V' bb) nb true else V' j) q) q):=by
 refine kX ht hwf hb hs ?_
 intro v m rows hsub hfg hv
 rw[hp]
 exact sN (a:=a) (tb:=tb) (b:=bn) (s:=sn) hv hA (List.mem_cons_of_mem _ (List.mem_cons_of_mem _ (List.mem_cons_of_mem _ (List.mem_cons_of_mem _ (hsub _ ht))))) (List.mem_cons_of_mem _ (List.mem_cons_of_mem _ (List.mem_cons_of_mem _ (List.mem_cons_of_mem _ (hsub _ ha))))) (List.mem_cons_of_mem _ (List.mem_cons_of_mem _ (List.mem_cons_of_mem _ (List.mem_cons_of_mem _ (hsub _ rt))))) (List.mem_cons_of_mem _ (List.mem_cons_of_mem _ (List.mem_cons_of_mem _ (List.mem_cons_of_mem _ (hsub _ ro))))) hwf h0 hfg (by simp) (by simp) (by simp) (by simp) hb hs hn hlt hd
theorem aco {w:World}{P:Nat->Int}{G:Geo}{g o i:Nat}{V:Nat->List Int}{F K:Nat->Bool}{aC:List (Nat×Obj)}{fg tg og tb a:Nat}{q1:Bool}{E:Nat->Bool}{V':Nat->List Int}{bk at0 kx:Nat}{X:Nat->Int}{j:Int}(ht:(tb,tbO a P)∈aC)(ha:(a,alO g P)∈aC)(rt:(tg,zC tb 29)∈aC)(ro:(og,zC o 32)∈aC)(hwf:w.heap.size<=fg)(h0:0<w.heap.size)(e1:gU P j=0)(e2:jE P j=(bk:Int))(e3:jF P j=(at0:Int))(hfit:at0+32<=G.blk)(hb:E bk=true)(hk:kx<13){bb da ni:Nat}(hA:Ab P G E bb da ni)(hp:X kx=0){nb:Nat}(hn:fG (V' bb) K da G.n=nb)(hlt:nb<G.n)(hd:da<=nb)(hi:bP (bU X kx (nb:Int))) :
  aeG w P G g o i V F K aC fg tg og tb j kx false X q1 E V' (nb:Int) 0 (bU X kx (nb:Int)) true (fun j=>if j=nb then true else E j) (fun q=>if q=nb then (List.replicate G.blk 0) else (fun q=>if q=bk then put ((fun j=>if j=bb then setB (V' bb) nb true else V' j) bk) at0 (bW 32 (dG (bU X kx (nb:Int)))) else (fun j=>if j=bb then setB (V' bb) nb true else V' j) q) q):=by
 intro v xg fc m0 m1 m2 rows rf r0 r1 r2 hx hne hfx hfg hsub hv
 rw[hp]
 exact sJ (a:=a) (tb:=tb) hv hA (hsub _ ht) (hsub _ ha) (hsub _ rt) (hsub _ ro) hwf h0 hfg rf r0 r1 r2 hx hne e1 e2 e3 hfit hb hk hfx hn hlt hd hi
theorem wu (pb:Int)(la:Bool)(fn:FuncId)(cs:Array Value)(u:World):Calls Tryz.prog 44 #[.agg #[.int .i64 pb,.bool la,.func (.func fn) #[] cs]] u fun r u'=>r=.returned (.tuple #[.int .i64 pb,.int .i64 0])/\Below u.heap.size u u':=by
 have HB:=hide ((Below.refl u.heap.size u).alloc (Nat.le_refl _) (.cells #[.int .i64 pb,.bool la,.func (.func fn) #[] cs] 105))
 go_enter Tryz.func44,Tryz.ntmps44
 go_wp2_with fail
 go_ret2
 exact⟨rfl,ah HB⟩
theorem agx {w:World}{P:Nat->Int}{G:Geo}{g o i:Nat}{V:Nat->List Int}{F K:Nat->Bool}{aC:List (Nat×Obj)}{tb a bn sn:Nat}{la:Bool}{E:Nat->Bool}{V':Nat->List Int}(ht:(tb,tbO a P)∈aC)(hb:E bn=true)(hs:2*sn+2<=G.blk) :
  aiG w P G g o i V F K aC tb (bn:Int) (sn:Int) la E V' (ak (V' bn) ((sn:Int)*2) 2) 0 E V':=by
 refine aeg ht hb hs ?_
 intro v m rows hsub hv
 refine(wu _ la _ _ v).mono ?_
 rintro r u' ⟨rfl,b1⟩
 exact⟨rfl,hv.later b1⟩
theorem jv {w:World}{P:Nat->Int}{G:Geo}{g o i:Nat}{V:Nat->List Int}{F K:Nat->Bool}{aC:List (Nat×Obj)}{tb kx:Nat}{la:Bool}{X:Nat->Int}{j:Int}{E:Nat->Bool}{V':Nat->List Int} :
  aiE w P G g o i V F K aC tb j kx la X E V' (X kx) 0 X E V':=by
 intro v xg fc m0 m1 m2 rows rf r0 r1 r2 hx hne hsub hv
 refine(wu _ la _ _ v).mono ?_
 rintro r u' ⟨rfl,b1⟩
 exact⟨rfl,hv.later b1⟩
theorem agn {w P G E g o}{rows:List (Nat×Obj)}{i V F V' K u}{a tb bk at0 s0:Nat}{X X1:Nat->Int}{j ix:Int}{b1 e1:Int}{E1:Nat->Bool}{V1:Nat->List Int}(h:Lp w P G E g o (rows) i V F V' K u)(ht:(tb,tbO a P)∈rows)(h0:0<w.heap.size)(p1:gU P j=0)(p2:jE P j=(bk:Int))(p3:jF P j=(at0:Int))(hfit:at0+32<=G.blk)(hb:E bk=true)(hi:iQ (((V' bk).drop at0).take 32))(hX:Iv (bG (((V' bk).drop at0).take 32))=Iv X)(hs:s0<=9)(HS:Hid (∀ v,Calls Tryz.prog 102 #[Pv P,.int .i64 ix] v fun r w'=>(∃ k,r=.returned (.tuple #[.slice (some ⟨k,0,none⟩) 1 1,.int .i64 0])/\v.heap.size<=k/\w'.heap[k]?=some (zI (s0:Int)))/\Below v.heap.size v w'))(HV:aiE w P G g o i V F K rows tb j (pof s0) true X E V' b1 e1 X1 E1 V1) :
  Calls Tryz.prog 43 #[.pointer (some ⟨tb,0,none⟩),.pointer (some ⟨o,0,none⟩),.int .i64 j,.int .i64 ix,.func (.func 44) #[] #[]] u fun r u'=>r=.returned (.tuple #[.int .i64 b1,.int .i64 e1])/\Hid (Lp w P G E1 g o (rows) i V F V1 K u'):=by
 have hwu:w.heap.size<=u.heap.size:=h.bel.size
 have L0:Hid (Lp w P G E g o (((u.heap.size+2),zI j)::((u.heap.size+1),zC o 32)::(u.heap.size,zC tb 29)::rows) i V F V' K (((u.alloc (zC tb 29)).alloc (zC o 32)).alloc (zI j))):=h.yD _ _ _
 have hlt0:∀ y∈rows,y.1<u.heap.size:=fun y hy=>h.lt (hy)
 have HT:Hid (∀ v E2 V2,Lp w P G E2 g o (((u.heap.size+2),zI j)::((u.heap.size+1),zC o 32)::(u.heap.size,zC tb 29)::rows) i V F V2 K v->v.heap[tb]?=some (tbO a P)/\v.cell? ⟨u.heap.size,0,none⟩=some (.pointer (some ⟨tb,0,none⟩))/\v.cell? ⟨u.heap.size+1,0,none⟩=some (.pointer (some ⟨o,0,none⟩))/\v.cell? ⟨u.heap.size+2,0,none⟩=some (.int .i64 j)/\u.heap.size+2<v.heap.size):=fun v E2 V2 hv =>
  ⟨hv.row (List.mem_cons_of_mem _ (List.mem_cons_of_mem _ (List.mem_cons_of_mem _ (ht)))),aj (hv.row (x:=(u.heap.size,zC tb 29)) (by simp)),aj (hv.row (x:=((u.heap.size+1),zC o 32)) (by simp)),aj (hv.row (x:=((u.heap.size+2),zI j)) (by simp)),hv.lt (x:=((u.heap.size+2),zI j)) (by simp)⟩
 have KS:Hid (∀ v,Lp w P G E g o (((u.heap.size+2),zI j)::((u.heap.size+1),zC o 32)::(u.heap.size,zC tb 29)::rows) i V F V' K v->Calls Tryz.prog 102 #[Pv P,.int .i64 ix] v fun r w'=>∃ ks,r=.returned (.tuple #[.slice (some ⟨ks,0,none⟩) 1 1,.int .i64 0])/\Hid (v.heap.size<=ks/\Lp w P G E g o ((ks,zI (s0:Int))::((u.heap.size+2),zI j)::((u.heap.size+1),zC o 32)::(u.heap.size,zC tb 29)::rows) i V F V' K w')):=fun v hv=>by
  refine(ah HS v).mono ?_
  rintro r w' ⟨⟨k,rfl,hk1,hk2⟩,b1⟩
  exact⟨k,rfl,hk1,hv.push b1 hk1 hk2⟩
 have KG:Hid (∀ v ks,Lp w P G E g o ((ks,zI (s0:Int))::((u.heap.size+2),zI j)::((u.heap.size+1),zC o 32)::(u.heap.size,zC tb 29)::rows) i V F V' K v->Calls Tryz.prog 19 #[.pointer (some ⟨tb,0,none⟩),.pointer (some ⟨o,0,none⟩),.int .i64 j] v fun r u'=>r=.returned (.tuple #[Iv X,.int .i64 0])/\Hid (Lp w P G E g o ((ks,zI (s0:Int))::((u.heap.size+2),zI j)::((u.heap.size+1),zC o 32)::(u.heap.size,zC tb 29)::rows) i V F V' K u')):=fun v ks hv=>dJ hv X j (List.mem_cons_of_mem _ (List.mem_cons_of_mem _ (List.mem_cons_of_mem _ (List.mem_cons_of_mem _ (ht))))) h0 p1 p2 p3 hfit hb hi hX
 have KV:Hid (∀ v ks zxg zfc,u.heap.size+2<ks->ks<zxg->zxg<zfc->Lp w P G E g o (((zxg),.cells (Ic X) 50)::((zfc),.cells #[.pointer (some ⟨zxg,pof s0,none⟩)] 179)::(ks,zI (s0:Int))::((u.heap.size+2),zI j)::((u.heap.size+1),zC o 32)::(u.heap.size,zC tb 29)::rows) i V F V' K v->Calls Tryz.prog 44 #[.agg #[.int .i64 (X (pof s0)),.bool true,.func (.func 104) #[] #[.pointer (some ⟨zfc,0,none⟩),.pointer (some ⟨u.heap.size,0,none⟩),.pointer (some ⟨u.heap.size+1,0,none⟩),.pointer (some ⟨u.heap.size+2,0,none⟩),.pointer (some ⟨zxg,0,none⟩)]]] v fun r u'=>r=.returned (.tuple #[.int .i64 b1,.int .i64 e1])/\Hid (Lp w P G E1 g o (((zxg),.cells (Ic X1) 50)::((zfc),.cells #[.pointer (some ⟨zxg,pof s0,none⟩)] 179)::(ks,zI (s0:Int))::((u.heap.size+2),zI j)::((u.heap.size+1),zC o 32)::(u.heap.size,zC tb 29)::rows) i V F V1 K u')):=fun v ks zxg zfc c1 c2 c3 hv=>by
  refine HV v zxg zfc u.heap.size (u.heap.size+1) (u.heap.size+2) _ (by simp) (by simp) (by simp) (by simp) (by omega) (fun y hy=>?_) (fun y hy=>by simp[hy]) hv
  ·simp only[List.mem_cons] at hy
   rcases hy with rfl | rfl | rfl | rfl | rfl | hy
   ·show zfc≠zxg;omega
   ·show ks≠zxg;omega
   ·show u.heap.size+2≠zxg;omega
   ·show u.heap.size+1≠zxg;omega
   ·show u.heap.size≠zxg;omega
   ·have:=hlt0 y hy;omega
 have HC1:Hid (∀ v ks zxg zfc,Lp w P G E1 g o (((zxg),.cells (Ic X1) 50)::((zfc),.cells #[.pointer (some ⟨zxg,pof s0,none⟩)] 179)::(ks,zI (s0:Int))::((u.heap.size+2),zI j)::((u.heap.size+1),zC o 32)::(u.heap.size,zC tb 29)::rows) i V F V1 K v->v.cell? ⟨u.heap.size,0,none⟩=some (.pointer (some ⟨tb,0,none⟩))/\v.cell? ⟨u.heap.size+1,0,none⟩=some (.pointer (some ⟨o,0,none⟩))/\Bl v ks #[.int .i64 (s0:Int)] 3):=fun v ks zxg zfc hv=>⟨aj (hv.row (x:=(u.heap.size,zC tb 29)) (by simp)),aj (hv.row (x:=((u.heap.size+1),zC o 32)) (by simp)),hv.row (x:=(ks,zI (s0:Int))) (by simp)⟩
 have HO:Hid (∀ v ks zxg zfc,Lp w P G E1 g o (((zxg),.cells (Ic X1) 50)::((zfc),.cells #[.pointer (some ⟨zxg,pof s0,none⟩)] 179)::(ks,zI (s0:Int))::((u.heap.size+2),zI j)::((u.heap.size+1),zC o 32)::(u.heap.size,zC tb 29)::rows) i V F V1 K v->Lp w P G E1 g o (rows) i V F V1 K v):=fun v ks zxg zfc hv=>hv.sub (fun x hx=>by
  simp[hx])
 have HX:Hid (∀ v ks,Lp w P G E g o ((ks,zI (s0:Int))::((u.heap.size+2),zI j)::((u.heap.size+1),zC o 32)::(u.heap.size,zC tb 29)::rows) i V F V' K v->u.heap.size+2<ks/\ks<v.heap.size/\Bl v ks #[.int .i64 (s0:Int)] 3->Lp w P G E g o (((v.heap.size),.cells (Ic X) 50)::((v.heap.size+1),.cells #[.pointer (some ⟨v.heap.size,pof s0,none⟩)] 179)::(ks,zI (s0:Int))::((u.heap.size+2),zI j)::((u.heap.size+1),zC o 32)::(u.heap.size,zC tb 29)::rows) i V F V' K ((v.alloc (.cells (Ic X) 50)).alloc (.cells #[.pointer (some ⟨v.heap.size,pof s0,none⟩)] 179))):=fun v ks hv _=>by
  have:=hv.new2 (.cells (Ic X) 50) (.cells #[.pointer (some ⟨v.heap.size,pof s0,none⟩)] 179)
  exact this.sub (fun x hx=>by
   simp only[List.mem_cons] at hx ⊢
   rcases hx with h | h | h | h | h | h | h<;>simp[h])
 have HKS:Hid (∀ v ks,Lp w P G E g o ((ks,zI (s0:Int))::((u.heap.size+2),zI j)::((u.heap.size+1),zC o 32)::(u.heap.size,zC tb 29)::rows) i V F V' K v->u.heap.size+2<v.heap.size/\ks<v.heap.size/\Bl v ks #[.int .i64 (s0:Int)] 3):=fun v ks hv=>⟨hv.lt (x:=((u.heap.size+2),zI j)) (by simp),hv.lt (x:=(ks,zI (s0:Int))) (by simp),hv.row (x:=(ks,zI (s0:Int))) (by simp)⟩
 have KQ:Hid (∀ v xg,Calls Tryz.prog 103 #[.pointer (some ⟨xg,0,none⟩),.int .i64 (s0:Int)] v fun r u'=>r=.returned (.pointer (some ⟨xg,pof s0,none⟩))/\v=u'):=fun v xg=>aO xg s0 v hs
 have hpo:=(fO hs).1
 have HPO:Hid (∀ v xg,Bl v xg (Ic X) 50->v.cell? ⟨xg,pof s0,none⟩=some (.int .i64 (X (pof s0)))):=fun v xg hv=>hv.cell _ _ (mF X hpo)
 clear h ht h0 p1 p2 p3 hfit hb hi hX hs HS HV  hlt0 hwu hpo 
 generalize (s0:Int)=si at *
 generalize hps:pof s0=px at *
 clear hps
 generalize X px=xv at *
 go_enter Tryz.func43,Tryz.ntmps43
 go_upto_region 1 with fail
 change Code.wp _ _ _ _ (((u.alloc (zC tb 29)).alloc (zC o 32)).alloc (zI j))
 generalize (((u.alloc (zC tb 29)).alloc (zC o 32)).alloc (zI j))=w0 at *
 generalize u.heap.size=m at *
 obtain⟨tc,d0,d1,d2,hms⟩:=ah HT _ _ _ (ah L0)
 obtain⟨f0,f1,f2,f3,f4,f5,f6,f7,f8,f9,f10,f11⟩:=aS tc
 have K1:=hide (ah KS w0 (ah L0))
 have HMS:=hide hms
 clear KS L0 tc hms
 go_wp2_with fail
 go_at_call 102
 refine(ah K1).mono ?_
 rintro e w1 ⟨ks,rfl,Y1⟩
 obtain⟨hks,L1⟩:=ah Y1
 have HKL:=hide (Nat.lt_of_lt_of_le (ah HMS) hks)
 have K2:=hide (ah KG w1 ks L1)
 obtain⟨_,d0',d1',d2',_⟩:=ah HT w1 _ _ (L1.pop)
 clear K1 Y1 KG hks L1 HMS HT d0 d1 d2 f0 f1 f2 f3 f4 f5 f6 f7 f8 f9 f10 f11
 go_wp2_with fail
 go_at_call 19
 refine(ah K2).mono ?_
 rintro e w2 ⟨rfl,L2⟩
 obtain⟨_,hk2,bs⟩:=ah HKS w2 ks (ah L2)
 have L3:=hide (ah HX w2 ks (ah L2) ⟨ah HKL,hk2,bs⟩)
 have HK2:=hide hk2
 have bx:=Bl.new w2 (Ic X) 50
 have bs3:=bs.alloc (.cells (Ic X) 50)
 clear K2 HKS HX L2 d0' d1' d2' hk2 bs
 go_upto_region 7 with fail
 change Code.wp _ _ _ _ (w2.alloc (.cells (Ic X) 50))
 have hz:(w2.alloc (.cells (Ic X) 50)).heap.size=w2.heap.size+1:=size_alloc _ _
 generalize w2.alloc (.cells (Ic X) 50)=w3 at *
 generalize w2.heap.size=xg at *
 have i0:=bs3.cell 0 _ rfl
 have HBX:=hide bx
 have HZ:=hide hz
 clear bs3 bx hz
 go_wp2_with fail
 go_at_call 103
 refine(ah KQ w3 xg).mono ?_
 rintro e w4 ⟨rfl,rfl⟩
 have px1:=ah HPO _ _ ((ah HBX).alloc (.cells #[.pointer (some ⟨xg,px,none⟩)] 179))
 have fc1:=aj (Bl.new w3 #[.pointer (some ⟨xg,px,none⟩)] 179)
 have K4:=hide (ah KV _ ks xg (xg+1) (ah HKL) (ah HK2) (by omega) (ah L3))
 rw[ah HZ] at fc1
 clear KQ HPO HBX KV L3 i0
 go_upto_region 10 with fail
 change Code.wp _ _ _ _ (w3.alloc (.cells #[.pointer (some ⟨xg,px,none⟩)] 179))
 generalize w3.alloc (.cells #[.pointer (some ⟨xg,px,none⟩)] 179)=w5 at *
 simp only[ah HZ]
 clear HZ
 go_wp2_with fail
 go_at_call 44
 refine(ah K4).mono ?_
 rintro e w6 ⟨rfl,Z1⟩
 obtain⟨t0,t1,bk1⟩:=ah HC1 w6 ks xg (xg+1) (ah Z1)
 have i0:=bk1.cell 0 _ rfl
 clear K4 px1 fc1 HC1 bk1
 go_wp2_with fail
 refine wp_loop_rounds 1 ?_
 rw[rounds_succ]
 go_wp2_with fail
 go_ret2
 exact⟨rfl,hide (ah HO _ _ _ _ (ah Z1))⟩
theorem agm {w P G E g o}{rows:List (Nat×Obj)}{i V F V' K u}{a tb bk at0 s0:Nat}{s1:Int}{X X1:Nat->Int}{j ix:Int}{b1 e1:Int}{E1:Nat->Bool}{V1:Nat->List Int}{b2 e2:Int}{E2:Nat->Bool}{V2:Nat->List Int}(h:Lp w P G E g o (rows) i V F V' K u)(ht:(tb,tbO a P)∈rows)(h0:0<w.heap.size)(p1:gU P j=0)(p2:jE P j=(bk:Int))(p3:jF P j=(at0:Int))(hfit:at0+32<=G.blk)(hb:E bk=true)(hi:iQ (((V' bk).drop at0).take 32))(hX:Iv (bG (((V' bk).drop at0).take 32))=Iv X)(hs:s0<=9)(HS:Hid (∀ v,Calls Tryz.prog 102 #[Pv P,.int .i64 ix] v fun r w'=>(∃ k,r=.returned (.tuple #[.slice (some ⟨k,0,none⟩) 2 2,.int .i64 0])/\v.heap.size<=k/\w'.heap[k]?=some (.cells #[.int .i64 (s0:Int),.int .i64 s1] 3))/\Below v.heap.size v w'))(HV:aiE w P G g o i V F K rows tb j (pof s0) false X E V' b1 e1 X1 E1 V1)(HE2:aiG w P G g o i V F K rows tb b1 s1 true E1 V1 b2 e2 E2 V2)(hc1:e1=0/\b1≠0) :
  Calls Tryz.prog 43 #[.pointer (some ⟨tb,0,none⟩),.pointer (some ⟨o,0,none⟩),.int .i64 j,.int .i64 ix,.func (.func 44) #[] #[]] u fun r u'=>r=.returned (.tuple #[.int .i64 b2,.int .i64 e2])/\Hid (Lp w P G E2 g o (rows) i V F V2 K u'):=by
 have hwu:w.heap.size<=u.heap.size:=h.bel.size
 have L0:Hid (Lp w P G E g o (((u.heap.size+2),zI j)::((u.heap.size+1),zC o 32)::(u.heap.size,zC tb 29)::rows) i V F V' K (((u.alloc (zC tb 29)).alloc (zC o 32)).alloc (zI j))):=h.yD _ _ _
 have hlt0:∀ y∈rows,y.1<u.heap.size:=fun y hy=>h.lt (hy)
 have HT:Hid (∀ v E2 V2,Lp w P G E2 g o (((u.heap.size+2),zI j)::((u.heap.size+1),zC o 32)::(u.heap.size,zC tb 29)::rows) i V F V2 K v->v.heap[tb]?=some (tbO a P)/\v.cell? ⟨u.heap.size,0,none⟩=some (.pointer (some ⟨tb,0,none⟩))/\v.cell? ⟨u.heap.size+1,0,none⟩=some (.pointer (some ⟨o,0,none⟩))/\v.cell? ⟨u.heap.size+2,0,none⟩=some (.int .i64 j)/\u.heap.size+2<v.heap.size):=fun v E2 V2 hv =>
  ⟨hv.row (List.mem_cons_of_mem _ (List.mem_cons_of_mem _ (List.mem_cons_of_mem _ (ht)))),aj (hv.row (x:=(u.heap.size,zC tb 29)) (by simp)),aj (hv.row (x:=((u.heap.size+1),zC o 32)) (by simp)),aj (hv.row (x:=((u.heap.size+2),zI j)) (by simp)),hv.lt (x:=((u.heap.size+2),zI j)) (by simp)⟩
 have KS:Hid (∀ v,Lp w P G E g o (((u.heap.size+2),zI j)::((u.heap.size+1),zC o 32)::(u.heap.size,zC tb 29)::rows) i V F V' K v->Calls Tryz.prog 102 #[Pv P,.int .i64 ix] v fun r w'=>∃ ks,r=.returned (.tuple #[.slice (some ⟨ks,0,none⟩) 2 2,.int .i64 0])/\Hid (v.heap.size<=ks/\Lp w P G E g o ((ks,.cells #[.int .i64 (s0:Int),.int .i64 s1] 3)::((u.heap.size+2),zI j)::((u.heap.size+1),zC o 32)::(u.heap.size,zC tb 29)::rows) i V F V' K w')):=fun v hv=>by
  refine(ah HS v).mono ?_
  rintro r w' ⟨⟨k,rfl,hk1,hk2⟩,b1⟩
  exact⟨k,rfl,hk1,hv.push b1 hk1 hk2⟩
 have KG:Hid (∀ v ks,Lp w P G E g o ((ks,.cells #[.int .i64 (s0:Int),.int .i64 s1] 3)::((u.heap.size+2),zI j)::((u.heap.size+1),zC o 32)::(u.heap.size,zC tb 29)::rows) i V F V' K v->Calls Tryz.prog 19 #[.pointer (some ⟨tb,0,none⟩),.pointer (some ⟨o,0,none⟩),.int .i64 j] v fun r u'=>r=.returned (.tuple #[Iv X,.int .i64 0])/\Hid (Lp w P G E g o ((ks,.cells #[.int .i64 (s0:Int),.int .i64 s1] 3)::((u.heap.size+2),zI j)::((u.heap.size+1),zC o 32)::(u.heap.size,zC tb 29)::rows) i V F V' K u')):=fun v ks hv=>dJ hv X j (List.mem_cons_of_mem _ (List.mem_cons_of_mem _ (List.mem_cons_of_mem _ (List.mem_cons_of_mem _ (ht))))) h0 p1 p2 p3 hfit hb hi hX
 have KV:Hid (∀ v ks zxg zfc,u.heap.size+2<ks->ks<zxg->zxg<zfc->Lp w P G E g o (((zxg),.cells (Ic X) 50)::((zfc),.cells #[.pointer (some ⟨zxg,pof s0,none⟩)] 179)::(ks,.cells #[.int .i64 (s0:Int),.int .i64 s1] 3)::((u.heap.size+2),zI j)::((u.heap.size+1),zC o 32)::(u.heap.size,zC tb 29)::rows) i V F V' K v->Calls Tryz.prog 44 #[.agg #[.int .i64 (X (pof s0)),.bool false,.func (.func 104) #[] #[.pointer (some ⟨zfc,0,none⟩),.pointer (some ⟨u.heap.size,0,none⟩),.pointer (some ⟨u.heap.size+1,0,none⟩),.pointer (some ⟨u.heap.size+2,0,none⟩),.pointer (some ⟨zxg,0,none⟩)]]] v fun r u'=>r=.returned (.tuple #[.int .i64 b1,.int .i64 e1])/\Hid (Lp w P G E1 g o (((zxg),.cells (Ic X1) 50)::((zfc),.cells #[.pointer (some ⟨zxg,pof s0,none⟩)] 179)::(ks,.cells #[.int .i64 (s0:Int),.int .i64 s1] 3)::((u.heap.size+2),zI j)::((u.heap.size+1),zC o 32)::(u.heap.size,zC tb 29)::rows) i V F V1 K u')):=fun v ks zxg zfc c1 c2 c3 hv=>by
  refine HV v zxg zfc u.heap.size (u.heap.size+1) (u.heap.size+2) _ (by simp) (by simp) (by simp) (by simp) (by omega) (fun y hy=>?_) (fun y hy=>by simp[hy]) hv
  ·simp only[List.mem_cons] at hy
   rcases hy with rfl | rfl | rfl | rfl | rfl | hy
   ·show zfc≠zxg;omega
   ·show ks≠zxg;omega
   ·show u.heap.size+2≠zxg;omega
   ·show u.heap.size+1≠zxg;omega
   ·show u.heap.size≠zxg;omega
   ·have:=hlt0 y hy;omega
 have KE2:Hid (∀ v ks zxg zfc,u.heap.size+2<ks->ks<zxg->zxg<zfc->Lp w P G E1 g o (((zxg),.cells (Ic X1) 50)::((zfc),.cells #[.pointer (some ⟨zxg,pof s0,none⟩)] 179)::(ks,.cells #[.int .i64 (s0:Int),.int .i64 s1] 3)::((u.heap.size+2),zI j)::((u.heap.size+1),zC o 32)::(u.heap.size,zC tb 29)::rows) i V F V1 K v->Calls Tryz.prog 105 #[.pointer (some ⟨tb,0,none⟩),.pointer (some ⟨o,0,none⟩),.int .i64 b1,.int .i64 s1,.bool true,.func (.func 44) #[] #[]] v fun r u'=>r=.returned (.tuple #[.int .i64 b2,.int .i64 e2])/\Hid (Lp w P G E2 g o (((zxg),.cells (Ic X1) 50)::((zfc),.cells #[.pointer (some ⟨zxg,pof s0,none⟩)] 179)::(ks,.cells #[.int .i64 (s0:Int),.int .i64 s1] 3)::((u.heap.size+2),zI j)::((u.heap.size+1),zC o 32)::(u.heap.size,zC tb 29)::rows) i V F V2 K u')):=fun v ks zxg zfc c1 c2 c3 hv=>by
  refine HE2 v _ (fun y hy=>by simp[hy]) hv
 have HC1:Hid (∀ v ks zxg zfc,Lp w P G E1 g o (((zxg),.cells (Ic X1) 50)::((zfc),.cells #[.pointer (some ⟨zxg,pof s0,none⟩)] 179)::(ks,.cells #[.int .i64 (s0:Int),.int .i64 s1] 3)::((u.heap.size+2),zI j)::((u.heap.size+1),zC o 32)::(u.heap.size,zC tb 29)::rows) i V F V1 K v->v.cell? ⟨u.heap.size,0,none⟩=some (.pointer (some ⟨tb,0,none⟩))/\v.cell? ⟨u.heap.size+1,0,none⟩=some (.pointer (some ⟨o,0,none⟩))/\Bl v ks #[.int .i64 (s0:Int),.int .i64 s1] 3):=fun v ks zxg zfc hv=>⟨aj (hv.row (x:=(u.heap.size,zC tb 29)) (by simp)),aj (hv.row (x:=((u.heap.size+1),zC o 32)) (by simp)),hv.row (x:=(ks,.cells #[.int .i64 (s0:Int),.int .i64 s1] 3)) (by simp)⟩
 have HC2:Hid (∀ v ks zxg zfc,Lp w P G E2 g o (((zxg),.cells (Ic X1) 50)::((zfc),.cells #[.pointer (some ⟨zxg,pof s0,none⟩)] 179)::(ks,.cells #[.int .i64 (s0:Int),.int .i64 s1] 3)::((u.heap.size+2),zI j)::((u.heap.size+1),zC o 32)::(u.heap.size,zC tb 29)::rows) i V F V2 K v->v.cell? ⟨u.heap.size,0,none⟩=some (.pointer (some ⟨tb,0,none⟩))/\v.cell? ⟨u.heap.size+1,0,none⟩=some (.pointer (some ⟨o,0,none⟩))/\Bl v ks #[.int .i64 (s0:Int),.int .i64 s1] 3):=fun v ks zxg zfc hv=>⟨aj (hv.row (x:=(u.heap.size,zC tb 29)) (by simp)),aj (hv.row (x:=((u.heap.size+1),zC o 32)) (by simp)),hv.row (x:=(ks,.cells #[.int .i64 (s0:Int),.int .i64 s1] 3)) (by simp)⟩
 have HO:Hid (∀ v ks zxg zfc,Lp w P G E2 g o (((zxg),.cells (Ic X1) 50)::((zfc),.cells #[.pointer (some ⟨zxg,pof s0,none⟩)] 179)::(ks,.cells #[.int .i64 (s0:Int),.int .i64 s1] 3)::((u.heap.size+2),zI j)::((u.heap.size+1),zC o 32)::(u.heap.size,zC tb 29)::rows) i V F V2 K v->Lp w P G E2 g o (rows) i V F V2 K v):=fun v ks zxg zfc hv=>hv.sub (fun x hx=>by
  simp[hx])
 have HX:Hid (∀ v ks,Lp w P G E g o ((ks,.cells #[.int .i64 (s0:Int),.int .i64 s1] 3)::((u.heap.size+2),zI j)::((u.heap.size+1),zC o 32)::(u.heap.size,zC tb 29)::rows) i V F V' K v->u.heap.size+2<ks/\ks<v.heap.size/\Bl v ks #[.int .i64 (s0:Int),.int .i64 s1] 3->Lp w P G E g o (((v.heap.size),.cells (Ic X) 50)::((v.heap.size+1),.cells #[.pointer (some ⟨v.heap.size,pof s0,none⟩)] 179)::(ks,.cells #[.int .i64 (s0:Int),.int .i64 s1] 3)::((u.heap.size+2),zI j)::((u.heap.size+1),zC o 32)::(u.heap.size,zC tb 29)::rows) i V F V' K ((v.alloc (.cells (Ic X) 50)).alloc (.cells #[.pointer (some ⟨v.heap.size,pof s0,none⟩)] 179))):=fun v ks hv _=>by
  have:=hv.new2 (.cells (Ic X) 50) (.cells #[.pointer (some ⟨v.heap.size,pof s0,none⟩)] 179)
  exact this.sub (fun x hx=>by
   simp only[List.mem_cons] at hx ⊢
   rcases hx with h | h | h | h | h | h | h<;>simp[h])
 have HKS:Hid (∀ v ks,Lp w P G E g o ((ks,.cells #[.int .i64 (s0:Int),.int .i64 s1] 3)::((u.heap.size+2),zI j)::((u.heap.size+1),zC o 32)::(u.heap.size,zC tb 29)::rows) i V F V' K v->u.heap.size+2<v.heap.size/\ks<v.heap.size/\Bl v ks #[.int .i64 (s0:Int),.int .i64 s1] 3):=fun v ks hv=>⟨hv.lt (x:=((u.heap.size+2),zI j)) (by simp),hv.lt (x:=(ks,.cells #[.int .i64 (s0:Int),.int .i64 s1] 3)) (by simp),hv.row (x:=(ks,.cells #[.int .i64 (s0:Int),.int .i64 s1] 3)) (by simp)⟩
 have KQ:Hid (∀ v xg,Calls Tryz.prog 103 #[.pointer (some ⟨xg,0,none⟩),.int .i64 (s0:Int)] v fun r u'=>r=.returned (.pointer (some ⟨xg,pof s0,none⟩))/\v=u'):=fun v xg=>aO xg s0 v hs
 have hpo:=(fO hs).1
 have HPO:Hid (∀ v xg,Bl v xg (Ic X) 50->v.cell? ⟨xg,pof s0,none⟩=some (.int .i64 (X (pof s0)))):=fun v xg hv=>hv.cell _ _ (mF X hpo)
 clear h ht h0 p1 p2 p3 hfit hb hi hX hs HS HV HE2 hlt0 hwu hpo 
 obtain⟨vZ,wo⟩:=hc1
 have ce1:(e1 != 0)=false:=by simp[vZ]
 have cb1:(b1==0)=false:=by simpa using wo
 clear vZ wo
 generalize (s0:Int)=si at *
 generalize hps:pof s0=px at *
 clear hps
 generalize X px=xv at *
 go_enter Tryz.func43,Tryz.ntmps43
 go_upto_region 1 with fail
 change Code.wp _ _ _ _ (((u.alloc (zC tb 29)).alloc (zC o 32)).alloc (zI j))
 generalize (((u.alloc (zC tb 29)).alloc (zC o 32)).alloc (zI j))=w0 at *
 generalize u.heap.size=m at *
 obtain⟨tc,d0,d1,d2,hms⟩:=ah HT _ _ _ (ah L0)
 obtain⟨f0,f1,f2,f3,f4,f5,f6,f7,f8,f9,f10,f11⟩:=aS tc
 have K1:=hide (ah KS w0 (ah L0))
 have HMS:=hide hms
 clear KS L0 tc hms
 go_wp2_with fail
 go_at_call 102
 refine(ah K1).mono ?_
 rintro e w1 ⟨ks,rfl,Y1⟩
 obtain⟨hks,L1⟩:=ah Y1
 have HKL:=hide (Nat.lt_of_lt_of_le (ah HMS) hks)
 have K2:=hide (ah KG w1 ks L1)
 obtain⟨_,d0',d1',d2',_⟩:=ah HT w1 _ _ (L1.pop)
 clear K1 Y1 KG hks L1 HMS HT d0 d1 d2 f0 f1 f2 f3 f4 f5 f6 f7 f8 f9 f10 f11
 go_wp2_with fail
 go_at_call 19
 refine(ah K2).mono ?_
 rintro e w2 ⟨rfl,L2⟩
 obtain⟨_,hk2,bs⟩:=ah HKS w2 ks (ah L2)
 have L3:=hide (ah HX w2 ks (ah L2) ⟨ah HKL,hk2,bs⟩)
 have HK2:=hide hk2
 have bx:=Bl.new w2 (Ic X) 50
 have bs3:=bs.alloc (.cells (Ic X) 50)
 clear K2 HKS HX L2 d0' d1' d2' hk2 bs
 go_upto_region 7 with fail
 change Code.wp _ _ _ _ (w2.alloc (.cells (Ic X) 50))
 have hz:(w2.alloc (.cells (Ic X) 50)).heap.size=w2.heap.size+1:=size_alloc _ _
 generalize w2.alloc (.cells (Ic X) 50)=w3 at *
 generalize w2.heap.size=xg at *
 have i0:=bs3.cell 0 _ rfl
 have HBX:=hide bx
 have HZ:=hide hz
 clear bs3 bx hz
 go_wp2_with fail
 go_at_call 103
 refine(ah KQ w3 xg).mono ?_
 rintro e w4 ⟨rfl,rfl⟩
 have px1:=ah HPO _ _ ((ah HBX).alloc (.cells #[.pointer (some ⟨xg,px,none⟩)] 179))
 have fc1:=aj (Bl.new w3 #[.pointer (some ⟨xg,px,none⟩)] 179)
 have K4:=hide (ah KV _ ks xg (xg+1) (ah HKL) (ah HK2) (by omega) (ah L3))
 rw[ah HZ] at fc1
 clear KQ HPO HBX KV L3 i0
 go_upto_region 10 with fail
 change Code.wp _ _ _ _ (w3.alloc (.cells #[.pointer (some ⟨xg,px,none⟩)] 179))
 generalize w3.alloc (.cells #[.pointer (some ⟨xg,px,none⟩)] 179)=w5 at *
 simp only[ah HZ]
 clear HZ
 go_wp2_with fail
 go_at_call 44
 refine(ah K4).mono ?_
 rintro e w6 ⟨rfl,Z1⟩
 obtain⟨t0,t1,bk1⟩:=ah HC1 w6 ks xg (xg+1) (ah Z1)
 have i0:=bk1.cell 0 _ rfl
 have i1:=bk1.cell 1 _ rfl
 clear K4 px1 fc1 HC1 bk1
 go_wp2_with fail
 refine wp_loop_rounds 2 ?_
 rw[rounds_succ]
 have KX2:=hide (ah KE2 _ ks xg (xg+1) (ah HKL) (ah HK2) (by omega) (ah Z1))
 clear KE2 Z1
 go_wp2_with fail
 go_at_call 105
 refine(ah KX2).mono ?_
 rintro e w7 ⟨rfl,Z2⟩
 obtain⟨t0,t1,bk2⟩:=ah HC2 _ ks xg (xg+1) (ah Z2)
 have i20:=bk2.cell 0 _ rfl
 have i21:=bk2.cell 1 _ rfl
 clear KX2 HC2 bk2
 go_wp2_with fail
 rw[rounds_succ]
 go_wp2_with fail
 go_ret2
 exact⟨rfl,hide (ah HO _ _ _ _ (ah Z2))⟩
theorem abI {w P G E g o}{rows:List (Nat×Obj)}{i V F V' K u}{a tb bk at0 s0:Nat}{s1 s2:Int}{X X1:Nat->Int}{j ix:Int}{b1 e1:Int}{E1:Nat->Bool}{V1:Nat->List Int}{b2 e2:Int}{E2:Nat->Bool}{V2:Nat->List Int}{b3 e3:Int}{E3:Nat->Bool}{V3:Nat->List Int}(h:Lp w P G E g o (rows) i V F V' K u)(ht:(tb,tbO a P)∈rows)(h0:0<w.heap.size)(p1:gU P j=0)(p2:jE P j=(bk:Int))(p3:jF P j=(at0:Int))(hfit:at0+32<=G.blk)(hb:E bk=true)(hi:iQ (((V' bk).drop at0).take 32))(hX:Iv (bG (((V' bk).drop at0).take 32))=Iv X)(hs:s0<=9)(HS:Hid (∀ v,Calls Tryz.prog 102 #[Pv P,.int .i64 ix] v fun r w'=>(∃ k,r=.returned (.tuple #[.slice (some ⟨k,0,none⟩) 3 3,.int .i64 0])/\v.heap.size<=k/\w'.heap[k]?=some (.cells #[.int .i64 (s0:Int),.int .i64 s1,.int .i64 s2] 3))/\Below v.heap.size v w'))(HV:aiE w P G g o i V F K rows tb j (pof s0) false X E V' b1 e1 X1 E1 V1)(HE2:aiG w P G g o i V F K rows tb b1 s1 false E1 V1 b2 e2 E2 V2)(HE3:aiG w P G g o i V F K rows tb b2 s2 true E2 V2 b3 e3 E3 V3)(hc1:e1=0/\b1≠0)(hc2:e2=0/\b2≠0) :
  Calls Tryz.prog 43 #[.pointer (some ⟨tb,0,none⟩),.pointer (some ⟨o,0,none⟩),.int .i64 j,.int .i64 ix,.func (.func 44) #[] #[]] u fun r u'=>r=.returned (.tuple #[.int .i64 b3,.int .i64 e3])/\Hid (Lp w P G E3 g o (rows) i V F V3 K u'):=by
 have hwu:w.heap.size<=u.heap.size:=h.bel.size
 have L0:Hid (Lp w P G E g o (((u.heap.size+2),zI j)::((u.heap.size+1),zC o 32)::(u.heap.size,zC tb 29)::rows) i V F V' K (((u.alloc (zC tb 29)).alloc (zC o 32)).alloc (zI j))):=h.yD _ _ _
 have hlt0:∀ y∈rows,y.1<u.heap.size:=fun y hy=>h.lt (hy)
 have HT:Hid (∀ v E2 V2,Lp w P G E2 g o (((u.heap.size+2),zI j)::((u.heap.size+1),zC o 32)::(u.heap.size,zC tb 29)::rows) i V F V2 K v->v.heap[tb]?=some (tbO a P)/\v.cell? ⟨u.heap.size,0,none⟩=some (.pointer (some ⟨tb,0,none⟩))/\v.cell? ⟨u.heap.size+1,0,none⟩=some (.pointer (some ⟨o,0,none⟩))/\v.cell? ⟨u.heap.size+2,0,none⟩=some (.int .i64 j)/\u.heap.size+2<v.heap.size):=fun v E2 V2 hv =>
  ⟨hv.row (List.mem_cons_of_mem _ (List.mem_cons_of_mem _ (List.mem_cons_of_mem _ (ht)))),aj (hv.row (x:=(u.heap.size,zC tb 29)) (by simp)),aj (hv.row (x:=((u.heap.size+1),zC o 32)) (by simp)),aj (hv.row (x:=((u.heap.size+2),zI j)) (by simp)),hv.lt (x:=((u.heap.size+2),zI j)) (by simp)⟩
 have KS:Hid (∀ v,Lp w P G E g o (((u.heap.size+2),zI j)::((u.heap.size+1),zC o 32)::(u.heap.size,zC tb 29)::rows) i V F V' K v->Calls Tryz.prog 102 #[Pv P,.int .i64 ix] v fun r w'=>∃ ks,r=.returned (.tuple #[.slice (some ⟨ks,0,none⟩) 3 3,.int .i64 0])/\Hid (v.heap.size<=ks/\Lp w P G E g o ((ks,.cells #[.int .i64 (s0:Int),.int .i64 s1,.int .i64 s2] 3)::((u.heap.size+2),zI j)::((u.heap.size+1),zC o 32)::(u.heap.size,zC tb 29)::rows) i V F V' K w')):=fun v hv=>by
  refine(ah HS v).mono ?_
  rintro r w' ⟨⟨k,rfl,hk1,hk2⟩,b1⟩
  exact⟨k,rfl,hk1,hv.push b1 hk1 hk2⟩
 have KG:Hid (∀ v ks,Lp w P G E g o ((ks,.cells #[.int .i64 (s0:Int),.int .i64 s1,.int .i64 s2] 3)::((u.heap.size+2),zI j)::((u.heap.size+1),zC o 32)::(u.heap.size,zC tb 29)::rows) i V F V' K v->Calls Tryz.prog 19 #[.pointer (some ⟨tb,0,none⟩),.pointer (some ⟨o,0,none⟩),.int .i64 j] v fun r u'=>r=.returned (.tuple #[Iv X,.int .i64 0])/\Hid (Lp w P G E g o ((ks,.cells #[.int .i64 (s0:Int),.int .i64 s1,.int .i64 s2] 3)::((u.heap.size+2),zI j)::((u.heap.size+1),zC o 32)::(u.heap.size,zC tb 29)::rows) i V F V' K u')):=fun v ks hv=>dJ hv X j (List.mem_cons_of_mem _ (List.mem_cons_of_mem _ (List.mem_cons_of_mem _ (List.mem_cons_of_mem _ (ht))))) h0 p1 p2 p3 hfit hb hi hX
 have KV:Hid (∀ v ks zxg zfc,u.heap.size+2<ks->ks<zxg->zxg<zfc->Lp w P G E g o (((zxg),.cells (Ic X) 50)::((zfc),.cells #[.pointer (some ⟨zxg,pof s0,none⟩)] 179)::(ks,.cells #[.int .i64 (s0:Int),.int .i64 s1,.int .i64 s2] 3)::((u.heap.size+2),zI j)::((u.heap.size+1),zC o 32)::(u.heap.size,zC tb 29)::rows) i V F V' K v->Calls Tryz.prog 44 #[.agg #[.int .i64 (X (pof s0)),.bool false,.func (.func 104) #[] #[.pointer (some ⟨zfc,0,none⟩),.pointer (some ⟨u.heap.size,0,none⟩),.pointer (some ⟨u.heap.size+1,0,none⟩),.pointer (some ⟨u.heap.size+2,0,none⟩),.pointer (some ⟨zxg,0,none⟩)]]] v fun r u'=>r=.returned (.tuple #[.int .i64 b1,.int .i64 e1])/\Hid (Lp w P G E1 g o (((zxg),.cells (Ic X1) 50)::((zfc),.cells #[.pointer (some ⟨zxg,pof s0,none⟩)] 179)::(ks,.cells #[.int .i64 (s0:Int),.int .i64 s1,.int .i64 s2] 3)::((u.heap.size+2),zI j)::((u.heap.size+1),zC o 32)::(u.heap.size,zC tb 29)::rows) i V F V1 K u')):=fun v ks zxg zfc c1 c2 c3 hv=>by
  refine HV v zxg zfc u.heap.size (u.heap.size+1) (u.heap.size+2) _ (by simp) (by simp) (by simp) (by simp) (by omega) (fun y hy=>?_) (fun y hy=>by simp[hy]) hv
  ·simp only[List.mem_cons] at hy
   rcases hy with rfl | rfl | rfl | rfl | rfl | hy
   ·show zfc≠zxg;omega
   ·show ks≠zxg;omega
   ·show u.heap.size+2≠zxg;omega
   ·show u.heap.size+1≠zxg;omega
   ·show u.heap.size≠zxg;omega
   ·have:=hlt0 y hy;omega
 have KE2:Hid (∀ v ks zxg zfc,u.heap.size+2<ks->ks<zxg->zxg<zfc->Lp w P G E1 g o (((zxg),.cells (Ic X1) 50)::((zfc),.cells #[.pointer (some ⟨zxg,pof s0,none⟩)] 179)::(ks,.cells #[.int .i64 (s0:Int),.int .i64 s1,.int .i64 s2] 3)::((u.heap.size+2),zI j)::((u.heap.size+1),zC o 32)::(u.heap.size,zC tb 29)::rows) i V F V1 K v->Calls Tryz.prog 105 #[.pointer (some ⟨tb,0,none⟩),.pointer (some ⟨o,0,none⟩),.int .i64 b1,.int .i64 s1,.bool false,.func (.func 44) #[] #[]] v fun r u'=>r=.returned (.tuple #[.int .i64 b2,.int .i64 e2])/\Hid (Lp w P G E2 g o (((zxg),.cells (Ic X1) 50)::((zfc),.cells #[.pointer (some ⟨zxg,pof s0,none⟩)] 179)::(ks,.cells #[.int .i64 (s0:Int),.int .i64 s1,.int .i64 s2] 3)::((u.heap.size+2),zI j)::((u.heap.size+1),zC o 32)::(u.heap.size,zC tb 29)::rows) i V F V2 K u')):=fun v ks zxg zfc c1 c2 c3 hv=>by
  refine HE2 v _ (fun y hy=>by simp[hy]) hv
 have KE3:Hid (∀ v ks zxg zfc,u.heap.size+2<ks->ks<zxg->zxg<zfc->Lp w P G E2 g o (((zxg),.cells (Ic X1) 50)::((zfc),.cells #[.pointer (some ⟨zxg,pof s0,none⟩)] 179)::(ks,.cells #[.int .i64 (s0:Int),.int .i64 s1,.int .i64 s2] 3)::((u.heap.size+2),zI j)::((u.heap.size+1),zC o 32)::(u.heap.size,zC tb 29)::rows) i V F V2 K v->Calls Tryz.prog 105 #[.pointer (some ⟨tb,0,none⟩),.pointer (some ⟨o,0,none⟩),.int .i64 b2,.int .i64 s2,.bool true,.func (.func 44) #[] #[]] v fun r u'=>r=.returned (.tuple #[.int .i64 b3,.int .i64 e3])/\Hid (Lp w P G E3 g o (((zxg),.cells (Ic X1) 50)::((zfc),.cells #[.pointer (some ⟨zxg,pof s0,none⟩)] 179)::(ks,.cells #[.int .i64 (s0:Int),.int .i64 s1,.int .i64 s2] 3)::((u.heap.size+2),zI j)::((u.heap.size+1),zC o 32)::(u.heap.size,zC tb 29)::rows) i V F V3 K u')):=fun v ks zxg zfc c1 c2 c3 hv=>by
  refine HE3 v _ (fun y hy=>by simp[hy]) hv
 have HC1:Hid (∀ v ks zxg zfc,Lp w P G E1 g o (((zxg),.cells (Ic X1) 50)::((zfc),.cells #[.pointer (some ⟨zxg,pof s0,none⟩)] 179)::(ks,.cells #[.int .i64 (s0:Int),.int .i64 s1,.int .i64 s2] 3)::((u.heap.size+2),zI j)::((u.heap.size+1),zC o 32)::(u.heap.size,zC tb 29)::rows) i V F V1 K v->v.cell? ⟨u.heap.size,0,none⟩=some (.pointer (some ⟨tb,0,none⟩))/\v.cell? ⟨u.heap.size+1,0,none⟩=some (.pointer (some ⟨o,0,none⟩))/\Bl v ks #[.int .i64 (s0:Int),.int .i64 s1,.int .i64 s2] 3):=fun v ks zxg zfc hv=>⟨aj (hv.row (x:=(u.heap.size,zC tb 29)) (by simp)),aj (hv.row (x:=((u.heap.size+1),zC o 32)) (by simp)),hv.row (x:=(ks,.cells #[.int .i64 (s0:Int),.int .i64 s1,.int .i64 s2] 3)) (by simp)⟩
 have HC2:Hid (∀ v ks zxg zfc,Lp w P G E2 g o (((zxg),.cells (Ic X1) 50)::((zfc),.cells #[.pointer (some ⟨zxg,pof s0,none⟩)] 179)::(ks,.cells #[.int .i64 (s0:Int),.int .i64 s1,.int .i64 s2] 3)::((u.heap.size+2),zI j)::((u.heap.size+1),zC o 32)::(u.heap.size,zC tb 29)::rows) i V F V2 K v->v.cell? ⟨u.heap.size,0,none⟩=some (.pointer (some ⟨tb,0,none⟩))/\v.cell? ⟨u.heap.size+1,0,none⟩=some (.pointer (some ⟨o,0,none⟩))/\Bl v ks #[.int .i64 (s0:Int),.int .i64 s1,.int .i64 s2] 3):=fun v ks zxg zfc hv=>⟨aj (hv.row (x:=(u.heap.size,zC tb 29)) (by simp)),aj (hv.row (x:=((u.heap.size+1),zC o 32)) (by simp)),hv.row (x:=(ks,.cells #[.int .i64 (s0:Int),.int .i64 s1,.int .i64 s2] 3)) (by simp)⟩
 have HC3:Hid (∀ v ks zxg zfc,Lp w P G E3 g o (((zxg),.cells (Ic X1) 50)::((zfc),.cells #[.pointer (some ⟨zxg,pof s0,none⟩)] 179)::(ks,.cells #[.int .i64 (s0:Int),.int .i64 s1,.int .i64 s2] 3)::((u.heap.size+2),zI j)::((u.heap.size+1),zC o 32)::(u.heap.size,zC tb 29)::rows) i V F V3 K v->v.cell? ⟨u.heap.size,0,none⟩=some (.pointer (some ⟨tb,0,none⟩))/\v.cell? ⟨u.heap.size+1,0,none⟩=some (.pointer (some ⟨o,0,none⟩))/\Bl v ks #[.int .i64 (s0:Int),.int .i64 s1,.int .i64 s2] 3):=fun v ks zxg zfc hv=>⟨aj (hv.row (x:=(u.heap.size,zC tb 29)) (by simp)),aj (hv.row (x:=((u.heap.size+1),zC o 32)) (by simp)),hv.row (x:=(ks,.cells #[.int .i64 (s0:Int),.int .i64 s1,.int .i64 s2] 3)) (by simp)⟩
 have HO:Hid (∀ v ks zxg zfc,Lp w P G E3 g o (((zxg),.cells (Ic X1) 50)::((zfc),.cells #[.pointer (some ⟨zxg,pof s0,none⟩)] 179)::(ks,.cells #[.int .i64 (s0:Int),.int .i64 s1,.int .i64 s2] 3)::((u.heap.size+2),zI j)::((u.heap.size+1),zC o 32)::(u.heap.size,zC tb 29)::rows) i V F V3 K v->Lp w P G E3 g o (rows) i V F V3 K v):=fun v ks zxg zfc hv=>hv.sub (fun x hx=>by
  simp[hx])
 have HX:Hid (∀ v ks,Lp w P G E g o ((ks,.cells #[.int .i64 (s0:Int),.int .i64 s1,.int .i64 s2] 3)::((u.heap.size+2),zI j)::((u.heap.size+1),zC o 32)::(u.heap.size,zC tb 29)::rows) i V F V' K v->u.heap.size+2<ks/\ks<v.heap.size/\Bl v ks #[.int .i64 (s0:Int),.int .i64 s1,.int .i64 s2] 3->Lp w P G E g o (((v.heap.size),.cells (Ic X) 50)::((v.heap.size+1),.cells #[.pointer (some ⟨v.heap.size,pof s0,none⟩)] 179)::(ks,.cells #[.int .i64 (s0:Int),.int .i64 s1,.int .i64 s2] 3)::((u.heap.size+2),zI j)::((u.heap.size+1),zC o 32)::(u.heap.size,zC tb 29)::rows) i V F V' K ((v.alloc (.cells (Ic X) 50)).alloc (.cells #[.pointer (some ⟨v.heap.size,pof s0,none⟩)] 179))):=fun v ks hv _=>by
  have:=hv.new2 (.cells (Ic X) 50) (.cells #[.pointer (some ⟨v.heap.size,pof s0,none⟩)] 179)
  exact this.sub (fun x hx=>by
   simp only[List.mem_cons] at hx ⊢
   rcases hx with h | h | h | h | h | h | h<;>simp[h])
 have HKS:Hid (∀ v ks,Lp w P G E g o ((ks,.cells #[.int .i64 (s0:Int),.int .i64 s1,.int .i64 s2] 3)::((u.heap.size+2),zI j)::((u.heap.size+1),zC o 32)::(u.heap.size,zC tb 29)::rows) i V F V' K v->u.heap.size+2<v.heap.size/\ks<v.heap.size/\Bl v ks #[.int .i64 (s0:Int),.int .i64 s1,.int .i64 s2] 3):=fun v ks hv=>⟨hv.lt (x:=((u.heap.size+2),zI j)) (by simp),hv.lt (x:=(ks,.cells #[.int .i64 (s0:Int),.int .i64 s1,.int .i64 s2] 3)) (by simp),hv.row (x:=(ks,.cells #[.int .i64 (s0:Int),.int .i64 s1,.int .i64 s2] 3)) (by simp)⟩
 have KQ:Hid (∀ v xg,Calls Tryz.prog 103 #[.pointer (some ⟨xg,0,none⟩),.int .i64 (s0:Int)] v fun r u'=>r=.returned (.pointer (some ⟨xg,pof s0,none⟩))/\v=u'):=fun v xg=>aO xg s0 v hs
 have hpo:=(fO hs).1
 have HPO:Hid (∀ v xg,Bl v xg (Ic X) 50->v.cell? ⟨xg,pof s0,none⟩=some (.int .i64 (X (pof s0)))):=fun v xg hv=>hv.cell _ _ (mF X hpo)
 clear h ht h0 p1 p2 p3 hfit hb hi hX hs HS HV HE2 HE3 hlt0 hwu hpo 
 obtain⟨vZ,wo⟩:=hc1
 have ce1:(e1 != 0)=false:=by simp[vZ]
 have cb1:(b1==0)=false:=by simpa using wo
 clear vZ wo
 obtain⟨ajL,hcb2⟩:=hc2
 have ce2:(e2 != 0)=false:=by simp[ajL]
 have cb2:(b2==0)=false:=by simpa using hcb2
 clear ajL hcb2
 generalize (s0:Int)=si at *
 generalize hps:pof s0=px at *
 clear hps
 generalize X px=xv at *
 go_enter Tryz.func43,Tryz.ntmps43
 go_upto_region 1 with fail
 change Code.wp _ _ _ _ (((u.alloc (zC tb 29)).alloc (zC o 32)).alloc (zI j))
 generalize (((u.alloc (zC tb 29)).alloc (zC o 32)).alloc (zI j))=w0 at *
 generalize u.heap.size=m at *
 obtain⟨tc,d0,d1,d2,hms⟩:=ah HT _ _ _ (ah L0)
 obtain⟨f0,f1,f2,f3,f4,f5,f6,f7,f8,f9,f10,f11⟩:=aS tc
 have K1:=hide (ah KS w0 (ah L0))
 have HMS:=hide hms
 clear KS L0 tc hms
 go_wp2_with fail
 go_at_call 102
 refine(ah K1).mono ?_
 rintro e w1 ⟨ks,rfl,Y1⟩
 obtain⟨hks,L1⟩:=ah Y1
 have HKL:=hide (Nat.lt_of_lt_of_le (ah HMS) hks)
 have K2:=hide (ah KG w1 ks L1)
 obtain⟨_,d0',d1',d2',_⟩:=ah HT w1 _ _ (L1.pop)
 clear K1 Y1 KG hks L1 HMS HT d0 d1 d2 f0 f1 f2 f3 f4 f5 f6 f7 f8 f9 f10 f11
 go_wp2_with fail
 go_at_call 19
 refine(ah K2).mono ?_
 rintro e w2 ⟨rfl,L2⟩
 obtain⟨_,hk2,bs⟩:=ah HKS w2 ks (ah L2)
 have L3:=hide (ah HX w2 ks (ah L2) ⟨ah HKL,hk2,bs⟩)
 have HK2:=hide hk2
 have bx:=Bl.new w2 (Ic X) 50
 have bs3:=bs.alloc (.cells (Ic X) 50)
 clear K2 HKS HX L2 d0' d1' d2' hk2 bs
 go_upto_region 7 with fail
 change Code.wp _ _ _ _ (w2.alloc (.cells (Ic X) 50))
 have hz:(w2.alloc (.cells (Ic X) 50)).heap.size=w2.heap.size+1:=size_alloc _ _
 generalize w2.alloc (.cells (Ic X) 50)=w3 at *
 generalize w2.heap.size=xg at *
 have i0:=bs3.cell 0 _ rfl
 have HBX:=hide bx
 have HZ:=hide hz
 clear bs3 bx hz
 go_wp2_with fail
 go_at_call 103
 refine(ah KQ w3 xg).mono ?_
 rintro e w4 ⟨rfl,rfl⟩
 have px1:=ah HPO _ _ ((ah HBX).alloc (.cells #[.pointer (some ⟨xg,px,none⟩)] 179))
 have fc1:=aj (Bl.new w3 #[.pointer (some ⟨xg,px,none⟩)] 179)
 have K4:=hide (ah KV _ ks xg (xg+1) (ah HKL) (ah HK2) (by omega) (ah L3))
 rw[ah HZ] at fc1
 clear KQ HPO HBX KV L3 i0
 go_upto_region 10 with fail
 change Code.wp _ _ _ _ (w3.alloc (.cells #[.pointer (some ⟨xg,px,none⟩)] 179))
 generalize w3.alloc (.cells #[.pointer (some ⟨xg,px,none⟩)] 179)=w5 at *
 simp only[ah HZ]
 clear HZ
 go_wp2_with fail
 go_at_call 44
 refine(ah K4).mono ?_
 rintro e w6 ⟨rfl,Z1⟩
 obtain⟨t0,t1,bk1⟩:=ah HC1 w6 ks xg (xg+1) (ah Z1)
 have i0:=bk1.cell 0 _ rfl
 have i1:=bk1.cell 1 _ rfl
 have i2:=bk1.cell 2 _ rfl
 clear K4 px1 fc1 HC1 bk1
 go_wp2_with fail
 refine wp_loop_rounds 3 ?_
 rw[rounds_succ]
 have KX2:=hide (ah KE2 _ ks xg (xg+1) (ah HKL) (ah HK2) (by omega) (ah Z1))
 clear KE2 Z1
 go_wp2_with fail
 go_at_call 105
 refine(ah KX2).mono ?_
 rintro e w7 ⟨rfl,Z2⟩
 obtain⟨t0,t1,bk2⟩:=ah HC2 _ ks xg (xg+1) (ah Z2)
 have i20:=bk2.cell 0 _ rfl
 have i21:=bk2.cell 1 _ rfl
 have i22:=bk2.cell 2 _ rfl
 clear KX2 HC2 bk2
 go_wp2_with fail
 rw[rounds_succ]
 have KX3:=hide (ah KE3 _ ks xg (xg+1) (ah HKL) (ah HK2) (by omega) (ah Z2))
 clear KE3 Z2
 go_wp2_with fail
 go_at_call 105
 refine(ah KX3).mono ?_
 rintro e w8 ⟨rfl,Z3⟩
 obtain⟨t0,t1,bk3⟩:=ah HC3 _ ks xg (xg+1) (ah Z3)
 have i30:=bk3.cell 0 _ rfl
 have i31:=bk3.cell 1 _ rfl
 have i32:=bk3.cell 2 _ rfl
 clear KX3 HC3 bk3
 go_wp2_with fail
 rw[rounds_succ]
 go_wp2_with fail
 go_ret2
 exact⟨rfl,hide (ah HO _ _ _ _ (ah Z3))⟩
theorem aaw {w P G E g o}{rows:List (Nat×Obj)}{i V F V' K u}{a tb bk at0 s0:Nat}{fg tg og:Nat}{q0:Bool}{X X1:Nat->Int}{j ix:Int}{b1 e1:Int}{E1:Nat->Bool}{V1:Nat->List Int}{q1:Bool}(h:Lp w P G E g o ((fg,zB q0)::rows) i V F V' K u)(ht:(tb,tbO a P)∈rows)(h0:0<w.heap.size)(hwf:w.heap.size<=fg)(hfg:∀ y∈rows,y.1≠fg)(p1:gU P j=0)(p2:jE P j=(bk:Int))(p3:jF P j=(at0:Int))(hfit:at0+32<=G.blk)(hb:E bk=true)(hi:iQ (((V' bk).drop at0).take 32))(hX:Iv (bG (((V' bk).drop at0).take 32))=Iv X)(hs:s0<=9)(HS:Hid (∀ v,Calls Tryz.prog 102 #[Pv P,.int .i64 ix] v fun r w'=>(∃ k,r=.returned (.tuple #[.slice (some ⟨k,0,none⟩) 1 1,.int .i64 0])/\v.heap.size<=k/\w'.heap[k]?=some (zI (s0:Int)))/\Below v.heap.size v w'))(HV:aeG w P G g o i V F K rows fg tg og tb j (pof s0) true X q0 E V' b1 e1 X1 q1 E1 V1) :
  Calls Tryz.prog 43 #[.pointer (some ⟨tb,0,none⟩),.pointer (some ⟨o,0,none⟩),.int .i64 j,.int .i64 ix,.func (.func 45) #[] #[.pointer (some ⟨fg,0,none⟩),.pointer (some ⟨tg,0,none⟩),.pointer (some ⟨og,0,none⟩)]] u fun r u'=>r=.returned (.tuple #[.int .i64 b1,.int .i64 e1])/\Hid (Lp w P G E1 g o ((fg,zB q1)::rows) i V F V1 K u'):=by
 have hwu:w.heap.size<=u.heap.size:=h.bel.size
 have hfu:fg<u.heap.size:=h.lt (x:=(fg,zB q0)) (by simp)
 have L0:Hid (Lp w P G E g o ((fg,zB q0)::((u.heap.size+2),zI j)::((u.heap.size+1),zC o 32)::(u.heap.size,zC tb 29)::rows) i V F V' K (((u.alloc (zC tb 29)).alloc (zC o 32)).alloc (zI j))):=(h.yD _ _ _).sub (fun x hx=>by
  simp only[List.mem_cons] at hx ⊢
  rcases hx with h | h | h | h | h<;>simp[h])
 have hlt0:∀ y∈rows,y.1<u.heap.size:=fun y hy=>h.lt (List.mem_cons_of_mem _ hy)
 have HT:Hid (∀ v E2 V2 qq,Lp w P G E2 g o ((fg,zB qq)::((u.heap.size+2),zI j)::((u.heap.size+1),zC o 32)::(u.heap.size,zC tb 29)::rows) i V F V2 K v->v.heap[tb]?=some (tbO a P)/\v.cell? ⟨u.heap.size,0,none⟩=some (.pointer (some ⟨tb,0,none⟩))/\v.cell? ⟨u.heap.size+1,0,none⟩=some (.pointer (some ⟨o,0,none⟩))/\v.cell? ⟨u.heap.size+2,0,none⟩=some (.int .i64 j)/\u.heap.size+2<v.heap.size):=fun v E2 V2 qq hv =>
  ⟨hv.row (List.mem_cons_of_mem _ (List.mem_cons_of_mem _ (List.mem_cons_of_mem _ (List.mem_cons_of_mem _ (ht))))),aj (hv.row (x:=(u.heap.size,zC tb 29)) (by simp)),aj (hv.row (x:=((u.heap.size+1),zC o 32)) (by simp)),aj (hv.row (x:=((u.heap.size+2),zI j)) (by simp)),hv.lt (x:=((u.heap.size+2),zI j)) (by simp)⟩
 have KS:Hid (∀ v,Lp w P G E g o ((fg,zB q0)::((u.heap.size+2),zI j)::((u.heap.size+1),zC o 32)::(u.heap.size,zC tb 29)::rows) i V F V' K v->Calls Tryz.prog 102 #[Pv P,.int .i64 ix] v fun r w'=>∃ ks,r=.returned (.tuple #[.slice (some ⟨ks,0,none⟩) 1 1,.int .i64 0])/\Hid (v.heap.size<=ks/\Lp w P G E g o ((fg,zB q0)::(ks,zI (s0:Int))::((u.heap.size+2),zI j)::((u.heap.size+1),zC o 32)::(u.heap.size,zC tb 29)::rows) i V F V' K w')):=fun v hv=>by
  refine(ah HS v).mono ?_
  rintro r w' ⟨⟨k,rfl,hk1,hk2⟩,b1⟩
  exact⟨k,rfl,hk1,(hv.push b1 hk1 hk2).sub aK⟩
 have KG:Hid (∀ v ks,Lp w P G E g o ((fg,zB q0)::(ks,zI (s0:Int))::((u.heap.size+2),zI j)::((u.heap.size+1),zC o 32)::(u.heap.size,zC tb 29)::rows) i V F V' K v->Calls Tryz.prog 19 #[.pointer (some ⟨tb,0,none⟩),.pointer (some ⟨o,0,none⟩),.int .i64 j] v fun r u'=>r=.returned (.tuple #[Iv X,.int .i64 0])/\Hid (Lp w P G E g o ((fg,zB q0)::(ks,zI (s0:Int))::((u.heap.size+2),zI j)::((u.heap.size+1),zC o 32)::(u.heap.size,zC tb 29)::rows) i V F V' K u')):=fun v ks hv=>dJ hv X j (List.mem_cons_of_mem _ (List.mem_cons_of_mem _ (List.mem_cons_of_mem _ (List.mem_cons_of_mem _ (List.mem_cons_of_mem _ (ht)))))) h0 p1 p2 p3 hfit hb hi hX
 have KV:Hid (∀ v ks zxg zfc,u.heap.size+2<ks->ks<zxg->zxg<zfc->Lp w P G E g o ((fg,zB q0)::((zxg),.cells (Ic X) 50)::((zfc),.cells #[.pointer (some ⟨zxg,pof s0,none⟩)] 179)::(ks,zI (s0:Int))::((u.heap.size+2),zI j)::((u.heap.size+1),zC o 32)::(u.heap.size,zC tb 29)::rows) i V F V' K v->Calls Tryz.prog 45 #[.agg #[.int .i64 (X (pof s0)),.bool true,.func (.func 104) #[] #[.pointer (some ⟨zfc,0,none⟩),.pointer (some ⟨u.heap.size,0,none⟩),.pointer (some ⟨u.heap.size+1,0,none⟩),.pointer (some ⟨u.heap.size+2,0,none⟩),.pointer (some ⟨zxg,0,none⟩)]],.pointer (some ⟨fg,0,none⟩),.pointer (some ⟨tg,0,none⟩),.pointer (some ⟨og,0,none⟩)] v fun r u'=>r=.returned (.tuple #[.int .i64 b1,.int .i64 e1])/\Hid (Lp w P G E1 g o ((fg,zB q1)::((zxg),.cells (Ic X1) 50)::((zfc),.cells #[.pointer (some ⟨zxg,pof s0,none⟩)] 179)::(ks,zI (s0:Int))::((u.heap.size+2),zI j)::((u.heap.size+1),zC o 32)::(u.heap.size,zC tb 29)::rows) i V F V1 K u')):=fun v ks zxg zfc c1 c2 c3 hv=>by
  refine HV v zxg zfc u.heap.size (u.heap.size+1) (u.heap.size+2) _ (by simp) (by simp) (by simp) (by simp) (by omega) (fun y hy=>?_) (by omega) (fun y hy=>?_) (fun y hy=>by simp[hy]) hv
  ·simp only[List.mem_cons] at hy
   rcases hy with rfl | rfl | rfl | rfl | rfl | hy
   ·show zfc≠zxg;omega
   ·show ks≠zxg;omega
   ·show u.heap.size+2≠zxg;omega
   ·show u.heap.size+1≠zxg;omega
   ·show u.heap.size≠zxg;omega
   ·have:=hlt0 y hy;omega
  ·simp only[List.mem_cons] at hy
   rcases hy with rfl | rfl | rfl | rfl | rfl | rfl | hy
   ·show zxg≠fg;omega
   ·show zfc≠fg;omega
   ·show ks≠fg;omega
   ·show u.heap.size+2≠fg;omega
   ·show u.heap.size+1≠fg;omega
   ·show u.heap.size≠fg;omega
   ·exact hfg y hy
 have HC1:Hid (∀ v ks zxg zfc,Lp w P G E1 g o ((fg,zB q1)::((zxg),.cells (Ic X1) 50)::((zfc),.cells #[.pointer (some ⟨zxg,pof s0,none⟩)] 179)::(ks,zI (s0:Int))::((u.heap.size+2),zI j)::((u.heap.size+1),zC o 32)::(u.heap.size,zC tb 29)::rows) i V F V1 K v->v.cell? ⟨u.heap.size,0,none⟩=some (.pointer (some ⟨tb,0,none⟩))/\v.cell? ⟨u.heap.size+1,0,none⟩=some (.pointer (some ⟨o,0,none⟩))/\Bl v ks #[.int .i64 (s0:Int)] 3):=fun v ks zxg zfc hv=>⟨aj (hv.row (x:=(u.heap.size,zC tb 29)) (by simp)),aj (hv.row (x:=((u.heap.size+1),zC o 32)) (by simp)),hv.row (x:=(ks,zI (s0:Int))) (by simp)⟩
 have HO:Hid (∀ v ks zxg zfc,Lp w P G E1 g o ((fg,zB q1)::((zxg),.cells (Ic X1) 50)::((zfc),.cells #[.pointer (some ⟨zxg,pof s0,none⟩)] 179)::(ks,zI (s0:Int))::((u.heap.size+2),zI j)::((u.heap.size+1),zC o 32)::(u.heap.size,zC tb 29)::rows) i V F V1 K v->Lp w P G E1 g o ((fg,zB q1)::rows) i V F V1 K v):=fun v ks zxg zfc hv=>hv.sub (fun x hx=>by
  simp only[List.mem_cons] at hx ⊢
  rcases hx with h | h<;>simp[h])
 have HX:Hid (∀ v ks,Lp w P G E g o ((fg,zB q0)::(ks,zI (s0:Int))::((u.heap.size+2),zI j)::((u.heap.size+1),zC o 32)::(u.heap.size,zC tb 29)::rows) i V F V' K v->u.heap.size+2<ks/\ks<v.heap.size/\Bl v ks #[.int .i64 (s0:Int)] 3->Lp w P G E g o ((fg,zB q0)::((v.heap.size),.cells (Ic X) 50)::((v.heap.size+1),.cells #[.pointer (some ⟨v.heap.size,pof s0,none⟩)] 179)::(ks,zI (s0:Int))::((u.heap.size+2),zI j)::((u.heap.size+1),zC o 32)::(u.heap.size,zC tb 29)::rows) i V F V' K ((v.alloc (.cells (Ic X) 50)).alloc (.cells #[.pointer (some ⟨v.heap.size,pof s0,none⟩)] 179))):=fun v ks hv _=>by
  have:=hv.new2 (.cells (Ic X) 50) (.cells #[.pointer (some ⟨v.heap.size,pof s0,none⟩)] 179)
  exact this.sub (fun x hx=>by
   simp only[List.mem_cons] at hx ⊢
   rcases hx with h | h | h | h | h | h | h | h<;>simp[h])
 have HKS:Hid (∀ v ks,Lp w P G E g o ((fg,zB q0)::(ks,zI (s0:Int))::((u.heap.size+2),zI j)::((u.heap.size+1),zC o 32)::(u.heap.size,zC tb 29)::rows) i V F V' K v->u.heap.size+2<v.heap.size/\ks<v.heap.size/\Bl v ks #[.int .i64 (s0:Int)] 3):=fun v ks hv=>⟨hv.lt (x:=((u.heap.size+2),zI j)) (by simp),hv.lt (x:=(ks,zI (s0:Int))) (by simp),hv.row (x:=(ks,zI (s0:Int))) (by simp)⟩
 have KQ:Hid (∀ v xg,Calls Tryz.prog 103 #[.pointer (some ⟨xg,0,none⟩),.int .i64 (s0:Int)] v fun r u'=>r=.returned (.pointer (some ⟨xg,pof s0,none⟩))/\v=u'):=fun v xg=>aO xg s0 v hs
 have hpo:=(fO hs).1
 have HPO:Hid (∀ v xg,Bl v xg (Ic X) 50->v.cell? ⟨xg,pof s0,none⟩=some (.int .i64 (X (pof s0)))):=fun v xg hv=>hv.cell _ _ (mF X hpo)
 clear h ht h0 p1 p2 p3 hfit hb hi hX hs HS HV  hlt0 hwu hpo hwf hfg hfu
 generalize (s0:Int)=si at *
 generalize hps:pof s0=px at *
 clear hps
 generalize X px=xv at *
 go_enter Tryz.func43,Tryz.ntmps43
 go_upto_region 1 with fail
 change Code.wp _ _ _ _ (((u.alloc (zC tb 29)).alloc (zC o 32)).alloc (zI j))
 generalize (((u.alloc (zC tb 29)).alloc (zC o 32)).alloc (zI j))=w0 at *
 generalize u.heap.size=m at *
 obtain⟨tc,d0,d1,d2,hms⟩:=ah HT _ _ _ _ (ah L0)
 obtain⟨f0,f1,f2,f3,f4,f5,f6,f7,f8,f9,f10,f11⟩:=aS tc
 have K1:=hide (ah KS w0 (ah L0))
 have HMS:=hide hms
 clear KS L0 tc hms
 go_wp2_with fail
 go_at_call 102
 refine(ah K1).mono ?_
 rintro e w1 ⟨ks,rfl,Y1⟩
 obtain⟨hks,L1⟩:=ah Y1
 have HKL:=hide (Nat.lt_of_lt_of_le (ah HMS) hks)
 have K2:=hide (ah KG w1 ks L1)
 obtain⟨_,d0',d1',d2',_⟩:=ah HT w1 _ _ _ ((L1.sub aK).pop)
 clear K1 Y1 KG hks L1 HMS HT d0 d1 d2 f0 f1 f2 f3 f4 f5 f6 f7 f8 f9 f10 f11
 go_wp2_with fail
 go_at_call 19
 refine(ah K2).mono ?_
 rintro e w2 ⟨rfl,L2⟩
 obtain⟨_,hk2,bs⟩:=ah HKS w2 ks (ah L2)
 have L3:=hide (ah HX w2 ks (ah L2) ⟨ah HKL,hk2,bs⟩)
 have HK2:=hide hk2
 have bx:=Bl.new w2 (Ic X) 50
 have bs3:=bs.alloc (.cells (Ic X) 50)
 clear K2 HKS HX L2 d0' d1' d2' hk2 bs
 go_upto_region 7 with fail
 change Code.wp _ _ _ _ (w2.alloc (.cells (Ic X) 50))
 have hz:(w2.alloc (.cells (Ic X) 50)).heap.size=w2.heap.size+1:=size_alloc _ _
 generalize w2.alloc (.cells (Ic X) 50)=w3 at *
 generalize w2.heap.size=xg at *
 have i0:=bs3.cell 0 _ rfl
 have HBX:=hide bx
 have HZ:=hide hz
 clear bs3 bx hz
 go_wp2_with fail
 go_at_call 103
 refine(ah KQ w3 xg).mono ?_
 rintro e w4 ⟨rfl,rfl⟩
 have px1:=ah HPO _ _ ((ah HBX).alloc (.cells #[.pointer (some ⟨xg,px,none⟩)] 179))
 have fc1:=aj (Bl.new w3 #[.pointer (some ⟨xg,px,none⟩)] 179)
 have K4:=hide (ah KV _ ks xg (xg+1) (ah HKL) (ah HK2) (by omega) (ah L3))
 rw[ah HZ] at fc1
 clear KQ HPO HBX KV L3 i0
 go_upto_region 10 with fail
 change Code.wp _ _ _ _ (w3.alloc (.cells #[.pointer (some ⟨xg,px,none⟩)] 179))
 generalize w3.alloc (.cells #[.pointer (some ⟨xg,px,none⟩)] 179)=w5 at *
 simp only[ah HZ]
 clear HZ
 go_wp2_with fail
 go_at_call 45
 refine(ah K4).mono ?_
 rintro e w6 ⟨rfl,Z1⟩
 obtain⟨t0,t1,bk1⟩:=ah HC1 w6 ks xg (xg+1) (ah Z1)
 have i0:=bk1.cell 0 _ rfl
 clear K4 px1 fc1 HC1 bk1
 go_wp2_with fail
 refine wp_loop_rounds 1 ?_
 rw[rounds_succ]
 go_wp2_with fail
 go_ret2
 exact⟨rfl,hide (ah HO _ _ _ _ (ah Z1))⟩
theorem agl {w P G E g o}{rows:List (Nat×Obj)}{i V F V' K u}{a tb bk at0 s0:Nat}{fg tg og:Nat}{q0:Bool}{s1:Int}{X X1:Nat->Int}{j ix:Int}{b1 e1:Int}{E1:Nat->Bool}{V1:Nat->List Int}{q1:Bool}{b2 e2:Int}{E2:Nat->Bool}{V2:Nat->List Int}{q2:Bool}(h:Lp w P G E g o ((fg,zB q0)::rows) i V F V' K u)(ht:(tb,tbO a P)∈rows)(h0:0<w.heap.size)(hwf:w.heap.size<=fg)(hfg:∀ y∈rows,y.1≠fg)(p1:gU P j=0)(p2:jE P j=(bk:Int))(p3:jF P j=(at0:Int))(hfit:at0+32<=G.blk)(hb:E bk=true)(hi:iQ (((V' bk).drop at0).take 32))(hX:Iv (bG (((V' bk).drop at0).take 32))=Iv X)(hs:s0<=9)(HS:Hid (∀ v,Calls Tryz.prog 102 #[Pv P,.int .i64 ix] v fun r w'=>(∃ k,r=.returned (.tuple #[.slice (some ⟨k,0,none⟩) 2 2,.int .i64 0])/\v.heap.size<=k/\w'.heap[k]?=some (.cells #[.int .i64 (s0:Int),.int .i64 s1] 3))/\Below v.heap.size v w'))(HV:aeG w P G g o i V F K rows fg tg og tb j (pof s0) false X q0 E V' b1 e1 X1 q1 E1 V1)(HE2:aeP w P G g o i V F K rows fg tg og tb b1 s1 true q1 E1 V1 b2 e2 q2 E2 V2)(hc1:e1=0/\b1≠0) :
  Calls Tryz.prog 43 #[.pointer (some ⟨tb,0,none⟩),.pointer (some ⟨o,0,none⟩),.int .i64 j,.int .i64 ix,.func (.func 45) #[] #[.pointer (some ⟨fg,0,none⟩),.pointer (some ⟨tg,0,none⟩),.pointer (some ⟨og,0,none⟩)]] u fun r u'=>r=.returned (.tuple #[.int .i64 b2,.int .i64 e2])/\Hid (Lp w P G E2 g o ((fg,zB q2)::rows) i V F V2 K u'):=by
 have hwu:w.heap.size<=u.heap.size:=h.bel.size
 have hfu:fg<u.heap.size:=h.lt (x:=(fg,zB q0)) (by simp)
 have L0:Hid (Lp w P G E g o ((fg,zB q0)::((u.heap.size+2),zI j)::((u.heap.size+1),zC o 32)::(u.heap.size,zC tb 29)::rows) i V F V' K (((u.alloc (zC tb 29)).alloc (zC o 32)).alloc (zI j))):=(h.yD _ _ _).sub (fun x hx=>by
  simp only[List.mem_cons] at hx ⊢
  rcases hx with h | h | h | h | h<;>simp[h])
 have hlt0:∀ y∈rows,y.1<u.heap.size:=fun y hy=>h.lt (List.mem_cons_of_mem _ hy)
 have HT:Hid (∀ v E2 V2 qq,Lp w P G E2 g o ((fg,zB qq)::((u.heap.size+2),zI j)::((u.heap.size+1),zC o 32)::(u.heap.size,zC tb 29)::rows) i V F V2 K v->v.heap[tb]?=some (tbO a P)/\v.cell? ⟨u.heap.size,0,none⟩=some (.pointer (some ⟨tb,0,none⟩))/\v.cell? ⟨u.heap.size+1,0,none⟩=some (.pointer (some ⟨o,0,none⟩))/\v.cell? ⟨u.heap.size+2,0,none⟩=some (.int .i64 j)/\u.heap.size+2<v.heap.size):=fun v E2 V2 qq hv =>
  ⟨hv.row (List.mem_cons_of_mem _ (List.mem_cons_of_mem _ (List.mem_cons_of_mem _ (List.mem_cons_of_mem _ (ht))))),aj (hv.row (x:=(u.heap.size,zC tb 29)) (by simp)),aj (hv.row (x:=((u.heap.size+1),zC o 32)) (by simp)),aj (hv.row (x:=((u.heap.size+2),zI j)) (by simp)),hv.lt (x:=((u.heap.size+2),zI j)) (by simp)⟩
 have KS:Hid (∀ v,Lp w P G E g o ((fg,zB q0)::((u.heap.size+2),zI j)::((u.heap.size+1),zC o 32)::(u.heap.size,zC tb 29)::rows) i V F V' K v->Calls Tryz.prog 102 #[Pv P,.int .i64 ix] v fun r w'=>∃ ks,r=.returned (.tuple #[.slice (some ⟨ks,0,none⟩) 2 2,.int .i64 0])/\Hid (v.heap.size<=ks/\Lp w P G E g o ((fg,zB q0)::(ks,.cells #[.int .i64 (s0:Int),.int .i64 s1] 3)::((u.heap.size+2),zI j)::((u.heap.size+1),zC o 32)::(u.heap.size,zC tb 29)::rows) i V F V' K w')):=fun v hv=>by
  refine(ah HS v).mono ?_
  rintro r w' ⟨⟨k,rfl,hk1,hk2⟩,b1⟩
  exact⟨k,rfl,hk1,(hv.push b1 hk1 hk2).sub aK⟩
 have KG:Hid (∀ v ks,Lp w P G E g o ((fg,zB q0)::(ks,.cells #[.int .i64 (s0:Int),.int .i64 s1] 3)::((u.heap.size+2),zI j)::((u.heap.size+1),zC o 32)::(u.heap.size,zC tb 29)::rows) i V F V' K v->Calls Tryz.prog 19 #[.pointer (some ⟨tb,0,none⟩),.pointer (some ⟨o,0,none⟩),.int .i64 j] v fun r u'=>r=.returned (.tuple #[Iv X,.int .i64 0])/\Hid (Lp w P G E g o ((fg,zB q0)::(ks,.cells #[.int .i64 (s0:Int),.int .i64 s1] 3)::((u.heap.size+2),zI j)::((u.heap.size+1),zC o 32)::(u.heap.size,zC tb 29)::rows) i V F V' K u')):=fun v ks hv=>dJ hv X j (List.mem_cons_of_mem _ (List.mem_cons_of_mem _ (List.mem_cons_of_mem _ (List.mem_cons_of_mem _ (List.mem_cons_of_mem _ (ht)))))) h0 p1 p2 p3 hfit hb hi hX
 have KV:Hid (∀ v ks zxg zfc,u.heap.size+2<ks->ks<zxg->zxg<zfc->Lp w P G E g o ((fg,zB q0)::((zxg),.cells (Ic X) 50)::((zfc),.cells #[.pointer (some ⟨zxg,pof s0,none⟩)] 179)::(ks,.cells #[.int .i64 (s0:Int),.int .i64 s1] 3)::((u.heap.size+2),zI j)::((u.heap.size+1),zC o 32)::(u.heap.size,zC tb 29)::rows) i V F V' K v->Calls Tryz.prog 45 #[.agg #[.int .i64 (X (pof s0)),.bool false,.func (.func 104) #[] #[.pointer (some ⟨zfc,0,none⟩),.pointer (some ⟨u.heap.size,0,none⟩),.pointer (some ⟨u.heap.size+1,0,none⟩),.pointer (some ⟨u.heap.size+2,0,none⟩),.pointer (some ⟨zxg,0,none⟩)]],.pointer (some ⟨fg,0,none⟩),.pointer (some ⟨tg,0,none⟩),.pointer (some ⟨og,0,none⟩)] v fun r u'=>r=.returned (.tuple #[.int .i64 b1,.int .i64 e1])/\Hid (Lp w P G E1 g o ((fg,zB q1)::((zxg),.cells (Ic X1) 50)::((zfc),.cells #[.pointer (some ⟨zxg,pof s0,none⟩)] 179)::(ks,.cells #[.int .i64 (s0:Int),.int .i64 s1] 3)::((u.heap.size+2),zI j)::((u.heap.size+1),zC o 32)::(u.heap.size,zC tb 29)::rows) i V F V1 K u')):=fun v ks zxg zfc c1 c2 c3 hv=>by
  refine HV v zxg zfc u.heap.size (u.heap.size+1) (u.heap.size+2) _ (by simp) (by simp) (by simp) (by simp) (by omega) (fun y hy=>?_) (by omega) (fun y hy=>?_) (fun y hy=>by simp[hy]) hv
  ·simp only[List.mem_cons] at hy
   rcases hy with rfl | rfl | rfl | rfl | rfl | hy
   ·show zfc≠zxg;omega
   ·show ks≠zxg;omega
   ·show u.heap.size+2≠zxg;omega
   ·show u.heap.size+1≠zxg;omega
   ·show u.heap.size≠zxg;omega
   ·have:=hlt0 y hy;omega
  ·simp only[List.mem_cons] at hy
   rcases hy with rfl | rfl | rfl | rfl | rfl | rfl | hy
   ·show zxg≠fg;omega
   ·show zfc≠fg;omega
   ·show ks≠fg;omega
   ·show u.heap.size+2≠fg;omega
   ·show u.heap.size+1≠fg;omega
   ·show u.heap.size≠fg;omega
   ·exact hfg y hy
 have KE2:Hid (∀ v ks zxg zfc,u.heap.size+2<ks->ks<zxg->zxg<zfc->Lp w P G E1 g o ((fg,zB q1)::((zxg),.cells (Ic X1) 50)::((zfc),.cells #[.pointer (some ⟨zxg,pof s0,none⟩)] 179)::(ks,.cells #[.int .i64 (s0:Int),.int .i64 s1] 3)::((u.heap.size+2),zI j)::((u.heap.size+1),zC o 32)::(u.heap.size,zC tb 29)::rows) i V F V1 K v->Calls Tryz.prog 105 #[.pointer (some ⟨tb,0,none⟩),.pointer (some ⟨o,0,none⟩),.int .i64 b1,.int .i64 s1,.bool true,.func (.func 45) #[] #[.pointer (some ⟨fg,0,none⟩),.pointer (some ⟨tg,0,none⟩),.pointer (some ⟨og,0,none⟩)]] v fun r u'=>r=.returned (.tuple #[.int .i64 b2,.int .i64 e2])/\Hid (Lp w P G E2 g o ((fg,zB q2)::((zxg),.cells (Ic X1) 50)::((zfc),.cells #[.pointer (some ⟨zxg,pof s0,none⟩)] 179)::(ks,.cells #[.int .i64 (s0:Int),.int .i64 s1] 3)::((u.heap.size+2),zI j)::((u.heap.size+1),zC o 32)::(u.heap.size,zC tb 29)::rows) i V F V2 K u')):=fun v ks zxg zfc c1 c2 c3 hv=>by
  refine HE2 v _ (fun y hy=>by simp[hy]) (fun y hy=>?_) hv
  simp only[List.mem_cons] at hy
  rcases hy with rfl | rfl | rfl | rfl | rfl | rfl | hy
  ·show zxg≠fg;omega
  ·show zfc≠fg;omega
  ·show ks≠fg;omega
  ·show u.heap.size+2≠fg;omega
  ·show u.heap.size+1≠fg;omega
  ·show u.heap.size≠fg;omega
  ·exact hfg y hy
 have HC1:Hid (∀ v ks zxg zfc,Lp w P G E1 g o ((fg,zB q1)::((zxg),.cells (Ic X1) 50)::((zfc),.cells #[.pointer (some ⟨zxg,pof s0,none⟩)] 179)::(ks,.cells #[.int .i64 (s0:Int),.int .i64 s1] 3)::((u.heap.size+2),zI j)::((u.heap.size+1),zC o 32)::(u.heap.size,zC tb 29)::rows) i V F V1 K v->v.cell? ⟨u.heap.size,0,none⟩=some (.pointer (some ⟨tb,0,none⟩))/\v.cell? ⟨u.heap.size+1,0,none⟩=some (.pointer (some ⟨o,0,none⟩))/\Bl v ks #[.int .i64 (s0:Int),.int .i64 s1] 3):=fun v ks zxg zfc hv=>⟨aj (hv.row (x:=(u.heap.size,zC tb 29)) (by simp)),aj (hv.row (x:=((u.heap.size+1),zC o 32)) (by simp)),hv.row (x:=(ks,.cells #[.int .i64 (s0:Int),.int .i64 s1] 3)) (by simp)⟩
 have HC2:Hid (∀ v ks zxg zfc,Lp w P G E2 g o ((fg,zB q2)::((zxg),.cells (Ic X1) 50)::((zfc),.cells #[.pointer (some ⟨zxg,pof s0,none⟩)] 179)::(ks,.cells #[.int .i64 (s0:Int),.int .i64 s1] 3)::((u.heap.size+2),zI j)::((u.heap.size+1),zC o 32)::(u.heap.size,zC tb 29)::rows) i V F V2 K v->v.cell? ⟨u.heap.size,0,none⟩=some (.pointer (some ⟨tb,0,none⟩))/\v.cell? ⟨u.heap.size+1,0,none⟩=some (.pointer (some ⟨o,0,none⟩))/\Bl v ks #[.int .i64 (s0:Int),.int .i64 s1] 3):=fun v ks zxg zfc hv=>⟨aj (hv.row (x:=(u.heap.size,zC tb 29)) (by simp)),aj (hv.row (x:=((u.heap.size+1),zC o 32)) (by simp)),hv.row (x:=(ks,.cells #[.int .i64 (s0:Int),.int .i64 s1] 3)) (by simp)⟩
 have HO:Hid (∀ v ks zxg zfc,Lp w P G E2 g o ((fg,zB q2)::((zxg),.cells (Ic X1) 50)::((zfc),.cells #[.pointer (some ⟨zxg,pof s0,none⟩)] 179)::(ks,.cells #[.int .i64 (s0:Int),.int .i64 s1] 3)::((u.heap.size+2),zI j)::((u.heap.size+1),zC o 32)::(u.heap.size,zC tb 29)::rows) i V F V2 K v->Lp w P G E2 g o ((fg,zB q2)::rows) i V F V2 K v):=fun v ks zxg zfc hv=>hv.sub (fun x hx=>by
  simp only[List.mem_cons] at hx ⊢
  rcases hx with h | h<;>simp[h])
 have HX:Hid (∀ v ks,Lp w P G E g o ((fg,zB q0)::(ks,.cells #[.int .i64 (s0:Int),.int .i64 s1] 3)::((u.heap.size+2),zI j)::((u.heap.size+1),zC o 32)::(u.heap.size,zC tb 29)::rows) i V F V' K v->u.heap.size+2<ks/\ks<v.heap.size/\Bl v ks #[.int .i64 (s0:Int),.int .i64 s1] 3->Lp w P G E g o ((fg,zB q0)::((v.heap.size),.cells (Ic X) 50)::((v.heap.size+1),.cells #[.pointer (some ⟨v.heap.size,pof s0,none⟩)] 179)::(ks,.cells #[.int .i64 (s0:Int),.int .i64 s1] 3)::((u.heap.size+2),zI j)::((u.heap.size+1),zC o 32)::(u.heap.size,zC tb 29)::rows) i V F V' K ((v.alloc (.cells (Ic X) 50)).alloc (.cells #[.pointer (some ⟨v.heap.size,pof s0,none⟩)] 179))):=fun v ks hv _=>by
  have:=hv.new2 (.cells (Ic X) 50) (.cells #[.pointer (some ⟨v.heap.size,pof s0,none⟩)] 179)
  exact this.sub (fun x hx=>by
   simp only[List.mem_cons] at hx ⊢
   rcases hx with h | h | h | h | h | h | h | h<;>simp[h])
 have HKS:Hid (∀ v ks,Lp w P G E g o ((fg,zB q0)::(ks,.cells #[.int .i64 (s0:Int),.int .i64 s1] 3)::((u.heap.size+2),zI j)::((u.heap.size+1),zC o 32)::(u.heap.size,zC tb 29)::rows) i V F V' K v->u.heap.size+2<v.heap.size/\ks<v.heap.size/\Bl v ks #[.int .i64 (s0:Int),.int .i64 s1] 3):=fun v ks hv=>⟨hv.lt (x:=((u.heap.size+2),zI j)) (by simp),hv.lt (x:=(ks,.cells #[.int .i64 (s0:Int),.int .i64 s1] 3)) (by simp),hv.row (x:=(ks,.cells #[.int .i64 (s0:Int),.int .i64 s1] 3)) (by simp)⟩
 have KQ:Hid (∀ v xg,Calls Tryz.prog 103 #[.pointer (some ⟨xg,0,none⟩),.int .i64 (s0:Int)] v fun r u'=>r=.returned (.pointer (some ⟨xg,pof s0,none⟩))/\v=u'):=fun v xg=>aO xg s0 v hs
 have hpo:=(fO hs).1
 have HPO:Hid (∀ v xg,Bl v xg (Ic X) 50->v.cell? ⟨xg,pof s0,none⟩=some (.int .i64 (X (pof s0)))):=fun v xg hv=>hv.cell _ _ (mF X hpo)
 clear h ht h0 p1 p2 p3 hfit hb hi hX hs HS HV HE2 hlt0 hwu hpo hwf hfg hfu
 obtain⟨vZ,wo⟩:=hc1
 have ce1:(e1 != 0)=false:=by simp[vZ]
 have cb1:(b1==0)=false:=by simpa using wo
 clear vZ wo
 generalize (s0:Int)=si at *
 generalize hps:pof s0=px at *
 clear hps
 generalize X px=xv at *
 go_enter Tryz.func43,Tryz.ntmps43
 go_upto_region 1 with fail
 change Code.wp _ _ _ _ (((u.alloc (zC tb 29)).alloc (zC o 32)).alloc (zI j))
 generalize (((u.alloc (zC tb 29)).alloc (zC o 32)).alloc (zI j))=w0 at *
 generalize u.heap.size=m at *
 obtain⟨tc,d0,d1,d2,hms⟩:=ah HT _ _ _ _ (ah L0)
 obtain⟨f0,f1,f2,f3,f4,f5,f6,f7,f8,f9,f10,f11⟩:=aS tc
 have K1:=hide (ah KS w0 (ah L0))
 have HMS:=hide hms
 clear KS L0 tc hms
 go_wp2_with fail
 go_at_call 102
 refine(ah K1).mono ?_
 rintro e w1 ⟨ks,rfl,Y1⟩
 obtain⟨hks,L1⟩:=ah Y1
 have HKL:=hide (Nat.lt_of_lt_of_le (ah HMS) hks)
 have K2:=hide (ah KG w1 ks L1)
 obtain⟨_,d0',d1',d2',_⟩:=ah HT w1 _ _ _ ((L1.sub aK).pop)
 clear K1 Y1 KG hks L1 HMS HT d0 d1 d2 f0 f1 f2 f3 f4 f5 f6 f7 f8 f9 f10 f11
 go_wp2_with fail
 go_at_call 19
 refine(ah K2).mono ?_
 rintro e w2 ⟨rfl,L2⟩
 obtain⟨_,hk2,bs⟩:=ah HKS w2 ks (ah L2)
 have L3:=hide (ah HX w2 ks (ah L2) ⟨ah HKL,hk2,bs⟩)
 have HK2:=hide hk2
 have bx:=Bl.new w2 (Ic X) 50
 have bs3:=bs.alloc (.cells (Ic X) 50)
 clear K2 HKS HX L2 d0' d1' d2' hk2 bs
 go_upto_region 7 with fail
 change Code.wp _ _ _ _ (w2.alloc (.cells (Ic X) 50))
 have hz:(w2.alloc (.cells (Ic X) 50)).heap.size=w2.heap.size+1:=size_alloc _ _
 generalize w2.alloc (.cells (Ic X) 50)=w3 at *
 generalize w2.heap.size=xg at *
 have i0:=bs3.cell 0 _ rfl
 have HBX:=hide bx
 have HZ:=hide hz
 clear bs3 bx hz
 go_wp2_with fail
 go_at_call 103
 refine(ah KQ w3 xg).mono ?_
 rintro e w4 ⟨rfl,rfl⟩
 have px1:=ah HPO _ _ ((ah HBX).alloc (.cells #[.pointer (some ⟨xg,px,none⟩)] 179))
 have fc1:=aj (Bl.new w3 #[.pointer (some ⟨xg,px,none⟩)] 179)
 have K4:=hide (ah KV _ ks xg (xg+1) (ah HKL) (ah HK2) (by omega) (ah L3))
 rw[ah HZ] at fc1
 clear KQ HPO HBX KV L3 i0
 go_upto_region 10 with fail
 change Code.wp _ _ _ _ (w3.alloc (.cells #[.pointer (some ⟨xg,px,none⟩)] 179))
 generalize w3.alloc (.cells #[.pointer (some ⟨xg,px,none⟩)] 179)=w5 at *
 simp only[ah HZ]
 clear HZ
 go_wp2_with fail
 go_at_call 45
 refine(ah K4).mono ?_
 rintro e w6 ⟨rfl,Z1⟩
 obtain⟨t0,t1,bk1⟩:=ah HC1 w6 ks xg (xg+1) (ah Z1)
 have i0:=bk1.cell 0 _ rfl
 have i1:=bk1.cell 1 _ rfl
 clear K4 px1 fc1 HC1 bk1
 go_wp2_with fail
 refine wp_loop_rounds 2 ?_
 rw[rounds_succ]
 have KX2:=hide (ah KE2 _ ks xg (xg+1) (ah HKL) (ah HK2) (by omega) (ah Z1))
 clear KE2 Z1
 go_wp2_with fail
 go_at_call 105
 refine(ah KX2).mono ?_
 rintro e w7 ⟨rfl,Z2⟩
 obtain⟨t0,t1,bk2⟩:=ah HC2 _ ks xg (xg+1) (ah Z2)
 have i20:=bk2.cell 0 _ rfl
 have i21:=bk2.cell 1 _ rfl
 clear KX2 HC2 bk2
 go_wp2_with fail
 rw[rounds_succ]
 go_wp2_with fail
 go_ret2
 exact⟨rfl,hide (ah HO _ _ _ _ (ah Z2))⟩
theorem abG {w P G E g o}{rows:List (Nat×Obj)}{i V F V' K u}{a tb bk at0 s0:Nat}{fg tg og:Nat}{q0:Bool}{s1 s2:Int}{X X1:Nat->Int}{j ix:Int}{b1 e1:Int}{E1:Nat->Bool}{V1:Nat->List Int}{q1:Bool}{b2 e2:Int}{E2:Nat->Bool}{V2:Nat->List Int}{q2:Bool}{b3 e3:Int}{E3:Nat->Bool}{V3:Nat->List Int}{q3:Bool}(h:Lp w P G E g o ((fg,zB q0)::rows) i V F V' K u)(ht:(tb,tbO a P)∈rows)(h0:0<w.heap.size)(hwf:w.heap.size<=fg)(hfg:∀ y∈rows,y.1≠fg)(p1:gU P j=0)(p2:jE P j=(bk:Int))(p3:jF P j=(at0:Int))(hfit:at0+32<=G.blk)(hb:E bk=true)(hi:iQ (((V' bk).drop at0).take 32))(hX:Iv (bG (((V' bk).drop at0).take 32))=Iv X)(hs:s0<=9)(HS:Hid (∀ v,Calls Tryz.prog 102 #[Pv P,.int .i64 ix] v fun r w'=>(∃ k,r=.returned (.tuple #[.slice (some ⟨k,0,none⟩) 3 3,.int .i64 0])/\v.heap.size<=k/\w'.heap[k]?=some (.cells #[.int .i64 (s0:Int),.int .i64 s1,.int .i64 s2] 3))/\Below v.heap.size v w'))(HV:aeG w P G g o i V F K rows fg tg og tb j (pof s0) false X q0 E V' b1 e1 X1 q1 E1 V1)(HE2:aeP w P G g o i V F K rows fg tg og tb b1 s1 false q1 E1 V1 b2 e2 q2 E2 V2)(HE3:aeP w P G g o i V F K rows fg tg og tb b2 s2 true q2 E2 V2 b3 e3 q3 E3 V3)(hc1:e1=0/\b1≠0)(hc2:e2=0/\b2≠0) :
  Calls Tryz.prog 43 #[.pointer (some ⟨tb,0,none⟩),.pointer (some ⟨o,0,none⟩),.int .i64 j,.int .i64 ix,.func (.func 45) #[] #[.pointer (some ⟨fg,0,none⟩),.pointer (some ⟨tg,0,none⟩),.pointer (some ⟨og,0,none⟩)]] u fun r u'=>r=.returned (.tuple #[.int .i64 b3,.int .i64 e3])/\Hid (Lp w P G E3 g o ((fg,zB q3)::rows) i V F V3 K u'):=by
 have hwu:w.heap.size<=u.heap.size:=h.bel.size
 have hfu:fg<u.heap.size:=h.lt (x:=(fg,zB q0)) (by simp)
 have L0:Hid (Lp w P G E g o ((fg,zB q0)::((u.heap.size+2),zI j)::((u.heap.size+1),zC o 32)::(u.heap.size,zC tb 29)::rows) i V F V' K (((u.alloc (zC tb 29)).alloc (zC o 32)).alloc (zI j))):=(h.yD _ _ _).sub (fun x hx=>by
  simp only[List.mem_cons] at hx ⊢
  rcases hx with h | h | h | h | h<;>simp[h])
 have hlt0:∀ y∈rows,y.1<u.heap.size:=fun y hy=>h.lt (List.mem_cons_of_mem _ hy)
 have HT:Hid (∀ v E2 V2 qq,Lp w P G E2 g o ((fg,zB qq)::((u.heap.size+2),zI j)::((u.heap.size+1),zC o 32)::(u.heap.size,zC tb 29)::rows) i V F V2 K v->v.heap[tb]?=some (tbO a P)/\v.cell? ⟨u.heap.size,0,none⟩=some (.pointer (some ⟨tb,0,none⟩))/\v.cell? ⟨u.heap.size+1,0,none⟩=some (.pointer (some ⟨o,0,none⟩))/\v.cell? ⟨u.heap.size+2,0,none⟩=some (.int .i64 j)/\u.heap.size+2<v.heap.size):=fun v E2 V2 qq hv =>
  ⟨hv.row (List.mem_cons_of_mem _ (List.mem_cons_of_mem _ (List.mem_cons_of_mem _ (List.mem_cons_of_mem _ (ht))))),aj (hv.row (x:=(u.heap.size,zC tb 29)) (by simp)),aj (hv.row (x:=((u.heap.size+1),zC o 32)) (by simp)),aj (hv.row (x:=((u.heap.size+2),zI j)) (by simp)),hv.lt (x:=((u.heap.size+2),zI j)) (by simp)⟩
 have KS:Hid (∀ v,Lp w P G E g o ((fg,zB q0)::((u.heap.size+2),zI j)::((u.heap.size+1),zC o 32)::(u.heap.size,zC tb 29)::rows) i V F V' K v->Calls Tryz.prog 102 #[Pv P,.int .i64 ix] v fun r w'=>∃ ks,r=.returned (.tuple #[.slice (some ⟨ks,0,none⟩) 3 3,.int .i64 0])/\Hid (v.heap.size<=ks/\Lp w P G E g o ((fg,zB q0)::(ks,.cells #[.int .i64 (s0:Int),.int .i64 s1,.int .i64 s2] 3)::((u.heap.size+2),zI j)::((u.heap.size+1),zC o 32)::(u.heap.size,zC tb 29)::rows) i V F V' K w')):=fun v hv=>by
  refine(ah HS v).mono ?_
  rintro r w' ⟨⟨k,rfl,hk1,hk2⟩,b1⟩
  exact⟨k,rfl,hk1,(hv.push b1 hk1 hk2).sub aK⟩
 have KG:Hid (∀ v ks,Lp w P G E g o ((fg,zB q0)::(ks,.cells #[.int .i64 (s0:Int),.int .i64 s1,.int .i64 s2] 3)::((u.heap.size+2),zI j)::((u.heap.size+1),zC o 32)::(u.heap.size,zC tb 29)::rows) i V F V' K v->Calls Tryz.prog 19 #[.pointer (some ⟨tb,0,none⟩),.pointer (some ⟨o,0,none⟩),.int .i64 j] v fun r u'=>r=.returned (.tuple #[Iv X,.int .i64 0])/\Hid (Lp w P G E g o ((fg,zB q0)::(ks,.cells #[.int .i64 (s0:Int),.int .i64 s1,.int .i64 s2] 3)::((u.heap.size+2),zI j)::((u.heap.size+1),zC o 32)::(u.heap.size,zC tb 29)::rows) i V F V' K u')):=fun v ks hv=>dJ hv X j (List.mem_cons_of_mem _ (List.mem_cons_of_mem _ (List.mem_cons_of_mem _ (List.mem_cons_of_mem _ (List.mem_cons_of_mem _ (ht)))))) h0 p1 p2 p3 hfit hb hi hX
 have KV:Hid (∀ v ks zxg zfc,u.heap.size+2<ks->ks<zxg->zxg<zfc->Lp w P G E g o ((fg,zB q0)::((zxg),.cells (Ic X) 50)::((zfc),.cells #[.pointer (some ⟨zxg,pof s0,none⟩)] 179)::(ks,.cells #[.int .i64 (s0:Int),.int .i64 s1,.int .i64 s2] 3)::((u.heap.size+2),zI j)::((u.heap.size+1),zC o 32)::(u.heap.size,zC tb 29)::rows) i V F V' K v->Calls Tryz.prog 45 #[.agg #[.int .i64 (X (pof s0)),.bool false,.func (.func 104) #[] #[.pointer (some ⟨zfc,0,none⟩),.pointer (some ⟨u.heap.size,0,none⟩),.pointer (some ⟨u.heap.size+1,0,none⟩),.pointer (some ⟨u.heap.size+2,0,none⟩),.pointer (some ⟨zxg,0,none⟩)]],.pointer (some ⟨fg,0,none⟩),.pointer (some ⟨tg,0,none⟩),.pointer (some ⟨og,0,none⟩)] v fun r u'=>r=.returned (.tuple #[.int .i64 b1,.int .i64 e1])/\Hid (Lp w P G E1 g o ((fg,zB q1)::((zxg),.cells (Ic X1) 50)::((zfc),.cells #[.pointer (some ⟨zxg,pof s0,none⟩)] 179)::(ks,.cells #[.int .i64 (s0:Int),.int .i64 s1,.int .i64 s2] 3)::((u.heap.size+2),zI j)::((u.heap.size+1),zC o 32)::(u.heap.size,zC tb 29)::rows) i V F V1 K u')):=fun v ks zxg zfc c1 c2 c3 hv=>by
  refine HV v zxg zfc u.heap.size (u.heap.size+1) (u.heap.size+2) _ (by simp) (by simp) (by simp) (by simp) (by omega) (fun y hy=>?_) (by omega) (fun y hy=>?_) (fun y hy=>by simp[hy]) hv
  ·simp only[List.mem_cons] at hy
   rcases hy with rfl | rfl | rfl | rfl | rfl | hy
   ·show zfc≠zxg;omega
   ·show ks≠zxg;omega
   ·show u.heap.size+2≠zxg;omega
   ·show u.heap.size+1≠zxg;omega
   ·show u.heap.size≠zxg;omega
   ·have:=hlt0 y hy;omega
  ·simp only[List.mem_cons] at hy
   rcases hy with rfl | rfl | rfl | rfl | rfl | rfl | hy
   ·show zxg≠fg;omega
   ·show zfc≠fg;omega
   ·show ks≠fg;omega
   ·show u.heap.size+2≠fg;omega
   ·show u.heap.size+1≠fg;omega
   ·show u.heap.size≠fg;omega
   ·exact hfg y hy
 have KE2:Hid (∀ v ks zxg zfc,u.heap.size+2<ks->ks<zxg->zxg<zfc->Lp w P G E1 g o ((fg,zB q1)::((zxg),.cells (Ic X1) 50)::((zfc),.cells #[.pointer (some ⟨zxg,pof s0,none⟩)] 179)::(ks,.cells #[.int .i64 (s0:Int),.int .i64 s1,.int .i64 s2] 3)::((u.heap.size+2),zI j)::((u.heap.size+1),zC o 32)::(u.heap.size,zC tb 29)::rows) i V F V1 K v->Calls Tryz.prog 105 #[.pointer (some ⟨tb,0,none⟩),.pointer (some ⟨o,0,none⟩),.int .i64 b1,.int .i64 s1,.bool false,.func (.func 45) #[] #[.pointer (some ⟨fg,0,none⟩),.pointer (some ⟨tg,0,none⟩),.pointer (some ⟨og,0,none⟩)]] v fun r u'=>r=.returned (.tuple #[.int .i64 b2,.int .i64 e2])/\Hid (Lp w P G E2 g o ((fg,zB q2)::((zxg),.cells (Ic X1) 50)::((zfc),.cells #[.pointer (some ⟨zxg,pof s0,none⟩)] 179)::(ks,.cells #[.int .i64 (s0:Int),.int .i64 s1,.int .i64 s2] 3)::((u.heap.size+2),zI j)::((u.heap.size+1),zC o 32)::(u.heap.size,zC tb 29)::rows) i V F V2 K u')):=fun v ks zxg zfc c1 c2 c3 hv=>by
  refine HE2 v _ (fun y hy=>by simp[hy]) (fun y hy=>?_) hv
  simp only[List.mem_cons] at hy
  rcases hy with rfl | rfl | rfl | rfl | rfl | rfl | hy
  ·show zxg≠fg;omega
  ·show zfc≠fg;omega
  ·show ks≠fg;omega
  ·show u.heap.size+2≠fg;omega
  ·show u.heap.size+1≠fg;omega
  ·show u.heap.size≠fg;omega
  ·exact hfg y hy
 have KE3:Hid (∀ v ks zxg zfc,u.heap.size+2<ks->ks<zxg->zxg<zfc->Lp w P G E2 g o ((fg,zB q2)::((zxg),.cells (Ic X1) 50)::((zfc),.cells #[.pointer (some ⟨zxg,pof s0,none⟩)] 179)::(ks,.cells #[.int .i64 (s0:Int),.int .i64 s1,.int .i64 s2] 3)::((u.heap.size+2),zI j)::((u.heap.size+1),zC o 32)::(u.heap.size,zC tb 29)::rows) i V F V2 K v->Calls Tryz.prog 105 #[.pointer (some ⟨tb,0,none⟩),.pointer (some ⟨o,0,none⟩),.int .i64 b2,.int .i64 s2,.bool true,.func (.func 45) #[] #[.pointer (some ⟨fg,0,none⟩),.pointer (some ⟨tg,0,none⟩),.pointer (some ⟨og,0,none⟩)]] v fun r u'=>r=.returned (.tuple #[.int .i64 b3,.int .i64 e3])/\Hid (Lp w P G E3 g o ((fg,zB q3)::((zxg),.cells (Ic X1) 50)::((zfc),.cells #[.pointer (some ⟨zxg,pof s0,none⟩)] 179)::(ks,.cells #[.int .i64 (s0:Int),.int .i64 s1,.int .i64 s2] 3)::((u.heap.size+2),zI j)::((u.heap.size+1),zC o 32)::(u.heap.size,zC tb 29)::rows) i V F V3 K u')):=fun v ks zxg zfc c1 c2 c3 hv=>by
  refine HE3 v _ (fun y hy=>by simp[hy]) (fun y hy=>?_) hv
  simp only[List.mem_cons] at hy
  rcases hy with rfl | rfl | rfl | rfl | rfl | rfl | hy
  ·show zxg≠fg;omega
  ·show zfc≠fg;omega
  ·show ks≠fg;omega
  ·show u.heap.size+2≠fg;omega
  ·show u.heap.size+1≠fg;omega
  ·show u.heap.size≠fg;omega
  ·exact hfg y hy
 have HC1:Hid (∀ v ks zxg zfc,Lp w P G E1 g o ((fg,zB q1)::((zxg),.cells (Ic X1) 50)::((zfc),.cells #[.pointer (some ⟨zxg,pof s0,none⟩)] 179)::(ks,.cells #[.int .i64 (s0:Int),.int .i64 s1,.int .i64 s2] 3)::((u.heap.size+2),zI j)::((u.heap.size+1),zC o 32)::(u.heap.size,zC tb 29)::rows) i V F V1 K v->v.cell? ⟨u.heap.size,0,none⟩=some (.pointer (some ⟨tb,0,none⟩))/\v.cell? ⟨u.heap.size+1,0,none⟩=some (.pointer (some ⟨o,0,none⟩))/\Bl v ks #[.int .i64 (s0:Int),.int .i64 s1,.int .i64 s2] 3):=fun v ks zxg zfc hv=>⟨aj (hv.row (x:=(u.heap.size,zC tb 29)) (by simp)),aj (hv.row (x:=((u.heap.size+1),zC o 32)) (by simp)),hv.row (x:=(ks,.cells #[.int .i64 (s0:Int),.int .i64 s1,.int .i64 s2] 3)) (by simp)⟩
 have HC2:Hid (∀ v ks zxg zfc,Lp w P G E2 g o ((fg,zB q2)::((zxg),.cells (Ic X1) 50)::((zfc),.cells #[.pointer (some ⟨zxg,pof s0,none⟩)] 179)::(ks,.cells #[.int .i64 (s0:Int),.int .i64 s1,.int .i64 s2] 3)::((u.heap.size+2),zI j)::((u.heap.size+1),zC o 32)::(u.heap.size,zC tb 29)::rows) i V F V2 K v->v.cell? ⟨u.heap.size,0,none⟩=some (.pointer (some ⟨tb,0,none⟩))/\v.cell? ⟨u.heap.size+1,0,none⟩=some (.pointer (some ⟨o,0,none⟩))/\Bl v ks #[.int .i64 (s0:Int),.int .i64 s1,.int .i64 s2] 3):=fun v ks zxg zfc hv=>⟨aj (hv.row (x:=(u.heap.size,zC tb 29)) (by simp)),aj (hv.row (x:=((u.heap.size+1),zC o 32)) (by simp)),hv.row (x:=(ks,.cells #[.int .i64 (s0:Int),.int .i64 s1,.int .i64 s2] 3)) (by simp)⟩
 have HC3:Hid (∀ v ks zxg zfc,Lp w P G E3 g o ((fg,zB q3)::((zxg),.cells (Ic X1) 50)::((zfc),.cells #[.pointer (some ⟨zxg,pof s0,none⟩)] 179)::(ks,.cells #[.int .i64 (s0:Int),.int .i64 s1,.int .i64 s2] 3)::((u.heap.size+2),zI j)::((u.heap.size+1),zC o 32)::(u.heap.size,zC tb 29)::rows) i V F V3 K v->v.cell? ⟨u.heap.size,0,none⟩=some (.pointer (some ⟨tb,0,none⟩))/\v.cell? ⟨u.heap.size+1,0,none⟩=some (.pointer (some ⟨o,0,none⟩))/\Bl v ks #[.int .i64 (s0:Int),.int .i64 s1,.int .i64 s2] 3):=fun v ks zxg zfc hv=>⟨aj (hv.row (x:=(u.heap.size,zC tb 29)) (by simp)),aj (hv.row (x:=((u.heap.size+1),zC o 32)) (by simp)),hv.row (x:=(ks,.cells #[.int .i64 (s0:Int),.int .i64 s1,.int .i64 s2] 3)) (by simp)⟩
 have HO:Hid (∀ v ks zxg zfc,Lp w P G E3 g o ((fg,zB q3)::((zxg),.cells (Ic X1) 50)::((zfc),.cells #[.pointer (some ⟨zxg,pof s0,none⟩)] 179)::(ks,.cells #[.int .i64 (s0:Int),.int .i64 s1,.int .i64 s2] 3)::((u.heap.size+2),zI j)::((u.heap.size+1),zC o 32)::(u.heap.size,zC tb 29)::rows) i V F V3 K v->Lp w P G E3 g o ((fg,zB q3)::rows) i V F V3 K v):=fun v ks zxg zfc hv=>hv.sub (fun x hx=>by
  simp only[List.mem_cons] at hx ⊢
  rcases hx with h | h<;>simp[h])
 have HX:Hid (∀ v ks,Lp w P G E g o ((fg,zB q0)::(ks,.cells #[.int .i64 (s0:Int),.int .i64 s1,.int .i64 s2] 3)::((u.heap.size+2),zI j)::((u.heap.size+1),zC o 32)::(u.heap.size,zC tb 29)::rows) i V F V' K v->u.heap.size+2<ks/\ks<v.heap.size/\Bl v ks #[.int .i64 (s0:Int),.int .i64 s1,.int .i64 s2] 3->Lp w P G E g o ((fg,zB q0)::((v.heap.size),.cells (Ic X) 50)::((v.heap.size+1),.cells #[.pointer (some ⟨v.heap.size,pof s0,none⟩)] 179)::(ks,.cells #[.int .i64 (s0:Int),.int .i64 s1,.int .i64 s2] 3)::((u.heap.size+2),zI j)::((u.heap.size+1),zC o 32)::(u.heap.size,zC tb 29)::rows) i V F V' K ((v.alloc (.cells (Ic X) 50)).alloc (.cells #[.pointer (some ⟨v.heap.size,pof s0,none⟩)] 179))):=fun v ks hv _=>by
  have:=hv.new2 (.cells (Ic X) 50) (.cells #[.pointer (some ⟨v.heap.size,pof s0,none⟩)] 179)
  exact this.sub (fun x hx=>by
   simp only[List.mem_cons] at hx ⊢
   rcases hx with h | h | h | h | h | h | h | h<;>simp[h])
 have HKS:Hid (∀ v ks,Lp w P G E g o ((fg,zB q0)::(ks,.cells #[.int .i64 (s0:Int),.int .i64 s1,.int .i64 s2] 3)::((u.heap.size+2),zI j)::((u.heap.size+1),zC o 32)::(u.heap.size,zC tb 29)::rows) i V F V' K v->u.heap.size+2<v.heap.size/\ks<v.heap.size/\Bl v ks #[.int .i64 (s0:Int),.int .i64 s1,.int .i64 s2] 3):=fun v ks hv=>⟨hv.lt (x:=((u.heap.size+2),zI j)) (by simp),hv.lt (x:=(ks,.cells #[.int .i64 (s0:Int),.int .i64 s1,.int .i64 s2] 3)) (by simp),hv.row (x:=(ks,.cells #[.int .i64 (s0:Int),.int .i64 s1,.int .i64 s2] 3)) (by simp)⟩
 have KQ:Hid (∀ v xg,Calls Tryz.prog 103 #[.pointer (some ⟨xg,0,none⟩),.int .i64 (s0:Int)] v fun r u'=>r=.returned (.pointer (some ⟨xg,pof s0,none⟩))/\v=u'):=fun v xg=>aO xg s0 v hs
 have hpo:=(fO hs).1
 have HPO:Hid (∀ v xg,Bl v xg (Ic X) 50->v.cell? ⟨xg,pof s0,none⟩=some (.int .i64 (X (pof s0)))):=fun v xg hv=>hv.cell _ _ (mF X hpo)
 clear h ht h0 p1 p2 p3 hfit hb hi hX hs HS HV HE2 HE3 hlt0 hwu hpo hwf hfg hfu
 obtain⟨vZ,wo⟩:=hc1
 have ce1:(e1 != 0)=false:=by simp[vZ]
 have cb1:(b1==0)=false:=by simpa using wo
 clear vZ wo
 obtain⟨ajL,hcb2⟩:=hc2
 have ce2:(e2 != 0)=false:=by simp[ajL]
 have cb2:(b2==0)=false:=by simpa using hcb2
 clear ajL hcb2
 generalize (s0:Int)=si at *
 generalize hps:pof s0=px at *
 clear hps
 generalize X px=xv at *
 go_enter Tryz.func43,Tryz.ntmps43
 go_upto_region 1 with fail
 change Code.wp _ _ _ _ (((u.alloc (zC tb 29)).alloc (zC o 32)).alloc (zI j))
 generalize (((u.alloc (zC tb 29)).alloc (zC o 32)).alloc (zI j))=w0 at *
 generalize u.heap.size=m at *
 obtain⟨tc,d0,d1,d2,hms⟩:=ah HT _ _ _ _ (ah L0)
 obtain⟨f0,f1,f2,f3,f4,f5,f6,f7,f8,f9,f10,f11⟩:=aS tc
 have K1:=hide (ah KS w0 (ah L0))
 have HMS:=hide hms
 clear KS L0 tc hms
 go_wp2_with fail
 go_at_call 102
 refine(ah K1).mono ?_
 rintro e w1 ⟨ks,rfl,Y1⟩
 obtain⟨hks,L1⟩:=ah Y1
 have HKL:=hide (Nat.lt_of_lt_of_le (ah HMS) hks)
 have K2:=hide (ah KG w1 ks L1)
 obtain⟨_,d0',d1',d2',_⟩:=ah HT w1 _ _ _ ((L1.sub aK).pop)
 clear K1 Y1 KG hks L1 HMS HT d0 d1 d2 f0 f1 f2 f3 f4 f5 f6 f7 f8 f9 f10 f11
 go_wp2_with fail
 go_at_call 19
 refine(ah K2).mono ?_
 rintro e w2 ⟨rfl,L2⟩
 obtain⟨_,hk2,bs⟩:=ah HKS w2 ks (ah L2)
 have L3:=hide (ah HX w2 ks (ah L2) ⟨ah HKL,hk2,bs⟩)
 have HK2:=hide hk2
 have bx:=Bl.new w2 (Ic X) 50
 have bs3:=bs.alloc (.cells (Ic X) 50)
 clear K2 HKS HX L2 d0' d1' d2' hk2 bs
 go_upto_region 7 with fail
 change Code.wp _ _ _ _ (w2.alloc (.cells (Ic X) 50))
 have hz:(w2.alloc (.cells (Ic X) 50)).heap.size=w2.heap.size+1:=size_alloc _ _
 generalize w2.alloc (.cells (Ic X) 50)=w3 at *
 generalize w2.heap.size=xg at *
 have i0:=bs3.cell 0 _ rfl
 have HBX:=hide bx
 have HZ:=hide hz
 clear bs3 bx hz
 go_wp2_with fail
 go_at_call 103
 refine(ah KQ w3 xg).mono ?_
 rintro e w4 ⟨rfl,rfl⟩
 have px1:=ah HPO _ _ ((ah HBX).alloc (.cells #[.pointer (some ⟨xg,px,none⟩)] 179))
 have fc1:=aj (Bl.new w3 #[.pointer (some ⟨xg,px,none⟩)] 179)
 have K4:=hide (ah KV _ ks xg (xg+1) (ah HKL) (ah HK2) (by omega) (ah L3))
 rw[ah HZ] at fc1
 clear KQ HPO HBX KV L3 i0
 go_upto_region 10 with fail
 change Code.wp _ _ _ _ (w3.alloc (.cells #[.pointer (some ⟨xg,px,none⟩)] 179))
 generalize w3.alloc (.cells #[.pointer (some ⟨xg,px,none⟩)] 179)=w5 at *
 simp only[ah HZ]
 clear HZ
 go_wp2_with fail
 go_at_call 45
 refine(ah K4).mono ?_
 rintro e w6 ⟨rfl,Z1⟩
 obtain⟨t0,t1,bk1⟩:=ah HC1 w6 ks xg (xg+1) (ah Z1)
 have i0:=bk1.cell 0 _ rfl
 have i1:=bk1.cell 1 _ rfl
 have i2:=bk1.cell 2 _ rfl
 clear K4 px1 fc1 HC1 bk1
 go_wp2_with fail
 refine wp_loop_rounds 3 ?_
 rw[rounds_succ]
 have KX2:=hide (ah KE2 _ ks xg (xg+1) (ah HKL) (ah HK2) (by omega) (ah Z1))
 clear KE2 Z1
 go_wp2_with fail
 go_at_call 105
 refine(ah KX2).mono ?_
 rintro e w7 ⟨rfl,Z2⟩
 obtain⟨t0,t1,bk2⟩:=ah HC2 _ ks xg (xg+1) (ah Z2)
 have i20:=bk2.cell 0 _ rfl
 have i21:=bk2.cell 1 _ rfl
 have i22:=bk2.cell 2 _ rfl
 clear KX2 HC2 bk2
 go_wp2_with fail
 rw[rounds_succ]
 have KX3:=hide (ah KE3 _ ks xg (xg+1) (ah HKL) (ah HK2) (by omega) (ah Z2))
 clear KE3 Z2
 go_wp2_with fail
 go_at_call 105
 refine(ah KX3).mono ?_
 rintro e w8 ⟨rfl,Z3⟩
 obtain⟨t0,t1,bk3⟩:=ah HC3 _ ks xg (xg+1) (ah Z3)
 have i30:=bk3.cell 0 _ rfl
 have i31:=bk3.cell 1 _ rfl
 have i32:=bk3.cell 2 _ rfl
 clear KX3 HC3 bk3
 go_wp2_with fail
 rw[rounds_succ]
 go_wp2_with fail
 go_ret2
 exact⟨rfl,hide (ah HO _ _ _ _ (ah Z3))⟩
def akv (w:World) (P:Nat->Int) (G:Geo) (g o i:Nat) (V:Nat->List Int) (F K:Nat->Bool) (aC:List (Nat×Obj)) (tb:Nat) (j ix:Int) (E:Nat->Bool) (V':Nat->List Int) (b e:Int) (q:Bool) (E1:Nat->Bool) (V1:Nat->List Int):Prop :=
 ∀ v fg tg og rows,(∀ y∈aC,y∈rows)->(tg,zC tb 29)∈rows->(og,zC o 32)∈rows->w.heap.size<=fg->(∀ y∈rows,y.1≠fg)->Lp w P G E g o ((fg,zB false)::rows) i V F V' K v->Calls Tryz.prog 43 #[.pointer (some ⟨tb,0,none⟩),.pointer (some ⟨o,0,none⟩),.int .i64 j,.int .i64 ix,.func (.func 45) #[] #[.pointer (some ⟨fg,0,none⟩),.pointer (some ⟨tg,0,none⟩),.pointer (some ⟨og,0,none⟩)]] v fun r u'=>r=.returned (.tuple #[.int .i64 b,.int .i64 e])/\Hid (Lp w P G E1 g o ((fg,zB q)::rows) i V F V1 K u')
theorem qZ {w P G E g o rows i V F V' K u}(h:Lp w P G E g o rows i V F V' K u){tb:Nat}{j ix b e:Int}{q:Bool}{E1:Nat->Bool}{V1:Nat->List Int}(h0:0<w.heap.size)(he:e=0)(HF:akv w P G g o i V F K rows tb j ix E V' b e q E1 V1) :
  Calls Tryz.prog 14 #[.pointer (some ⟨tb,0,none⟩),.pointer (some ⟨o,0,none⟩),.int .i64 j,.int .i64 ix] u fun r u'=>r=.returned (.tuple #[.int .i64 b,.bool q,.int .i64 0])/\Hid (Lp w P G E1 g o rows i V F V1 K u'):=by
 have hwu:w.heap.size<=u.heap.size:=h.bel.size
 have hlt:∀ y∈rows,y.1<u.heap.size:=fun y hy=>h.lt hy
 have L0:Hid (Lp w P G E g o ((u.heap.size+2,zB false)::((u.heap.size+1),zC o 32)::(u.heap.size,zC tb 29)::rows) i V F V' K (((u.alloc (zC tb 29)).alloc (zC o 32)).alloc (zB false))):=h.yD _ _ _
 have c0:=aj ((ah L0).row (x:=(u.heap.size,zC tb 29)) (by simp))
 have c1:=aj ((ah L0).row (x:=((u.heap.size+1),zC o 32)) (by simp))
 have KF:Hid (∀ v,Lp w P G E g o ((u.heap.size+2,zB false)::((u.heap.size+1),zC o 32)::(u.heap.size,zC tb 29)::rows) i V F V' K v->Calls Tryz.prog 43 #[.pointer (some ⟨tb,0,none⟩),.pointer (some ⟨o,0,none⟩),.int .i64 j,.int .i64 ix,.func (.func 45) #[] #[.pointer (some ⟨u.heap.size+2,0,none⟩),.pointer (some ⟨u.heap.size,0,none⟩),.pointer (some ⟨u.heap.size+1,0,none⟩)]] v fun r u'=>r=.returned (.tuple #[.int .i64 b,.int .i64 e])/\Hid (Lp w P G E1 g o ((u.heap.size+2,zB q)::((u.heap.size+1),zC o 32)::(u.heap.size,zC tb 29)::rows) i V F V1 K u')):=fun v hv=>by
  refine HF v (u.heap.size+2) u.heap.size (u.heap.size+1) _ (fun y hy=>by simp[hy]) (by simp) (by simp) (by omega) (fun y hy=>?_) hv
  simp only[List.mem_cons] at hy
  rcases hy with rfl | rfl | hy
  ·show u.heap.size+1≠u.heap.size+2;omega
  ·show u.heap.size≠u.heap.size+2;omega
  ·have:=hlt y hy;omega
 have HO:Hid (∀ v,Lp w P G E1 g o ((u.heap.size+2,zB q)::((u.heap.size+1),zC o 32)::(u.heap.size,zC tb 29)::rows) i V F V1 K v->Bl v (u.heap.size+2) #[.bool q] 4/\Lp w P G E1 g o ((u.heap.size+2,zB q)::((u.heap.size+1),zC o 32)::(u.heap.size,zC tb 29)::rows) i V F V1 K (v.setCell ⟨u.heap.size+2,0,none⟩ (.bool q))/\Bl (v.setCell ⟨u.heap.size+2,0,none⟩ (.bool q)) (u.heap.size+2) #[.bool q] 4):=fun v hv=>by
  have hB:Bl v (u.heap.size+2) #[.bool q] 4:=hv.row (x:=(u.heap.size+2,zB q)) (by simp)
  have h2:=hv.swap (by omega) h0 (fun y hy=>by
   simp only[List.mem_cons] at hy
   rcases hy with rfl | rfl | hy
   ·show u.heap.size+1≠u.heap.size+2;omega
   ·show u.heap.size≠u.heap.size+2;omega
   ·have:=hlt y hy;omega) (u':=v.setCell ⟨u.heap.size+2,0,none⟩ (.bool q)) (fun q hq=>Below.heap_setCell _ _ _ _ hq) ((Below.refl _ _).setCell (p:=⟨u.heap.size+2,0,none⟩) (by show w.heap.size<=u.heap.size+2;omega) _) (hB.set 0 (.bool q))
  exact⟨hB,h2,hB.set 0 (.bool q)⟩
 subst he
 clear h h0 hwu hlt HF 
 go_enter Tryz.func14,Tryz.ntmps14
 go_upto_region 1 with fail
 change Code.wp _ _ _ _ (((u.alloc (zC tb 29)).alloc (zC o 32)).alloc (zB false))
 generalize (((u.alloc (zC tb 29)).alloc (zC o 32)).alloc (zB false))=w0 at *
 generalize u.heap.size=m at *
 have K1:=hide (ah KF w0 (ah L0))
 clear KF L0
 go_wp2_with fail
 go_at_call 43
 refine(ah K1).mono ?_
 rintro r w1 ⟨rfl,Z⟩
 obtain⟨hB,L2,hB2⟩:=ah HO w1 (ah Z)
 have g0:=hB.cell 0 _ rfl
 have g1:=hB.free 0
 have ZL:=hide L2
 have ZB:=hide hB2
 clear K1 HO Z hB L2 hB2 c0 c1
 go_upto_region 4 with fail
 go_region
 have hW:Lp w P G E1 g o ((m+2,zB q)::((m+1),zC o 32)::(m,zC tb 29)::rows) i V F V1 K (w1.setCell ⟨m+2,0,none⟩ (.bool q)).drew:=(ah ZL).later (Below.refl _ _).drew
 have hA:Bl (w1.setCell ⟨m+2,0,none⟩ (.bool q)).drew (m+2) #[.bool q] 4:=(ah ZB).drew
 have HW:=hide hW
 clear hW ZL ZB g0 g1
 go_wp2_with fail
 change bodyPost _ _ _ _ _ (w1.setCell ⟨m+2,0,none⟩ (.bool q)).drew
 generalize (w1.setCell ⟨m+2,0,none⟩ (.bool q)).drew=wf at *
 refine bodyPost_ret (v:=.tuple #[.int .i64 b,.bool q,.int .i64 0]) ?_ rfl ⟨rfl,hide (ah HW).pop.pop.pop⟩
 simp[results,Tryz.results14,go_sem,hA.cell 0 _ rfl]
theorem uF {w P G E g o rows i V F V' K u}(h:Lp w P G E g o rows i V F V' K u){tb:Nat}{j ix b e:Int}{q:Bool}{E1:Nat->Bool}{V1:Nat->List Int}(h0:0<w.heap.size)(he:e≠0)(HF:akv w P G g o i V F K rows tb j ix E V' b e q E1 V1) :
  Calls Tryz.prog 14 #[.pointer (some ⟨tb,0,none⟩),.pointer (some ⟨o,0,none⟩),.int .i64 j,.int .i64 ix] u fun r u'=>r=.returned (.tuple #[.int .i64 0,.bool false,.int .i64 e])/\Hid (Lp w P G E1 g o rows i V F V1 K u'):=by
 have hwu:w.heap.size<=u.heap.size:=h.bel.size
 have hlt:∀ y∈rows,y.1<u.heap.size:=fun y hy=>h.lt hy
 have L0:Hid (Lp w P G E g o ((u.heap.size+2,zB false)::((u.heap.size+1),zC o 32)::(u.heap.size,zC tb 29)::rows) i V F V' K (((u.alloc (zC tb 29)).alloc (zC o 32)).alloc (zB false))):=h.yD _ _ _
 have c0:=aj ((ah L0).row (x:=(u.heap.size,zC tb 29)) (by simp))
 have c1:=aj ((ah L0).row (x:=((u.heap.size+1),zC o 32)) (by simp))
 have KF:Hid (∀ v,Lp w P G E g o ((u.heap.size+2,zB false)::((u.heap.size+1),zC o 32)::(u.heap.size,zC tb 29)::rows) i V F V' K v->Calls Tryz.prog 43 #[.pointer (some ⟨tb,0,none⟩),.pointer (some ⟨o,0,none⟩),.int .i64 j,.int .i64 ix,.func (.func 45) #[] #[.pointer (some ⟨u.heap.size+2,0,none⟩),.pointer (some ⟨u.heap.size,0,none⟩),.pointer (some ⟨u.heap.size+1,0,none⟩)]] v fun r u'=>r=.returned (.tuple #[.int .i64 b,.int .i64 e])/\Hid (Lp w P G E1 g o ((u.heap.size+2,zB q)::((u.heap.size+1),zC o 32)::(u.heap.size,zC tb 29)::rows) i V F V1 K u')):=fun v hv=>by
  refine HF v (u.heap.size+2) u.heap.size (u.heap.size+1) _ (fun y hy=>by simp[hy]) (by simp) (by simp) (by omega) (fun y hy=>?_) hv
  simp only[List.mem_cons] at hy
  rcases hy with rfl | rfl | hy
  ·show u.heap.size+1≠u.heap.size+2;omega
  ·show u.heap.size≠u.heap.size+2;omega
  ·have:=hlt y hy;omega
 have HO:Hid (∀ v,Lp w P G E1 g o ((u.heap.size+2,zB q)::((u.heap.size+1),zC o 32)::(u.heap.size,zC tb 29)::rows) i V F V1 K v->Bl v (u.heap.size+2) #[.bool q] 4/\Lp w P G E1 g o ((u.heap.size+2,zB false)::((u.heap.size+1),zC o 32)::(u.heap.size,zC tb 29)::rows) i V F V1 K (v.setCell ⟨u.heap.size+2,0,none⟩ (.bool false))/\Bl (v.setCell ⟨u.heap.size+2,0,none⟩ (.bool false)) (u.heap.size+2) #[.bool false] 4):=fun v hv=>by
  have hB:Bl v (u.heap.size+2) #[.bool q] 4:=hv.row (x:=(u.heap.size+2,zB q)) (by simp)
  have h2:=hv.swap (by omega) h0 (fun y hy=>by
   simp only[List.mem_cons] at hy
   rcases hy with rfl | rfl | hy
   ·show u.heap.size+1≠u.heap.size+2;omega
   ·show u.heap.size≠u.heap.size+2;omega
   ·have:=hlt y hy;omega) (u':=v.setCell ⟨u.heap.size+2,0,none⟩ (.bool false)) (fun q hq=>Below.heap_setCell _ _ _ _ hq) ((Below.refl _ _).setCell (p:=⟨u.heap.size+2,0,none⟩) (by show w.heap.size<=u.heap.size+2;omega) _) (hB.set 0 (.bool false))
  exact⟨hB,h2,hB.set 0 (.bool false)⟩
 have he1:(e != 0)=true:=by simpa using he
 clear h h0 hwu hlt HF he
 go_enter Tryz.func14,Tryz.ntmps14
 go_upto_region 1 with fail
 change Code.wp _ _ _ _ (((u.alloc (zC tb 29)).alloc (zC o 32)).alloc (zB false))
 generalize (((u.alloc (zC tb 29)).alloc (zC o 32)).alloc (zB false))=w0 at *
 generalize u.heap.size=m at *
 have K1:=hide (ah KF w0 (ah L0))
 clear KF L0
 go_wp2_with fail
 go_at_call 43
 refine(ah K1).mono ?_
 rintro r w1 ⟨rfl,Z⟩
 obtain⟨hB,L2,hB2⟩:=ah HO w1 (ah Z)
 have g0:=hB.cell 0 _ rfl
 have g1:=hB.free 0
 have ZL:=hide L2
 have ZB:=hide hB2
 clear K1 HO Z hB L2 hB2 c0 c1
 have hA:=ah ZB
 have HW:=hide (ah ZL)
 clear ZL ZB
 go_wp2_with fail
 change bodyPost _ _ _ _ _ (w1.setCell ⟨m+2,0,none⟩ (.bool false))
 generalize w1.setCell ⟨m+2,0,none⟩ (.bool false)=wf at *
 refine bodyPost_ret (v:=.tuple #[.int .i64 0,.bool false,.int .i64 e]) ?_ rfl ⟨rfl,hide (ah HW).pop.pop.pop⟩
 simp[results,Tryz.results14,go_sem,hA.cell 0 _ rfl]
theorem ac0 {u:World}{tb o:Nat}{j ix b e:Int}{Q:World->Prop}(KF:Hid (Calls Tryz.prog 43 #[.pointer (some ⟨tb,0,none⟩),.pointer (some ⟨o,0,none⟩),.int .i64 j,.int .i64 ix,.func (.func 44) #[] #[]] u fun r u'=>r=.returned (.tuple #[.int .i64 b,.int .i64 e])/\Hid (Q u'))) :
  Calls Tryz.prog 13 #[.pointer (some ⟨tb,0,none⟩),.pointer (some ⟨o,0,none⟩),.int .i64 j,.int .i64 ix] u fun r u'=>r=.returned (.tuple #[.int .i64 b,.int .i64 e])/\Hid (Q u'):=by
 go_enter Tryz.func13,Tryz.ntmps13
 go_wp2_with fail
 go_at_call 43
 refine(ah KF).mono ?_
 rintro r w1 ⟨rfl,Z⟩
 clear KF
 go_wp2_with fail
 go_ret2
 exact⟨rfl,Z⟩
theorem abH (u:World)(q:Option Addr)(j ix:Int)(fg tg og:Nat)  {tb a:Nat}{P:Nat->Int}(ht:u.heap[tb]?=some (tbO a P))(HS:Hid (∀ v,Calls Tryz.prog 102 #[Pv P,.int .i64 ix] v fun r w'=>(∃ a n c,r=.returned (.tuple #[.slice a n c,.int .i64 2]))/\Below v.heap.size v w')) :
  Calls Tryz.prog 43 #[.pointer (some ⟨tb,0,none⟩),.pointer q,.int .i64 j,.int .i64 ix,.func (.func 45) #[] #[.pointer (some ⟨fg,0,none⟩),.pointer (some ⟨tg,0,none⟩),.pointer (some ⟨og,0,none⟩)]] u fun r u'=>r=.returned (.tuple #[.int .i64 0,.int .i64 2])/\Below u.heap.size u u':=by
 have HB:Hid (Below u.heap.size u (((u.alloc (zC tb 29)).alloc (.cells #[.pointer q] 32)).alloc (zI j))):=(((Below.refl _ _).alloc (Nat.le_refl _) _).alloc (by simp) _).alloc (by simp;omega) _
 have c0:(((u.alloc (zC tb 29)).alloc (.cells #[.pointer q] 32)).alloc (zI j)).cell? ⟨u.heap.size,0,none⟩=some (.pointer (some ⟨tb,0,none⟩)):=aj (((Bl.new u #[.pointer (some ⟨tb,0,none⟩)] 29).alloc _).alloc _)
 have HT:Bl (((u.alloc (zC tb 29)).alloc (.cells #[.pointer q] 32)).alloc (zI j)) tb (tbA a P) 123:=Bl.alloc (Bl.alloc (Bl.alloc (u:=u) ht _) _) _
 clear ht
 go_enter Tryz.func43,Tryz.ntmps43
 go_upto_region 1 with fail
 change Code.wp _ _ _ _ (((u.alloc (zC tb 29)).alloc (.cells #[.pointer q] 32)).alloc (zI j))
 generalize (((u.alloc (zC tb 29)).alloc (.cells #[.pointer q] 32)).alloc (zI j))=w0 at *
 obtain⟨f0,f1,f2,f3,f4,f5,f6,f7,f8,f9,f10,f11⟩:=aS HT
 clear HT
 go_wp2_with fail
 go_at_call 102
 refine(ah HS _).mono ?_
 rintro r w1 ⟨⟨a1,n1,c1,rfl⟩,hb⟩
 replace HB:=hide ((ah HB).trans (hb.mono (ah HB).size))
 clear HS hb c0 f0 f1 f2 f3 f4 f5 f6 f7 f8 f9 f10 f11
 go_wp2_with fail
 go_ret2
 exact⟨rfl,ah HB⟩
theorem abJ (u:World)(q:Option Addr)(j ix:Int)  {tb a:Nat}{P:Nat->Int}(ht:u.heap[tb]?=some (tbO a P))(HS:Hid (∀ v,Calls Tryz.prog 102 #[Pv P,.int .i64 ix] v fun r w'=>(∃ a n c,r=.returned (.tuple #[.slice a n c,.int .i64 2]))/\Below v.heap.size v w')) :
  Calls Tryz.prog 43 #[.pointer (some ⟨tb,0,none⟩),.pointer q,.int .i64 j,.int .i64 ix,.func (.func 44) #[] #[]] u fun r u'=>r=.returned (.tuple #[.int .i64 0,.int .i64 2])/\Below u.heap.size u u':=by
 have HB:Hid (Below u.heap.size u (((u.alloc (zC tb 29)).alloc (.cells #[.pointer q] 32)).alloc (zI j))):=(((Below.refl _ _).alloc (Nat.le_refl _) _).alloc (by simp) _).alloc (by simp;omega) _
 have c0:(((u.alloc (zC tb 29)).alloc (.cells #[.pointer q] 32)).alloc (zI j)).cell? ⟨u.heap.size,0,none⟩=some (.pointer (some ⟨tb,0,none⟩)):=aj (((Bl.new u #[.pointer (some ⟨tb,0,none⟩)] 29).alloc _).alloc _)
 have HT:Bl (((u.alloc (zC tb 29)).alloc (.cells #[.pointer q] 32)).alloc (zI j)) tb (tbA a P) 123:=Bl.alloc (Bl.alloc (Bl.alloc (u:=u) ht _) _) _
 clear ht
 go_enter Tryz.func43,Tryz.ntmps43
 go_upto_region 1 with fail
 change Code.wp _ _ _ _ (((u.alloc (zC tb 29)).alloc (.cells #[.pointer q] 32)).alloc (zI j))
 generalize (((u.alloc (zC tb 29)).alloc (.cells #[.pointer q] 32)).alloc (zI j))=w0 at *
 obtain⟨f0,f1,f2,f3,f4,f5,f6,f7,f8,f9,f10,f11⟩:=aS HT
 clear HT
 go_wp2_with fail
 go_at_call 102
 refine(ah HS _).mono ?_
 rintro r w1 ⟨⟨a1,n1,c1,rfl⟩,hb⟩
 replace HB:=hide ((ah HB).trans (hb.mono (ah HB).size))
 clear HS hb c0 f0 f1 f2 f3 f4 f5 f6 f7 f8 f9 f10 f11
 go_wp2_with fail
 go_ret2
 exact⟨rfl,ah HB⟩
theorem xG (u:World)(q:Option Addr)(j ix:Int){tb a:Nat}{P:Nat->Int}(ht:u.heap[tb]?=some (tbO a P))(HS:Hid (∀ v,Calls Tryz.prog 102 #[Pv P,.int .i64 ix] v fun r w'=>(∃ a n c,r=.returned (.tuple #[.slice a n c,.int .i64 2]))/\Below v.heap.size v w')) :
  Calls Tryz.prog 14 #[.pointer (some ⟨tb,0,none⟩),.pointer q,.int .i64 j,.int .i64 ix] u fun r u'=>r=.returned (.tuple #[.int .i64 0,.bool false,.int .i64 2])/\Below u.heap.size u u':=by
 have HB:Hid (Below u.heap.size u (((u.alloc (zC tb 29)).alloc (.cells #[.pointer q] 32)).alloc (zB false))):=(((Below.refl _ _).alloc (Nat.le_refl _) _).alloc (by simp) _).alloc (by simp;omega) _
 have c0:(((u.alloc (zC tb 29)).alloc (.cells #[.pointer q] 32)).alloc (zB false)).cell? ⟨u.heap.size,0,none⟩=some (.pointer (some ⟨tb,0,none⟩)):=aj (((Bl.new u #[.pointer (some ⟨tb,0,none⟩)] 29).alloc _).alloc _)
 have c1:(((u.alloc (zC tb 29)).alloc (.cells #[.pointer q] 32)).alloc (zB false)).cell? ⟨u.heap.size+1,0,none⟩=some (.pointer q):=by
  have:=aj ((Bl.new (u.alloc (zC tb 29)) #[.pointer q] 32).alloc (zB false))
  rwa [size_alloc] at this
 have b2:Bl (((u.alloc (zC tb 29)).alloc (.cells #[.pointer q] 32)).alloc (zB false)) (u.heap.size+2) #[.bool false] 4:=by
  have:=Bl.new ((u.alloc (zC tb 29)).alloc (.cells #[.pointer q] 32)) #[.bool false] 4
  rwa [size_alloc,size_alloc] at this
 have KF:=hide (abH (((u.alloc (zC tb 29)).alloc (.cells #[.pointer q] 32)).alloc (zB false)) q j ix (u.heap.size+2) u.heap.size (u.heap.size+1) (Bl.alloc (Bl.alloc (Bl.alloc (u:=u) ht _) _) _) HS)
 have HB2:=hide b2
 clear b2 ht HS
 go_enter Tryz.func14,Tryz.ntmps14
 go_upto_region 1 with fail
 change Code.wp _ _ _ _ (((u.alloc (zC tb 29)).alloc (.cells #[.pointer q] 32)).alloc (zB false))
 generalize (((u.alloc (zC tb 29)).alloc (.cells #[.pointer q] 32)).alloc (zB false))=w0 at *
 go_wp2_with fail
 go_at_call 43
 refine(ah KF).mono ?_
 rintro r w1 ⟨rfl,hb⟩
 have bl:=(ah HB2).call hb
 have g0:=bl.cell 0 _ rfl
 have g1:=bl.free 0
 have hA:=bl.set 0 (.bool false)
 have HW:Hid (Below u.heap.size u (w1.setCell ⟨u.heap.size+2,0,none⟩ (.bool false))):=((ah HB).trans (hb.mono (ah HB).size)).setCell (p:=⟨u.heap.size+2,0,none⟩) (by show u.heap.size<=u.heap.size+2;omega) _
 clear KF HB HB2 hb bl c0 c1
 go_wp2_with fail
 change bodyPost _ _ _ _ _ (w1.setCell ⟨u.heap.size+2,0,none⟩ (.bool false))
 generalize w1.setCell ⟨u.heap.size+2,0,none⟩ (.bool false)=wf at *
 refine bodyPost_ret (v:=.tuple #[.int .i64 0,.bool false,.int .i64 2]) ?_ rfl ⟨rfl,ah HW⟩
 simp[results,Tryz.results14,go_sem,hA.cell 0 _ rfl]
theorem xI (u:World)(q:Option Addr)(j ix:Int){tb a:Nat}{P:Nat->Int}(ht:u.heap[tb]?=some (tbO a P))(HS:Hid (∀ v,Calls Tryz.prog 102 #[Pv P,.int .i64 ix] v fun r w'=>(∃ a n c,r=.returned (.tuple #[.slice a n c,.int .i64 2]))/\Below v.heap.size v w')) :
  Calls Tryz.prog 13 #[.pointer (some ⟨tb,0,none⟩),.pointer q,.int .i64 j,.int .i64 ix] u fun r u'=>r=.returned (.tuple #[.int .i64 0,.int .i64 2])/\Below u.heap.size u u':=by
 have KF:=hide (abJ u q j ix ht HS)
 clear ht HS
 go_enter Tryz.func13,Tryz.ntmps13
 go_wp2_with fail
 go_at_call 43
 refine(ah KF).mono ?_
 rintro r w1 ⟨rfl,hb⟩
 have HB:=hide hb
 clear KF hb
 go_wp2_with fail
 go_ret2
 exact⟨rfl,ah HB⟩
theorem ql {w P G E g o}{rows:List (Nat×Obj)}{i V F V' K u}{a tb bk at0 s0:Nat}{s1:Int}{X X1:Nat->Int}{j ix:Int}{b1 e1:Int}{E1:Nat->Bool}{V1:Nat->List Int}(h:Lp w P G E g o (rows) i V F V' K u)(ht:(tb,tbO a P)∈rows)(h0:0<w.heap.size)(p1:gU P j=0)(p2:jE P j=(bk:Int))(p3:jF P j=(at0:Int))(hfit:at0+32<=G.blk)(hb:E bk=true)(hi:iQ (((V' bk).drop at0).take 32))(hX:Iv (bG (((V' bk).drop at0).take 32))=Iv X)(hs:s0<=9)(HS:Hid (∀ v,Calls Tryz.prog 102 #[Pv P,.int .i64 ix] v fun r w'=>(∃ k,r=.returned (.tuple #[.slice (some ⟨k,0,none⟩) 2 2,.int .i64 0])/\v.heap.size<=k/\w'.heap[k]?=some (.cells #[.int .i64 (s0:Int),.int .i64 s1] 3))/\Below v.heap.size v w'))(HV:aiE w P G g o i V F K rows tb j (pof s0) false X E V' b1 e1 X1 E1 V1)(hst:e1=0/\b1=0) :
  Calls Tryz.prog 43 #[.pointer (some ⟨tb,0,none⟩),.pointer (some ⟨o,0,none⟩),.int .i64 j,.int .i64 ix,.func (.func 44) #[] #[]] u fun r u'=>r=.returned (.tuple #[.int .i64 0,.int .i64 e1])/\Hid (Lp w P G E1 g o (rows) i V F V1 K u'):=by
 have hwu:w.heap.size<=u.heap.size:=h.bel.size
 have L0:Hid (Lp w P G E g o (((u.heap.size+2),zI j)::((u.heap.size+1),zC o 32)::(u.heap.size,zC tb 29)::rows) i V F V' K (((u.alloc (zC tb 29)).alloc (zC o 32)).alloc (zI j))):=h.yD _ _ _
 have hlt0:∀ y∈rows,y.1<u.heap.size:=fun y hy=>h.lt (hy)
 have HT:Hid (∀ v E2 V2,Lp w P G E2 g o (((u.heap.size+2),zI j)::((u.heap.size+1),zC o 32)::(u.heap.size,zC tb 29)::rows) i V F V2 K v->v.heap[tb]?=some (tbO a P)/\v.cell? ⟨u.heap.size,0,none⟩=some (.pointer (some ⟨tb,0,none⟩))/\v.cell? ⟨u.heap.size+1,0,none⟩=some (.pointer (some ⟨o,0,none⟩))/\v.cell? ⟨u.heap.size+2,0,none⟩=some (.int .i64 j)/\u.heap.size+2<v.heap.size):=fun v E2 V2 hv =>
  ⟨hv.row (List.mem_cons_of_mem _ (List.mem_cons_of_mem _ (List.mem_cons_of_mem _ (ht)))),aj (hv.row (x:=(u.heap.size,zC tb 29)) (by simp)),aj (hv.row (x:=((u.heap.size+1),zC o 32)) (by simp)),aj (hv.row (x:=((u.heap.size+2),zI j)) (by simp)),hv.lt (x:=((u.heap.size+2),zI j)) (by simp)⟩
 have KS:Hid (∀ v,Lp w P G E g o (((u.heap.size+2),zI j)::((u.heap.size+1),zC o 32)::(u.heap.size,zC tb 29)::rows) i V F V' K v->Calls Tryz.prog 102 #[Pv P,.int .i64 ix] v fun r w'=>∃ ks,r=.returned (.tuple #[.slice (some ⟨ks,0,none⟩) 2 2,.int .i64 0])/\Hid (v.heap.size<=ks/\Lp w P G E g o ((ks,.cells #[.int .i64 (s0:Int),.int .i64 s1] 3)::((u.heap.size+2),zI j)::((u.heap.size+1),zC o 32)::(u.heap.size,zC tb 29)::rows) i V F V' K w')):=fun v hv=>by
  refine(ah HS v).mono ?_
  rintro r w' ⟨⟨k,rfl,hk1,hk2⟩,b1⟩
  exact⟨k,rfl,hk1,hv.push b1 hk1 hk2⟩
 have KG:Hid (∀ v ks,Lp w P G E g o ((ks,.cells #[.int .i64 (s0:Int),.int .i64 s1] 3)::((u.heap.size+2),zI j)::((u.heap.size+1),zC o 32)::(u.heap.size,zC tb 29)::rows) i V F V' K v->Calls Tryz.prog 19 #[.pointer (some ⟨tb,0,none⟩),.pointer (some ⟨o,0,none⟩),.int .i64 j] v fun r u'=>r=.returned (.tuple #[Iv X,.int .i64 0])/\Hid (Lp w P G E g o ((ks,.cells #[.int .i64 (s0:Int),.int .i64 s1] 3)::((u.heap.size+2),zI j)::((u.heap.size+1),zC o 32)::(u.heap.size,zC tb 29)::rows) i V F V' K u')):=fun v ks hv=>dJ hv X j (List.mem_cons_of_mem _ (List.mem_cons_of_mem _ (List.mem_cons_of_mem _ (List.mem_cons_of_mem _ (ht))))) h0 p1 p2 p3 hfit hb hi hX
 have KV:Hid (∀ v ks zxg zfc,u.heap.size+2<ks->ks<zxg->zxg<zfc->Lp w P G E g o (((zxg),.cells (Ic X) 50)::((zfc),.cells #[.pointer (some ⟨zxg,pof s0,none⟩)] 179)::(ks,.cells #[.int .i64 (s0:Int),.int .i64 s1] 3)::((u.heap.size+2),zI j)::((u.heap.size+1),zC o 32)::(u.heap.size,zC tb 29)::rows) i V F V' K v->Calls Tryz.prog 44 #[.agg #[.int .i64 (X (pof s0)),.bool false,.func (.func 104) #[] #[.pointer (some ⟨zfc,0,none⟩),.pointer (some ⟨u.heap.size,0,none⟩),.pointer (some ⟨u.heap.size+1,0,none⟩),.pointer (some ⟨u.heap.size+2,0,none⟩),.pointer (some ⟨zxg,0,none⟩)]]] v fun r u'=>r=.returned (.tuple #[.int .i64 b1,.int .i64 e1])/\Hid (Lp w P G E1 g o (((zxg),.cells (Ic X1) 50)::((zfc),.cells #[.pointer (some ⟨zxg,pof s0,none⟩)] 179)::(ks,.cells #[.int .i64 (s0:Int),.int .i64 s1] 3)::((u.heap.size+2),zI j)::((u.heap.size+1),zC o 32)::(u.heap.size,zC tb 29)::rows) i V F V1 K u')):=fun v ks zxg zfc c1 c2 c3 hv=>by
  refine HV v zxg zfc u.heap.size (u.heap.size+1) (u.heap.size+2) _ (by simp) (by simp) (by simp) (by simp) (by omega) (fun y hy=>?_) (fun y hy=>by simp[hy]) hv
  ·simp only[List.mem_cons] at hy
   rcases hy with rfl | rfl | rfl | rfl | rfl | hy
   ·show zfc≠zxg;omega
   ·show ks≠zxg;omega
   ·show u.heap.size+2≠zxg;omega
   ·show u.heap.size+1≠zxg;omega
   ·show u.heap.size≠zxg;omega
   ·have:=hlt0 y hy;omega
 have HC1:Hid (∀ v ks zxg zfc,Lp w P G E1 g o (((zxg),.cells (Ic X1) 50)::((zfc),.cells #[.pointer (some ⟨zxg,pof s0,none⟩)] 179)::(ks,.cells #[.int .i64 (s0:Int),.int .i64 s1] 3)::((u.heap.size+2),zI j)::((u.heap.size+1),zC o 32)::(u.heap.size,zC tb 29)::rows) i V F V1 K v->v.cell? ⟨u.heap.size,0,none⟩=some (.pointer (some ⟨tb,0,none⟩))/\v.cell? ⟨u.heap.size+1,0,none⟩=some (.pointer (some ⟨o,0,none⟩))/\Bl v ks #[.int .i64 (s0:Int),.int .i64 s1] 3):=fun v ks zxg zfc hv=>⟨aj (hv.row (x:=(u.heap.size,zC tb 29)) (by simp)),aj (hv.row (x:=((u.heap.size+1),zC o 32)) (by simp)),hv.row (x:=(ks,.cells #[.int .i64 (s0:Int),.int .i64 s1] 3)) (by simp)⟩
 have HO:Hid (∀ v ks zxg zfc,Lp w P G E1 g o (((zxg),.cells (Ic X1) 50)::((zfc),.cells #[.pointer (some ⟨zxg,pof s0,none⟩)] 179)::(ks,.cells #[.int .i64 (s0:Int),.int .i64 s1] 3)::((u.heap.size+2),zI j)::((u.heap.size+1),zC o 32)::(u.heap.size,zC tb 29)::rows) i V F V1 K v->Lp w P G E1 g o (rows) i V F V1 K v):=fun v ks zxg zfc hv=>hv.sub (fun x hx=>by
  simp[hx])
 have HX:Hid (∀ v ks,Lp w P G E g o ((ks,.cells #[.int .i64 (s0:Int),.int .i64 s1] 3)::((u.heap.size+2),zI j)::((u.heap.size+1),zC o 32)::(u.heap.size,zC tb 29)::rows) i V F V' K v->u.heap.size+2<ks/\ks<v.heap.size/\Bl v ks #[.int .i64 (s0:Int),.int .i64 s1] 3->Lp w P G E g o (((v.heap.size),.cells (Ic X) 50)::((v.heap.size+1),.cells #[.pointer (some ⟨v.heap.size,pof s0,none⟩)] 179)::(ks,.cells #[.int .i64 (s0:Int),.int .i64 s1] 3)::((u.heap.size+2),zI j)::((u.heap.size+1),zC o 32)::(u.heap.size,zC tb 29)::rows) i V F V' K ((v.alloc (.cells (Ic X) 50)).alloc (.cells #[.pointer (some ⟨v.heap.size,pof s0,none⟩)] 179))):=fun v ks hv _=>by
  have:=hv.new2 (.cells (Ic X) 50) (.cells #[.pointer (some ⟨v.heap.size,pof s0,none⟩)] 179)
  exact this.sub (fun x hx=>by
   simp only[List.mem_cons] at hx ⊢
   rcases hx with h | h | h | h | h | h | h<;>simp[h])
 have HKS:Hid (∀ v ks,Lp w P G E g o ((ks,.cells #[.int .i64 (s0:Int),.int .i64 s1] 3)::((u.heap.size+2),zI j)::((u.heap.size+1),zC o 32)::(u.heap.size,zC tb 29)::rows) i V F V' K v->u.heap.size+2<v.heap.size/\ks<v.heap.size/\Bl v ks #[.int .i64 (s0:Int),.int .i64 s1] 3):=fun v ks hv=>⟨hv.lt (x:=((u.heap.size+2),zI j)) (by simp),hv.lt (x:=(ks,.cells #[.int .i64 (s0:Int),.int .i64 s1] 3)) (by simp),hv.row (x:=(ks,.cells #[.int .i64 (s0:Int),.int .i64 s1] 3)) (by simp)⟩
 have KQ:Hid (∀ v xg,Calls Tryz.prog 103 #[.pointer (some ⟨xg,0,none⟩),.int .i64 (s0:Int)] v fun r u'=>r=.returned (.pointer (some ⟨xg,pof s0,none⟩))/\v=u'):=fun v xg=>aO xg s0 v hs
 have hpo:=(fO hs).1
 have HPO:Hid (∀ v xg,Bl v xg (Ic X) 50->v.cell? ⟨xg,pof s0,none⟩=some (.int .i64 (X (pof s0)))):=fun v xg hv=>hv.cell _ _ (mF X hpo)
 clear h ht h0 p1 p2 p3 hfit hb hi hX hs HS HV  hlt0 hwu hpo 
 obtain⟨hs1,hs2⟩:=hst
 subst hs1 hs2
 generalize (s0:Int)=si at *
 generalize hps:pof s0=px at *
 clear hps
 generalize X px=xv at *
 go_enter Tryz.func43,Tryz.ntmps43
 go_upto_region 1 with fail
 change Code.wp _ _ _ _ (((u.alloc (zC tb 29)).alloc (zC o 32)).alloc (zI j))
 generalize (((u.alloc (zC tb 29)).alloc (zC o 32)).alloc (zI j))=w0 at *
 generalize u.heap.size=m at *
 obtain⟨tc,d0,d1,d2,hms⟩:=ah HT _ _ _ (ah L0)
 obtain⟨f0,f1,f2,f3,f4,f5,f6,f7,f8,f9,f10,f11⟩:=aS tc
 have K1:=hide (ah KS w0 (ah L0))
 have HMS:=hide hms
 clear KS L0 tc hms
 go_wp2_with fail
 go_at_call 102
 refine(ah K1).mono ?_
 rintro e w1 ⟨ks,rfl,Y1⟩
 obtain⟨hks,L1⟩:=ah Y1
 have HKL:=hide (Nat.lt_of_lt_of_le (ah HMS) hks)
 have K2:=hide (ah KG w1 ks L1)
 obtain⟨_,d0',d1',d2',_⟩:=ah HT w1 _ _ (L1.pop)
 clear K1 Y1 KG hks L1 HMS HT d0 d1 d2 f0 f1 f2 f3 f4 f5 f6 f7 f8 f9 f10 f11
 go_wp2_with fail
 go_at_call 19
 refine(ah K2).mono ?_
 rintro e w2 ⟨rfl,L2⟩
 obtain⟨_,hk2,bs⟩:=ah HKS w2 ks (ah L2)
 have L3:=hide (ah HX w2 ks (ah L2) ⟨ah HKL,hk2,bs⟩)
 have HK2:=hide hk2
 have bx:=Bl.new w2 (Ic X) 50
 have bs3:=bs.alloc (.cells (Ic X) 50)
 clear K2 HKS HX L2 d0' d1' d2' hk2 bs
 go_upto_region 7 with fail
 change Code.wp _ _ _ _ (w2.alloc (.cells (Ic X) 50))
 have hz:(w2.alloc (.cells (Ic X) 50)).heap.size=w2.heap.size+1:=size_alloc _ _
 generalize w2.alloc (.cells (Ic X) 50)=w3 at *
 generalize w2.heap.size=xg at *
 have i0:=bs3.cell 0 _ rfl
 have HBX:=hide bx
 have HZ:=hide hz
 clear bs3 bx hz
 go_wp2_with fail
 go_at_call 103
 refine(ah KQ w3 xg).mono ?_
 rintro e w4 ⟨rfl,rfl⟩
 have px1:=ah HPO _ _ ((ah HBX).alloc (.cells #[.pointer (some ⟨xg,px,none⟩)] 179))
 have fc1:=aj (Bl.new w3 #[.pointer (some ⟨xg,px,none⟩)] 179)
 have K4:=hide (ah KV _ ks xg (xg+1) (ah HKL) (ah HK2) (by omega) (ah L3))
 rw[ah HZ] at fc1
 clear KQ HPO HBX KV L3 i0
 go_upto_region 10 with fail
 change Code.wp _ _ _ _ (w3.alloc (.cells #[.pointer (some ⟨xg,px,none⟩)] 179))
 generalize w3.alloc (.cells #[.pointer (some ⟨xg,px,none⟩)] 179)=w5 at *
 simp only[ah HZ]
 clear HZ
 go_wp2_with fail
 go_at_call 44
 refine(ah K4).mono ?_
 rintro e w6 ⟨rfl,Z1⟩
 obtain⟨t0,t1,bk1⟩:=ah HC1 w6 ks xg (xg+1) (ah Z1)
 have i0:=bk1.cell 0 _ rfl
 have i1:=bk1.cell 1 _ rfl
 clear K4 px1 fc1 HC1 bk1
 go_wp2_with fail
 refine wp_loop_rounds 2 ?_
 rw[rounds_succ]
 go_wp2_with fail
 go_ret2
 exact⟨rfl,hide (ah HO _ _ _ _ (ah Z1))⟩
theorem mO {w P G E g o}{rows:List (Nat×Obj)}{i V F V' K u}{a tb bk at0 s0:Nat}{s1 s2:Int}{X X1:Nat->Int}{j ix:Int}{b1 e1:Int}{E1:Nat->Bool}{V1:Nat->List Int}(h:Lp w P G E g o (rows) i V F V' K u)(ht:(tb,tbO a P)∈rows)(h0:0<w.heap.size)(p1:gU P j=0)(p2:jE P j=(bk:Int))(p3:jF P j=(at0:Int))(hfit:at0+32<=G.blk)(hb:E bk=true)(hi:iQ (((V' bk).drop at0).take 32))(hX:Iv (bG (((V' bk).drop at0).take 32))=Iv X)(hs:s0<=9)(HS:Hid (∀ v,Calls Tryz.prog 102 #[Pv P,.int .i64 ix] v fun r w'=>(∃ k,r=.returned (.tuple #[.slice (some ⟨k,0,none⟩) 3 3,.int .i64 0])/\v.heap.size<=k/\w'.heap[k]?=some (.cells #[.int .i64 (s0:Int),.int .i64 s1,.int .i64 s2] 3))/\Below v.heap.size v w'))(HV:aiE w P G g o i V F K rows tb j (pof s0) false X E V' b1 e1 X1 E1 V1)(hst:e1=0/\b1=0) :
  Calls Tryz.prog 43 #[.pointer (some ⟨tb,0,none⟩),.pointer (some ⟨o,0,none⟩),.int .i64 j,.int .i64 ix,.func (.func 44) #[] #[]] u fun r u'=>r=.returned (.tuple #[.int .i64 0,.int .i64 e1])/\Hid (Lp w P G E1 g o (rows) i V F V1 K u'):=by
 have hwu:w.heap.size<=u.heap.size:=h.bel.size
 have L0:Hid (Lp w P G E g o (((u.heap.size+2),zI j)::((u.heap.size+1),zC o 32)::(u.heap.size,zC tb 29)::rows) i V F V' K (((u.alloc (zC tb 29)).alloc (zC o 32)).alloc (zI j))):=h.yD _ _ _
 have hlt0:∀ y∈rows,y.1<u.heap.size:=fun y hy=>h.lt (hy)
 have HT:Hid (∀ v E2 V2,Lp w P G E2 g o (((u.heap.size+2),zI j)::((u.heap.size+1),zC o 32)::(u.heap.size,zC tb 29)::rows) i V F V2 K v->v.heap[tb]?=some (tbO a P)/\v.cell? ⟨u.heap.size,0,none⟩=some (.pointer (some ⟨tb,0,none⟩))/\v.cell? ⟨u.heap.size+1,0,none⟩=some (.pointer (some ⟨o,0,none⟩))/\v.cell? ⟨u.heap.size+2,0,none⟩=some (.int .i64 j)/\u.heap.size+2<v.heap.size):=fun v E2 V2 hv =>
  ⟨hv.row (List.mem_cons_of_mem _ (List.mem_cons_of_mem _ (List.mem_cons_of_mem _ (ht)))),aj (hv.row (x:=(u.heap.size,zC tb 29)) (by simp)),aj (hv.row (x:=((u.heap.size+1),zC o 32)) (by simp)),aj (hv.row (x:=((u.heap.size+2),zI j)) (by simp)),hv.lt (x:=((u.heap.size+2),zI j)) (by simp)⟩
 have KS:Hid (∀ v,Lp w P G E g o (((u.heap.size+2),zI j)::((u.heap.size+1),zC o 32)::(u.heap.size,zC tb 29)::rows) i V F V' K v->Calls Tryz.prog 102 #[Pv P,.int .i64 ix] v fun r w'=>∃ ks,r=.returned (.tuple #[.slice (some ⟨ks,0,none⟩) 3 3,.int .i64 0])/\Hid (v.heap.size<=ks/\Lp w P G E g o ((ks,.cells #[.int .i64 (s0:Int),.int .i64 s1,.int .i64 s2] 3)::((u.heap.size+2),zI j)::((u.heap.size+1),zC o 32)::(u.heap.size,zC tb 29)::rows) i V F V' K w')):=fun v hv=>by
  refine(ah HS v).mono ?_
  rintro r w' ⟨⟨k,rfl,hk1,hk2⟩,b1⟩
  exact⟨k,rfl,hk1,hv.push b1 hk1 hk2⟩
 have KG:Hid (∀ v ks,Lp w P G E g o ((ks,.cells #[.int .i64 (s0:Int),.int .i64 s1,.int .i64 s2] 3)::((u.heap.size+2),zI j)::((u.heap.size+1),zC o 32)::(u.heap.size,zC tb 29)::rows) i V F V' K v->Calls Tryz.prog 19 #[.pointer (some ⟨tb,0,none⟩),.pointer (some ⟨o,0,none⟩),.int .i64 j] v fun r u'=>r=.returned (.tuple #[Iv X,.int .i64 0])/\Hid (Lp w P G E g o ((ks,.cells #[.int .i64 (s0:Int),.int .i64 s1,.int .i64 s2] 3)::((u.heap.size+2),zI j)::((u.heap.size+1),zC o 32)::(u.heap.size,zC tb 29)::rows) i V F V' K u')):=fun v ks hv=>dJ hv X j (List.mem_cons_of_mem _ (List.mem_cons_of_mem _ (List.mem_cons_of_mem _ (List.mem_cons_of_mem _ (ht))))) h0 p1 p2 p3 hfit hb hi hX
 have KV:Hid (∀ v ks zxg zfc,u.heap.size+2<ks->ks<zxg->zxg<zfc->Lp w P G E g o (((zxg),.cells (Ic X) 50)::((zfc),.cells #[.pointer (some ⟨zxg,pof s0,none⟩)] 179)::(ks,.cells #[.int .i64 (s0:Int),.int .i64 s1,.int .i64 s2] 3)::((u.heap.size+2),zI j)::((u.heap.size+1),zC o 32)::(u.heap.size,zC tb 29)::rows) i V F V' K v->Calls Tryz.prog 44 #[.agg #[.int .i64 (X (pof s0)),.bool false,.func (.func 104) #[] #[.pointer (some ⟨zfc,0,none⟩),.pointer (some ⟨u.heap.size,0,none⟩),.pointer (some ⟨u.heap.size+1,0,none⟩),.pointer (some ⟨u.heap.size+2,0,none⟩),.pointer (some ⟨zxg,0,none⟩)]]] v fun r u'=>r=.returned (.tuple #[.int .i64 b1,.int .i64 e1])/\Hid (Lp w P G E1 g o (((zxg),.cells (Ic X1) 50)::((zfc),.cells #[.pointer (some ⟨zxg,pof s0,none⟩)] 179)::(ks,.cells #[.int .i64 (s0:Int),.int .i64 s1,.int .i64 s2] 3)::((u.heap.size+2),zI j)::((u.heap.size+1),zC o 32)::(u.heap.size,zC tb 29)::rows) i V F V1 K u')):=fun v ks zxg zfc c1 c2 c3 hv=>by
  refine HV v zxg zfc u.heap.size (u.heap.size+1) (u.heap.size+2) _ (by simp) (by simp) (by simp) (by simp) (by omega) (fun y hy=>?_) (fun y hy=>by simp[hy]) hv
  ·simp only[List.mem_cons] at hy
   rcases hy with rfl | rfl | rfl | rfl | rfl | hy
   ·show zfc≠zxg;omega
   ·show ks≠zxg;omega
   ·show u.heap.size+2≠zxg;omega
   ·show u.heap.size+1≠zxg;omega
   ·show u.heap.size≠zxg;omega
   ·have:=hlt0 y hy;omega
 have HC1:Hid (∀ v ks zxg zfc,Lp w P G E1 g o (((zxg),.cells (Ic X1) 50)::((zfc),.cells #[.pointer (some ⟨zxg,pof s0,none⟩)] 179)::(ks,.cells #[.int .i64 (s0:Int),.int .i64 s1,.int .i64 s2] 3)::((u.heap.size+2),zI j)::((u.heap.size+1),zC o 32)::(u.heap.size,zC tb 29)::rows) i V F V1 K v->v.cell? ⟨u.heap.size,0,none⟩=some (.pointer (some ⟨tb,0,none⟩))/\v.cell? ⟨u.heap.size+1,0,none⟩=some (.pointer (some ⟨o,0,none⟩))/\Bl v ks #[.int .i64 (s0:Int),.int .i64 s1,.int .i64 s2] 3):=fun v ks zxg zfc hv=>⟨aj (hv.row (x:=(u.heap.size,zC tb 29)) (by simp)),aj (hv.row (x:=((u.heap.size+1),zC o 32)) (by simp)),hv.row (x:=(ks,.cells #[.int .i64 (s0:Int),.int .i64 s1,.int .i64 s2] 3)) (by simp)⟩
 have HO:Hid (∀ v ks zxg zfc,Lp w P G E1 g o (((zxg),.cells (Ic X1) 50)::((zfc),.cells #[.pointer (some ⟨zxg,pof s0,none⟩)] 179)::(ks,.cells #[.int .i64 (s0:Int),.int .i64 s1,.int .i64 s2] 3)::((u.heap.size+2),zI j)::((u.heap.size+1),zC o 32)::(u.heap.size,zC tb 29)::rows) i V F V1 K v->Lp w P G E1 g o (rows) i V F V1 K v):=fun v ks zxg zfc hv=>hv.sub (fun x hx=>by
  simp[hx])
 have HX:Hid (∀ v ks,Lp w P G E g o ((ks,.cells #[.int .i64 (s0:Int),.int .i64 s1,.int .i64 s2] 3)::((u.heap.size+2),zI j)::((u.heap.size+1),zC o 32)::(u.heap.size,zC tb 29)::rows) i V F V' K v->u.heap.size+2<ks/\ks<v.heap.size/\Bl v ks #[.int .i64 (s0:Int),.int .i64 s1,.int .i64 s2] 3->Lp w P G E g o (((v.heap.size),.cells (Ic X) 50)::((v.heap.size+1),.cells #[.pointer (some ⟨v.heap.size,pof s0,none⟩)] 179)::(ks,.cells #[.int .i64 (s0:Int),.int .i64 s1,.int .i64 s2] 3)::((u.heap.size+2),zI j)::((u.heap.size+1),zC o 32)::(u.heap.size,zC tb 29)::rows) i V F V' K ((v.alloc (.cells (Ic X) 50)).alloc (.cells #[.pointer (some ⟨v.heap.size,pof s0,none⟩)] 179))):=fun v ks hv _=>by
  have:=hv.new2 (.cells (Ic X) 50) (.cells #[.pointer (some ⟨v.heap.size,pof s0,none⟩)] 179)
  exact this.sub (fun x hx=>by
   simp only[List.mem_cons] at hx ⊢
   rcases hx with h | h | h | h | h | h | h<;>simp[h])
 have HKS:Hid (∀ v ks,Lp w P G E g o ((ks,.cells #[.int .i64 (s0:Int),.int .i64 s1,.int .i64 s2] 3)::((u.heap.size+2),zI j)::((u.heap.size+1),zC o 32)::(u.heap.size,zC tb 29)::rows) i V F V' K v->u.heap.size+2<v.heap.size/\ks<v.heap.size/\Bl v ks #[.int .i64 (s0:Int),.int .i64 s1,.int .i64 s2] 3):=fun v ks hv=>⟨hv.lt (x:=((u.heap.size+2),zI j)) (by simp),hv.lt (x:=(ks,.cells #[.int .i64 (s0:Int),.int .i64 s1,.int .i64 s2] 3)) (by simp),hv.row (x:=(ks,.cells #[.int .i64 (s0:Int),.int .i64 s1,.int .i64 s2] 3)) (by simp)⟩
 have KQ:Hid (∀ v xg,Calls Tryz.prog 103 #[.pointer (some ⟨xg,0,none⟩),.int .i64 (s0:Int)] v fun r u'=>r=.returned (.pointer (some ⟨xg,pof s0,none⟩))/\v=u'):=fun v xg=>aO xg s0 v hs
 have hpo:=(fO hs).1
 have HPO:Hid (∀ v xg,Bl v xg (Ic X) 50->v.cell? ⟨xg,pof s0,none⟩=some (.int .i64 (X (pof s0)))):=fun v xg hv=>hv.cell _ _ (mF X hpo)
 clear h ht h0 p1 p2 p3 hfit hb hi hX hs HS HV  hlt0 hwu hpo 
 obtain⟨hs1,hs2⟩:=hst
 subst hs1 hs2
 generalize (s0:Int)=si at *
 generalize hps:pof s0=px at *
 clear hps
 generalize X px=xv at *
 go_enter Tryz.func43,Tryz.ntmps43
 go_upto_region 1 with fail
 change Code.wp _ _ _ _ (((u.alloc (zC tb 29)).alloc (zC o 32)).alloc (zI j))
 generalize (((u.alloc (zC tb 29)).alloc (zC o 32)).alloc (zI j))=w0 at *
 generalize u.heap.size=m at *
 obtain⟨tc,d0,d1,d2,hms⟩:=ah HT _ _ _ (ah L0)
 obtain⟨f0,f1,f2,f3,f4,f5,f6,f7,f8,f9,f10,f11⟩:=aS tc
 have K1:=hide (ah KS w0 (ah L0))
 have HMS:=hide hms
 clear KS L0 tc hms
 go_wp2_with fail
 go_at_call 102
 refine(ah K1).mono ?_
 rintro e w1 ⟨ks,rfl,Y1⟩
 obtain⟨hks,L1⟩:=ah Y1
 have HKL:=hide (Nat.lt_of_lt_of_le (ah HMS) hks)
 have K2:=hide (ah KG w1 ks L1)
 obtain⟨_,d0',d1',d2',_⟩:=ah HT w1 _ _ (L1.pop)
 clear K1 Y1 KG hks L1 HMS HT d0 d1 d2 f0 f1 f2 f3 f4 f5 f6 f7 f8 f9 f10 f11
 go_wp2_with fail
 go_at_call 19
 refine(ah K2).mono ?_
 rintro e w2 ⟨rfl,L2⟩
 obtain⟨_,hk2,bs⟩:=ah HKS w2 ks (ah L2)
 have L3:=hide (ah HX w2 ks (ah L2) ⟨ah HKL,hk2,bs⟩)
 have HK2:=hide hk2
 have bx:=Bl.new w2 (Ic X) 50
 have bs3:=bs.alloc (.cells (Ic X) 50)
 clear K2 HKS HX L2 d0' d1' d2' hk2 bs
 go_upto_region 7 with fail
 change Code.wp _ _ _ _ (w2.alloc (.cells (Ic X) 50))
 have hz:(w2.alloc (.cells (Ic X) 50)).heap.size=w2.heap.size+1:=size_alloc _ _
 generalize w2.alloc (.cells (Ic X) 50)=w3 at *
 generalize w2.heap.size=xg at *
 have i0:=bs3.cell 0 _ rfl
 have HBX:=hide bx
 have HZ:=hide hz
 clear bs3 bx hz
 go_wp2_with fail
 go_at_call 103
 refine(ah KQ w3 xg).mono ?_
 rintro e w4 ⟨rfl,rfl⟩
 have px1:=ah HPO _ _ ((ah HBX).alloc (.cells #[.pointer (some ⟨xg,px,none⟩)] 179))
 have fc1:=aj (Bl.new w3 #[.pointer (some ⟨xg,px,none⟩)] 179)
 have K4:=hide (ah KV _ ks xg (xg+1) (ah HKL) (ah HK2) (by omega) (ah L3))
 rw[ah HZ] at fc1
 clear KQ HPO HBX KV L3 i0
 go_upto_region 10 with fail
 change Code.wp _ _ _ _ (w3.alloc (.cells #[.pointer (some ⟨xg,px,none⟩)] 179))
 generalize w3.alloc (.cells #[.pointer (some ⟨xg,px,none⟩)] 179)=w5 at *
 simp only[ah HZ]
 clear HZ
 go_wp2_with fail
 go_at_call 44
 refine(ah K4).mono ?_
 rintro e w6 ⟨rfl,Z1⟩
 obtain⟨t0,t1,bk1⟩:=ah HC1 w6 ks xg (xg+1) (ah Z1)
 have i0:=bk1.cell 0 _ rfl
 have i1:=bk1.cell 1 _ rfl
 have i2:=bk1.cell 2 _ rfl
 clear K4 px1 fc1 HC1 bk1
 go_wp2_with fail
 refine wp_loop_rounds 3 ?_
 rw[rounds_succ]
 go_wp2_with fail
 go_ret2
 exact⟨rfl,hide (ah HO _ _ _ _ (ah Z1))⟩
theorem mM {w P G E g o}{rows:List (Nat×Obj)}{i V F V' K u}{a tb bk at0 s0:Nat}{s1 s2:Int}{X X1:Nat->Int}{j ix:Int}{b1 e1:Int}{E1:Nat->Bool}{V1:Nat->List Int}{b2 e2:Int}{E2:Nat->Bool}{V2:Nat->List Int}(h:Lp w P G E g o (rows) i V F V' K u)(ht:(tb,tbO a P)∈rows)(h0:0<w.heap.size)(p1:gU P j=0)(p2:jE P j=(bk:Int))(p3:jF P j=(at0:Int))(hfit:at0+32<=G.blk)(hb:E bk=true)(hi:iQ (((V' bk).drop at0).take 32))(hX:Iv (bG (((V' bk).drop at0).take 32))=Iv X)(hs:s0<=9)(HS:Hid (∀ v,Calls Tryz.prog 102 #[Pv P,.int .i64 ix] v fun r w'=>(∃ k,r=.returned (.tuple #[.slice (some ⟨k,0,none⟩) 3 3,.int .i64 0])/\v.heap.size<=k/\w'.heap[k]?=some (.cells #[.int .i64 (s0:Int),.int .i64 s1,.int .i64 s2] 3))/\Below v.heap.size v w'))(HV:aiE w P G g o i V F K rows tb j (pof s0) false X E V' b1 e1 X1 E1 V1)(HE2:aiG w P G g o i V F K rows tb b1 s1 false E1 V1 b2 e2 E2 V2)(hc1:e1=0/\b1≠0)(hst:e2=0/\b2=0) :
  Calls Tryz.prog 43 #[.pointer (some ⟨tb,0,none⟩),.pointer (some ⟨o,0,none⟩),.int .i64 j,.int .i64 ix,.func (.func 44) #[] #[]] u fun r u'=>r=.returned (.tuple #[.int .i64 0,.int .i64 e2])/\Hid (Lp w P G E2 g o (rows) i V F V2 K u'):=by
 have hwu:w.heap.size<=u.heap.size:=h.bel.size
 have L0:Hid (Lp w P G E g o (((u.heap.size+2),zI j)::((u.heap.size+1),zC o 32)::(u.heap.size,zC tb 29)::rows) i V F V' K (((u.alloc (zC tb 29)).alloc (zC o 32)).alloc (zI j))):=h.yD _ _ _
 have hlt0:∀ y∈rows,y.1<u.heap.size:=fun y hy=>h.lt (hy)
 have HT:Hid (∀ v E2 V2,Lp w P G E2 g o (((u.heap.size+2),zI j)::((u.heap.size+1),zC o 32)::(u.heap.size,zC tb 29)::rows) i V F V2 K v->v.heap[tb]?=some (tbO a P)/\v.cell? ⟨u.heap.size,0,none⟩=some (.pointer (some ⟨tb,0,none⟩))/\v.cell? ⟨u.heap.size+1,0,none⟩=some (.pointer (some ⟨o,0,none⟩))/\v.cell? ⟨u.heap.size+2,0,none⟩=some (.int .i64 j)/\u.heap.size+2<v.heap.size):=fun v E2 V2 hv =>
  ⟨hv.row (List.mem_cons_of_mem _ (List.mem_cons_of_mem _ (List.mem_cons_of_mem _ (ht)))),aj (hv.row (x:=(u.heap.size,zC tb 29)) (by simp)),aj (hv.row (x:=((u.heap.size+1),zC o 32)) (by simp)),aj (hv.row (x:=((u.heap.size+2),zI j)) (by simp)),hv.lt (x:=((u.heap.size+2),zI j)) (by simp)⟩
 have KS:Hid (∀ v,Lp w P G E g o (((u.heap.size+2),zI j)::((u.heap.size+1),zC o 32)::(u.heap.size,zC tb 29)::rows) i V F V' K v->Calls Tryz.prog 102 #[Pv P,.int .i64 ix] v fun r w'=>∃ ks,r=.returned (.tuple #[.slice (some ⟨ks,0,none⟩) 3 3,.int .i64 0])/\Hid (v.heap.size<=ks/\Lp w P G E g o ((ks,.cells #[.int .i64 (s0:Int),.int .i64 s1,.int .i64 s2] 3)::((u.heap.size+2),zI j)::((u.heap.size+1),zC o 32)::(u.heap.size,zC tb 29)::rows) i V F V' K w')):=fun v hv=>by
  refine(ah HS v).mono ?_
  rintro r w' ⟨⟨k,rfl,hk1,hk2⟩,b1⟩
  exact⟨k,rfl,hk1,hv.push b1 hk1 hk2⟩
 have KG:Hid (∀ v ks,Lp w P G E g o ((ks,.cells #[.int .i64 (s0:Int),.int .i64 s1,.int .i64 s2] 3)::((u.heap.size+2),zI j)::((u.heap.size+1),zC o 32)::(u.heap.size,zC tb 29)::rows) i V F V' K v->Calls Tryz.prog 19 #[.pointer (some ⟨tb,0,none⟩),.pointer (some ⟨o,0,none⟩),.int .i64 j] v fun r u'=>r=.returned (.tuple #[Iv X,.int .i64 0])/\Hid (Lp w P G E g o ((ks,.cells #[.int .i64 (s0:Int),.int .i64 s1,.int .i64 s2] 3)::((u.heap.size+2),zI j)::((u.heap.size+1),zC o 32)::(u.heap.size,zC tb 29)::rows) i V F V' K u')):=fun v ks hv=>dJ hv X j (List.mem_cons_of_mem _ (List.mem_cons_of_mem _ (List.mem_cons_of_mem _ (List.mem_cons_of_mem _ (ht))))) h0 p1 p2 p3 hfit hb hi hX
 have KV:Hid (∀ v ks zxg zfc,u.heap.size+2<ks->ks<zxg->zxg<zfc->Lp w P G E g o (((zxg),.cells (Ic X) 50)::((zfc),.cells #[.pointer (some ⟨zxg,pof s0,none⟩)] 179)::(ks,.cells #[.int .i64 (s0:Int),.int .i64 s1,.int .i64 s2] 3)::((u.heap.size+2),zI j)::((u.heap.size+1),zC o 32)::(u.heap.size,zC tb 29)::rows) i V F V' K v->Calls Tryz.prog 44 #[.agg #[.int .i64 (X (pof s0)),.bool false,.func (.func 104) #[] #[.pointer (some ⟨zfc,0,none⟩),.pointer (some ⟨u.heap.size,0,none⟩),.pointer (some ⟨u.heap.size+1,0,none⟩),.pointer (some ⟨u.heap.size+2,0,none⟩),.pointer (some ⟨zxg,0,none⟩)]]] v fun r u'=>r=.returned (.tuple #[.int .i64 b1,.int .i64 e1])/\Hid (Lp w P G E1 g o (((zxg),.cells (Ic X1) 50)::((zfc),.cells #[.pointer (some ⟨zxg,pof s0,none⟩)] 179)::(ks,.cells #[.int .i64 (s0:Int),.int .i64 s1,.int .i64 s2] 3)::((u.heap.size+2),zI j)::((u.heap.size+1),zC o 32)::(u.heap.size,zC tb 29)::rows) i V F V1 K u')):=fun v ks zxg zfc c1 c2 c3 hv=>by
  refine HV v zxg zfc u.heap.size (u.heap.size+1) (u.heap.size+2) _ (by simp) (by simp) (by simp) (by simp) (by omega) (fun y hy=>?_) (fun y hy=>by simp[hy]) hv
  ·simp only[List.mem_cons] at hy
   rcases hy with rfl | rfl | rfl | rfl | rfl | hy
   ·show zfc≠zxg;omega
   ·show ks≠zxg;omega
   ·show u.heap.size+2≠zxg;omega
   ·show u.heap.size+1≠zxg;omega
   ·show u.heap.size≠zxg;omega
   ·have:=hlt0 y hy;omega
 have KE2:Hid (∀ v ks zxg zfc,u.heap.size+2<ks->ks<zxg->zxg<zfc->Lp w P G E1 g o (((zxg),.cells (Ic X1) 50)::((zfc),.cells #[.pointer (some ⟨zxg,pof s0,none⟩)] 179)::(ks,.cells #[.int .i64 (s0:Int),.int .i64 s1,.int .i64 s2] 3)::((u.heap.size+2),zI j)::((u.heap.size+1),zC o 32)::(u.heap.size,zC tb 29)::rows) i V F V1 K v->Calls Tryz.prog 105 #[.pointer (some ⟨tb,0,none⟩),.pointer (some ⟨o,0,none⟩),.int .i64 b1,.int .i64 s1,.bool false,.func (.func 44) #[] #[]] v fun r u'=>r=.returned (.tuple #[.int .i64 b2,.int .i64 e2])/\Hid (Lp w P G E2 g o (((zxg),.cells (Ic X1) 50)::((zfc),.cells #[.pointer (some ⟨zxg,pof s0,none⟩)] 179)::(ks,.cells #[.int .i64 (s0:Int),.int .i64 s1,.int .i64 s2] 3)::((u.heap.size+2),zI j)::((u.heap.size+1),zC o 32)::(u.heap.size,zC tb 29)::rows) i V F V2 K u')):=fun v ks zxg zfc c1 c2 c3 hv=>by
  refine HE2 v _ (fun y hy=>by simp[hy]) hv
 have HC1:Hid (∀ v ks zxg zfc,Lp w P G E1 g o (((zxg),.cells (Ic X1) 50)::((zfc),.cells #[.pointer (some ⟨zxg,pof s0,none⟩)] 179)::(ks,.cells #[.int .i64 (s0:Int),.int .i64 s1,.int .i64 s2] 3)::((u.heap.size+2),zI j)::((u.heap.size+1),zC o 32)::(u.heap.size,zC tb 29)::rows) i V F V1 K v->v.cell? ⟨u.heap.size,0,none⟩=some (.pointer (some ⟨tb,0,none⟩))/\v.cell? ⟨u.heap.size+1,0,none⟩=some (.pointer (some ⟨o,0,none⟩))/\Bl v ks #[.int .i64 (s0:Int),.int .i64 s1,.int .i64 s2] 3):=fun v ks zxg zfc hv=>⟨aj (hv.row (x:=(u.heap.size,zC tb 29)) (by simp)),aj (hv.row (x:=((u.heap.size+1),zC o 32)) (by simp)),hv.row (x:=(ks,.cells #[.int .i64 (s0:Int),.int .i64 s1,.int .i64 s2] 3)) (by simp)⟩
 have HC2:Hid (∀ v ks zxg zfc,Lp w P G E2 g o (((zxg),.cells (Ic X1) 50)::((zfc),.cells #[.pointer (some ⟨zxg,pof s0,none⟩)] 179)::(ks,.cells #[.int .i64 (s0:Int),.int .i64 s1,.int .i64 s2] 3)::((u.heap.size+2),zI j)::((u.heap.size+1),zC o 32)::(u.heap.size,zC tb 29)::rows) i V F V2 K v->v.cell? ⟨u.heap.size,0,none⟩=some (.pointer (some ⟨tb,0,none⟩))/\v.cell? ⟨u.heap.size+1,0,none⟩=some (.pointer (some ⟨o,0,none⟩))/\Bl v ks #[.int .i64 (s0:Int),.int .i64 s1,.int .i64 s2] 3):=fun v ks zxg zfc hv=>⟨aj (hv.row (x:=(u.heap.size,zC tb 29)) (by simp)),aj (hv.row (x:=((u.heap.size+1),zC o 32)) (by simp)),hv.row (x:=(ks,.cells #[.int .i64 (s0:Int),.int .i64 s1,.int .i64 s2] 3)) (by simp)⟩
 have HO:Hid (∀ v ks zxg zfc,Lp w P G E2 g o (((zxg),.cells (Ic X1) 50)::((zfc),.cells #[.pointer (some ⟨zxg,pof s0,none⟩)] 179)::(ks,.cells #[.int .i64 (s0:Int),.int .i64 s1,.int .i64 s2] 3)::((u.heap.size+2),zI j)::((u.heap.size+1),zC o 32)::(u.heap.size,zC tb 29)::rows) i V F V2 K v->Lp w P G E2 g o (rows) i V F V2 K v):=fun v ks zxg zfc hv=>hv.sub (fun x hx=>by
  simp[hx])
 have HX:Hid (∀ v ks,Lp w P G E g o ((ks,.cells #[.int .i64 (s0:Int),.int .i64 s1,.int .i64 s2] 3)::((u.heap.size+2),zI j)::((u.heap.size+1),zC o 32)::(u.heap.size,zC tb 29)::rows) i V F V' K v->u.heap.size+2<ks/\ks<v.heap.size/\Bl v ks #[.int .i64 (s0:Int),.int .i64 s1,.int .i64 s2] 3->Lp w P G E g o (((v.heap.size),.cells (Ic X) 50)::((v.heap.size+1),.cells #[.pointer (some ⟨v.heap.size,pof s0,none⟩)] 179)::(ks,.cells #[.int .i64 (s0:Int),.int .i64 s1,.int .i64 s2] 3)::((u.heap.size+2),zI j)::((u.heap.size+1),zC o 32)::(u.heap.size,zC tb 29)::rows) i V F V' K ((v.alloc (.cells (Ic X) 50)).alloc (.cells #[.pointer (some ⟨v.heap.size,pof s0,none⟩)] 179))):=fun v ks hv _=>by
  have:=hv.new2 (.cells (Ic X) 50) (.cells #[.pointer (some ⟨v.heap.size,pof s0,none⟩)] 179)
  exact this.sub (fun x hx=>by
   simp only[List.mem_cons] at hx ⊢
   rcases hx with h | h | h | h | h | h | h<;>simp[h])
 have HKS:Hid (∀ v ks,Lp w P G E g o ((ks,.cells #[.int .i64 (s0:Int),.int .i64 s1,.int .i64 s2] 3)::((u.heap.size+2),zI j)::((u.heap.size+1),zC o 32)::(u.heap.size,zC tb 29)::rows) i V F V' K v->u.heap.size+2<v.heap.size/\ks<v.heap.size/\Bl v ks #[.int .i64 (s0:Int),.int .i64 s1,.int .i64 s2] 3):=fun v ks hv=>⟨hv.lt (x:=((u.heap.size+2),zI j)) (by simp),hv.lt (x:=(ks,.cells #[.int .i64 (s0:Int),.int .i64 s1,.int .i64 s2] 3)) (by simp),hv.row (x:=(ks,.cells #[.int .i64 (s0:Int),.int .i64 s1,.int .i64 s2] 3)) (by simp)⟩
 have KQ:Hid (∀ v xg,Calls Tryz.prog 103 #[.pointer (some ⟨xg,0,none⟩),.int .i64 (s0:Int)] v fun r u'=>r=.returned (.pointer (some ⟨xg,pof s0,none⟩))/\v=u'):=fun v xg=>aO xg s0 v hs
 have hpo:=(fO hs).1
 have HPO:Hid (∀ v xg,Bl v xg (Ic X) 50->v.cell? ⟨xg,pof s0,none⟩=some (.int .i64 (X (pof s0)))):=fun v xg hv=>hv.cell _ _ (mF X hpo)
 clear h ht h0 p1 p2 p3 hfit hb hi hX hs HS HV HE2 hlt0 hwu hpo 
 obtain⟨vZ,wo⟩:=hc1
 have ce1:(e1 != 0)=false:=by simp[vZ]
 have cb1:(b1==0)=false:=by simpa using wo
 clear vZ wo
 obtain⟨hs1,hs2⟩:=hst
 subst hs1 hs2
 generalize (s0:Int)=si at *
 generalize hps:pof s0=px at *
 clear hps
 generalize X px=xv at *
 go_enter Tryz.func43,Tryz.ntmps43
 go_upto_region 1 with fail
 change Code.wp _ _ _ _ (((u.alloc (zC tb 29)).alloc (zC o 32)).alloc (zI j))
 generalize (((u.alloc (zC tb 29)).alloc (zC o 32)).alloc (zI j))=w0 at *
 generalize u.heap.size=m at *
 obtain⟨tc,d0,d1,d2,hms⟩:=ah HT _ _ _ (ah L0)
 obtain⟨f0,f1,f2,f3,f4,f5,f6,f7,f8,f9,f10,f11⟩:=aS tc
 have K1:=hide (ah KS w0 (ah L0))
 have HMS:=hide hms
 clear KS L0 tc hms
 go_wp2_with fail
 go_at_call 102
 refine(ah K1).mono ?_
 rintro e w1 ⟨ks,rfl,Y1⟩
 obtain⟨hks,L1⟩:=ah Y1
 have HKL:=hide (Nat.lt_of_lt_of_le (ah HMS) hks)
 have K2:=hide (ah KG w1 ks L1)
 obtain⟨_,d0',d1',d2',_⟩:=ah HT w1 _ _ (L1.pop)
 clear K1 Y1 KG hks L1 HMS HT d0 d1 d2 f0 f1 f2 f3 f4 f5 f6 f7 f8 f9 f10 f11
 go_wp2_with fail
 go_at_call 19
 refine(ah K2).mono ?_
 rintro e w2 ⟨rfl,L2⟩
 obtain⟨_,hk2,bs⟩:=ah HKS w2 ks (ah L2)
 have L3:=hide (ah HX w2 ks (ah L2) ⟨ah HKL,hk2,bs⟩)
 have HK2:=hide hk2
 have bx:=Bl.new w2 (Ic X) 50
 have bs3:=bs.alloc (.cells (Ic X) 50)
 clear K2 HKS HX L2 d0' d1' d2' hk2 bs
 go_upto_region 7 with fail
 change Code.wp _ _ _ _ (w2.alloc (.cells (Ic X) 50))
 have hz:(w2.alloc (.cells (Ic X) 50)).heap.size=w2.heap.size+1:=size_alloc _ _
 generalize w2.alloc (.cells (Ic X) 50)=w3 at *
 generalize w2.heap.size=xg at *
 have i0:=bs3.cell 0 _ rfl
 have HBX:=hide bx
 have HZ:=hide hz
 clear bs3 bx hz
 go_wp2_with fail
 go_at_call 103
 refine(ah KQ w3 xg).mono ?_
 rintro e w4 ⟨rfl,rfl⟩
 have px1:=ah HPO _ _ ((ah HBX).alloc (.cells #[.pointer (some ⟨xg,px,none⟩)] 179))
 have fc1:=aj (Bl.new w3 #[.pointer (some ⟨xg,px,none⟩)] 179)
 have K4:=hide (ah KV _ ks xg (xg+1) (ah HKL) (ah HK2) (by omega) (ah L3))
 rw[ah HZ] at fc1
 clear KQ HPO HBX KV L3 i0
 go_upto_region 10 with fail
 change Code.wp _ _ _ _ (w3.alloc (.cells #[.pointer (some ⟨xg,px,none⟩)] 179))
 generalize w3.alloc (.cells #[.pointer (some ⟨xg,px,none⟩)] 179)=w5 at *
 simp only[ah HZ]
 clear HZ
 go_wp2_with fail
 go_at_call 44
 refine(ah K4).mono ?_
 rintro e w6 ⟨rfl,Z1⟩
 obtain⟨t0,t1,bk1⟩:=ah HC1 w6 ks xg (xg+1) (ah Z1)
 have i0:=bk1.cell 0 _ rfl
 have i1:=bk1.cell 1 _ rfl
 have i2:=bk1.cell 2 _ rfl
 clear K4 px1 fc1 HC1 bk1
 go_wp2_with fail
 refine wp_loop_rounds 3 ?_
 rw[rounds_succ]
 have KX2:=hide (ah KE2 _ ks xg (xg+1) (ah HKL) (ah HK2) (by omega) (ah Z1))
 clear KE2 Z1
 go_wp2_with fail
 go_at_call 105
 refine(ah KX2).mono ?_
 rintro e w7 ⟨rfl,Z2⟩
 obtain⟨t0,t1,bk2⟩:=ah HC2 _ ks xg (xg+1) (ah Z2)
 have i20:=bk2.cell 0 _ rfl
 have i21:=bk2.cell 1 _ rfl
 have i22:=bk2.cell 2 _ rfl
 clear KX2 HC2 bk2
 go_wp2_with fail
 rw[rounds_succ]
 go_wp2_with fail
 go_ret2
 exact⟨rfl,hide (ah HO _ _ _ _ (ah Z2))⟩
theorem qj {w P G E g o}{rows:List (Nat×Obj)}{i V F V' K u}{a tb bk at0 s0:Nat}{fg tg og:Nat}{q0:Bool}{s1:Int}{X X1:Nat->Int}{j ix:Int}{b1 e1:Int}{E1:Nat->Bool}{V1:Nat->List Int}{q1:Bool}(h:Lp w P G E g o ((fg,zB q0)::rows) i V F V' K u)(ht:(tb,tbO a P)∈rows)(h0:0<w.heap.size)(hwf:w.heap.size<=fg)(hfg:∀ y∈rows,y.1≠fg)(p1:gU P j=0)(p2:jE P j=(bk:Int))(p3:jF P j=(at0:Int))(hfit:at0+32<=G.blk)(hb:E bk=true)(hi:iQ (((V' bk).drop at0).take 32))(hX:Iv (bG (((V' bk).drop at0).take 32))=Iv X)(hs:s0<=9)(HS:Hid (∀ v,Calls Tryz.prog 102 #[Pv P,.int .i64 ix] v fun r w'=>(∃ k,r=.returned (.tuple #[.slice (some ⟨k,0,none⟩) 2 2,.int .i64 0])/\v.heap.size<=k/\w'.heap[k]?=some (.cells #[.int .i64 (s0:Int),.int .i64 s1] 3))/\Below v.heap.size v w'))(HV:aeG w P G g o i V F K rows fg tg og tb j (pof s0) false X q0 E V' b1 e1 X1 q1 E1 V1)(hst:e1≠0) :
  Calls Tryz.prog 43 #[.pointer (some ⟨tb,0,none⟩),.pointer (some ⟨o,0,none⟩),.int .i64 j,.int .i64 ix,.func (.func 45) #[] #[.pointer (some ⟨fg,0,none⟩),.pointer (some ⟨tg,0,none⟩),.pointer (some ⟨og,0,none⟩)]] u fun r u'=>r=.returned (.tuple #[.int .i64 0,.int .i64 e1])/\Hid (Lp w P G E1 g o ((fg,zB q1)::rows) i V F V1 K u'):=by
 have hwu:w.heap.size<=u.heap.size:=h.bel.size
 have hfu:fg<u.heap.size:=h.lt (x:=(fg,zB q0)) (by simp)
 have L0:Hid (Lp w P G E g o ((fg,zB q0)::((u.heap.size+2),zI j)::((u.heap.size+1),zC o 32)::(u.heap.size,zC tb 29)::rows) i V F V' K (((u.alloc (zC tb 29)).alloc (zC o 32)).alloc (zI j))):=(h.yD _ _ _).sub (fun x hx=>by
  simp only[List.mem_cons] at hx ⊢
  rcases hx with h | h | h | h | h<;>simp[h])
 have hlt0:∀ y∈rows,y.1<u.heap.size:=fun y hy=>h.lt (List.mem_cons_of_mem _ hy)
 have HT:Hid (∀ v E2 V2 qq,Lp w P G E2 g o ((fg,zB qq)::((u.heap.size+2),zI j)::((u.heap.size+1),zC o 32)::(u.heap.size,zC tb 29)::rows) i V F V2 K v->v.heap[tb]?=some (tbO a P)/\v.cell? ⟨u.heap.size,0,none⟩=some (.pointer (some ⟨tb,0,none⟩))/\v.cell? ⟨u.heap.size+1,0,none⟩=some (.pointer (some ⟨o,0,none⟩))/\v.cell? ⟨u.heap.size+2,0,none⟩=some (.int .i64 j)/\u.heap.size+2<v.heap.size):=fun v E2 V2 qq hv =>
  ⟨hv.row (List.mem_cons_of_mem _ (List.mem_cons_of_mem _ (List.mem_cons_of_mem _ (List.mem_cons_of_mem _ (ht))))),aj (hv.row (x:=(u.heap.size,zC tb 29)) (by simp)),aj (hv.row (x:=((u.heap.size+1),zC o 32)) (by simp)),aj (hv.row (x:=((u.heap.size+2),zI j)) (by simp)),hv.lt (x:=((u.heap.size+2),zI j)) (by simp)⟩
 have KS:Hid (∀ v,Lp w P G E g o ((fg,zB q0)::((u.heap.size+2),zI j)::((u.heap.size+1),zC o 32)::(u.heap.size,zC tb 29)::rows) i V F V' K v->Calls Tryz.prog 102 #[Pv P,.int .i64 ix] v fun r w'=>∃ ks,r=.returned (.tuple #[.slice (some ⟨ks,0,none⟩) 2 2,.int .i64 0])/\Hid (v.heap.size<=ks/\Lp w P G E g o ((fg,zB q0)::(ks,.cells #[.int .i64 (s0:Int),.int .i64 s1] 3)::((u.heap.size+2),zI j)::((u.heap.size+1),zC o 32)::(u.heap.size,zC tb 29)::rows) i V F V' K w')):=fun v hv=>by
  refine(ah HS v).mono ?_
  rintro r w' ⟨⟨k,rfl,hk1,hk2⟩,b1⟩
  exact⟨k,rfl,hk1,(hv.push b1 hk1 hk2).sub aK⟩
 have KG:Hid (∀ v ks,Lp w P G E g o ((fg,zB q0)::(ks,.cells #[.int .i64 (s0:Int),.int .i64 s1] 3)::((u.heap.size+2),zI j)::((u.heap.size+1),zC o 32)::(u.heap.size,zC tb 29)::rows) i V F V' K v->Calls Tryz.prog 19 #[.pointer (some ⟨tb,0,none⟩),.pointer (some ⟨o,0,none⟩),.int .i64 j] v fun r u'=>r=.returned (.tuple #[Iv X,.int .i64 0])/\Hid (Lp w P G E g o ((fg,zB q0)::(ks,.cells #[.int .i64 (s0:Int),.int .i64 s1] 3)::((u.heap.size+2),zI j)::((u.heap.size+1),zC o 32)::(u.heap.size,zC tb 29)::rows) i V F V' K u')):=fun v ks hv=>dJ hv X j (List.mem_cons_of_mem _ (List.mem_cons_of_mem _ (List.mem_cons_of_mem _ (List.mem_cons_of_mem _ (List.mem_cons_of_mem _ (ht)))))) h0 p1 p2 p3 hfit hb hi hX
 have KV:Hid (∀ v ks zxg zfc,u.heap.size+2<ks->ks<zxg->zxg<zfc->Lp w P G E g o ((fg,zB q0)::((zxg),.cells (Ic X) 50)::((zfc),.cells #[.pointer (some ⟨zxg,pof s0,none⟩)] 179)::(ks,.cells #[.int .i64 (s0:Int),.int .i64 s1] 3)::((u.heap.size+2),zI j)::((u.heap.size+1),zC o 32)::(u.heap.size,zC tb 29)::rows) i V F V' K v->Calls Tryz.prog 45 #[.agg #[.int .i64 (X (pof s0)),.bool false,.func (.func 104) #[] #[.pointer (some ⟨zfc,0,none⟩),.pointer (some ⟨u.heap.size,0,none⟩),.pointer (some ⟨u.heap.size+1,0,none⟩),.pointer (some ⟨u.heap.size+2,0,none⟩),.pointer (some ⟨zxg,0,none⟩)]],.pointer (some ⟨fg,0,none⟩),.pointer (some ⟨tg,0,none⟩),.pointer (some ⟨og,0,none⟩)] v fun r u'=>r=.returned (.tuple #[.int .i64 b1,.int .i64 e1])/\Hid (Lp w P G E1 g o ((fg,zB q1)::((zxg),.cells (Ic X1) 50)::((zfc),.cells #[.pointer (some ⟨zxg,pof s0,none⟩)] 179)::(ks,.cells #[.int .i64 (s0:Int),.int .i64 s1] 3)::((u.heap.size+2),zI j)::((u.heap.size+1),zC o 32)::(u.heap.size,zC tb 29)::rows) i V F V1 K u')):=fun v ks zxg zfc c1 c2 c3 hv=>by
  refine HV v zxg zfc u.heap.size (u.heap.size+1) (u.heap.size+2) _ (by simp) (by simp) (by simp) (by simp) (by omega) (fun y hy=>?_) (by omega) (fun y hy=>?_) (fun y hy=>by simp[hy]) hv
  ·simp only[List.mem_cons] at hy
   rcases hy with rfl | rfl | rfl | rfl | rfl | hy
   ·show zfc≠zxg;omega
   ·show ks≠zxg;omega
   ·show u.heap.size+2≠zxg;omega
   ·show u.heap.size+1≠zxg;omega
   ·show u.heap.size≠zxg;omega
   ·have:=hlt0 y hy;omega
  ·simp only[List.mem_cons] at hy
   rcases hy with rfl | rfl | rfl | rfl | rfl | rfl | hy
   ·show zxg≠fg;omega
   ·show zfc≠fg;omega
   ·show ks≠fg;omega
   ·show u.heap.size+2≠fg;omega
   ·show u.heap.size+1≠fg;omega
   ·show u.heap.size≠fg;omega
   ·exact hfg y hy
 have HC1:Hid (∀ v ks zxg zfc,Lp w P G E1 g o ((fg,zB q1)::((zxg),.cells (Ic X1) 50)::((zfc),.cells #[.pointer (some ⟨zxg,pof s0,none⟩)] 179)::(ks,.cells #[.int .i64 (s0:Int),.int .i64 s1] 3)::((u.heap.size+2),zI j)::((u.heap.size+1),zC o 32)::(u.heap.size,zC tb 29)::rows) i V F V1 K v->v.cell? ⟨u.heap.size,0,none⟩=some (.pointer (some ⟨tb,0,none⟩))/\v.cell? ⟨u.heap.size+1,0,none⟩=some (.pointer (some ⟨o,0,none⟩))/\Bl v ks #[.int .i64 (s0:Int),.int .i64 s1] 3):=fun v ks zxg zfc hv=>⟨aj (hv.row (x:=(u.heap.size,zC tb 29)) (by simp)),aj (hv.row (x:=((u.heap.size+1),zC o 32)) (by simp)),hv.row (x:=(ks,.cells #[.int .i64 (s0:Int),.int .i64 s1] 3)) (by simp)⟩
 have HO:Hid (∀ v ks zxg zfc,Lp w P G E1 g o ((fg,zB q1)::((zxg),.cells (Ic X1) 50)::((zfc),.cells #[.pointer (some ⟨zxg,pof s0,none⟩)] 179)::(ks,.cells #[.int .i64 (s0:Int),.int .i64 s1] 3)::((u.heap.size+2),zI j)::((u.heap.size+1),zC o 32)::(u.heap.size,zC tb 29)::rows) i V F V1 K v->Lp w P G E1 g o ((fg,zB q1)::rows) i V F V1 K v):=fun v ks zxg zfc hv=>hv.sub (fun x hx=>by
  simp only[List.mem_cons] at hx ⊢
  rcases hx with h | h<;>simp[h])
 have HX:Hid (∀ v ks,Lp w P G E g o ((fg,zB q0)::(ks,.cells #[.int .i64 (s0:Int),.int .i64 s1] 3)::((u.heap.size+2),zI j)::((u.heap.size+1),zC o 32)::(u.heap.size,zC tb 29)::rows) i V F V' K v->u.heap.size+2<ks/\ks<v.heap.size/\Bl v ks #[.int .i64 (s0:Int),.int .i64 s1] 3->Lp w P G E g o ((fg,zB q0)::((v.heap.size),.cells (Ic X) 50)::((v.heap.size+1),.cells #[.pointer (some ⟨v.heap.size,pof s0,none⟩)] 179)::(ks,.cells #[.int .i64 (s0:Int),.int .i64 s1] 3)::((u.heap.size+2),zI j)::((u.heap.size+1),zC o 32)::(u.heap.size,zC tb 29)::rows) i V F V' K ((v.alloc (.cells (Ic X) 50)).alloc (.cells #[.pointer (some ⟨v.heap.size,pof s0,none⟩)] 179))):=fun v ks hv _=>by
  have:=hv.new2 (.cells (Ic X) 50) (.cells #[.pointer (some ⟨v.heap.size,pof s0,none⟩)] 179)
  exact this.sub (fun x hx=>by
   simp only[List.mem_cons] at hx ⊢
   rcases hx with h | h | h | h | h | h | h | h<;>simp[h])
 have HKS:Hid (∀ v ks,Lp w P G E g o ((fg,zB q0)::(ks,.cells #[.int .i64 (s0:Int),.int .i64 s1] 3)::((u.heap.size+2),zI j)::((u.heap.size+1),zC o 32)::(u.heap.size,zC tb 29)::rows) i V F V' K v->u.heap.size+2<v.heap.size/\ks<v.heap.size/\Bl v ks #[.int .i64 (s0:Int),.int .i64 s1] 3):=fun v ks hv=>⟨hv.lt (x:=((u.heap.size+2),zI j)) (by simp),hv.lt (x:=(ks,.cells #[.int .i64 (s0:Int),.int .i64 s1] 3)) (by simp),hv.row (x:=(ks,.cells #[.int .i64 (s0:Int),.int .i64 s1] 3)) (by simp)⟩
 have KQ:Hid (∀ v xg,Calls Tryz.prog 103 #[.pointer (some ⟨xg,0,none⟩),.int .i64 (s0:Int)] v fun r u'=>r=.returned (.pointer (some ⟨xg,pof s0,none⟩))/\v=u'):=fun v xg=>aO xg s0 v hs
 have hpo:=(fO hs).1
 have HPO:Hid (∀ v xg,Bl v xg (Ic X) 50->v.cell? ⟨xg,pof s0,none⟩=some (.int .i64 (X (pof s0)))):=fun v xg hv=>hv.cell _ _ (mF X hpo)
 clear h ht h0 p1 p2 p3 hfit hb hi hX hs HS HV  hlt0 hwu hpo hwf hfg hfu
 have cs:(e1 != 0)=true:=by simpa using hst
 clear hst
 generalize (s0:Int)=si at *
 generalize hps:pof s0=px at *
 clear hps
 generalize X px=xv at *
 go_enter Tryz.func43,Tryz.ntmps43
 go_upto_region 1 with fail
 change Code.wp _ _ _ _ (((u.alloc (zC tb 29)).alloc (zC o 32)).alloc (zI j))
 generalize (((u.alloc (zC tb 29)).alloc (zC o 32)).alloc (zI j))=w0 at *
 generalize u.heap.size=m at *
 obtain⟨tc,d0,d1,d2,hms⟩:=ah HT _ _ _ _ (ah L0)
 obtain⟨f0,f1,f2,f3,f4,f5,f6,f7,f8,f9,f10,f11⟩:=aS tc
 have K1:=hide (ah KS w0 (ah L0))
 have HMS:=hide hms
 clear KS L0 tc hms
 go_wp2_with fail
 go_at_call 102
 refine(ah K1).mono ?_
 rintro e w1 ⟨ks,rfl,Y1⟩
 obtain⟨hks,L1⟩:=ah Y1
 have HKL:=hide (Nat.lt_of_lt_of_le (ah HMS) hks)
 have K2:=hide (ah KG w1 ks L1)
 obtain⟨_,d0',d1',d2',_⟩:=ah HT w1 _ _ _ ((L1.sub aK).pop)
 clear K1 Y1 KG hks L1 HMS HT d0 d1 d2 f0 f1 f2 f3 f4 f5 f6 f7 f8 f9 f10 f11
 go_wp2_with fail
 go_at_call 19
 refine(ah K2).mono ?_
 rintro e w2 ⟨rfl,L2⟩
 obtain⟨_,hk2,bs⟩:=ah HKS w2 ks (ah L2)
 have L3:=hide (ah HX w2 ks (ah L2) ⟨ah HKL,hk2,bs⟩)
 have HK2:=hide hk2
 have bx:=Bl.new w2 (Ic X) 50
 have bs3:=bs.alloc (.cells (Ic X) 50)
 clear K2 HKS HX L2 d0' d1' d2' hk2 bs
 go_upto_region 7 with fail
 change Code.wp _ _ _ _ (w2.alloc (.cells (Ic X) 50))
 have hz:(w2.alloc (.cells (Ic X) 50)).heap.size=w2.heap.size+1:=size_alloc _ _
 generalize w2.alloc (.cells (Ic X) 50)=w3 at *
 generalize w2.heap.size=xg at *
 have i0:=bs3.cell 0 _ rfl
 have HBX:=hide bx
 have HZ:=hide hz
 clear bs3 bx hz
 go_wp2_with fail
 go_at_call 103
 refine(ah KQ w3 xg).mono ?_
 rintro e w4 ⟨rfl,rfl⟩
 have px1:=ah HPO _ _ ((ah HBX).alloc (.cells #[.pointer (some ⟨xg,px,none⟩)] 179))
 have fc1:=aj (Bl.new w3 #[.pointer (some ⟨xg,px,none⟩)] 179)
 have K4:=hide (ah KV _ ks xg (xg+1) (ah HKL) (ah HK2) (by omega) (ah L3))
 rw[ah HZ] at fc1
 clear KQ HPO HBX KV L3 i0
 go_upto_region 10 with fail
 change Code.wp _ _ _ _ (w3.alloc (.cells #[.pointer (some ⟨xg,px,none⟩)] 179))
 generalize w3.alloc (.cells #[.pointer (some ⟨xg,px,none⟩)] 179)=w5 at *
 simp only[ah HZ]
 clear HZ
 go_wp2_with fail
 go_at_call 45
 refine(ah K4).mono ?_
 rintro e w6 ⟨rfl,Z1⟩
 obtain⟨t0,t1,bk1⟩:=ah HC1 w6 ks xg (xg+1) (ah Z1)
 have i0:=bk1.cell 0 _ rfl
 have i1:=bk1.cell 1 _ rfl
 clear K4 px1 fc1 HC1 bk1
 go_wp2_with fail
 refine wp_loop_rounds 2 ?_
 rw[rounds_succ]
 go_wp2_with fail
 go_ret2
 exact⟨rfl,hide (ah HO _ _ _ _ (ah Z1))⟩
theorem mJ {w P G E g o}{rows:List (Nat×Obj)}{i V F V' K u}{a tb bk at0 s0:Nat}{fg tg og:Nat}{q0:Bool}{s1 s2:Int}{X X1:Nat->Int}{j ix:Int}{b1 e1:Int}{E1:Nat->Bool}{V1:Nat->List Int}{q1:Bool}(h:Lp w P G E g o ((fg,zB q0)::rows) i V F V' K u)(ht:(tb,tbO a P)∈rows)(h0:0<w.heap.size)(hwf:w.heap.size<=fg)(hfg:∀ y∈rows,y.1≠fg)(p1:gU P j=0)(p2:jE P j=(bk:Int))(p3:jF P j=(at0:Int))(hfit:at0+32<=G.blk)(hb:E bk=true)(hi:iQ (((V' bk).drop at0).take 32))(hX:Iv (bG (((V' bk).drop at0).take 32))=Iv X)(hs:s0<=9)(HS:Hid (∀ v,Calls Tryz.prog 102 #[Pv P,.int .i64 ix] v fun r w'=>(∃ k,r=.returned (.tuple #[.slice (some ⟨k,0,none⟩) 3 3,.int .i64 0])/\v.heap.size<=k/\w'.heap[k]?=some (.cells #[.int .i64 (s0:Int),.int .i64 s1,.int .i64 s2] 3))/\Below v.heap.size v w'))(HV:aeG w P G g o i V F K rows fg tg og tb j (pof s0) false X q0 E V' b1 e1 X1 q1 E1 V1)(hst:e1≠0) :
  Calls Tryz.prog 43 #[.pointer (some ⟨tb,0,none⟩),.pointer (some ⟨o,0,none⟩),.int .i64 j,.int .i64 ix,.func (.func 45) #[] #[.pointer (some ⟨fg,0,none⟩),.pointer (some ⟨tg,0,none⟩),.pointer (some ⟨og,0,none⟩)]] u fun r u'=>r=.returned (.tuple #[.int .i64 0,.int .i64 e1])/\Hid (Lp w P G E1 g o ((fg,zB q1)::rows) i V F V1 K u'):=by
 have hwu:w.heap.size<=u.heap.size:=h.bel.size
 have hfu:fg<u.heap.size:=h.lt (x:=(fg,zB q0)) (by simp)
 have L0:Hid (Lp w P G E g o ((fg,zB q0)::((u.heap.size+2),zI j)::((u.heap.size+1),zC o 32)::(u.heap.size,zC tb 29)::rows) i V F V' K (((u.alloc (zC tb 29)).alloc (zC o 32)).alloc (zI j))):=(h.yD _ _ _).sub (fun x hx=>by
  simp only[List.mem_cons] at hx ⊢
  rcases hx with h | h | h | h | h<;>simp[h])
 have hlt0:∀ y∈rows,y.1<u.heap.size:=fun y hy=>h.lt (List.mem_cons_of_mem _ hy)
 have HT:Hid (∀ v E2 V2 qq,Lp w P G E2 g o ((fg,zB qq)::((u.heap.size+2),zI j)::((u.heap.size+1),zC o 32)::(u.heap.size,zC tb 29)::rows) i V F V2 K v->v.heap[tb]?=some (tbO a P)/\v.cell? ⟨u.heap.size,0,none⟩=some (.pointer (some ⟨tb,0,none⟩))/\v.cell? ⟨u.heap.size+1,0,none⟩=some (.pointer (some ⟨o,0,none⟩))/\v.cell? ⟨u.heap.size+2,0,none⟩=some (.int .i64 j)/\u.heap.size+2<v.heap.size):=fun v E2 V2 qq hv =>
  ⟨hv.row (List.mem_cons_of_mem _ (List.mem_cons_of_mem _ (List.mem_cons_of_mem _ (List.mem_cons_of_mem _ (ht))))),aj (hv.row (x:=(u.heap.size,zC tb 29)) (by simp)),aj (hv.row (x:=((u.heap.size+1),zC o 32)) (by simp)),aj (hv.row (x:=((u.heap.size+2),zI j)) (by simp)),hv.lt (x:=((u.heap.size+2),zI j)) (by simp)⟩
 have KS:Hid (∀ v,Lp w P G E g o ((fg,zB q0)::((u.heap.size+2),zI j)::((u.heap.size+1),zC o 32)::(u.heap.size,zC tb 29)::rows) i V F V' K v->Calls Tryz.prog 102 #[Pv P,.int .i64 ix] v fun r w'=>∃ ks,r=.returned (.tuple #[.slice (some ⟨ks,0,none⟩) 3 3,.int .i64 0])/\Hid (v.heap.size<=ks/\Lp w P G E g o ((fg,zB q0)::(ks,.cells #[.int .i64 (s0:Int),.int .i64 s1,.int .i64 s2] 3)::((u.heap.size+2),zI j)::((u.heap.size+1),zC o 32)::(u.heap.size,zC tb 29)::rows) i V F V' K w')):=fun v hv=>by
  refine(ah HS v).mono ?_
  rintro r w' ⟨⟨k,rfl,hk1,hk2⟩,b1⟩
  exact⟨k,rfl,hk1,(hv.push b1 hk1 hk2).sub aK⟩
 have KG:Hid (∀ v ks,Lp w P G E g o ((fg,zB q0)::(ks,.cells #[.int .i64 (s0:Int),.int .i64 s1,.int .i64 s2] 3)::((u.heap.size+2),zI j)::((u.heap.size+1),zC o 32)::(u.heap.size,zC tb 29)::rows) i V F V' K v->Calls Tryz.prog 19 #[.pointer (some ⟨tb,0,none⟩),.pointer (some ⟨o,0,none⟩),.int .i64 j] v fun r u'=>r=.returned (.tuple #[Iv X,.int .i64 0])/\Hid (Lp w P G E g o ((fg,zB q0)::(ks,.cells #[.int .i64 (s0:Int),.int .i64 s1,.int .i64 s2] 3)::((u.heap.size+2),zI j)::((u.heap.size+1),zC o 32)::(u.heap.size,zC tb 29)::rows) i V F V' K u')):=fun v ks hv=>dJ hv X j (List.mem_cons_of_mem _ (List.mem_cons_of_mem _ (List.mem_cons_of_mem _ (List.mem_cons_of_mem _ (List.mem_cons_of_mem _ (ht)))))) h0 p1 p2 p3 hfit hb hi hX
 have KV:Hid (∀ v ks zxg zfc,u.heap.size+2<ks->ks<zxg->zxg<zfc->Lp w P G E g o ((fg,zB q0)::((zxg),.cells (Ic X) 50)::((zfc),.cells #[.pointer (some ⟨zxg,pof s0,none⟩)] 179)::(ks,.cells #[.int .i64 (s0:Int),.int .i64 s1,.int .i64 s2] 3)::((u.heap.size+2),zI j)::((u.heap.size+1),zC o 32)::(u.heap.size,zC tb 29)::rows) i V F V' K v->Calls Tryz.prog 45 #[.agg #[.int .i64 (X (pof s0)),.bool false,.func (.func 104) #[] #[.pointer (some ⟨zfc,0,none⟩),.pointer (some ⟨u.heap.size,0,none⟩),.pointer (some ⟨u.heap.size+1,0,none⟩),.pointer (some ⟨u.heap.size+2,0,none⟩),.pointer (some ⟨zxg,0,none⟩)]],.pointer (some ⟨fg,0,none⟩),.pointer (some ⟨tg,0,none⟩),.pointer (some ⟨og,0,none⟩)] v fun r u'=>r=.returned (.tuple #[.int .i64 b1,.int .i64 e1])/\Hid (Lp w P G E1 g o ((fg,zB q1)::((zxg),.cells (Ic X1) 50)::((zfc),.cells #[.pointer (some ⟨zxg,pof s0,none⟩)] 179)::(ks,.cells #[.int .i64 (s0:Int),.int .i64 s1,.int .i64 s2] 3)::((u.heap.size+2),zI j)::((u.heap.size+1),zC o 32)::(u.heap.size,zC tb 29)::rows) i V F V1 K u')):=fun v ks zxg zfc c1 c2 c3 hv=>by
  refine HV v zxg zfc u.heap.size (u.heap.size+1) (u.heap.size+2) _ (by simp) (by simp) (by simp) (by simp) (by omega) (fun y hy=>?_) (by omega) (fun y hy=>?_) (fun y hy=>by simp[hy]) hv
  ·simp only[List.mem_cons] at hy
   rcases hy with rfl | rfl | rfl | rfl | rfl | hy
   ·show zfc≠zxg;omega
   ·show ks≠zxg;omega
   ·show u.heap.size+2≠zxg;omega
   ·show u.heap.size+1≠zxg;omega
   ·show u.heap.size≠zxg;omega
   ·have:=hlt0 y hy;omega
  ·simp only[List.mem_cons] at hy
   rcases hy with rfl | rfl | rfl | rfl | rfl | rfl | hy
   ·show zxg≠fg;omega
   ·show zfc≠fg;omega
   ·show ks≠fg;omega
   ·show u.heap.size+2≠fg;omega
   ·show u.heap.size+1≠fg;omega
   ·show u.heap.size≠fg;omega
   ·exact hfg y hy
 have HC1:Hid (∀ v ks zxg zfc,Lp w P G E1 g o ((fg,zB q1)::((zxg),.cells (Ic X1) 50)::((zfc),.cells #[.pointer (some ⟨zxg,pof s0,none⟩)] 179)::(ks,.cells #[.int .i64 (s0:Int),.int .i64 s1,.int .i64 s2] 3)::((u.heap.size+2),zI j)::((u.heap.size+1),zC o 32)::(u.heap.size,zC tb 29)::rows) i V F V1 K v->v.cell? ⟨u.heap.size,0,none⟩=some (.pointer (some ⟨tb,0,none⟩))/\v.cell? ⟨u.heap.size+1,0,none⟩=some (.pointer (some ⟨o,0,none⟩))/\Bl v ks #[.int .i64 (s0:Int),.int .i64 s1,.int .i64 s2] 3):=fun v ks zxg zfc hv=>⟨aj (hv.row (x:=(u.heap.size,zC tb 29)) (by simp)),aj (hv.row (x:=((u.heap.size+1),zC o 32)) (by simp)),hv.row (x:=(ks,.cells #[.int .i64 (s0:Int),.int .i64 s1,.int .i64 s2] 3)) (by simp)⟩
 have HO:Hid (∀ v ks zxg zfc,Lp w P G E1 g o ((fg,zB q1)::((zxg),.cells (Ic X1) 50)::((zfc),.cells #[.pointer (some ⟨zxg,pof s0,none⟩)] 179)::(ks,.cells #[.int .i64 (s0:Int),.int .i64 s1,.int .i64 s2] 3)::((u.heap.size+2),zI j)::((u.heap.size+1),zC o 32)::(u.heap.size,zC tb 29)::rows) i V F V1 K v->Lp w P G E1 g o ((fg,zB q1)::rows) i V F V1 K v):=fun v ks zxg zfc hv=>hv.sub (fun x hx=>by
  simp only[List.mem_cons] at hx ⊢
  rcases hx with h | h<;>simp[h])
 have HX:Hid (∀ v ks,Lp w P G E g o ((fg,zB q0)::(ks,.cells #[.int .i64 (s0:Int),.int .i64 s1,.int .i64 s2] 3)::((u.heap.size+2),zI j)::((u.heap.size+1),zC o 32)::(u.heap.size,zC tb 29)::rows) i V F V' K v->u.heap.size+2<ks/\ks<v.heap.size/\Bl v ks #[.int .i64 (s0:Int),.int .i64 s1,.int .i64 s2] 3->Lp w P G E g o ((fg,zB q0)::((v.heap.size),.cells (Ic X) 50)::((v.heap.size+1),.cells #[.pointer (some ⟨v.heap.size,pof s0,none⟩)] 179)::(ks,.cells #[.int .i64 (s0:Int),.int .i64 s1,.int .i64 s2] 3)::((u.heap.size+2),zI j)::((u.heap.size+1),zC o 32)::(u.heap.size,zC tb 29)::rows) i V F V' K ((v.alloc (.cells (Ic X) 50)).alloc (.cells #[.pointer (some ⟨v.heap.size,pof s0,none⟩)] 179))):=fun v ks hv _=>by
  have:=hv.new2 (.cells (Ic X) 50) (.cells #[.pointer (some ⟨v.heap.size,pof s0,none⟩)] 179)
  exact this.sub (fun x hx=>by
   simp only[List.mem_cons] at hx ⊢
   rcases hx with h | h | h | h | h | h | h | h<;>simp[h])
 have HKS:Hid (∀ v ks,Lp w P G E g o ((fg,zB q0)::(ks,.cells #[.int .i64 (s0:Int),.int .i64 s1,.int .i64 s2] 3)::((u.heap.size+2),zI j)::((u.heap.size+1),zC o 32)::(u.heap.size,zC tb 29)::rows) i V F V' K v->u.heap.size+2<v.heap.size/\ks<v.heap.size/\Bl v ks #[.int .i64 (s0:Int),.int .i64 s1,.int .i64 s2] 3):=fun v ks hv=>⟨hv.lt (x:=((u.heap.size+2),zI j)) (by simp),hv.lt (x:=(ks,.cells #[.int .i64 (s0:Int),.int .i64 s1,.int .i64 s2] 3)) (by simp),hv.row (x:=(ks,.cells #[.int .i64 (s0:Int),.int .i64 s1,.int .i64 s2] 3)) (by simp)⟩
 have KQ:Hid (∀ v xg,Calls Tryz.prog 103 #[.pointer (some ⟨xg,0,none⟩),.int .i64 (s0:Int)] v fun r u'=>r=.returned (.pointer (some ⟨xg,pof s0,none⟩))/\v=u'):=fun v xg=>aO xg s0 v hs
 have hpo:=(fO hs).1
 have HPO:Hid (∀ v xg,Bl v xg (Ic X) 50->v.cell? ⟨xg,pof s0,none⟩=some (.int .i64 (X (pof s0)))):=fun v xg hv=>hv.cell _ _ (mF X hpo)
 clear h ht h0 p1 p2 p3 hfit hb hi hX hs HS HV  hlt0 hwu hpo hwf hfg hfu
 have cs:(e1 != 0)=true:=by simpa using hst
 clear hst
 generalize (s0:Int)=si at *
 generalize hps:pof s0=px at *
 clear hps
 generalize X px=xv at *
 go_enter Tryz.func43,Tryz.ntmps43
 go_upto_region 1 with fail
 change Code.wp _ _ _ _ (((u.alloc (zC tb 29)).alloc (zC o 32)).alloc (zI j))
 generalize (((u.alloc (zC tb 29)).alloc (zC o 32)).alloc (zI j))=w0 at *
 generalize u.heap.size=m at *
 obtain⟨tc,d0,d1,d2,hms⟩:=ah HT _ _ _ _ (ah L0)
 obtain⟨f0,f1,f2,f3,f4,f5,f6,f7,f8,f9,f10,f11⟩:=aS tc
 have K1:=hide (ah KS w0 (ah L0))
 have HMS:=hide hms
 clear KS L0 tc hms
 go_wp2_with fail
 go_at_call 102
 refine(ah K1).mono ?_
 rintro e w1 ⟨ks,rfl,Y1⟩
 obtain⟨hks,L1⟩:=ah Y1
 have HKL:=hide (Nat.lt_of_lt_of_le (ah HMS) hks)
 have K2:=hide (ah KG w1 ks L1)
 obtain⟨_,d0',d1',d2',_⟩:=ah HT w1 _ _ _ ((L1.sub aK).pop)
 clear K1 Y1 KG hks L1 HMS HT d0 d1 d2 f0 f1 f2 f3 f4 f5 f6 f7 f8 f9 f10 f11
 go_wp2_with fail
 go_at_call 19
 refine(ah K2).mono ?_
 rintro e w2 ⟨rfl,L2⟩
 obtain⟨_,hk2,bs⟩:=ah HKS w2 ks (ah L2)
 have L3:=hide (ah HX w2 ks (ah L2) ⟨ah HKL,hk2,bs⟩)
 have HK2:=hide hk2
 have bx:=Bl.new w2 (Ic X) 50
 have bs3:=bs.alloc (.cells (Ic X) 50)
 clear K2 HKS HX L2 d0' d1' d2' hk2 bs
 go_upto_region 7 with fail
 change Code.wp _ _ _ _ (w2.alloc (.cells (Ic X) 50))
 have hz:(w2.alloc (.cells (Ic X) 50)).heap.size=w2.heap.size+1:=size_alloc _ _
 generalize w2.alloc (.cells (Ic X) 50)=w3 at *
 generalize w2.heap.size=xg at *
 have i0:=bs3.cell 0 _ rfl
 have HBX:=hide bx
 have HZ:=hide hz
 clear bs3 bx hz
 go_wp2_with fail
 go_at_call 103
 refine(ah KQ w3 xg).mono ?_
 rintro e w4 ⟨rfl,rfl⟩
 have px1:=ah HPO _ _ ((ah HBX).alloc (.cells #[.pointer (some ⟨xg,px,none⟩)] 179))
 have fc1:=aj (Bl.new w3 #[.pointer (some ⟨xg,px,none⟩)] 179)
 have K4:=hide (ah KV _ ks xg (xg+1) (ah HKL) (ah HK2) (by omega) (ah L3))
 rw[ah HZ] at fc1
 clear KQ HPO HBX KV L3 i0
 go_upto_region 10 with fail
 change Code.wp _ _ _ _ (w3.alloc (.cells #[.pointer (some ⟨xg,px,none⟩)] 179))
 generalize w3.alloc (.cells #[.pointer (some ⟨xg,px,none⟩)] 179)=w5 at *
 simp only[ah HZ]
 clear HZ
 go_wp2_with fail
 go_at_call 45
 refine(ah K4).mono ?_
 rintro e w6 ⟨rfl,Z1⟩
 obtain⟨t0,t1,bk1⟩:=ah HC1 w6 ks xg (xg+1) (ah Z1)
 have i0:=bk1.cell 0 _ rfl
 have i1:=bk1.cell 1 _ rfl
 have i2:=bk1.cell 2 _ rfl
 clear K4 px1 fc1 HC1 bk1
 go_wp2_with fail
 refine wp_loop_rounds 3 ?_
 rw[rounds_succ]
 go_wp2_with fail
 go_ret2
 exact⟨rfl,hide (ah HO _ _ _ _ (ah Z1))⟩
theorem mG {w P G E g o}{rows:List (Nat×Obj)}{i V F V' K u}{a tb bk at0 s0:Nat}{fg tg og:Nat}{q0:Bool}{s1 s2:Int}{X X1:Nat->Int}{j ix:Int}{b1 e1:Int}{E1:Nat->Bool}{V1:Nat->List Int}{q1:Bool}{b2 e2:Int}{E2:Nat->Bool}{V2:Nat->List Int}{q2:Bool}(h:Lp w P G E g o ((fg,zB q0)::rows) i V F V' K u)(ht:(tb,tbO a P)∈rows)(h0:0<w.heap.size)(hwf:w.heap.size<=fg)(hfg:∀ y∈rows,y.1≠fg)(p1:gU P j=0)(p2:jE P j=(bk:Int))(p3:jF P j=(at0:Int))(hfit:at0+32<=G.blk)(hb:E bk=true)(hi:iQ (((V' bk).drop at0).take 32))(hX:Iv (bG (((V' bk).drop at0).take 32))=Iv X)(hs:s0<=9)(HS:Hid (∀ v,Calls Tryz.prog 102 #[Pv P,.int .i64 ix] v fun r w'=>(∃ k,r=.returned (.tuple #[.slice (some ⟨k,0,none⟩) 3 3,.int .i64 0])/\v.heap.size<=k/\w'.heap[k]?=some (.cells #[.int .i64 (s0:Int),.int .i64 s1,.int .i64 s2] 3))/\Below v.heap.size v w'))(HV:aeG w P G g o i V F K rows fg tg og tb j (pof s0) false X q0 E V' b1 e1 X1 q1 E1 V1)(HE2:aeP w P G g o i V F K rows fg tg og tb b1 s1 false q1 E1 V1 b2 e2 q2 E2 V2)(hc1:e1=0/\b1≠0)(hst:e2≠0) :
  Calls Tryz.prog 43 #[.pointer (some ⟨tb,0,none⟩),.pointer (some ⟨o,0,none⟩),.int .i64 j,.int .i64 ix,.func (.func 45) #[] #[.pointer (some ⟨fg,0,none⟩),.pointer (some ⟨tg,0,none⟩),.pointer (some ⟨og,0,none⟩)]] u fun r u'=>r=.returned (.tuple #[.int .i64 0,.int .i64 e2])/\Hid (Lp w P G E2 g o ((fg,zB q2)::rows) i V F V2 K u'):=by
 have hwu:w.heap.size<=u.heap.size:=h.bel.size
 have hfu:fg<u.heap.size:=h.lt (x:=(fg,zB q0)) (by simp)
 have L0:Hid (Lp w P G E g o ((fg,zB q0)::((u.heap.size+2),zI j)::((u.heap.size+1),zC o 32)::(u.heap.size,zC tb 29)::rows) i V F V' K (((u.alloc (zC tb 29)).alloc (zC o 32)).alloc (zI j))):=(h.yD _ _ _).sub (fun x hx=>by
  simp only[List.mem_cons] at hx ⊢
  rcases hx with h | h | h | h | h<;>simp[h])
 have hlt0:∀ y∈rows,y.1<u.heap.size:=fun y hy=>h.lt (List.mem_cons_of_mem _ hy)
 have HT:Hid (∀ v E2 V2 qq,Lp w P G E2 g o ((fg,zB qq)::((u.heap.size+2),zI j)::((u.heap.size+1),zC o 32)::(u.heap.size,zC tb 29)::rows) i V F V2 K v->v.heap[tb]?=some (tbO a P)/\v.cell? ⟨u.heap.size,0,none⟩=some (.pointer (some ⟨tb,0,none⟩))/\v.cell? ⟨u.heap.size+1,0,none⟩=some (.pointer (some ⟨o,0,none⟩))/\v.cell? ⟨u.heap.size+2,0,none⟩=some (.int .i64 j)/\u.heap.size+2<v.heap.size):=fun v E2 V2 qq hv =>
  ⟨hv.row (List.mem_cons_of_mem _ (List.mem_cons_of_mem _ (List.mem_cons_of_mem _ (List.mem_cons_of_mem _ (ht))))),aj (hv.row (x:=(u.heap.size,zC tb 29)) (by simp)),aj (hv.row (x:=((u.heap.size+1),zC o 32)) (by simp)),aj (hv.row (x:=((u.heap.size+2),zI j)) (by simp)),hv.lt (x:=((u.heap.size+2),zI j)) (by simp)⟩
 have KS:Hid (∀ v,Lp w P G E g o ((fg,zB q0)::((u.heap.size+2),zI j)::((u.heap.size+1),zC o 32)::(u.heap.size,zC tb 29)::rows) i V F V' K v->Calls Tryz.prog 102 #[Pv P,.int .i64 ix] v fun r w'=>∃ ks,r=.returned (.tuple #[.slice (some ⟨ks,0,none⟩) 3 3,.int .i64 0])/\Hid (v.heap.size<=ks/\Lp w P G E g o ((fg,zB q0)::(ks,.cells #[.int .i64 (s0:Int),.int .i64 s1,.int .i64 s2] 3)::((u.heap.size+2),zI j)::((u.heap.size+1),zC o 32)::(u.heap.size,zC tb 29)::rows) i V F V' K w')):=fun v hv=>by
  refine(ah HS v).mono ?_
  rintro r w' ⟨⟨k,rfl,hk1,hk2⟩,b1⟩
  exact⟨k,rfl,hk1,(hv.push b1 hk1 hk2).sub aK⟩
 have KG:Hid (∀ v ks,Lp w P G E g o ((fg,zB q0)::(ks,.cells #[.int .i64 (s0:Int),.int .i64 s1,.int .i64 s2] 3)::((u.heap.size+2),zI j)::((u.heap.size+1),zC o 32)::(u.heap.size,zC tb 29)::rows) i V F V' K v->Calls Tryz.prog 19 #[.pointer (some ⟨tb,0,none⟩),.pointer (some ⟨o,0,none⟩),.int .i64 j] v fun r u'=>r=.returned (.tuple #[Iv X,.int .i64 0])/\Hid (Lp w P G E g o ((fg,zB q0)::(ks,.cells #[.int .i64 (s0:Int),.int .i64 s1,.int .i64 s2] 3)::((u.heap.size+2),zI j)::((u.heap.size+1),zC o 32)::(u.heap.size,zC tb 29)::rows) i V F V' K u')):=fun v ks hv=>dJ hv X j (List.mem_cons_of_mem _ (List.mem_cons_of_mem _ (List.mem_cons_of_mem _ (List.mem_cons_of_mem _ (List.mem_cons_of_mem _ (ht)))))) h0 p1 p2 p3 hfit hb hi hX
 have KV:Hid (∀ v ks zxg zfc,u.heap.size+2<ks->ks<zxg->zxg<zfc->Lp w P G E g o ((fg,zB q0)::((zxg),.cells (Ic X) 50)::((zfc),.cells #[.pointer (some ⟨zxg,pof s0,none⟩)] 179)::(ks,.cells #[.int .i64 (s0:Int),.int .i64 s1,.int .i64 s2] 3)::((u.heap.size+2),zI j)::((u.heap.size+1),zC o 32)::(u.heap.size,zC tb 29)::rows) i V F V' K v->Calls Tryz.prog 45 #[.agg #[.int .i64 (X (pof s0)),.bool false,.func (.func 104) #[] #[.pointer (some ⟨zfc,0,none⟩),.pointer (some ⟨u.heap.size,0,none⟩),.pointer (some ⟨u.heap.size+1,0,none⟩),.pointer (some ⟨u.heap.size+2,0,none⟩),.pointer (some ⟨zxg,0,none⟩)]],.pointer (some ⟨fg,0,none⟩),.pointer (some ⟨tg,0,none⟩),.pointer (some ⟨og,0,none⟩)] v fun r u'=>r=.returned (.tuple #[.int .i64 b1,.int .i64 e1])/\Hid (Lp w P G E1 g o ((fg,zB q1)::((zxg),.cells (Ic X1) 50)::((zfc),.cells #[.pointer (some ⟨zxg,pof s0,none⟩)] 179)::(ks,.cells #[.int .i64 (s0:Int),.int .i64 s1,.int .i64 s2] 3)::((u.heap.size+2),zI j)::((u.heap.size+1),zC o 32)::(u.heap.size,zC tb 29)::rows) i V F V1 K u')):=fun v ks zxg zfc c1 c2 c3 hv=>by
  refine HV v zxg zfc u.heap.size (u.heap.size+1) (u.heap.size+2) _ (by simp) (by simp) (by simp) (by simp) (by omega) (fun y hy=>?_) (by omega) (fun y hy=>?_) (fun y hy=>by simp[hy]) hv
  ·simp only[List.mem_cons] at hy
   rcases hy with rfl | rfl | rfl | rfl | rfl | hy
   ·show zfc≠zxg;omega
   ·show ks≠zxg;omega
   ·show u.heap.size+2≠zxg;omega
   ·show u.heap.size+1≠zxg;omega
   ·show u.heap.size≠zxg;omega
   ·have:=hlt0 y hy;omega
  ·simp only[List.mem_cons] at hy
   rcases hy with rfl | rfl | rfl | rfl | rfl | rfl | hy
   ·show zxg≠fg;omega
   ·show zfc≠fg;omega
   ·show ks≠fg;omega
   ·show u.heap.size+2≠fg;omega
   ·show u.heap.size+1≠fg;omega
   ·show u.heap.size≠fg;omega
   ·exact hfg y hy
 have KE2:Hid (∀ v ks zxg zfc,u.heap.size+2<ks->ks<zxg->zxg<zfc->Lp w P G E1 g o ((fg,zB q1)::((zxg),.cells (Ic X1) 50)::((zfc),.cells #[.pointer (some ⟨zxg,pof s0,none⟩)] 179)::(ks,.cells #[.int .i64 (s0:Int),.int .i64 s1,.int .i64 s2] 3)::((u.heap.size+2),zI j)::((u.heap.size+1),zC o 32)::(u.heap.size,zC tb 29)::rows) i V F V1 K v->Calls Tryz.prog 105 #[.pointer (some ⟨tb,0,none⟩),.pointer (some ⟨o,0,none⟩),.int .i64 b1,.int .i64 s1,.bool false,.func (.func 45) #[] #[.pointer (some ⟨fg,0,none⟩),.pointer (some ⟨tg,0,none⟩),.pointer (some ⟨og,0,none⟩)]] v fun r u'=>r=.returned (.tuple #[.int .i64 b2,.int .i64 e2])/\Hid (Lp w P G E2 g o ((fg,zB q2)::((zxg),.cells (Ic X1) 50)::((zfc),.cells #[.pointer (some ⟨zxg,pof s0,none⟩)] 179)::(ks,.cells #[.int .i64 (s0:Int),.int .i64 s1,.int .i64 s2] 3)::((u.heap.size+2),zI j)::((u.heap.size+1),zC o 32)::(u.heap.size,zC tb 29)::rows) i V F V2 K u')):=fun v ks zxg zfc c1 c2 c3 hv=>by
  refine HE2 v _ (fun y hy=>by simp[hy]) (fun y hy=>?_) hv
  simp only[List.mem_cons] at hy
  rcases hy with rfl | rfl | rfl | rfl | rfl | rfl | hy
  ·show zxg≠fg;omega
  ·show zfc≠fg;omega
  ·show ks≠fg;omega
  ·show u.heap.size+2≠fg;omega
  ·show u.heap.size+1≠fg;omega
  ·show u.heap.size≠fg;omega
  ·exact hfg y hy
 have HC1:Hid (∀ v ks zxg zfc,Lp w P G E1 g o ((fg,zB q1)::((zxg),.cells (Ic X1) 50)::((zfc),.cells #[.pointer (some ⟨zxg,pof s0,none⟩)] 179)::(ks,.cells #[.int .i64 (s0:Int),.int .i64 s1,.int .i64 s2] 3)::((u.heap.size+2),zI j)::((u.heap.size+1),zC o 32)::(u.heap.size,zC tb 29)::rows) i V F V1 K v->v.cell? ⟨u.heap.size,0,none⟩=some (.pointer (some ⟨tb,0,none⟩))/\v.cell? ⟨u.heap.size+1,0,none⟩=some (.pointer (some ⟨o,0,none⟩))/\Bl v ks #[.int .i64 (s0:Int),.int .i64 s1,.int .i64 s2] 3):=fun v ks zxg zfc hv=>⟨aj (hv.row (x:=(u.heap.size,zC tb 29)) (by simp)),aj (hv.row (x:=((u.heap.size+1),zC o 32)) (by simp)),hv.row (x:=(ks,.cells #[.int .i64 (s0:Int),.int .i64 s1,.int .i64 s2] 3)) (by simp)⟩
 have HC2:Hid (∀ v ks zxg zfc,Lp w P G E2 g o ((fg,zB q2)::((zxg),.cells (Ic X1) 50)::((zfc),.cells #[.pointer (some ⟨zxg,pof s0,none⟩)] 179)::(ks,.cells #[.int .i64 (s0:Int),.int .i64 s1,.int .i64 s2] 3)::((u.heap.size+2),zI j)::((u.heap.size+1),zC o 32)::(u.heap.size,zC tb 29)::rows) i V F V2 K v->v.cell? ⟨u.heap.size,0,none⟩=some (.pointer (some ⟨tb,0,none⟩))/\v.cell? ⟨u.heap.size+1,0,none⟩=some (.pointer (some ⟨o,0,none⟩))/\Bl v ks #[.int .i64 (s0:Int),.int .i64 s1,.int .i64 s2] 3):=fun v ks zxg zfc hv=>⟨aj (hv.row (x:=(u.heap.size,zC tb 29)) (by simp)),aj (hv.row (x:=((u.heap.size+1),zC o 32)) (by simp)),hv.row (x:=(ks,.cells #[.int .i64 (s0:Int),.int .i64 s1,.int .i64 s2] 3)) (by simp)⟩
 have HO:Hid (∀ v ks zxg zfc,Lp w P G E2 g o ((fg,zB q2)::((zxg),.cells (Ic X1) 50)::((zfc),.cells #[.pointer (some ⟨zxg,pof s0,none⟩)] 179)::(ks,.cells #[.int .i64 (s0:Int),.int .i64 s1,.int .i64 s2] 3)::((u.heap.size+2),zI j)::((u.heap.size+1),zC o 32)::(u.heap.size,zC tb 29)::rows) i V F V2 K v->Lp w P G E2 g o ((fg,zB q2)::rows) i V F V2 K v):=fun v ks zxg zfc hv=>hv.sub (fun x hx=>by
  simp only[List.mem_cons] at hx ⊢
  rcases hx with h | h<;>simp[h])
 have HX:Hid (∀ v ks,Lp w P G E g o ((fg,zB q0)::(ks,.cells #[.int .i64 (s0:Int),.int .i64 s1,.int .i64 s2] 3)::((u.heap.size+2),zI j)::((u.heap.size+1),zC o 32)::(u.heap.size,zC tb 29)::rows) i V F V' K v->u.heap.size+2<ks/\ks<v.heap.size/\Bl v ks #[.int .i64 (s0:Int),.int .i64 s1,.int .i64 s2] 3->Lp w P G E g o ((fg,zB q0)::((v.heap.size),.cells (Ic X) 50)::((v.heap.size+1),.cells #[.pointer (some ⟨v.heap.size,pof s0,none⟩)] 179)::(ks,.cells #[.int .i64 (s0:Int),.int .i64 s1,.int .i64 s2] 3)::((u.heap.size+2),zI j)::((u.heap.size+1),zC o 32)::(u.heap.size,zC tb 29)::rows) i V F V' K ((v.alloc (.cells (Ic X) 50)).alloc (.cells #[.pointer (some ⟨v.heap.size,pof s0,none⟩)] 179))):=fun v ks hv _=>by
  have:=hv.new2 (.cells (Ic X) 50) (.cells #[.pointer (some ⟨v.heap.size,pof s0,none⟩)] 179)
  exact this.sub (fun x hx=>by
   simp only[List.mem_cons] at hx ⊢
   rcases hx with h | h | h | h | h | h | h | h<;>simp[h])
 have HKS:Hid (∀ v ks,Lp w P G E g o ((fg,zB q0)::(ks,.cells #[.int .i64 (s0:Int),.int .i64 s1,.int .i64 s2] 3)::((u.heap.size+2),zI j)::((u.heap.size+1),zC o 32)::(u.heap.size,zC tb 29)::rows) i V F V' K v->u.heap.size+2<v.heap.size/\ks<v.heap.size/\Bl v ks #[.int .i64 (s0:Int),.int .i64 s1,.int .i64 s2] 3):=fun v ks hv=>⟨hv.lt (x:=((u.heap.size+2),zI j)) (by simp),hv.lt (x:=(ks,.cells #[.int .i64 (s0:Int),.int .i64 s1,.int .i64 s2] 3)) (by simp),hv.row (x:=(ks,.cells #[.int .i64 (s0:Int),.int .i64 s1,.int .i64 s2] 3)) (by simp)⟩
 have KQ:Hid (∀ v xg,Calls Tryz.prog 103 #[.pointer (some ⟨xg,0,none⟩),.int .i64 (s0:Int)] v fun r u'=>r=.returned (.pointer (some ⟨xg,pof s0,none⟩))/\v=u'):=fun v xg=>aO xg s0 v hs
 have hpo:=(fO hs).1
 have HPO:Hid (∀ v xg,Bl v xg (Ic X) 50->v.cell? ⟨xg,pof s0,none⟩=some (.int .i64 (X (pof s0)))):=fun v xg hv=>hv.cell _ _ (mF X hpo)
 clear h ht h0 p1 p2 p3 hfit hb hi hX hs HS HV HE2 hlt0 hwu hpo hwf hfg hfu
 obtain⟨vZ,wo⟩:=hc1
 have ce1:(e1 != 0)=false:=by simp[vZ]
 have cb1:(b1==0)=false:=by simpa using wo
 clear vZ wo
 have cs:(e2 != 0)=true:=by simpa using hst
 clear hst
 generalize (s0:Int)=si at *
 generalize hps:pof s0=px at *
 clear hps
 generalize X px=xv at *
 go_enter Tryz.func43,Tryz.ntmps43
 go_upto_region 1 with fail
 change Code.wp _ _ _ _ (((u.alloc (zC tb 29)).alloc (zC o 32)).alloc (zI j))
 generalize (((u.alloc (zC tb 29)).alloc (zC o 32)).alloc (zI j))=w0 at *
 generalize u.heap.size=m at *
 obtain⟨tc,d0,d1,d2,hms⟩:=ah HT _ _ _ _ (ah L0)
 obtain⟨f0,f1,f2,f3,f4,f5,f6,f7,f8,f9,f10,f11⟩:=aS tc
 have K1:=hide (ah KS w0 (ah L0))
 have HMS:=hide hms
 clear KS L0 tc hms
 go_wp2_with fail
 go_at_call 102
 refine(ah K1).mono ?_
 rintro e w1 ⟨ks,rfl,Y1⟩
 obtain⟨hks,L1⟩:=ah Y1
 have HKL:=hide (Nat.lt_of_lt_of_le (ah HMS) hks)
 have K2:=hide (ah KG w1 ks L1)
 obtain⟨_,d0',d1',d2',_⟩:=ah HT w1 _ _ _ ((L1.sub aK).pop)
 clear K1 Y1 KG hks L1 HMS HT d0 d1 d2 f0 f1 f2 f3 f4 f5 f6 f7 f8 f9 f10 f11
 go_wp2_with fail
 go_at_call 19
 refine(ah K2).mono ?_
 rintro e w2 ⟨rfl,L2⟩
 obtain⟨_,hk2,bs⟩:=ah HKS w2 ks (ah L2)
 have L3:=hide (ah HX w2 ks (ah L2) ⟨ah HKL,hk2,bs⟩)
 have HK2:=hide hk2
 have bx:=Bl.new w2 (Ic X) 50
 have bs3:=bs.alloc (.cells (Ic X) 50)
 clear K2 HKS HX L2 d0' d1' d2' hk2 bs
 go_upto_region 7 with fail
 change Code.wp _ _ _ _ (w2.alloc (.cells (Ic X) 50))
 have hz:(w2.alloc (.cells (Ic X) 50)).heap.size=w2.heap.size+1:=size_alloc _ _
 generalize w2.alloc (.cells (Ic X) 50)=w3 at *
 generalize w2.heap.size=xg at *
 have i0:=bs3.cell 0 _ rfl
 have HBX:=hide bx
 have HZ:=hide hz
 clear bs3 bx hz
 go_wp2_with fail
 go_at_call 103
 refine(ah KQ w3 xg).mono ?_
 rintro e w4 ⟨rfl,rfl⟩
 have px1:=ah HPO _ _ ((ah HBX).alloc (.cells #[.pointer (some ⟨xg,px,none⟩)] 179))
 have fc1:=aj (Bl.new w3 #[.pointer (some ⟨xg,px,none⟩)] 179)
 have K4:=hide (ah KV _ ks xg (xg+1) (ah HKL) (ah HK2) (by omega) (ah L3))
 rw[ah HZ] at fc1
 clear KQ HPO HBX KV L3 i0
 go_upto_region 10 with fail
 change Code.wp _ _ _ _ (w3.alloc (.cells #[.pointer (some ⟨xg,px,none⟩)] 179))
 generalize w3.alloc (.cells #[.pointer (some ⟨xg,px,none⟩)] 179)=w5 at *
 simp only[ah HZ]
 clear HZ
 go_wp2_with fail
 go_at_call 45
 refine(ah K4).mono ?_
 rintro e w6 ⟨rfl,Z1⟩
 obtain⟨t0,t1,bk1⟩:=ah HC1 w6 ks xg (xg+1) (ah Z1)
 have i0:=bk1.cell 0 _ rfl
 have i1:=bk1.cell 1 _ rfl
 have i2:=bk1.cell 2 _ rfl
 clear K4 px1 fc1 HC1 bk1
 go_wp2_with fail
 refine wp_loop_rounds 3 ?_
 rw[rounds_succ]
 have KX2:=hide (ah KE2 _ ks xg (xg+1) (ah HKL) (ah HK2) (by omega) (ah Z1))
 clear KE2 Z1
 go_wp2_with fail
 go_at_call 105
 refine(ah KX2).mono ?_
 rintro e w7 ⟨rfl,Z2⟩
 obtain⟨t0,t1,bk2⟩:=ah HC2 _ ks xg (xg+1) (ah Z2)
 have i20:=bk2.cell 0 _ rfl
 have i21:=bk2.cell 1 _ rfl
 have i22:=bk2.cell 2 _ rfl
 clear KX2 HC2 bk2
 go_wp2_with fail
 rw[rounds_succ]
 go_wp2_with fail
 go_ret2
 exact⟨rfl,hide (ah HO _ _ _ _ (ah Z2))⟩
end Go.Proofs.YtbofhdfhhbgdgaaGreatDoor
