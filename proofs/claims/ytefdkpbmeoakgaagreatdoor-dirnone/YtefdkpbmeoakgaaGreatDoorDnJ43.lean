/- Joined: FLeaf, FRef, FSm, FLack. -/
import Derived.Test.YtefdkpbmeoakgaaGreatDoorDnJ38
import Derived.Test.YtefdkpbmeoakgaaGreatDoorDnJ9
import Derived.Laws.ResultCell
import Derived.Deep.DeepCutAuto
import Derived.BigQuiet
import Derived.Test.YtefdkpbmeoakgaaGreatDoorDnJ10
import Derived.Deep.RegionHeld3
/- Package file: ai7 and open. -/
namespace Go.Proofs.YtefdkpbmeoakgaaGreatDoor
set_option maxRecDepth 100000
set_option maxHeartbeats 8000000
open Go.RowKit Go.Shelf Go.Maps
set_option linter.unusedVariables false
abbrev Fc (q r:Option Addr) (P:Nat->Int) (j:Int) (X:Nat->Int):Array Value:=#[.pointer q,.pointer r,.int .i64 (P 0),.int .i64 (P 1),.int .i64 (P 2),.int .i64 (P 3),.int .i64 (P 4),.int .i64 (P 5),.int .i64 (P 6),.int .i64 (P 7),.int .i64 (P 8),.int .i64 (P 9),.int .i64 (P 10),.int .i64 (P 11),.int .i64 j,.int .i64 (X 0),.int .i64 (X 1),.int .i64 (X 2),.int .i64 (X 3),.int .i64 (X 4),.int .i64 (X 5),.int .i64 (X 6),.int .i64 (X 7),.int .i64 (X 8),.int .i64 (X 9),.int .i64 (X 10),.int .i64 (X 11),.int .i64 (X 12)]
abbrev Fz:Array Value:=#[.pointer none,.pointer none,.int .i64 0,.int .i64 0,.int .i64 0,.int .i64 0,.int .i64 0,.int .i64 0,.int .i64 0,.int .i64 0,.int .i64 0,.int .i64 0,.int .i64 0,.int .i64 0,.int .i64 0,.int .i64 0,.int .i64 0,.int .i64 0,.int .i64 0,.int .i64 0,.int .i64 0,.int .i64 0,.int .i64 0,.int .i64 0,.int .i64 0,.int .i64 0,.int .i64 0,.int .i64 0]
theorem agi (P:Nat->Int)(a n:Int)(u:World)(hc:bH P=0)(hn:0<=n/\n<=1000000) :
  Calls Tryz.prog 90 #[Pv P,.int .i64 a,.int .i64 n] u fun e u'=>e=.returned (.bool (decide (P 0*mfb P - n<a)))/\Below u.heap.size u u':=by
 have hm:=agD (sound hc).size
 have KM:Hid (∀ v,Calls Tryz.prog 55 #[Pv P] v fun r w'=>r=.returned (.tuple #[.int .i64 (P 0*mfb P),.int .i64 0])/\Below v.heap.size v w'):=fun v=>jL P v hc
 have HK:=hide (Kp.start u P)
 obtain⟨f0,f1,f2,f3,f4,f5,f6,f7,f8,f9,f10,f11⟩:=(ah HK).cells
 generalize P 0*mfb P=m at *
 clear hc
 go_enter Tryz.func90,Tryz.ntmps90
 go_wp2_with fail
 go_at_call 55
 refine(ah KM _).mono ?_
 rintro e w1 ⟨rfl,hb⟩
 replace HK:=hide ((ah HK).call hb)
 clear f0 f1 f2 f3 f4 f5 f6 f7 f8 f9 f10 f11 KM hb
 by_cases h:m - n<a
 ·have h2:a > m - n:=h
  go_wp2_with fail
  go_ret
  exact⟨by simp[h],(ah HK).2⟩
 ·have h2:¬ a > m - n:=h
  go_wp2_with fail
  go_ret
  exact⟨by simp,(ah HK).2⟩
theorem aaD {n0 Q}(hq:Bun n0 Q){rows:List (Nat×Obj)}{u:World}(h:Q rows u)(P:Nat->Int)(q r:Option Addr)(X:Nat->Int)(j:Int)(hc:bH P=0)(hz:X 0≠0)(KG:∀ rows' v,(∀ x∈rows,x∈rows')->Q rows' v->Calls Tryz.prog 54 #[.pointer r,.pointer q,.int .i64 j] v fun e v'=>e=.returned (.tuple #[Iv X,.int .i64 0])/\Hid (Q rows' v')) :
  Calls Tryz.prog 91 #[.pointer q,.pointer r,Pv P,.int .i64 j] u fun e u'=>e=.returned (.tuple #[.agg (Fc q r P j X),.int .i64 0])/\Hid (Q rows u'):=by
 have hm:n0<=u.heap.size+1:=by have:=hq.sz h;omega
 have sz:(u.alloc (.cells (Pc P) 24)).heap.size=u.heap.size+1:=by simp
 have H0':=hq.new (hq.new h (.cells (Pc P) 24)) (.cells Fz 161)
 rw[sz] at H0'
 have H0:=hide H0'
 have hne:∀ x∈(u.heap.size,Obj.cells (Pc P) 24)::rows,x.1≠u.heap.size+1:=fun x hx=>by
  rcases List.mem_cons.1 hx with e | e
  ·rw[e];show u.heap.size≠_;omega
  ·have:=hq.lt h e;omega
 have KG2:Hid (∀ v,Q ((u.heap.size+1,.cells Fz 161)::(u.heap.size,.cells (Pc P) 24)::rows) v->Calls Tryz.prog 54 #[.pointer r,.pointer q,.int .i64 j] v fun e v'=>e=.returned (.tuple #[Iv X,.int .i64 0])/\Hid (Q ((u.heap.size+1,.cells Fz 161)::(u.heap.size,.cells (Pc P) 24)::rows) v')):=fun v hv=>KG _ v (fun x hx=>by simp[hx]) hv
 have HR:Hid (∀ v,Q ((u.heap.size+1,.cells Fz 161)::(u.heap.size,.cells (Pc P) 24)::rows) v->Bl v u.heap.size (Pc P) 24/\Bl v (u.heap.size+1) Fz 161):=fun v hv=>⟨hq.row hv (x:=(u.heap.size,.cells (Pc P) 24)) (by simp),hq.row hv (x:=(u.heap.size+1,.cells Fz 161)) (by simp)⟩
 have HF:Hid (∀ v vs,Q ((u.heap.size+1,.cells Fz 161)::(u.heap.size,.cells (Pc P) 24)::rows) v->Q rows (v.setRow (u.heap.size+1) vs)):=fun v vs hv=>hq.pop (hq.pop (hq.whole hv hm hne vs))
 have HL:Hid (∀ v v',Q ((u.heap.size+1,.cells Fz 161)::(u.heap.size,.cells (Pc P) 24)::rows) v->Below v.heap.size v v'->Q ((u.heap.size+1,.cells Fz 161)::(u.heap.size,.cells (Pc P) 24)::rows) v'):=fun v v' hv hb=>hq.later hv hb
 have KC:Hid (∀ v,Calls Tryz.prog 46 #[Pv P] v fun e w'=>e=.returned (.int .i64 0)/\Below v.heap.size v w'):=fun v=>by
  have:=check_any P v
  rwa [hc] at this
 clear hc
 have HZ:=hide hz
 clear h hm sz H0' hne KG hq hz
 go_enter Tryz.func91,Tryz.ntmps91
 go_upto_region 1 with fail
 change Code.wp _ _ _ _ ((u.alloc (.cells (Pc P) 24)).alloc (.cells Fz 161))
 generalize (u.alloc (.cells (Pc P) 24)).alloc (.cells Fz 161)=w0 at *
 generalize u.heap.size+1=m at *
 generalize u.heap.size=mp at *
 have K1:=hide (ah KG2 w0 (ah H0))
 clear KG2 H0
 go_wp2_with fail
 go_at_call 54
 refine(ah K1).mono ?_
 rintro e w1 ⟨rfl,L1⟩
 have L2:=hide (ah HL _ _ (ah L1) ((Below.refl _ _).alloc (Nat.le_refl _) (.cells (Ic X) 65)))
 have bx:=Bl.new w1 (Ic X) 65
 clear K1 L1
 go_upto_region 2 with fail
 change Code.wp _ _ _ _ (w1.alloc (.cells (Ic X) 65))
 generalize w1.alloc (.cells (Ic X) 65)=w2 at *
 generalize w1.heap.size=mx at *
 have d0:(X 0==0)=false:=by simpa using ah HZ
 have bp:=(ah HR _ (ah L2)).1
 have y0:=bp.cell 0 (.int .i64 (P 0)) rfl
 have y1:=bp.cell 1 (.int .i64 (P 1)) rfl
 have y2:=bp.cell 2 (.int .i64 (P 2)) rfl
 have y3:=bp.cell 3 (.int .i64 (P 3)) rfl
 have y4:=bp.cell 4 (.int .i64 (P 4)) rfl
 have y5:=bp.cell 5 (.int .i64 (P 5)) rfl
 have y6:=bp.cell 6 (.int .i64 (P 6)) rfl
 have y7:=bp.cell 7 (.int .i64 (P 7)) rfl
 have y8:=bp.cell 8 (.int .i64 (P 8)) rfl
 have y9:=bp.cell 9 (.int .i64 (P 9)) rfl
 have y10:=bp.cell 10 (.int .i64 (P 10)) rfl
 have y11:=bp.cell 11 (.int .i64 (P 11)) rfl
 have x0:=bx.cell 0 (.int .i64 (X 0)) rfl
 clear bp
 go_wp2_with fail
 go_at_call 46
 refine(ah KC _).mono ?_
 rintro e w3 ⟨rfl,hb⟩
 have L3:=hide (ah HL _ _ (ah L2) hb)
 replace bx:=bx.call hb
 clear KC L2 hb x0 HL y0 y1 y2 y3 y4 y5 y6 y7 y8 y9 y10 y11
 have bp:=(ah HR _ (ah L3)).1
 have bz:=(ah HR _ (ah L3)).2
 have y0:=bp.cell 0 (.int .i64 (P 0)) rfl
 have y1:=bp.cell 1 (.int .i64 (P 1)) rfl
 have y2:=bp.cell 2 (.int .i64 (P 2)) rfl
 have y3:=bp.cell 3 (.int .i64 (P 3)) rfl
 have y4:=bp.cell 4 (.int .i64 (P 4)) rfl
 have y5:=bp.cell 5 (.int .i64 (P 5)) rfl
 have y6:=bp.cell 6 (.int .i64 (P 6)) rfl
 have y7:=bp.cell 7 (.int .i64 (P 7)) rfl
 have y8:=bp.cell 8 (.int .i64 (P 8)) rfl
 have y9:=bp.cell 9 (.int .i64 (P 9)) rfl
 have y10:=bp.cell 10 (.int .i64 (P 10)) rfl
 have y11:=bp.cell 11 (.int .i64 (P 11)) rfl
 have x0:=bx.cell 0 (.int .i64 (X 0)) rfl
 have x1:=bx.cell 1 (.int .i64 (X 1)) rfl
 have x2:=bx.cell 2 (.int .i64 (X 2)) rfl
 have x3:=bx.cell 3 (.int .i64 (X 3)) rfl
 have x4:=bx.cell 4 (.int .i64 (X 4)) rfl
 have x5:=bx.cell 5 (.int .i64 (X 5)) rfl
 have x6:=bx.cell 6 (.int .i64 (X 6)) rfl
 have x7:=bx.cell 7 (.int .i64 (X 7)) rfl
 have x8:=bx.cell 8 (.int .i64 (X 8)) rfl
 have x9:=bx.cell 9 (.int .i64 (X 9)) rfl
 have x10:=bx.cell 10 (.int .i64 (X 10)) rfl
 have x11:=bx.cell 11 (.int .i64 (X 11)) rfl
 have x12:=bx.cell 12 (.int .i64 (X 12)) rfl
 have BZ:=hide bz
 have Z:=hide (ah HF _ (Fc q r P j X) (ah L3))
 have hA:Bl (w3.setRow m (Fc q r P j X)) m (Fc q r P j X) 161:=setRow_heap _ _ _ _ _ _ bz
 clear HF HR L3 bx bz bp
 go_wp2_with (refine wpList_store_row rfl 161 _ _ rfl m (Fc q r P j X) rfl rfl 161 Fz (ah BZ) (by kernel_rfl) rfl (by simp[Value.oneCell']) ?_;clear BZ)
 change bodyPost _ _ _ _ _ (w3.setRow m (Fc q r P j X))
 generalize w3.setRow m (Fc q r P j X)=wf at *
 have hld:(loadVar 161 ⟨m,0,none⟩).run Tryz.prog wf=.ok (.agg (Fc q r P j X)) wf:=run_loadVar_row _ _ _ _ _ (0,0) _ hA Tryz.underlying161 rfl (by kernel_rfl)
 refine bodyPost_ret (v:=.tuple #[.agg (Fc q r P j X),.int .i64 0]) ?_ rfl ⟨rfl,Z⟩
 rw[results_cell_tmp rfl]
 simp[asAddr,Result.andThen,hld]
theorem Bun.alZ {n0 Q}(hq:Bun n0 Q){rows:List (Nat×Obj)}{u:World}(h:Q rows u)(a b c d e f:Obj):Q ((u.heap.size+5,f)::(u.heap.size+4,e)::(u.heap.size+3,d)::(u.heap.size+2,c)::(u.heap.size+1,b)::(u.heap.size,a)::rows) ((((((u.alloc a).alloc b).alloc c).alloc d).alloc e).alloc f):=by
 have x:=hq.new (hq.new (hq.new (hq.new (hq.new (hq.new h a) b) c) d) e) f
 simpa [World.size_alloc,Nat.add_assoc] using x
theorem wR {n0 Q}(hq:Bun n0 Q){rows:List (Nat×Obj)}{u:World}(h:Q rows u){fg o:Nat}{cs:Array Value}{ty:TypeId}(hf:(fg,.cells cs ty)∈rows)(c0:cs[0]?=some (.pointer (some ⟨o,0,none⟩)))(c2:cs[2]?=some (.int .i64 64))(b:Int)(zs:List Int)
  (KR:∀ v,Q rows v->Calls Tryz.prog 83 #[.pointer (some ⟨o,0,none⟩),.int .i64 b] v fun e v'=>∃ k c,e=.returned (.tuple #[.slice (some ⟨k,0,none⟩) 64 c,.int .i64 0])/\Hid (∃ ob,Dr c 64 zs ob/\v.heap.size<=k/\Q ((k,ob)::rows) v')) :
  Calls Tryz.prog 132 #[.pointer (some ⟨fg,0,none⟩),.int .i64 b] u fun e v'=>∃ k c,e=.returned (.tuple #[.slice (some ⟨k,0,none⟩) 64 c,.int .i64 0])/\Hid (∃ ob,Dr c 64 zs ob/\u.heap.size<=k/\Q ((k,ob)::rows) v'):=by
 have y0:=Bl.cell (hq.row h hf:Bl u fg cs ty) 0 _ c0
 have K1:=hide (KR u h)
 have HC:Hid (∀ v k ob,Q ((k,ob)::rows) v->v.cell? ⟨fg,2,none⟩=some (.int .i64 64)):=fun v k ob hv=>Bl.cell (hq.row hv (List.mem_cons_of_mem _ hf):Bl v fg cs ty) 2 _ c2
 clear h hq hf c0 c2 KR
 go_enter Tryz.func132,Tryz.ntmps132
 go_wp2_with fail
 go_at_call 83
 refine(ah K1).mono ?_
 rintro e v1 ⟨k,c,rfl,Y⟩
 obtain⟨ob,d1,k1,q1⟩:=ah Y
 have y2:=ah HC _ _ _ q1
 have Z:Hid (∃ ob,Dr c 64 zs ob/\u.heap.size<=k/\Q ((k,ob)::rows) v1):=⟨ob,d1,k1,q1⟩
 clear K1 HC Y d1 k1 q1 y0
 go_wp2_with fail
 go_ret2
 exact⟨k,c,rfl,Z⟩
theorem adY {n0}{Q Q':List (Nat×Obj)->World->Prop}(hq:Bun n0 Q){rows:List (Nat×Obj)}{u:World}(h:Q rows u){fg o:Nat}{cs:Array Value}{ty:TypeId}(hf:(fg,.cells cs ty)∈rows)(c0:cs[0]?=some (.pointer (some ⟨o,0,none⟩)))(c15:cs[15]?=some (.int .i64 1))(b:Int)(a:Option Addr)(l c:Nat)
  (KD:Calls Tryz.prog 153 #[.pointer (some ⟨o,0,none⟩),.int .i64 b,.slice a l c] u fun e v'=>e=.returned (.int .i64 0)/\Hid (Q' rows v')) :
  Calls Tryz.prog 102 #[.pointer (some ⟨fg,0,none⟩),.int .i64 b,.slice a l c] u fun e v'=>e=.returned (.int .i64 0)/\Hid (Q' rows v'):=by
 have y0:=Bl.cell (hq.row h hf:Bl u fg cs ty) 0 _ c0
 have y15:=Bl.cell (hq.row h hf:Bl u fg cs ty) 15 _ c15
 have K1:=hide KD
 clear h hq hf c0 c15 KD
 go_enter Tryz.func102,Tryz.ntmps102
 go_wp2_with fail
 go_at_call 153
 refine(ah K1).mono ?_
 rintro e v1 ⟨rfl,Y⟩
 clear K1
 go_wp2_with fail
 go_ret
 exact⟨rfl,Y⟩
theorem afV {n0}{Q Q':List (Nat×Obj)->World->Prop}(hq:Bun n0 Q){rows:List (Nat×Obj)}{u:World}(h:Q rows u){fg o:Nat}{cs:Array Value}{ty:TypeId}(hf:(fg,.cells cs ty)∈rows)(c0:cs[0]?=some (.pointer (some ⟨o,0,none⟩)))(c15:cs[15]?=some (.int .i64 2))(b:Int)(a:Option Addr)(l c:Nat)
  (KD:Calls Tryz.prog 51 #[.pointer (some ⟨o,0,none⟩),.int .i64 b,.slice a l c] u fun e v'=>e=.returned (.int .i64 0)/\Hid (Q' rows v')) :
  Calls Tryz.prog 102 #[.pointer (some ⟨fg,0,none⟩),.int .i64 b,.slice a l c] u fun e v'=>e=.returned (.int .i64 0)/\Hid (Q' rows v'):=by
 have y0:=Bl.cell (hq.row h hf:Bl u fg cs ty) 0 _ c0
 have y15:=Bl.cell (hq.row h hf:Bl u fg cs ty) 15 _ c15
 have K1:=hide KD
 clear h hq hf c0 c15 KD
 go_enter Tryz.func102,Tryz.ntmps102
 go_wp2_with fail
 go_at_call 51
 refine(ah K1).mono ?_
 rintro e v1 ⟨rfl,Y⟩
 clear K1
 go_wp2_with fail
 go_ret
 exact⟨rfl,Y⟩
theorem zX {n0 Q}(hq:Bun n0 Q){rows:List (Nat×Obj)}{u:World}(h:Q rows u){fg:Nat}{cs:Array Value}{ty:TypeId}(hf:(fg,.cells cs ty)∈rows)(s at0:Int)(c2:cs[2]?=some (.int .i64 64))(c17:cs[17]?=some (.int .i64 s))(hs:0<=s/\s<=1000000)(ha:0<=at0/\at0<=1000000)(hsa:at0 / 64<=s / 64) :
  Calls Tryz.prog 92 #[.pointer (some ⟨fg,0,none⟩),.int .i64 at0] u fun e v'=>e=.returned (.int .i64 0)/\Hid (Q rows v'):=by
 have y2:=Bl.cell (hq.row h hf:Bl u fg cs ty) 2 _ c2
 have y17:=Bl.cell (hq.row h hf:Bl u fg cs ty) 17 _ c17
 have HL:Hid (∀ m,Q rows (u.drewN m)):=fun m=>hq.later h (below_drewN (Below.refl _ u) m)
 have e1:s.tdiv 64=s / 64:=Int.tdiv_eq_ediv_of_nonneg hs.1
 have e2:at0.tdiv 64=at0 / 64:=Int.tdiv_eq_ediv_of_nonneg ha.1
 have hg:s / 64>=at0 / 64:=hsa
 have b1:0<=s / 64/\s / 64<=1000000:=by omega
 have b2:0<=at0 / 64/\at0 / 64<=1000000:=by omega
 clear h hq hf c2 c17 hsa
 go_enter Tryz.func92,Tryz.ntmps92
 go_upto_region 1 with fail
 go_quiet (fail)
 go_wp2_with fail
 go_ret
 exact⟨rfl,ah HL _⟩
theorem nJ (X:Nat->Int)(k:Nat)(hk:k<8)(u:World) :
  Calls Tryz.prog 173 #[Iv X,.int .i64 (k:Int)] u fun e v'=>e=.returned (.int .i64 (X (3+k)))/\Below u.heap.size u v':=by
 have B:=Bl.new u (Ic X) 65
 have hc:(Ic X)[3+k]?=some (.int .i64 (X (3+k))):=by
  rcases(show k=0\/k=1\/k=2\/k=3\/k=4\/k=5\/k=6\/k=7 by omega) with rfl | rfl | rfl | rfl | rfl | rfl | rfl | rfl<;>rfl
 have y:=B.cell (3+k) _ hc
 have HB:=hide ((Below.refl u.heap.size u).alloc (Nat.le_refl _) (.cells (Ic X) 65))
 have k8:(k:Int)<8:=by omega
 have d8:((k:Int)==8)=false:=by simp;omega
 have d9:((k:Int)==9)=false:=by simp;omega
 generalize X (3+k)=z at *
 clear B hc
 go_enter Tryz.func173,Tryz.ntmps173
 go_upto_region 1 with fail
 change Code.wp _ _ _ _ (u.alloc (.cells (Ic X) 65))
 generalize u.alloc (.cells (Ic X) 65)=w0 at *
 go_wp2_with fail
 go_ret
 exact⟨rfl,ah HB⟩
abbrev Wc (o tb:Nat) (P:Nat->Int) (j:Int) (X:Nat->Int) (ch:Value) (mm:Nat) (bf:Value):Array Value:=#[.pointer (some ⟨o,0,none⟩),.pointer (some ⟨tb,0,none⟩),.int .i64 (P 0),.int .i64 (P 1),.int .i64 (P 2),.int .i64 (P 3),.int .i64 (P 4),.int .i64 (P 5),.int .i64 (P 6),.int .i64 (P 7),.int .i64 (P 8),.int .i64 (P 9),.int .i64 (P 10),.int .i64 (P 11),.int .i64 j,.int .i64 (X 0),.int .i64 (X 1),.int .i64 (X 2),.int .i64 (X 3),.int .i64 (X 4),.int .i64 (X 5),.int .i64 (X 6),.int .i64 (X 7),.int .i64 (X 8),.int .i64 (X 9),.int .i64 (X 10),.int .i64 (X 11),.int .i64 (X 12),ch,.map (some mm),bf]
abbrev mW (i:Int):Value:=.agg #[.int .i64 i,.int .i64 (-1),.int .i64 (-1)]
theorem wG (u:World)(r:Nat)(h:u.heap[r]?=some (.map #[] 0))(i:Int) :
  (Instr.mapUpdate 165 (.map (some r)) (mW i) (.agg #[])).run Tryz.prog u=.ok () (u.putObj r (.map #[⟨mW i,.agg #[],0⟩] 1)):=by
 have hc:(Instr.checkKey false 10000 255 (mW i)).run Tryz.prog u=.ok () u:=by kernel_rfl
 have hf:(Instr.findKey 255 (mW i) []).run Tryz.prog u=.ok none u:=by kernel_rfl
 have hg:(getObj r).run Tryz.prog u=.ok (.map #[] 0) u:=by simp[getObj,Sem.run,h]
 have hs:∀ o',(setObj r o').run Tryz.prog u=.ok () (u.putObj r o'):=fun o'=>by simp[setObj,Sem.run,h,World.putObj]
 unfold Instr.mapUpdate
 simp[go_sem,hg,hc,hf,hs,Result.andThen]
theorem ab4 (u:World)(r:Nat)(e:MapEntry)(h:u.heap[r]?=some (.map #[e] 1))(ty:TypeId):(Builtin.len_ #[165] ty #[.map (some r)]).run Tryz.prog u=.ok (.int .i64 1) u:=by
 have hg:(getObj r).run Tryz.prog u=.ok (.map #[e] 1) u:=by simp[getObj,Sem.run,h]
 simp[go_sem,Builtin.len_,hg,Result.andThen]
theorem wS {n0 Q}(hq:Bun n0 Q){rows:List (Nat×Obj)}{u:World}{mw mm o tb:Nat}{P:Nat->Int}{j:Int}{X:Nat->Int}{ch bf:Value}(h:Q ((mm,.map #[] 0)::(mw,.cells (Wc o tb P j X ch mm bf) 169)::rows) u)(hmm:n0<=mm)(hne:∀ x∈(mw,Obj.cells (Wc o tb P j X ch mm bf) 169)::rows,x.1≠mm)(k:Nat)(hk:k<8)(hc:bH P=0)(hm:¬ mfb P<=(k:Int))(hX:X (3+k)=0) :
  Calls Tryz.prog 137 #[.pointer (some ⟨mw,0,none⟩),.int .i64 (k:Int)] u fun e v=>e=.returned (.int .i64 0)/\Hid (Q ((mm,.map #[⟨mW k,.agg #[],0⟩] 1)::(mw,.cells (Wc o tb P j X ch mm bf) 169)::rows) v):=by
 have KS:=hide (oq P (k:Int) (P 0 / 2) u hc (by omega) hm rfl (by omega))
 have KP:Hid (∀ v,Calls Tryz.prog 173 #[Iv X,.int .i64 (k:Int)] v fun e v'=>e=.returned (.int .i64 0)/\Below v.heap.size v v'):=fun v=>by
  have:=nJ X k hk v
  rwa [hX] at this
 have HQ:=hide hq
 have H0:=hide h
 have HN:=hide (And.intro hmm hne)
 have bw:Bl u mw (Wc o tb P j X ch mm bf) 169:=hq.row h (x:=(mw,.cells (Wc o tb P j X ch mm bf) 169)) (by simp)
 have p0:=bw.cell 2 (.int .i64 (P 0)) rfl
 have p1:=bw.cell 3 (.int .i64 (P 1)) rfl
 have p2:=bw.cell 4 (.int .i64 (P 2)) rfl
 have p3:=bw.cell 5 (.int .i64 (P 3)) rfl
 have p4:=bw.cell 6 (.int .i64 (P 4)) rfl
 have p5:=bw.cell 7 (.int .i64 (P 5)) rfl
 have p6:=bw.cell 8 (.int .i64 (P 6)) rfl
 have p7:=bw.cell 9 (.int .i64 (P 7)) rfl
 have p8:=bw.cell 10 (.int .i64 (P 8)) rfl
 have p9:=bw.cell 11 (.int .i64 (P 9)) rfl
 have p10:=bw.cell 12 (.int .i64 (P 10)) rfl
 have p11:=bw.cell 13 (.int .i64 (P 11)) rfl
 have k8:(k:Int)<8:=by omega
 clear hq h hmm hne bw hc hm hX
 go_enter Tryz.func137,Tryz.ntmps137
 go_wp2_with fail
 go_at_call 144
 refine(ah KS).mono ?_
 rintro e w1 ⟨⟨ks,rfl,hks,hrow⟩,hb1⟩
 clear KS p0 p1 p2 p3 p4 p5 p6 p7 p8 p9 p10 p11
 have L1:=hide ((ah HQ).new ((ah HQ).push (ah H0) hb1 hks hrow) (.cells #[.int .i64 (-1),.int .i64 (-1),.int .i64 (-1)] 255))
 have HM0:Hid (n0<=w1.heap.size/\∀ x∈(ks,zI (k:Int))::(mm,.map #[] 0)::(mw,.cells (Wc o tb P j X ch mm bf) 169)::rows,x.1≠w1.heap.size):=⟨(ah HQ).sz ((ah HQ).later (ah H0) hb1),(ah HQ).ne ((ah HQ).push (ah H0) hb1 hks hrow)⟩
 clear hrow hks hb1 H0
 go_wp2_with (refine wpList_store_row rfl 255 _ _ rfl w1.heap.size #[.int .i64 (-1),.int .i64 (-1),.int .i64 (-1)] rfl rfl 255 #[.int .i64 0,.int .i64 0,.int .i64 0] (World.alloc_heap_new _ _) (by kernel_rfl) rfl (by simp[Value.oneCell']) ?_;rw[World.setRow_alloc_new])
 have HM:Hid (n0<=w1.heap.size/\∀ x∈(ks,zI (k:Int))::(mm,.map #[] 0)::(mw,.cells (Wc o tb P j X ch mm bf) 169)::rows,x.1≠w1.heap.size):=ah HM0
 clear HM0
 change Code.wp _ _ _ _ (w1.alloc (.cells #[.int .i64 (-1),.int .i64 (-1),.int .i64 (-1)] 255))
 generalize w1.alloc (.cells #[.int .i64 (-1),.int .i64 (-1),.int .i64 (-1)] 255)=w2 at *
 generalize w1.heap.size=ma at *
 go_loopw [8,29] (fun bv iv wr=>bv=.int .i64 0/\((iv=.int .i64 0/\wr=w2)\/(iv=.int .i64 1/\Hid (Q ((mm,.map #[⟨mW k,.agg #[],0⟩] 1)::(mw,.cells (Wc o tb P j X ch mm bf) 169)::rows) wr)))) (fun _ iv _=>(1 - intOf iv).toNat)
 case atStart=>exact⟨rfl,.inl ⟨rfl,rfl⟩⟩
 case round =>
  obtain⟨rfl,hrel⟩:=hrel
  rcases hrel with ⟨rfl,rfl⟩ | ⟨rfl,hd⟩
  ·have bw2:Bl wr mw (Wc o tb P j X ch mm bf) 169:=(ah HQ).row (ah L1) (x:=(mw,.cells (Wc o tb P j X ch mm bf) 169)) (by simp)
   have x0:=bw2.cell 15 (.int .i64 (X 0)) rfl
   have x1:=bw2.cell 16 (.int .i64 (X 1)) rfl
   have x2:=bw2.cell 17 (.int .i64 (X 2)) rfl
   have x3:=bw2.cell 18 (.int .i64 (X 3)) rfl
   have x4:=bw2.cell 19 (.int .i64 (X 4)) rfl
   have x5:=bw2.cell 20 (.int .i64 (X 5)) rfl
   have x6:=bw2.cell 21 (.int .i64 (X 6)) rfl
   have x7:=bw2.cell 22 (.int .i64 (X 7)) rfl
   have x8:=bw2.cell 23 (.int .i64 (X 8)) rfl
   have x9:=bw2.cell 24 (.int .i64 (X 9)) rfl
   have x10:=bw2.cell 25 (.int .i64 (X 10)) rfl
   have x11:=bw2.cell 26 (.int .i64 (X 11)) rfl
   have x12:=bw2.cell 27 (.int .i64 (X 12)) rfl
   have y1:=Bl.cell ((ah HQ).row (ah L1) (x:=(ks,zI (k:Int))) (by simp)) 0 _ rfl
   have ba:Bl wr ma #[.int .i64 (-1),.int .i64 (-1),.int .i64 (-1)] 255:=(ah HQ).row (ah L1) (x:=(ma,.cells #[.int .i64 (-1),.int .i64 (-1),.int .i64 (-1)] 255)) (by simp)
   have y2:=ba.cell 0 _ rfl
   have y3:=ba.free 0
   have L2:=hide ((ah HQ).put (ah L1) (ah HM).1 (ah HM).2 0 (.int .i64 (k:Int)))
   clear bw2 ba
   go_wp2_with fail
   refine(ah KP _).mono ?_
   rintro e w3 ⟨rfl,hb3⟩
   have L3:=hide ((ah HQ).later (ah L2) hb3)
   clear hb3 L2 L1 KP x0 x1 x2 x3 x4 x5 x6 x7 x8 x9 x10 x11 x12 y1 y2 y3
   have cm:=Bl.cell ((ah HQ).row (ah L3) (x:=(mw,.cells (Wc o tb P j X ch mm bf) 169)) (by simp)) 29 (.map (some mm)) rfl
   have ba3:Bl w3 ma #[.int .i64 (k:Int),.int .i64 (-1),.int .i64 (-1)] 255:=(ah HQ).row (ah L3) (x:=(ma,.cells #[.int .i64 (k:Int),.int .i64 (-1),.int .i64 (-1)] 255)) (by simp)
   have a0:=ba3.cell 0 _ rfl
   have a1:=ba3.cell 1 _ rfl
   have a2:=ba3.cell 2 _ rfl
   have hmu:∀ n,(Instr.mapUpdate 165 (.map (some mm)) (.agg #[.int .i64 (k:Int),.int .i64 (-1),.int .i64 (-1)]) (.agg #[])).run Tryz.prog (w3.drewN n)=.ok () ((w3.drewN n).putObj mm (.map #[⟨mW k,.agg #[],0⟩] 1)):=fun n=>wG _ _ ((ah HQ).row ((ah HQ).later (ah L3) (below_drewN (Below.refl _ _) n)) (x:=(mm,.map #[] 0)) (by simp)) _
   have L4:Hid (∀ n,Q ((mm,.map #[⟨mW k,.agg #[],0⟩] 1)::(mw,.cells (Wc o tb P j X ch mm bf) 169)::rows) ((w3.drewN n).putObj mm (.map #[⟨mW k,.agg #[],0⟩] 1))):=fun n=>(ah HQ).obj ((ah HQ).sub ((ah HQ).later (ah L3) (below_drewN (Below.refl _ _) n)) (rows':=(mm,.map #[] 0)::(mw,.cells (Wc o tb P j X ch mm bf) 169)::rows) (fun x hx=>by simp only[List.mem_cons] at hx ⊢;rcases hx with e | e | e<;>simp[e])) (ah HN).1 (ah HN).2 _
   clear ba3
   have amj:(Instr.mapUpdate 165 (.map (some mm)) (.agg #[.int .i64 (k:Int),.int .i64 (-1),.int .i64 (-1)]) (.agg #[])).run Tryz.prog w3.drew=.ok () (w3.drew.putObj mm (.map #[⟨mW k,.agg #[],0⟩] 1)):=hmu 1
   have L41:Hid (Q ((mm,.map #[⟨mW k,.agg #[],0⟩] 1)::(mw,.cells (Wc o tb P j X ch mm bf) 169)::rows) (w3.drew.putObj mm (.map #[⟨mW k,.agg #[],0⟩] 1))):=ah L4 1
   clear hmu L4
   go_wp2_with fail
   go_region
   clear amj cm a0 a1 a2
   generalize w3.drew.putObj mm (.map #[⟨mW k,.agg #[],0⟩] 1)=w4 at *
   go_wp2_with fail
   go_roundw
   case rel=>exact⟨by go_num,.inr ⟨by go_num,L41⟩⟩
   case measure=>simp[intOf]
  ·go_wp2_with fail
   go_ret
   exact⟨rfl,hd⟩
end Go.Proofs.YtefdkpbmeoakgaaGreatDoor
