/- Joined: EOpen, ERef, EOpenE. -/
import Derived.Test.YtefdkpbmeoakgaaGreatDoorDnJ44
import Derived.Test.YtefdkpbmeoakgaaGreatDoorDnJ43
/- dir.open where it is refused: Get's error, a free inode, a file. -/
namespace Go.Proofs.YtefdkpbmeoakgaaGreatDoor
set_option maxRecDepth 100000
set_option maxHeartbeats 8000000
open Go.RowKit Go.Shelf Go.Maps
set_option linter.unusedVariables false
theorem ql {n0 Q}(hq:Bun n0 Q){rows:List (Nat×Obj)}{u:World}(h:Q rows u)(P:Nat->Int)(q r:Option Addr)(j er:Int)(hz:er≠0)(KG:∀ rows' v,(∀ x∈rows,x∈rows')->Q rows' v->Calls Tryz.prog 54 #[.pointer r,.pointer q,.int .i64 j] v fun e v'=>e=.returned (.tuple #[.agg Iz,.int .i64 er])/\Hid (Q rows' v')) :
  Calls Tryz.prog 26 #[.pointer q,.pointer r,Pv P,.int .i64 j] u fun e u'=>e=.returned (.tuple #[.pointer none,.int .i64 er])/\Hid (Q rows u'):=by
 have H0:=hide (hq.new h (.cells (Pc P) 24))
 have KG2:Hid (∀ v,Q ((u.heap.size,.cells (Pc P) 24)::rows) v->Calls Tryz.prog 54 #[.pointer r,.pointer q,.int .i64 j] v fun e v'=>e=.returned (.tuple #[.agg Iz,.int .i64 er])/\Hid (Q ((u.heap.size,.cells (Pc P) 24)::rows) v')):=fun v hv=>KG _ v (fun x hx=>List.mem_cons_of_mem _ hx) hv
 have HL:Hid (∀ v v',Q ((u.heap.size,.cells (Pc P) 24)::rows) v->Below v.heap.size v v'->Q rows v'):=fun v v' hv hb=>hq.pop (hq.later hv hb)
 have HZ:=hide hz
 clear h KG hq hz
 go_enter Tryz.func26,Tryz.ntmps26
 go_upto_region 1 with fail
 change Code.wp _ _ _ _ (u.alloc (.cells (Pc P) 24))
 generalize u.alloc (.cells (Pc P) 24)=w0 at *
 generalize u.heap.size=mp at *
 have K1:=hide (ah KG2 w0 (ah H0))
 clear KG2 H0
 go_wp2_with fail
 go_at_call 54
 refine(ah K1).mono ?_
 rintro e w1 ⟨rfl,L1⟩
 have L2:=hide (ah HL _ _ (ah L1) ((Below.refl _ _).alloc (Nat.le_refl _) (.cells Iz 65)))
 clear K1 L1 HL
 go_upto_region 2 with fail
 change Code.wp _ _ _ _ (w1.alloc (.cells Iz 65))
 generalize w1.alloc (.cells Iz 65)=w2 at *
 generalize w1.heap.size=mx at *
 have d0:(er != 0)=true:=by simpa using ah HZ
 go_wp2_with fail
 go_ret2
 exact⟨rfl,L2⟩
theorem rY {n0 Q}(hq:Bun n0 Q){rows:List (Nat×Obj)}{u:World}(h:Q rows u)(P:Nat->Int)(q r:Option Addr)(X:Nat->Int)(j er:Int)(hz:X 0=0/\er=11\/X 0=1/\er=13)(KG:∀ rows' v,(∀ x∈rows,x∈rows')->Q rows' v->Calls Tryz.prog 54 #[.pointer r,.pointer q,.int .i64 j] v fun e v'=>e=.returned (.tuple #[Iv X,.int .i64 0])/\Hid (Q rows' v')) :
  Calls Tryz.prog 26 #[.pointer q,.pointer r,Pv P,.int .i64 j] u fun e u'=>e=.returned (.tuple #[.pointer none,.int .i64 er])/\Hid (Q rows u'):=by
 have H0:=hide (hq.new h (.cells (Pc P) 24))
 have KG2:Hid (∀ v,Q ((u.heap.size,.cells (Pc P) 24)::rows) v->Calls Tryz.prog 54 #[.pointer r,.pointer q,.int .i64 j] v fun e v'=>e=.returned (.tuple #[Iv X,.int .i64 0])/\Hid (Q ((u.heap.size,.cells (Pc P) 24)::rows) v')):=fun v hv=>KG _ v (fun x hx=>List.mem_cons_of_mem _ hx) hv
 have HL:Hid (∀ v v',Q ((u.heap.size,.cells (Pc P) 24)::rows) v->Below v.heap.size v v'->Q rows v'):=fun v v' hv hb=>hq.pop (hq.later hv hb)
 have HZ:=hide hz
 clear h KG hq hz
 go_enter Tryz.func26,Tryz.ntmps26
 go_upto_region 1 with fail
 change Code.wp _ _ _ _ (u.alloc (.cells (Pc P) 24))
 generalize u.alloc (.cells (Pc P) 24)=w0 at *
 generalize u.heap.size=mp at *
 have K1:=hide (ah KG2 w0 (ah H0))
 clear KG2 H0
 go_wp2_with fail
 go_at_call 54
 refine(ah K1).mono ?_
 rintro e w1 ⟨rfl,L1⟩
 have L2:=hide (ah HL _ _ (ah L1) ((Below.refl _ _).alloc (Nat.le_refl _) (.cells (Ic X) 65)))
 have bx:=Bl.new w1 (Ic X) 65
 clear K1 L1 HL
 go_upto_region 2 with fail
 change Code.wp _ _ _ _ (w1.alloc (.cells (Ic X) 65))
 generalize w1.alloc (.cells (Ic X) 65)=w2 at *
 generalize w1.heap.size=mx at *
 have x0:=bx.cell 0 (.int .i64 (X 0)) rfl
 clear bx
 rcases ah HZ with ⟨e0,rfl⟩ | ⟨e0,rfl⟩
 ·rw[e0] at x0
  clear HZ e0
  go_wp2_with fail
  go_ret2
  exact⟨rfl,L2⟩
 ·rw[e0] at x0
  clear HZ e0
  go_wp2_with fail
  go_ret2
  exact⟨rfl,L2⟩
theorem rZ {n0 Q}(hq:Bun n0 Q){rows:List (Nat×Obj)}{u:World}(h:Q rows u)(P:Nat->Int)(q r:Option Addr)(j:Int)(s:ByteArray)(hs:nameB s=true)(er:Int)(hz:er≠0)(KO:∀ rows' v,(∀ x∈rows,x∈rows')->Q rows' v->Calls Tryz.prog 26 #[.pointer q,.pointer r,Pv P,.int .i64 j] v fun e v'=>e=.returned (.tuple #[.pointer none,.int .i64 er])/\Hid (Q rows' v')) :
  Calls Tryz.prog 24 #[.pointer q,.pointer r,Pv P,.int .i64 j,.string s] u fun e u'=>e=.returned (.tuple #[.pointer none,.int .i64 0,.int .i64 er])/\Hid (Q rows u'):=by
 have KN:Hid (∀ v,Calls Tryz.prog 52 #[.string s] v fun e v'=>e=.returned (.int .i64 0)/\Below v.heap.size v v'):=fun v=>iR s v hs
 have KO2:Hid (∀ v,Q ((u.heap.size,.cells (Pc P) 24)::rows) v->Calls Tryz.prog 26 #[.pointer q,.pointer r,Pv P,.int .i64 j] v fun e v'=>e=.returned (.tuple #[.pointer none,.int .i64 er])/\Hid (Q ((u.heap.size,.cells (Pc P) 24)::rows) v')):=fun v hv=>KO _ v (fun x hx=>List.mem_cons_of_mem _ hx) hv
 have d0:(er != 0)=true:=by simpa using hz
 clear KO hz
 have H0:=hide (hq.new h (.cells (Pc P) 24))
 have HL:Hid (∀ v v',Q ((u.heap.size,.cells (Pc P) 24)::rows) v->Below v.heap.size v v'->Q ((u.heap.size,.cells (Pc P) 24)::rows) v'):=fun v v' hv hb=>hq.later hv hb
 have HP:Hid (∀ v,Q ((u.heap.size,.cells (Pc P) 24)::rows) v->Q rows v):=fun v hv=>hq.pop hv
 have HB:Hid (∀ v,Q ((u.heap.size,.cells (Pc P) 24)::rows) v->Bl v u.heap.size (Pc P) 24):=fun v hv=>hq.row hv (x:=(u.heap.size,.cells (Pc P) 24)) (by simp)
 clear hs
 clear h hq
 go_enter Tryz.func24,Tryz.ntmps24
 go_upto_region 1 with fail
 change Code.wp _ _ _ _ (u.alloc (.cells (Pc P) 24))
 generalize u.alloc (.cells (Pc P) 24)=w0 at *
 generalize u.heap.size=mp at *
 go_wp2_with fail
 refine(ah KN _).mono ?_
 rintro e w1 ⟨rfl,hb⟩
 have L1:=hide (ah HL _ _ (ah H0) hb)
 have K1:=hide (ah KO2 _ (ah L1))
 have bl:=ah HB _ (ah L1)
 have x0:=bl.cell 0 (.int .i64 (P 0)) rfl
 have x1:=bl.cell 1 (.int .i64 (P 1)) rfl
 have x2:=bl.cell 2 (.int .i64 (P 2)) rfl
 have x3:=bl.cell 3 (.int .i64 (P 3)) rfl
 have x4:=bl.cell 4 (.int .i64 (P 4)) rfl
 have x5:=bl.cell 5 (.int .i64 (P 5)) rfl
 have x6:=bl.cell 6 (.int .i64 (P 6)) rfl
 have x7:=bl.cell 7 (.int .i64 (P 7)) rfl
 have x8:=bl.cell 8 (.int .i64 (P 8)) rfl
 have x9:=bl.cell 9 (.int .i64 (P 9)) rfl
 have x10:=bl.cell 10 (.int .i64 (P 10)) rfl
 have x11:=bl.cell 11 (.int .i64 (P 11)) rfl
 clear bl
 clear KN hb HL HB H0 KO2 L1
 go_wp2_with fail
 refine(ah K1).mono ?_
 rintro e w2 ⟨rfl,L2⟩
 have Z:=hide (ah HP _ (ah L2))
 clear K1 L2 HP
 clear x0 x1 x2 x3 x4 x5 x6 x7 x8 x9 x10 x11
 go_wp2_with fail
 go_ret3
 exact⟨rfl,Z⟩
theorem xE {n0 Q}(hq:Bun n0 Q){rows:List (Nat×Obj)}{u:World}(h:Q rows u)(P:Nat->Int)(q r:Option Addr)(j:Int)(s:ByteArray)(er:Int)(hz:er≠0)(KF:∀ rows' v,(∀ x∈rows,x∈rows')->Q rows' v->Calls Tryz.prog 24 #[.pointer q,.pointer r,Pv P,.int .i64 j,.string s] v fun e v'=>e=.returned (.tuple #[.pointer none,.int .i64 0,.int .i64 er])/\Hid (Q rows' v')) :
  Calls Tryz.prog 7 #[.pointer q,.pointer r,Pv P,.int .i64 j,.string s] u fun e u'=>e=.returned (.tuple #[.int .i64 0,.int .i64 er])/\Hid (Q rows u'):=by
 have KF2:Hid (∀ v,Q ((u.heap.size,.cells (Pc P) 24)::rows) v->Calls Tryz.prog 24 #[.pointer q,.pointer r,Pv P,.int .i64 j,.string s] v fun e v'=>e=.returned (.tuple #[.pointer none,.int .i64 0,.int .i64 er])/\Hid (Q ((u.heap.size,.cells (Pc P) 24)::rows) v')):=fun v hv=>KF _ v (fun x hx=>List.mem_cons_of_mem _ hx) hv
 have d0:(er != 0)=true:=by simpa using hz
 clear KF hz
 have H0:=hide (hq.new h (.cells (Pc P) 24))
 have HL:Hid (∀ v v',Q ((u.heap.size,.cells (Pc P) 24)::rows) v->Below v.heap.size v v'->Q ((u.heap.size,.cells (Pc P) 24)::rows) v'):=fun v v' hv hb=>hq.later hv hb
 have HP:Hid (∀ v,Q ((u.heap.size,.cells (Pc P) 24)::rows) v->Q rows v):=fun v hv=>hq.pop hv
 have HB:Hid (∀ v,Q ((u.heap.size,.cells (Pc P) 24)::rows) v->Bl v u.heap.size (Pc P) 24):=fun v hv=>hq.row hv (x:=(u.heap.size,.cells (Pc P) 24)) (by simp)
 clear h hq
 go_enter Tryz.func7,Tryz.ntmps7
 go_upto_region 1 with fail
 change Code.wp _ _ _ _ (u.alloc (.cells (Pc P) 24))
 generalize u.alloc (.cells (Pc P) 24)=w0 at *
 generalize u.heap.size=mp at *
 have K1:=hide (ah KF2 _ (ah H0))
 have bl:=ah HB _ (ah H0)
 have x0:=bl.cell 0 (.int .i64 (P 0)) rfl
 have x1:=bl.cell 1 (.int .i64 (P 1)) rfl
 have x2:=bl.cell 2 (.int .i64 (P 2)) rfl
 have x3:=bl.cell 3 (.int .i64 (P 3)) rfl
 have x4:=bl.cell 4 (.int .i64 (P 4)) rfl
 have x5:=bl.cell 5 (.int .i64 (P 5)) rfl
 have x6:=bl.cell 6 (.int .i64 (P 6)) rfl
 have x7:=bl.cell 7 (.int .i64 (P 7)) rfl
 have x8:=bl.cell 8 (.int .i64 (P 8)) rfl
 have x9:=bl.cell 9 (.int .i64 (P 9)) rfl
 have x10:=bl.cell 10 (.int .i64 (P 10)) rfl
 have x11:=bl.cell 11 (.int .i64 (P 11)) rfl
 clear bl
 clear HL HB H0 KF2
 go_wp2_with fail
 refine(ah K1).mono ?_
 rintro e w2 ⟨rfl,L2⟩
 have Z:=hide (ah HP _ (ah L2))
 clear K1 L2 HP
 clear x0 x1 x2 x3 x4 x5 x6 x7 x8 x9 x10 x11
 go_wp2_with fail
 go_ret2
 exact⟨rfl,Z⟩
theorem aae {n0 Q}(hq:Bun n0 Q){rows:List (Nat×Obj)}{u:World}(h:Q rows u)(P:Nat->Int)(q r:Option Addr)(j:Int)(s:ByteArray)(er:Int)(hz:er≠0)(KF:∀ rows' v,(∀ x∈rows,x∈rows')->Q rows' v->Calls Tryz.prog 24 #[.pointer q,.pointer r,Pv P,.int .i64 j,.string s] v fun e v'=>e=.returned (.tuple #[.pointer none,.int .i64 0,.int .i64 er])/\Hid (Q rows' v')) :
  Calls Tryz.prog 10 #[.pointer q,.pointer r,Pv P,.int .i64 j,.string s] u fun e u'=>e=.returned (.int .i64 er)/\Hid (Q rows u'):=by
 have KF2:Hid (∀ v,Q ((u.heap.size,.cells (Pc P) 24)::rows) v->Calls Tryz.prog 24 #[.pointer q,.pointer r,Pv P,.int .i64 j,.string s] v fun e v'=>e=.returned (.tuple #[.pointer none,.int .i64 0,.int .i64 er])/\Hid (Q ((u.heap.size,.cells (Pc P) 24)::rows) v')):=fun v hv=>KF _ v (fun x hx=>List.mem_cons_of_mem _ hx) hv
 have d0:(er != 0)=true:=by simpa using hz
 clear KF hz
 have H0:=hide (hq.new h (.cells (Pc P) 24))
 have HL:Hid (∀ v v',Q ((u.heap.size,.cells (Pc P) 24)::rows) v->Below v.heap.size v v'->Q ((u.heap.size,.cells (Pc P) 24)::rows) v'):=fun v v' hv hb=>hq.later hv hb
 have HP:Hid (∀ v,Q ((u.heap.size,.cells (Pc P) 24)::rows) v->Q rows v):=fun v hv=>hq.pop hv
 have HB:Hid (∀ v,Q ((u.heap.size,.cells (Pc P) 24)::rows) v->Bl v u.heap.size (Pc P) 24):=fun v hv=>hq.row hv (x:=(u.heap.size,.cells (Pc P) 24)) (by simp)
 clear h hq
 go_enter Tryz.func10,Tryz.ntmps10
 go_upto_region 1 with fail
 change Code.wp _ _ _ _ (u.alloc (.cells (Pc P) 24))
 generalize u.alloc (.cells (Pc P) 24)=w0 at *
 generalize u.heap.size=mp at *
 have K1:=hide (ah KF2 _ (ah H0))
 have bl:=ah HB _ (ah H0)
 have x0:=bl.cell 0 (.int .i64 (P 0)) rfl
 have x1:=bl.cell 1 (.int .i64 (P 1)) rfl
 have x2:=bl.cell 2 (.int .i64 (P 2)) rfl
 have x3:=bl.cell 3 (.int .i64 (P 3)) rfl
 have x4:=bl.cell 4 (.int .i64 (P 4)) rfl
 have x5:=bl.cell 5 (.int .i64 (P 5)) rfl
 have x6:=bl.cell 6 (.int .i64 (P 6)) rfl
 have x7:=bl.cell 7 (.int .i64 (P 7)) rfl
 have x8:=bl.cell 8 (.int .i64 (P 8)) rfl
 have x9:=bl.cell 9 (.int .i64 (P 9)) rfl
 have x10:=bl.cell 10 (.int .i64 (P 10)) rfl
 have x11:=bl.cell 11 (.int .i64 (P 11)) rfl
 clear bl
 clear HL HB H0 KF2
 go_wp2_with fail
 refine(ah K1).mono ?_
 rintro e w2 ⟨rfl,L2⟩
 have Z:=hide (ah HP _ (ah L2))
 clear K1 L2 HP
 clear x0 x1 x2 x3 x4 x5 x6 x7 x8 x9 x10 x11
 go_wp2_with fail
 go_ret
 exact⟨rfl,Z⟩
theorem jc {n0 Q}(hq:Bun n0 Q){rows:List (Nat×Obj)}{u:World}(h:Q rows u)(P:Nat->Int)(q r:Option Addr)(j:Int)(s:ByteArray)(i er:Int)(hz:er≠0)(KB:∀ v,Calls Tryz.prog 25 #[.string s,.int .i64 i] v fun e v'=>e=.returned (.tuple #[.slice none 0 0,.int .i64 er])/\Below v.heap.size v v') :
  Calls Tryz.prog 8 #[.pointer q,.pointer r,Pv P,.int .i64 j,.string s,.int .i64 i] u fun e u'=>e=.returned (.int .i64 er)/\Hid (Q rows u'):=by
 have KB2:=hide KB
 have d0:(er != 0)=true:=by simpa using hz
 clear KB hz
 have H0:=hide (hq.new h (.cells (Pc P) 24))
 have HL:Hid (∀ v v',Q ((u.heap.size,.cells (Pc P) 24)::rows) v->Below v.heap.size v v'->Q ((u.heap.size,.cells (Pc P) 24)::rows) v'):=fun v v' hv hb=>hq.later hv hb
 have HP:Hid (∀ v,Q ((u.heap.size,.cells (Pc P) 24)::rows) v->Q rows v):=fun v hv=>hq.pop hv
 have HB:Hid (∀ v,Q ((u.heap.size,.cells (Pc P) 24)::rows) v->Bl v u.heap.size (Pc P) 24):=fun v hv=>hq.row hv (x:=(u.heap.size,.cells (Pc P) 24)) (by simp)
 clear h hq
 go_enter Tryz.func8,Tryz.ntmps8
 go_upto_region 1 with fail
 change Code.wp _ _ _ _ (u.alloc (.cells (Pc P) 24))
 generalize u.alloc (.cells (Pc P) 24)=w0 at *
 generalize u.heap.size=mp at *
 go_wp2_with fail
 refine(ah KB2 _).mono ?_
 rintro e w1 ⟨rfl,hb⟩
 have Z:=hide (ah HP _ (ah HL _ _ (ah H0) hb))
 clear KB2 hb HL HP HB H0
 go_wp2_with fail
 go_ret
 exact⟨rfl,Z⟩
theorem acf {n0 Q}(hq:Bun n0 Q){rows:List (Nat×Obj)}{u:World}(h:Q rows u)(P:Nat->Int)(q r:Option Addr)(j:Int)(s:ByteArray)(i er:Int)(hz:er≠0)(KB:∀ v,Calls Tryz.prog 25 #[.string s,.int .i64 i] v fun e v'=>e=.returned (.tuple #[.slice none 0 0,.int .i64 er])/\Below v.heap.size v v') :
  Calls Tryz.prog 9 #[.pointer q,.pointer r,Pv P,.int .i64 j,.string s,.int .i64 i] u fun e u'=>e=.returned (.int .i64 er)/\Hid (Q rows u'):=by
 have KB2:=hide KB
 have d0:(er != 0)=true:=by simpa using hz
 clear KB hz
 have H0:=hide (hq.new h (.cells (Pc P) 24))
 have HL:Hid (∀ v v',Q ((u.heap.size,.cells (Pc P) 24)::rows) v->Below v.heap.size v v'->Q ((u.heap.size,.cells (Pc P) 24)::rows) v'):=fun v v' hv hb=>hq.later hv hb
 have HP:Hid (∀ v,Q ((u.heap.size,.cells (Pc P) 24)::rows) v->Q rows v):=fun v hv=>hq.pop hv
 have HB:Hid (∀ v,Q ((u.heap.size,.cells (Pc P) 24)::rows) v->Bl v u.heap.size (Pc P) 24):=fun v hv=>hq.row hv (x:=(u.heap.size,.cells (Pc P) 24)) (by simp)
 clear h hq
 go_enter Tryz.func9,Tryz.ntmps9
 go_upto_region 1 with fail
 change Code.wp _ _ _ _ (u.alloc (.cells (Pc P) 24))
 generalize u.alloc (.cells (Pc P) 24)=w0 at *
 generalize u.heap.size=mp at *
 go_wp2_with fail
 refine(ah KB2 _).mono ?_
 rintro e w1 ⟨rfl,hb⟩
 have Z:=hide (ah HP _ (ah HL _ _ (ah H0) hb))
 clear KB2 hb HL HP HB H0
 go_wp2_with fail
 go_ret
 exact⟨rfl,Z⟩
theorem xC {n0 Q}(hq:Bun n0 Q){rows:List (Nat×Obj)}{u:World}(h:Q rows u)(P:Nat->Int)(q r:Option Addr)(j:Int)(s:ByteArray)(i er:Int)(hz:er≠0)(KB:∀ v,Calls Tryz.prog 25 #[.string s,.int .i64 i] v fun e v'=>(∃ a c,e=.returned (.tuple #[.slice a 16 c,.int .i64 0]))/\Below v.heap.size v v')(KO:∀ rows' v,(∀ x∈rows,x∈rows')->Q rows' v->Calls Tryz.prog 26 #[.pointer q,.pointer r,Pv P,.int .i64 j] v fun e v'=>e=.returned (.tuple #[.pointer none,.int .i64 er])/\Hid (Q rows' v')) :
  Calls Tryz.prog 8 #[.pointer q,.pointer r,Pv P,.int .i64 j,.string s,.int .i64 i] u fun e u'=>e=.returned (.int .i64 er)/\Hid (Q rows u'):=by
 have KB2:=hide KB
 clear KB
 have KO2:Hid (∀ v,Q ((u.heap.size,.cells (Pc P) 24)::rows) v->Calls Tryz.prog 26 #[.pointer q,.pointer r,Pv P,.int .i64 j] v fun e v'=>e=.returned (.tuple #[.pointer none,.int .i64 er])/\Hid (Q ((u.heap.size,.cells (Pc P) 24)::rows) v')):=fun v hv=>KO _ v (fun x hx=>List.mem_cons_of_mem _ hx) hv
 have d0:(er != 0)=true:=by simpa using hz
 clear KO hz
 have H0:=hide (hq.new h (.cells (Pc P) 24))
 have HL:Hid (∀ v v',Q ((u.heap.size,.cells (Pc P) 24)::rows) v->Below v.heap.size v v'->Q ((u.heap.size,.cells (Pc P) 24)::rows) v'):=fun v v' hv hb=>hq.later hv hb
 have HP:Hid (∀ v,Q ((u.heap.size,.cells (Pc P) 24)::rows) v->Q rows v):=fun v hv=>hq.pop hv
 have HB:Hid (∀ v,Q ((u.heap.size,.cells (Pc P) 24)::rows) v->Bl v u.heap.size (Pc P) 24):=fun v hv=>hq.row hv (x:=(u.heap.size,.cells (Pc P) 24)) (by simp)
 clear h hq
 go_enter Tryz.func8,Tryz.ntmps8
 go_upto_region 1 with fail
 change Code.wp _ _ _ _ (u.alloc (.cells (Pc P) 24))
 generalize u.alloc (.cells (Pc P) 24)=w0 at *
 generalize u.heap.size=mp at *
 go_wp2_with fail
 refine(ah KB2 _).mono ?_
 rintro e w1 ⟨⟨a,c,rfl⟩,hb⟩
 have L1:=hide (ah HL _ _ (ah H0) hb)
 have K1:=hide (ah KO2 _ (ah L1))
 have bl:=ah HB _ (ah L1)
 have x0:=bl.cell 0 (.int .i64 (P 0)) rfl
 have x1:=bl.cell 1 (.int .i64 (P 1)) rfl
 have x2:=bl.cell 2 (.int .i64 (P 2)) rfl
 have x3:=bl.cell 3 (.int .i64 (P 3)) rfl
 have x4:=bl.cell 4 (.int .i64 (P 4)) rfl
 have x5:=bl.cell 5 (.int .i64 (P 5)) rfl
 have x6:=bl.cell 6 (.int .i64 (P 6)) rfl
 have x7:=bl.cell 7 (.int .i64 (P 7)) rfl
 have x8:=bl.cell 8 (.int .i64 (P 8)) rfl
 have x9:=bl.cell 9 (.int .i64 (P 9)) rfl
 have x10:=bl.cell 10 (.int .i64 (P 10)) rfl
 have x11:=bl.cell 11 (.int .i64 (P 11)) rfl
 clear bl
 clear KB2 hb HL HB H0 KO2 L1
 go_wp2_with fail
 refine(ah K1).mono ?_
 rintro e w2 ⟨rfl,L2⟩
 have Z:=hide (ah HP _ (ah L2))
 clear K1 L2 HP
 clear x0 x1 x2 x3 x4 x5 x6 x7 x8 x9 x10 x11
 go_wp2_with fail
 go_ret
 exact⟨rfl,Z⟩
theorem xB {n0 Q}(hq:Bun n0 Q){rows:List (Nat×Obj)}{u:World}(h:Q rows u)(P:Nat->Int)(q r:Option Addr)(j:Int)(er:Int)(hz:er≠0)(KO:∀ rows' v,(∀ x∈rows,x∈rows')->Q rows' v->Calls Tryz.prog 26 #[.pointer q,.pointer r,Pv P,.int .i64 j] v fun e v'=>e=.returned (.tuple #[.pointer none,.int .i64 er])/\Hid (Q rows' v')) :
  Calls Tryz.prog 11 #[.pointer q,.pointer r,Pv P,.int .i64 j] u fun e u'=>e=.returned (.tuple #[.slice none 0 0,.int .i64 er])/\Hid (Q rows u'):=by
 have KO2:Hid (∀ v,Q ((u.heap.size,.cells (Pc P) 24)::rows) v->Calls Tryz.prog 26 #[.pointer q,.pointer r,Pv P,.int .i64 j] v fun e v'=>e=.returned (.tuple #[.pointer none,.int .i64 er])/\Hid (Q ((u.heap.size,.cells (Pc P) 24)::rows) v')):=fun v hv=>KO _ v (fun x hx=>List.mem_cons_of_mem _ hx) hv
 have d0:(er != 0)=true:=by simpa using hz
 clear KO hz
 have H0:=hide (hq.new h (.cells (Pc P) 24))
 have HL:Hid (∀ v v',Q ((u.heap.size,.cells (Pc P) 24)::rows) v->Below v.heap.size v v'->Q ((u.heap.size,.cells (Pc P) 24)::rows) v'):=fun v v' hv hb=>hq.later hv hb
 have HP:Hid (∀ v,Q ((u.heap.size,.cells (Pc P) 24)::rows) v->Q rows v):=fun v hv=>hq.pop hv
 have HB:Hid (∀ v,Q ((u.heap.size,.cells (Pc P) 24)::rows) v->Bl v u.heap.size (Pc P) 24):=fun v hv=>hq.row hv (x:=(u.heap.size,.cells (Pc P) 24)) (by simp)
 clear h hq
 go_enter Tryz.func11,Tryz.ntmps11
 go_upto_region 1 with fail
 change Code.wp _ _ _ _ (u.alloc (.cells (Pc P) 24))
 generalize u.alloc (.cells (Pc P) 24)=w0 at *
 generalize u.heap.size=mp at *
 have K1:=hide (ah KO2 _ (ah H0))
 have bl:=ah HB _ (ah H0)
 have x0:=bl.cell 0 (.int .i64 (P 0)) rfl
 have x1:=bl.cell 1 (.int .i64 (P 1)) rfl
 have x2:=bl.cell 2 (.int .i64 (P 2)) rfl
 have x3:=bl.cell 3 (.int .i64 (P 3)) rfl
 have x4:=bl.cell 4 (.int .i64 (P 4)) rfl
 have x5:=bl.cell 5 (.int .i64 (P 5)) rfl
 have x6:=bl.cell 6 (.int .i64 (P 6)) rfl
 have x7:=bl.cell 7 (.int .i64 (P 7)) rfl
 have x8:=bl.cell 8 (.int .i64 (P 8)) rfl
 have x9:=bl.cell 9 (.int .i64 (P 9)) rfl
 have x10:=bl.cell 10 (.int .i64 (P 10)) rfl
 have x11:=bl.cell 11 (.int .i64 (P 11)) rfl
 clear bl
 clear HL HB H0 KO2
 go_wp2_with fail
 refine(ah K1).mono ?_
 rintro e w2 ⟨rfl,L2⟩
 have Z:=hide (ah HP _ (ah L2))
 clear K1 L2 HP
 clear x0 x1 x2 x3 x4 x5 x6 x7 x8 x9 x10 x11
 go_wp2_with fail
 go_ret2
 exact⟨rfl,Z⟩
theorem qm {n0 Q}(hq:Bun n0 Q){rows:List (Nat×Obj)}{u:World}(h:Q rows u)(P:Nat->Int)(q r:Option Addr)(X:Nat->Int)(j:Int)(hk:X 0=2)(h2:X 2=0)(hm0:0<=P 0*mfb P)(KM:∀ v,Calls Tryz.prog 55 #[Pv P] v fun r w'=>r=.returned (.tuple #[.int .i64 (P 0*mfb P),.int .i64 0])/\Below v.heap.size v w')(KG:∀ rows' v,(∀ x∈rows,x∈rows')->Q rows' v->Calls Tryz.prog 54 #[.pointer r,.pointer q,.int .i64 j] v fun e v'=>e=.returned (.tuple #[Iv X,.int .i64 0])/\Hid (Q rows' v'))
  (KS:∀ f rows' v,(f,.cells (Df q r P j (.slice none 0 0) (.slice none 0 0)) 73)∈rows'->Q rows' v->Calls Tryz.prog 57 #[.pointer (some ⟨f,0,none⟩)] v fun e v'=>e=.returned (.int .i64 0)/\Hid (Q rows' v')) :
  Calls Tryz.prog 26 #[.pointer q,.pointer r,Pv P,.int .i64 j] u fun e u'=>∃ f,e=.returned (.tuple #[.pointer (some ⟨f,0,none⟩),.int .i64 0])/\Hid (Q ((f,.cells (Df q r P j (.slice none 0 0) (.slice none 0 0)) 73)::rows) u'):=by
 have HQ:=hide hq
 have H0:=hide (hq.new h (.cells (Pc P) 24))
 have KG2:Hid (∀ v,Q ((u.heap.size,.cells (Pc P) 24)::rows) v->Calls Tryz.prog 54 #[.pointer r,.pointer q,.int .i64 j] v fun e v'=>e=.returned (.tuple #[Iv X,.int .i64 0])/\Hid (Q ((u.heap.size,.cells (Pc P) 24)::rows) v')):=fun v hv=>KG _ v (fun x hx=>List.mem_cons_of_mem _ hx) hv
 have HK:=hide KM
 have HS:=hide KS
 have hm:=hide hm0
 have h2':=hide h2
 have hk':=hide hk
 clear h KG hq KM KS hm0 h2 hk
 go_enter Tryz.func26,Tryz.ntmps26
 go_upto_region 1 with fail
 change Code.wp _ _ _ _ (u.alloc (.cells (Pc P) 24))
 generalize u.alloc (.cells (Pc P) 24)=w0 at *
 generalize u.heap.size=mp at *
 have K1:=hide (ah KG2 w0 (ah H0))
 clear KG2 H0
 go_wp2_with fail
 go_at_call 54
 refine(ah K1).mono ?_
 rintro e w1 ⟨rfl,L1⟩
 have L2:=hide ((ah HQ).new (ah L1) (.cells (Ic X) 65))
 clear K1 L1
 go_upto_region 2 with fail
 change Code.wp _ _ _ _ (w1.alloc (.cells (Ic X) 65))
 generalize w1.alloc (.cells (Ic X) 65)=w2 at *
 generalize w1.heap.size=mx at *
 have bx:=(ah HQ).row (ah L2) (x:=(mx,.cells (Ic X) 65)) (by simp)
 have y0:=Bl.cell bx 0 (.int .i64 (X 0)) rfl
 rw[hk'.out] at y0
 have bl:Bl w2 mp (Pc P) 24:=(ah HQ).row (ah L2) (x:=(mp,.cells (Pc P) 24)) (by simp)
 have x0:=bl.cell 0 (.int .i64 (P 0)) rfl
 have x1:=bl.cell 1 (.int .i64 (P 1)) rfl
 have x2:=bl.cell 2 (.int .i64 (P 2)) rfl
 have x3:=bl.cell 3 (.int .i64 (P 3)) rfl
 have x4:=bl.cell 4 (.int .i64 (P 4)) rfl
 have x5:=bl.cell 5 (.int .i64 (P 5)) rfl
 have x6:=bl.cell 6 (.int .i64 (P 6)) rfl
 have x7:=bl.cell 7 (.int .i64 (P 7)) rfl
 have x8:=bl.cell 8 (.int .i64 (P 8)) rfl
 have x9:=bl.cell 9 (.int .i64 (P 9)) rfl
 have x10:=bl.cell 10 (.int .i64 (P 10)) rfl
 have x11:=bl.cell 11 (.int .i64 (P 11)) rfl
 clear bl bx
 go_wp2_with fail
 refine(ah HK _).mono ?_
 rintro e w3 ⟨rfl,hb⟩
 have L3:=hide ((ah HQ).later (ah L2) hb)
 clear HK hb L2 y0
 clear x0 x1 x2 x3 x4 x5 x6 x7 x8 x9 x10 x11
 have bl:Bl w3 mp (Pc P) 24:=(ah HQ).row (ah L3) (x:=(mp,.cells (Pc P) 24)) (by simp)
 have x0:=bl.cell 0 (.int .i64 (P 0)) rfl
 have x1:=bl.cell 1 (.int .i64 (P 1)) rfl
 have x2:=bl.cell 2 (.int .i64 (P 2)) rfl
 have x3:=bl.cell 3 (.int .i64 (P 3)) rfl
 have x4:=bl.cell 4 (.int .i64 (P 4)) rfl
 have x5:=bl.cell 5 (.int .i64 (P 5)) rfl
 have x6:=bl.cell 6 (.int .i64 (P 6)) rfl
 have x7:=bl.cell 7 (.int .i64 (P 7)) rfl
 have x8:=bl.cell 8 (.int .i64 (P 8)) rfl
 have x9:=bl.cell 9 (.int .i64 (P 9)) rfl
 have x10:=bl.cell 10 (.int .i64 (P 10)) rfl
 have x11:=bl.cell 11 (.int .i64 (P 11)) rfl
 clear bl
 have L4:=hide ((ah HQ).new (ah L3) (.cells (Df q r P j (.slice none 0 0) (.slice none 0 0)) 73))
 go_upto_region 12 with fail
 change Code.wp _ _ _ _ (w3.alloc (.cells (Df q r P j (.slice none 0 0) (.slice none 0 0)) 73))
 generalize w3.alloc (.cells (Df q r P j (.slice none 0 0) (.slice none 0 0)) 73)=w4 at *
 generalize w3.heap.size=f at *
 clear L3
 clear x0 x1 x2 x3 x4 x5 x6 x7 x8 x9 x10 x11
 have y2:=Bl.cell ((ah HQ).row (ah L4) (x:=(mx,.cells (Ic X) 65)) (by simp)) 2 (.int .i64 (X 2)) rfl
 rw[h2'.out] at y2
 have bf:Bl w4 f (Df q r P j (.slice none 0 0) (.slice none 0 0)) 73:=(ah HQ).row (ah L4) (x:=(f,.cells (Df q r P j (.slice none 0 0) (.slice none 0 0)) 73)) (by simp)
 have K5:=hide (mM f 0 none 0 0 w4 (by omega) (by omega) (Df.cells bf).2.2.2.2.2.2.2.2.2.2.2.2.2.2.2.1)
 have hmin:min (0:Int) (P 0*mfb P)=0:=by have:=hm.out;omega
 generalize hM:P 0*mfb P=M at *
 clear bf
 go_wp2_with fail
 refine(ah K5).mono ?_
 rintro e w5 ⟨rfl,rfl⟩
 have K6:=hide (ah HS f _ _ (by simp) (ah L4))
 go_wp2_with fail
 refine(ah K6).mono ?_
 rintro e w6 ⟨rfl,L6⟩
 have y6:=Bl.cell ((ah HQ).row (ah L6) (x:=(mx,.cells (Ic X) 65)) (by simp)) 2 (.int .i64 (X 2)) rfl
 rw[h2'.out] at y6
 have bf:Bl w6 f (Df q r P j (.slice none 0 0) (.slice none 0 0)) 73:=(ah HQ).row (ah L6) (x:=(f,.cells (Df q r P j (.slice none 0 0) (.slice none 0 0)) 73)) (by simp)
 have K7:=hide (mM f 0 none 0 0 w6 (by omega) (by omega) (Df.cells bf).2.2.2.2.2.2.2.2.2.2.2.2.2.2.2.1)
 clear K5 K6 bf y2 L4
 go_wp2_with fail
 refine(ah K7).mono ?_
 rintro e w7 ⟨rfl,rfl⟩
 clear K7
 go_wp2_with fail
 go_ret2
 refine⟨f,rfl,hide ((ah HQ).sub (ah L6) (fun x hx=>?_))⟩
 rcases List.mem_cons.1 hx with e | e
 ·simp[e]
 ·simp[e]
end Go.Proofs.YtefdkpbmeoakgaaGreatDoor
