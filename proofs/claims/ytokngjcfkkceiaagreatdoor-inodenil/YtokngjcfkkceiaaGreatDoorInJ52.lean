/- Joined: IWakes, INil. -/
import Derived.Test.YtokngjcfkkceiaaGreatDoorInJ51
import Derived.Test.YtokngjcfkkceiaaGreatDoorInJ50
import Derived.Deep.DeepCutAuto
/- The law's fixed run. -/
namespace Go.Proofs.YtokngjcfkkceiaaGreatDoor
set_option maxRecDepth 100000
set_option maxHeartbeats 8000000
open Go.RowKit Go.Shelf Go.Maps
set_option linter.unusedVariables false

theorem skp_congr {p q:Nat→Bool}:∀ {n f:Nat},(∀ j,f≤j→j<f+n→p j=q j)→skp p f n=skp q f n
 | 0,f,_=>rfl
 | n+1,f,h=>by
  unfold skp
  rw[h f (Nat.le_refl _) (by omega),skp_congr (n:=n) (f:=f+1) (fun j a b=>h j (by omega) (by omega))]

theorem free0:lstF (aV 33) (fun _=>false) 37 aG.n=37:=by
 unfold lstF
 have:skp (cand (aV 33) (fun _=>false)) 37 (aG.n - 37)=skp (fun j=>!decide (j<37)) 37 (aG.n - 37):=skp_congr (fun j h1 h2=>by
  unfold cand
  rw[show aV 33=blay 64 (upTo 37) from rfl,blay_bit 64 37 (by omega) j]
  simp)
 rw[this]
 decide

def wV:Nat→List Int:=fun q=>if q=35 then put ((fun j=>if j=33 then setB (aV 33) 37 true else aV j) 35) 0 (layB 32 (inoL (updX x1 (pof 0) ((37:Nat):Int)))) else (fun j=>if j=33 then setB (aV 33) 37 true else aV j) q

theorem aP_0:aP 0 / 2=32:=by rw[aP_at];decide

theorem aP_mfb:mfb aP=1064:=by unfold mfb;rw[aP_at];decide

theorem aP_bnd:(checkE aP=0)∧(¬ (0:Int)<0)∧¬ mfb aP≤0:=⟨aPG.chk,by omega,by rw[aP_mfb];omega⟩

theorem x2_good:inoGood (updX x1 (pof 0) ((37:Nat):Int)):=by unfold inoGood;decide

theorem plan_field (p:Nat→Int)(v:World):(Instr.field 25 (Pv p) 11).run Tryz.prog v=.ok (.int .i64 (p 11)) v:=by kernel_rfl

theorem aV35:aV 35=tbZ x1 x1:=rfl

theorem ino2_is:inoIs (((aV 35).drop 0).take 32)∧Iv (inoOf (((aV 35).drop 0).take 32))=Iv x1:=by
 rw[aV35,tbZ_at0]
 exact⟨ino_is x1_good,ino_iv x1_good⟩

theorem wV35:wV 35=tbZ (updX x1 (pof 0) ((37:Nat):Int)) x1:=by
 unfold wV
 rw[if_pos rfl]
 show put (aV 35) 0 _=_
 rw[aV35,tbZ_0]

theorem wk_fol {w:World}{g o tb a:Nat}{rows:List (Nat×Obj)}(ht:(tb,tbO a aP)∈rows)(ha:(a,alO g aP)∈rows)(h0:0<w.heap.size):FolM w aP aG g o 1 aV (fun _=>false) (fun _=>false) rows tb 2 0 aE aV ((37:Nat):Int) 0 true aE wV:=by
 intro v fg tg og rows1 hsub rt ro hwf hfg hv
 refine folM_one (a:=a) (bk:=35) (at0:=0) (s0:=0) (X:=x1) (X1:=updX x1 (pof 0) ((37:Nat):Int)) hv (hsub _ ht) h0 hwf hfg plc2.1 plc2.2.1 plc2.2.2 (by decide) (by decide) ino2_is.1 ino2_is.2 (by omega) (fun v=>steps_one aP 0 32 v aP_bnd.1 aP_bnd.2.1 aP_bnd.2.2 aP_0 (by omega)) ?_
 intro v2 xg fc m0 m1 m2 rows2 rf r0 r1 r2 hx hne hfx hfg2 hsub2 hv2
 rw[show x1 (pof 0)=0 by decide]
 exact mk_first_last hv2 aA (hsub2 _ (hsub _ ht)) (hsub2 _ (hsub _ ha)) (hsub2 _ rt) (hsub2 _ ro) hwf h0 hfg2 rf r0 r1 r2 hx hne plc2.1 plc2.2.1 plc2.2.2 (by decide) (by decide) (by decide) hfx free0 (by decide) x2_good

theorem iwakes_any (w:World)(hT:Tab w):Calls Tryz.prog 7 #[] w fun e w'=>e=.returned (.bool true)∧Below w.heap.size w w':=by
 have h0:0<w.heap.size:=hT.lt
 have K1:Hid (∀ u,Calls Tryz.prog 8 #[] u fun e w'=>e=.returned (Pv aP)∧Below u.heap.size u w'):=fun u=>asmall_any u
 obtain⟨X2,hX2⟩:∃ X2,X2=updX x1 (pof 0) ((37:Nat):Int):=⟨_,rfl⟩
 have K2:Hid (∀ u,Below w.heap.size w u→Calls Tryz.prog 9 #[Pv aP] u fun e w'=>∃ g a t,e=.returned (.tuple #[.pointer (some ⟨g,0,none⟩),.pointer (some ⟨a,0,none⟩),.pointer (some ⟨t,0,none⟩)]) ∧
   Hid (Calls Tryz.prog 10 #[.pointer (some ⟨g,0,none⟩)] w' fun e u1=>∃ o,e=.returned (.tuple #[.pointer (some ⟨o,0,none⟩),.int .i64 0]) ∧
    Hid (Calls Tryz.prog 12 #[.pointer (some ⟨t,0,none⟩),.pointer (some ⟨o,0,none⟩),.int .i64 2,.int .i64 0] u1 fun e u2=>e=.returned (.tuple #[.int .i64 37,.bool true,.int .i64 0]) ∧
     Hid (Calls Tryz.prog 17 #[.pointer (some ⟨t,0,none⟩),.pointer (some ⟨o,0,none⟩),.int .i64 2] u2 fun e u3=>e=.returned (.tuple #[Iv X2,.int .i64 0])∧Hid (Below w.heap.size w u3))))):=fun u hu=>by
  have hTu:Tab u:=hT.kept (hu.block 0 h0)
  refine(ifresh_any u hTu).mono ?_
  rintro e w' ⟨g,a,t,rfl,Y⟩
  refine⟨g,a,t,rfl,(h_begin ((unhide Y).rebase hu)).mono ?_⟩
  rintro e u1 ⟨o,rfl,Y1⟩
  refine⟨o,rfl,?_⟩
  refine(tmake_ok (unhide Y1) h0 rfl (wk_fol (a:=a) (by simp) (by simp) h0)).mono ?_
  rintro e u2 ⟨rfl,Y2⟩
  refine⟨rfl,?_⟩
  refine(tget_ok (a:=a) (unhide Y2) X2 2 (by simp) h0 plc2.1 plc2.2.1 plc2.2.2 (by decide) (by decide) ?_ ?_).mono ?_
  ·rw[wV35,tbZ_at0];exact ino_is x2_good
  ·rw[wV35,tbZ_at0,hX2];exact ino_iv x2_good
  ·rintro e u3 ⟨rfl,Y3⟩
   exact⟨rfl,(unhide Y3).bel⟩
 have e11:((37:Int)==aP 11)=true:=by rw[aP_at];decide
 have e3:(X2 3==(37:Int))=true:=by rw[hX2];decide
 have hfld:∀ (v:World),(Instr.field 25 (Pv aP) 11).run Tryz.prog v=.ok (.int .i64 (aP 11)) v:=fun v=>plan_field aP v
 clear hT h0 hX2
 generalize aP=p at *
 go_enter Tryz.func7,Tryz.ntmps7
 go_wp2_with fail
 go_at_call 8
 refine(unhide K1 _).mono ?_
 rintro e w1 ⟨rfl,hb1⟩
 have K3:=hide (unhide K2 w1 hb1)
 clear K2 hb1
 go_wp2_with fail
 go_at_call 9
 refine(unhide K3).mono ?_
 rintro e w2 ⟨g,a,t,rfl,K4⟩
 clear K3
 go_wp2_with fail
 go_at_call 10
 refine(unhide K4).mono ?_
 rintro e w3 ⟨o,rfl,K5⟩
 clear K4
 go_wp2_with fail
 go_at_call 12
 refine(unhide K5).mono ?_
 rintro e w4 ⟨rfl,K6⟩
 clear K5
 go_wp2_with fail
 go_at_call 17
 refine(unhide K6).mono ?_
 rintro e w5 ⟨rfl,Z⟩
 have HB:=hide ((unhide Z).alloc (unhide Z).size (.cells (Ic X2) 50))
 have BX:=Bl.new w5 (Ic X2) 50
 clear K6 Z
 go_upto_region 7 with fail
 change Code.wp _ _ _ _ (w5.alloc (.cells (Ic X2) 50))
 generalize w5.alloc (.cells (Ic X2) 50)=w6 at *
 generalize w5.heap.size=m5 at *
 have HBX:=hide BX
 clear BX
 go_wp2_with fail
 go_at_call 8
 refine(unhide K1 _).mono ?_
 rintro e w7 ⟨rfl,hb7⟩
 have y3:=((unhide HBX).call hb7).cell 3 _ rfl
 have HZ:=hide ((unhide HB).trans (hb7.mono (unhide HB).size))
 clear K1 HB HBX hb7
 go_wp2_with fail
 go_ret
 exact⟨rfl,unhide HZ⟩

theorem check_zero:checkE (fun _=>0)=4:=checkE_bad (by rw[makeE_bad (badB_iff.1 (by decide))];omega)

theorem plc_no:plcE aP (-1)=2∧plcE aP 6=2:=by
 constructor
 ·unfold plcE
  rw[if_neg (by rw[aPG.chk];omega),if_pos (.inl (by omega))]
 ·unfold plcE
  rw[if_neg (by rw[aPG.chk];omega),if_pos (.inr (by rw[aP_at 2];decide))]

theorem whE_no:whE aP (-1)=2∧whE aP 0=0:=by
 constructor
 ·unfold whE
  rw[if_neg (by rw[aPG.chk];omega),if_pos (.inl (by omega))]
 ·unfold whE
  rw[if_neg (by rw[aPG.chk];omega),if_neg (by rw[aP_mfb,aP_at 0];decide)]

def x3:Nat→Int:=fun k=>if k=0 then 3 else 0

theorem inil_walk (w:World)(hT:Tab w):Calls Tryz.prog 5 #[] w fun e w'=>e=.returned (.bool true)∧Below w.heap.size w w':=by
 have h0:0<w.heap.size:=hT.lt
 have KW:=hide (iwakes_any w hT)
 have KS:Hid (∀ u,Calls Tryz.prog 8 #[] u fun e w'=>e=.returned (Pv aP)∧Below u.heap.size u w'):=fun u=>asmall_any u
 have KF:Hid (∀ u mp,Below w.heap.size w u→w.heap.size≤mp→Bl u mp (Pc aP) 25→Calls Tryz.prog 9 #[Pv aP] u fun e w'=>∃ g a t,e=.returned (.tuple #[.pointer (some ⟨g,0,none⟩),.pointer (some ⟨a,0,none⟩),.pointer (some ⟨t,0,none⟩)])∧Hid (Calls Tryz.prog 10 #[.pointer (some ⟨g,0,none⟩)] w' fun e u1=>∃ o,e=.returned (.tuple #[.pointer (some ⟨o,0,none⟩),.int .i64 0])∧Hid (Lp w aP aG aE g o [(t,tbO a aP),(a,alO g aP),(mp,.cells (Pc aP) 25 (0,0))] 1 aV (fun _=>false) aV (fun _=>false) u1))):=fun u mp hu hmp hB=>by
  have hTu:Tab u:=hT.kept (hu.block 0 h0)
  refine(ifresh_any u hTu).mono ?_
  rintro e w' ⟨g,a,t,rfl,Y⟩
  have l1:=((unhide Y).old (k:=mp) hB).sub (rows':=[(t,tbO a aP),(a,alO g aP),(mp,.cells (Pc aP) 25 (0,0))]) (fun x hx=>by
   simp only[List.mem_cons,List.not_mem_nil,or_false] at hx ⊢
   rcases hx with h | h | h<;>simp[h])
  refine⟨g,a,t,rfl,(h_begin (l1.rebase hu)).mono ?_⟩
  rintro e u1 ⟨o,rfl,Y1⟩
  exact⟨o,rfl,Y1⟩
 have HR:Hid (∀ g a t o mp v,Lp w aP aG aE g o [(t,tbO a aP),(a,alO g aP),(mp,.cells (Pc aP) 25 (0,0))] 1 aV (fun _=>false) aV (fun _=>false) v→v.heap[t]?=some (tbO a aP)∧Bl v mp (Pc aP) 25∧Below w.heap.size w v):=fun g a t o mp v hv=>⟨hv.row (x:=(t,tbO a aP)) (by simp),hv.row (x:=(mp,.cells (Pc aP) 25 (0,0))) (by simp),hv.bel⟩
 have A1:Hid (∀ q v,Calls Tryz.prog 17 #[.pointer none,.pointer q,.int .i64 2] v fun e u'=>e=.returned (.tuple #[.agg Iz,.int .i64 1])∧Below v.heap.size v u'):=fun q v=>tget_nil _ _ v
 have A2:Hid (∀ q v,Calls Tryz.prog 15 #[.pointer none,.pointer q,.int .i64 2,.agg Iz] v fun e u'=>e=.returned (.int .i64 1)∧Below v.heap.size v u'):=fun q v=>tput_nil _ _ zeroX v
 have A3:Hid (∀ q v,Calls Tryz.prog 11 #[.pointer none,.pointer q,.int .i64 2,.int .i64 0] v fun e u'=>e=.returned (.tuple #[.int .i64 0,.int .i64 1])∧Below v.heap.size v u'):=fun q v=>tfind_nil v q 2 0
 have A4:Hid (∀ q v,Calls Tryz.prog 12 #[.pointer none,.pointer q,.int .i64 2,.int .i64 0] v fun e u'=>e=.returned (.tuple #[.int .i64 0,.bool false,.int .i64 1])∧Below v.heap.size v u'):=fun q v=>tmake_nil v q 2 0
 have A5:Hid (∀ q v,Calls Tryz.prog 16 #[.pointer none,.pointer q,.int .i64 2,.int .i64 0] v fun e u'=>e=.returned (.int .i64 1)∧Below v.heap.size v u'):=fun q v=>(tcut_nil _ _ _ v).mono fun e u' ⟨x,y⟩=>⟨x,y ▸ Below.refl _ _⟩
 have A6:Hid (∀ q v,Calls Tryz.prog 13 #[.pointer none,.pointer q,.int .i64 2] v fun e u'=>e=.returned (.tuple #[.slice none 0 0,.slice none 0 0,.int .i64 1])∧Below v.heap.size v u'):=fun q v=>tblocks_nil _ _ v
 have A7:Hid (∀ v,Calls Tryz.prog 20 #[.pointer none,Pv aP] v fun e u'=>e=.returned (.tuple #[.pointer none,.int .i64 1])∧Below v.heap.size v u'):=fun v=>tnew_nil aP v
 have A8:Hid (∀ a v,Calls Tryz.prog 20 #[.pointer (some ⟨a,0,none⟩),.agg #[.int .i64 0,.int .i64 0,.int .i64 0,.int .i64 0,.int .i64 0,.int .i64 0,.int .i64 0,.int .i64 0,.int .i64 0,.int .i64 0,.int .i64 0,.int .i64 0]] v fun e u'=>e=.returned (.tuple #[.pointer none,.int .i64 4])∧Below v.heap.size v u'):=fun a v=>tnew_form (fun _=>0) a v check_zero
 have B1:Hid (∀ t a q v,v.heap[t]?=some (tbO a aP)→Calls Tryz.prog 17 #[.pointer (some ⟨t,0,none⟩),.pointer q,.int .i64 (-1)] v fun e u'=>e=.returned (.tuple #[.agg Iz,.int .i64 2])∧Below v.heap.size v u'):=fun t a q v ht=>tget_range _ _ v ht plc_no.1
 have B2:Hid (∀ t a q v,v.heap[t]?=some (tbO a aP)→Calls Tryz.prog 15 #[.pointer (some ⟨t,0,none⟩),.pointer q,.int .i64 6,.agg Iz] v fun e u'=>e=.returned (.int .i64 2)∧Below v.heap.size v u'):=fun t a q v ht=>tput_range _ _ zeroX v ht plc_no.2
 have B3:Hid (∀ t a q v,v.heap[t]?=some (tbO a aP)→Calls Tryz.prog 11 #[.pointer (some ⟨t,0,none⟩),.pointer q,.int .i64 2,.int .i64 (-1)] v fun e u'=>e=.returned (.tuple #[.int .i64 0,.int .i64 2])∧Below v.heap.size v u'):=fun t a q v ht=>tfind_range v q 2 (-1) ht (fun v=>(steps_low aP (-1) v aPG.chk (by omega)).mono fun r w' ⟨⟨x,y,z,h,_⟩,b⟩=>⟨⟨x,y,z,h⟩,b⟩)
 have B4:Hid (∀ t a q v,v.heap[t]?=some (tbO a aP)→Calls Tryz.prog 12 #[.pointer (some ⟨t,0,none⟩),.pointer q,.int .i64 2,.int .i64 1048576] v fun e u'=>e=.returned (.tuple #[.int .i64 0,.bool false,.int .i64 2])∧Below v.heap.size v u'):=fun t a q v ht=>tmake_range v q 2 1048576 ht (fun v=>(steps_high aP 1048576 v aPG.chk (by omega) (by rw[aP_mfb];omega)).mono fun r w' ⟨⟨x,y,z,h,_⟩,b⟩=>⟨⟨x,y,z,h⟩,b⟩)
 have B5:Hid (∀ t a q v,v.heap[t]?=some (tbO a aP)→Calls Tryz.prog 16 #[.pointer (some ⟨t,0,none⟩),.pointer q,.int .i64 2,.int .i64 (-1)] v fun e u'=>e=.returned (.int .i64 2)∧Below v.heap.size v u'):=fun t a q v ht=>tcut_range _ _ (-1) ht whE_no.1
 have B6:Hid (∀ t a q v,v.heap[t]?=some (tbO a aP)→Calls Tryz.prog 15 #[.pointer (some ⟨t,0,none⟩),.pointer q,.int .i64 2,.agg #[.int .i64 3,.int .i64 0,.int .i64 0,.int .i64 0,.int .i64 0,.int .i64 0,.int .i64 0,.int .i64 0,.int .i64 0,.int .i64 0,.int .i64 0,.int .i64 0,.int .i64 0]] v fun e u'=>e=.returned (.int .i64 4)∧Below v.heap.size v u'):=fun t a q v ht=>tput_bad _ _ x3 v ht plc2.1 plc2.2.1 plc2.2.2 (by decide)
 have C1:Hid (∀ g a t o mp v,Lp w aP aG aE g o [(t,tbO a aP),(a,alO g aP),(mp,.cells (Pc aP) 25 (0,0))] 1 aV (fun _=>false) aV (fun _=>false) v→Calls Tryz.prog 21 #[.pointer (some ⟨o,0,none⟩)] v fun e u1=>e=.returned (.int .i64 0)∧Hid (∃ rd:(∀ v2,Below u1.heap.size u1 v2→Calls Tryz.prog 92 #[.pointer (some ⟨o,0,none⟩),.int .i64 ((35:Nat):Int)] v2 fun e w'=>e=.returned (.tuple #[.slice none 0 0,.int .i64 22])∧v2=w'),u1.heap[t]?=some (tbO a aP)∧Below w.heap.size w u1)):=fun g a t o mp v hv=>by
  refine(h_abort hv aE_da).mono ?_
  rintro e u1 ⟨rfl,Y⟩
  refine⟨rfl,fun v2 hv2=>?_,(unhide Y).lo.row (x:=(t,tbO a aP)) (by simp),(unhide Y).lo.bel⟩
  obtain⟨cg,lg,dg,X,C,L,D,S,l,_,ov⟩:=(unhide Y).later hv2
  exact oread_over l.hl.gv ov _
 have D1:Hid (∀ t a o v,v.heap[t]?=some (tbO a aP)→(∀ v2,Below v.heap.size v v2→Calls Tryz.prog 92 #[.pointer (some ⟨o,0,none⟩),.int .i64 ((35:Nat):Int)] v2 fun e w'=>e=.returned (.tuple #[.slice none 0 0,.int .i64 22])∧v2=w')→Calls Tryz.prog 17 #[.pointer (some ⟨t,0,none⟩),.pointer (some ⟨o,0,none⟩),.int .i64 2] v fun e u'=>e=.returned (.tuple #[.agg Iz,.int .i64 22])∧Below v.heap.size v u'):=fun t a o v ht hr=>tget_read _ 2 22 v ht plc2.1 plc2.2.1 plc2.2.2 (by omega) hr
 have D2:Hid (∀ t a o v,v.heap[t]?=some (tbO a aP)→(∀ v2,Below v.heap.size v v2→Calls Tryz.prog 92 #[.pointer (some ⟨o,0,none⟩),.int .i64 ((35:Nat):Int)] v2 fun e w'=>e=.returned (.tuple #[.slice none 0 0,.int .i64 22])∧v2=w')→Calls Tryz.prog 16 #[.pointer (some ⟨t,0,none⟩),.pointer (some ⟨o,0,none⟩),.int .i64 2,.int .i64 0] v fun e u'=>e=.returned (.int .i64 22)∧Below v.heap.size v u'):=fun t a o v ht hr=>tcut_get _ 2 0 22 ht whE_no.2 (by omega) (fun v3 hv3=>tget_read _ 2 22 v3 ((hv3.block t (Array.getElem?_eq_some_iff.1 ht).1).trans ht) plc2.1 plc2.2.1 plc2.2.2 (by omega) (fun v4 hv4=>hr v4 (hv3.trans (hv4.mono hv3.size))))
 clear hT h0
 generalize aP=p at *
 go_enter Tryz.func5,Tryz.ntmps5
 go_wp2_with fail
 go_at_call 7
 refine(unhide KW).mono ?_
 rintro e w1 ⟨rfl,hb1⟩
 have HB1:=hide hb1
 clear KW hb1
 go_wp2_with fail
 go_at_call 8
 refine(unhide KS _).mono ?_
 rintro e w2 ⟨rfl,hb2⟩
 have HB2:=hide ((unhide HB1).trans (hb2.mono (unhide HB1).size))
 have KF2:=hide (unhide KF (w2.alloc (.cells (Pc p) 25)) w2.heap.size ((unhide HB2).alloc (unhide HB2).size _) (unhide HB2).size (Bl.new w2 (Pc p) 25))
 have bp:=Bl.new w2 (Pc p) 25
 clear KS HB1 hb2 KF HB2
 go_upto_region 5 with fail
 change Code.wp _ _ _ _ (w2.alloc (.cells (Pc p) 25))
 generalize w2.alloc (.cells (Pc p) 25)=w3 at *
 generalize w2.heap.size=mp at *
 have y0:=bp.cell 0 (.int .i64 (p 0)) rfl
 have y1:=bp.cell 1 (.int .i64 (p 1)) rfl
 have y2:=bp.cell 2 (.int .i64 (p 2)) rfl
 have y3:=bp.cell 3 (.int .i64 (p 3)) rfl
 have y4:=bp.cell 4 (.int .i64 (p 4)) rfl
 have y5:=bp.cell 5 (.int .i64 (p 5)) rfl
 have y6:=bp.cell 6 (.int .i64 (p 6)) rfl
 have y7:=bp.cell 7 (.int .i64 (p 7)) rfl
 have y8:=bp.cell 8 (.int .i64 (p 8)) rfl
 have y9:=bp.cell 9 (.int .i64 (p 9)) rfl
 have y10:=bp.cell 10 (.int .i64 (p 10)) rfl
 have y11:=bp.cell 11 (.int .i64 (p 11)) rfl
 clear bp
 go_wp2_with fail
 go_at_call 9
 refine(unhide KF2).mono ?_
 rintro e w4 ⟨g,a,t,rfl,K5⟩
 clear KF2 y0 y1 y2 y3 y4 y5 y6 y7 y8 y9 y10 y11
 go_wp2_with fail
 go_at_call 10
 refine(unhide K5).mono ?_
 rintro e w5 ⟨o,rfl,L⟩
 clear K5
 go_wp2_with fail
 go_at_call 17
 refine(unhide A1 _ _).mono ?_
 rintro e v1 ⟨rfl,hb⟩
 have L1:=hide ((unhide L).later hb)
 clear hb L
 have L1b:=hide ((unhide L1).later ((Below.refl _ _).alloc (Nat.le_refl _) (.cells Iz 50)))
 clear L1 A1
 go_upto_region 8 with fail
 change Code.wp _ _ _ _ (v1.alloc (.cells Iz 50))
 generalize v1.alloc (.cells Iz 50)=v1b at *
 have L1:=hide (unhide L1b)
 clear L1b
 go_wp2_with fail
 go_at_call 15
 refine(unhide A2 _ _).mono ?_
 rintro e v2 ⟨rfl,hb⟩
 have L2:=hide ((unhide L1).later hb)
 clear hb L1
 clear A2
 go_wp2_with fail
 go_at_call 11
 refine(unhide A3 _ _).mono ?_
 rintro e v3 ⟨rfl,hb⟩
 have L3:=hide ((unhide L2).later hb)
 clear hb L2
 clear A3
 go_wp2_with fail
 go_at_call 12
 refine(unhide A4 _ _).mono ?_
 rintro e v4 ⟨rfl,hb⟩
 have L4:=hide ((unhide L3).later hb)
 clear hb L3
 clear A4
 go_wp2_with fail
 go_at_call 16
 refine(unhide A5 _ _).mono ?_
 rintro e v5 ⟨rfl,hb⟩
 have L5:=hide ((unhide L4).later hb)
 clear hb L4
 clear A5
 go_wp2_with fail
 go_at_call 13
 refine(unhide A6 _ _).mono ?_
 rintro e v6 ⟨rfl,hb⟩
 have L6:=hide ((unhide L5).later hb)
 clear hb L5
 clear A6
 have bp:=(unhide HR _ _ _ _ _ _ (unhide L6)).2.1
 have y0:=bp.cell 0 (.int .i64 (p 0)) rfl
 have y1:=bp.cell 1 (.int .i64 (p 1)) rfl
 have y2:=bp.cell 2 (.int .i64 (p 2)) rfl
 have y3:=bp.cell 3 (.int .i64 (p 3)) rfl
 have y4:=bp.cell 4 (.int .i64 (p 4)) rfl
 have y5:=bp.cell 5 (.int .i64 (p 5)) rfl
 have y6:=bp.cell 6 (.int .i64 (p 6)) rfl
 have y7:=bp.cell 7 (.int .i64 (p 7)) rfl
 have y8:=bp.cell 8 (.int .i64 (p 8)) rfl
 have y9:=bp.cell 9 (.int .i64 (p 9)) rfl
 have y10:=bp.cell 10 (.int .i64 (p 10)) rfl
 have y11:=bp.cell 11 (.int .i64 (p 11)) rfl
 clear bp
 go_wp2_with fail
 go_at_call 20
 refine(unhide A7 _).mono ?_
 rintro e v7 ⟨rfl,hb⟩
 have L7:=hide ((unhide L6).later hb)
 clear hb L6
 clear A7 y0 y1 y2 y3 y4 y5 y6 y7 y8 y9 y10 y11
 go_wp2_with fail
 go_at_call 20
 refine(unhide A8 a _).mono ?_
 rintro e v8 ⟨rfl,hb⟩
 have L8:=hide ((unhide L7).later hb)
 clear hb L7
 clear A8
 have KX:=hide (unhide B1 t a (some ⟨o,0,none⟩) _ (unhide HR _ _ _ _ _ _ (unhide L8)).1)
 go_wp2_with fail
 go_at_call 17
 refine(unhide KX).mono ?_
 rintro e v9 ⟨rfl,hb⟩
 have L9:=hide ((unhide L8).later hb)
 clear hb L8
 clear B1 KX
 have KX:=hide (unhide B2 t a (some ⟨o,0,none⟩) _ (unhide HR _ _ _ _ _ _ (unhide L9)).1)
 go_wp2_with fail
 go_at_call 15
 refine(unhide KX).mono ?_
 rintro e v10 ⟨rfl,hb⟩
 have L10:=hide ((unhide L9).later hb)
 clear hb L9
 clear B2 KX
 have KX:=hide (unhide B3 t a (some ⟨o,0,none⟩) _ (unhide HR _ _ _ _ _ _ (unhide L10)).1)
 go_wp2_with fail
 go_at_call 11
 refine(unhide KX).mono ?_
 rintro e v11 ⟨rfl,hb⟩
 have L11:=hide ((unhide L10).later hb)
 clear hb L10
 clear B3 KX
 have KX:=hide (unhide B4 t a (some ⟨o,0,none⟩) _ (unhide HR _ _ _ _ _ _ (unhide L11)).1)
 go_wp2_with fail
 go_at_call 12
 refine(unhide KX).mono ?_
 rintro e v12 ⟨rfl,hb⟩
 have L12:=hide ((unhide L11).later hb)
 clear hb L11
 clear B4 KX
 have KX:=hide (unhide B5 t a (some ⟨o,0,none⟩) _ (unhide HR _ _ _ _ _ _ (unhide L12)).1)
 go_wp2_with fail
 go_at_call 16
 refine(unhide KX).mono ?_
 rintro e v13 ⟨rfl,hb⟩
 have L13:=hide ((unhide L12).later hb)
 clear hb L12
 clear B5 KX
 have KX:=hide (unhide B6 t a (some ⟨o,0,none⟩) _ (unhide HR _ _ _ _ _ _ (unhide L13)).1)
 go_wp2_with fail
 go_at_call 15
 refine(unhide KX).mono ?_
 rintro e v14 ⟨rfl,hb⟩
 have L14:=hide ((unhide L13).later hb)
 clear hb L13
 clear B6 KX
 have KX:=hide (unhide C1 _ _ _ _ _ _ (unhide L14))
 clear C1 L14 HR
 go_wp2_with fail
 go_at_call 21
 refine(unhide KX).mono ?_
 rintro e v15 ⟨rfl,Y⟩
 obtain⟨rd,ht,hbl⟩:=unhide Y
 have K16:=hide (unhide D1 t a o v15 ht rd)
 have RD:=hide rd
 have HT:=hide ht
 have HBL:=hide hbl
 clear KX D1 Y rd ht hbl
 go_wp2_with fail
 go_at_call 17
 refine(unhide K16).mono ?_
 rintro e v16 ⟨rfl,hb⟩
 have K17:=hide (unhide D2 t a o v16 ((hb.block t (Array.getElem?_eq_some_iff.1 (unhide HT)).1).trans (unhide HT)) (fun v4 hv4=>unhide RD v4 (hb.trans (hv4.mono hb.size))))
 have HB:=hide ((unhide HBL).trans (hb.mono (unhide HBL).size))
 clear K16 D2 RD HT HBL hb
 go_wp2_with fail
 go_at_call 16
 refine(unhide K17).mono ?_
 rintro e v17 ⟨rfl,hb⟩
 have HZ:=hide ((unhide HB).trans (hb.mono (unhide HB).size))
 clear K17 HB hb
 go_wp2_with fail
 go_ret
 exact⟨rfl,unhide HZ⟩

end Go.Proofs.YtokngjcfkkceiaaGreatDoor
