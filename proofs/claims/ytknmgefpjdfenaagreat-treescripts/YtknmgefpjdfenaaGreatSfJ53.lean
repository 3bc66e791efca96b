/- Joined: SStepN, SStepA, STreeW. -/
import Derived.Test.YtknmgefpjdfenaaGreatSfJ50
import Derived.Test.YtknmgefpjdfenaaGreatSfSNeed
import Derived.Test.YtknmgefpjdfenaaGreatSfJ51
import Derived.Test.YtknmgefpjdfenaaGreatSfJ49
import Derived.Test.YtknmgefpjdfenaaGreatSfJ20
import Derived.Test.YtknmgefpjdfenaaGreatSfJ27
import Derived.Deep.RegionWith
/- The law's step: Need and Dump. -/
namespace Go.Proofs.YtknmgefpjdfenaaGreat
set_option maxRecDepth 100000
set_option maxHeartbeats 8000000
open Go.RowKit Go.Shelf Go.Maps Ieee
set_option linter.unusedVariables false

theorem needs_any {w:World} {S R:Nat→Prop} {g h r k:Nat} {s:Tr} {u:RTr} (hT:TM w S g s) (hM:SM w R h u) (hG:Good s u r k) (hn:k ≤ 1700000000000) (P:Nat→Int) :
  ∃ E B I:Int,(∀ v,Below w.heap.size w v→Calls Tryz.prog 20 #[.pointer (some ⟨g,0,none⟩),PvN P] v fun e w'=>AnsA e E B I∧Below v.heap.size v w') ∧
   ∀ v,Below w.heap.size w v→Calls Tryz.prog 45 #[.pointer (some ⟨h,0,none⟩),PvN P] v fun e w'=>AnsA e E B I∧Below v.heap.size v w':=by
 have hw:=hG.1.wo.wf
 refine ⟨_,_,_,fun v hv=>tneed_any (hT.below hv) hw hn P,fun v hv=>?_⟩
 have:=rneed_any (hM.below hv) (hG.2.2.rs hw hn) P
 rw [(hG.2.2.need hw).1,(hG.2.2.need hw).2] at this
 exact this

theorem step_need {W w:World} {g h r k:Nat} (hJ:JW W g h r k w) (hn:k ≤ 1700000000000) (P:Nat→Int) (o:OpD) (hk:∀ i:Int,1 ≤ i→i ≤ 13→o.kind ≠ i) :
  Calls Tryz.prog 10 #[.pointer (some ⟨g,0,none⟩),.pointer (some ⟨h,0,none⟩),PvN P,.agg o.v] w fun e w'=>e=.returned (.bool true)∧JW W g h r (k + 1) w':=by
 have HJ:=hide hJ
 obtain ⟨S,R,s,u,hT,hM,hd,hG,hlo,hbW⟩:=hJ
 have hK0:=KpN.start w P
 have hb0:Below (w.alloc (.cells (Pc P) 23)).heap.size (w.alloc (.cells (Pc P) 23)) ((w.alloc (.cells (Pc P) 23)).alloc (.cells o.v 36)):=(Below.refl _ _).alloc (Nat.le_refl _) _
 have HK:=hide (hK0.call hb0)
 have hbl:=Bl.new (w.alloc (.cells (Pc P) 23)) o.v 36
 rw [show (w.alloc (.cells (Pc P) 23)).heap.size=w.heap.size + 1 by simp] at hbl
 obtain ⟨E,B,I,k1,k2⟩:=needs_any hT hM hG hn P
 have K1:=hide (k1 _ HK.out.2)
 have K2:=hide k2
 clear hT hM hd hG hlo hbW hb0 hK0 k1 k2
 obtain ⟨kind,oa,ob,of,on,om,da,dl,dc,data⟩:=o
 unfold OpD.v at *
 simp only at *
 have d1:(kind == 1)=false:=beq_eq_false_iff_ne.2 (hk 1 (by omega) (by omega))
 have d2:(kind == 2)=false:=beq_eq_false_iff_ne.2 (hk 2 (by omega) (by omega))
 have d3:(kind == 3)=false:=beq_eq_false_iff_ne.2 (hk 3 (by omega) (by omega))
 have d4:(kind == 4)=false:=beq_eq_false_iff_ne.2 (hk 4 (by omega) (by omega))
 have d5:(kind == 5)=false:=beq_eq_false_iff_ne.2 (hk 5 (by omega) (by omega))
 have d6:(kind == 6)=false:=beq_eq_false_iff_ne.2 (hk 6 (by omega) (by omega))
 have d7:(kind == 7)=false:=beq_eq_false_iff_ne.2 (hk 7 (by omega) (by omega))
 have d8:(kind == 8)=false:=beq_eq_false_iff_ne.2 (hk 8 (by omega) (by omega))
 have d9:(kind == 9)=false:=beq_eq_false_iff_ne.2 (hk 9 (by omega) (by omega))
 have d10:(kind == 10)=false:=beq_eq_false_iff_ne.2 (hk 10 (by omega) (by omega))
 have d11:(kind == 11)=false:=beq_eq_false_iff_ne.2 (hk 11 (by omega) (by omega))
 have d12:(kind == 12)=false:=beq_eq_false_iff_ne.2 (hk 12 (by omega) (by omega))
 have d13:(kind == 13)=false:=beq_eq_false_iff_ne.2 (hk 13 (by omega) (by omega))
 clear hk
 generalize St oa=sa at *
 generalize St ob=sb at *
 have c0:=hbl.cell 0 _ rfl
 clear hbl
 go_enter Tryz.func10,Tryz.ntmps10
 go_upto_region 1 with fail
 change Code.wp _ _ _ _ ((w.alloc (.cells (Pc P) 23)).alloc (.cells #[.int .i64 kind,.string sa,.string sb,.int .i64 of,.int .i64 on,.int .i64 om,.slice da dl dc] 36))
 generalize (w.alloc (.cells (Pc P) 23)).alloc (.cells #[.int .i64 kind,.string sa,.string sb,.int .i64 of,.int .i64 on,.int .i64 om,.slice da dl dc] 36)=w0 at *
 obtain ⟨f0,f1,f2,f3,f4,f5,f6,f7,f8,f9,f10,f11⟩:=HK.out.cells
 go_upto_region 3 with fail
 clear c0 d1 d2 d3 d4 d5 d6 d7 d8 d9 d10 d11 d12 d13
 go_wp2_with fail
 refine (unhide K1).mono ?_
 rintro e w1 ⟨⟨x0,y0,rfl,hx,hy⟩,hb⟩
 have R0:=hide (And.intro hx hy)
 replace HK:=hide (HK.out.call hb)
 have K2:=hide (K2.out w1 HK.out.2)
 clear K1 hx hy hb f0 f1 f2 f3 f4 f5 f6 f7 f8 f9 f10 f11
 obtain ⟨f0,f1,f2,f3,f4,f5,f6,f7,f8,f9,f10,f11⟩:=HK.out.cells
 go_wp2_with fail
 refine (unhide K2).mono ?_
 rintro e w2 ⟨⟨x1,y1,rfl,hx,hy⟩,hb⟩
 have R1:=hide (And.intro hx hy)
 replace HK:=hide (HK.out.call hb)
 clear K2 hx hy hb f0 f1 f2 f3 f4 f5 f6 f7 f8 f9 f10 f11
 have o0:=order_at (unhide R0).1 (unhide R1).1 (cmp_eq _)
 have o1:=order_at (unhide R0).2 (unhide R1).2 (cmp_eq _)
 clear R0 R1
 have HJ:=hide (HJ.out.still HK.out.2 (Nat.le_refl k))
 clear HK
 have KD:=hide (both_dump HJ.out hn)
 go_wp2_with fail
 refine (unhide KD).mono ?_
 rintro e w3 ⟨v,rfl,hb,hk⟩
 have HJ:=hide (HJ.out.still hb (Nat.le_refl _))
 have KD:=hide hk
 clear hb hk
 go_wp2_with fail
 refine (unhide KD).mono ?_
 rintro e w4 ⟨v2,rfl,hb,hk⟩
 have HJ:=hide (HJ.out.still hb (Nat.le_refl _))
 have KD:=hide hk
 clear hb hk
 go_wp2_with fail
 refine (unhide KD).mono ?_
 rintro e w5 ⟨rfl,hb⟩
 have HJ:=hide (HJ.out.still hb (Nat.le_succ k))
 clear KD hb
 go_wp2_with fail
 go_ret
 exact ⟨rfl,HJ.out⟩

end Go.Proofs.YtknmgefpjdfenaaGreat

/- One step of the law. -/
namespace Go.Proofs.YtknmgefpjdfenaaGreat
set_option maxRecDepth 100000
set_option maxHeartbeats 8000000
open Go.RowKit Go.Shelf Go.Maps
set_option linter.unusedVariables false

theorem step_any {W w:World} {g h r k:Nat} (hJ:JW W g h r k w) (hn:k ≤ 1700000000000) (P:Nat→Int) (o:OpD) (ha:o.a.length ≤ 9223372036854775807) (hb:o.b.length ≤ 9223372036854775807) (hat:o.n ≤ 9223372036854775807)
  (hdat:Has W o.da o.dl o.data∧o.dl ≤ 140737488351232∧(0 < o.dl→∀ x,o.da=some x→x.block < W.heap.size)) :
  Calls Tryz.prog 10 #[.pointer (some ⟨g,0,none⟩),.pointer (some ⟨h,0,none⟩),PvN P,.agg o.v] w fun e w'=>e=.returned (.bool true)∧JW W g h r (k + 1) w':=by
 by_cases h1:o.kind=1
 ·exact step_create hJ hn P o h1 ha hb
 by_cases h2:o.kind=2
 ·exact step_mkdir hJ hn P o h2 ha hb
 by_cases h3:o.kind=3
 ·exact step_link hJ hn P o h3 ha hb
 by_cases h4:o.kind=4
 ·exact step_rename hJ hn P o h4 ha hb
 by_cases h5:o.kind=5
 ·exact step_unlink hJ hn P o h5 ha hb
 by_cases h6:o.kind=6
 ·exact step_rmdir hJ hn P o h6 ha hb
 by_cases h7:o.kind=7
 ·exact step_stat hJ hn P o h7 ha
 by_cases h8:o.kind=8
 ·exact step_list hJ hn P o h8 ha
 by_cases h9:o.kind=9
 ·exact step_open hJ hn P o h9 ha
 by_cases h10:o.kind=10
 ·exact step_close hJ hn P o h10 ha hb
 by_cases h11:o.kind=11
 ·exact step_read hJ hn P o h11 hat
 by_cases h12:o.kind=12
 ·exact step_write hJ hn P o h12 ha hb hdat
 by_cases h13:o.kind=13
 ·exact step_trunc hJ hn P o h13 ha hb
 exact step_need hJ hn P o (fun i hi hi2 e=>by omega)

end Go.Proofs.YtknmgefpjdfenaaGreat

/- The walk of TreeScripts. -/
namespace Go.Proofs.YtknmgefpjdfenaaGreat
set_option maxRecDepth 100000
set_option maxHeartbeats 8000000
open Go.RowKit Go.Shelf Go.Maps
set_option linter.unusedVariables false

theorem scripts_bad {most:Int} (hm:most < 1 ∨ 524288 < most) (P:Nat→Int) (a:Option Addr) (len cap:Nat) (W:World) :
  Calls Tryz.prog 3 #[.int .i64 most,PvN P,.slice a len cap] W fun e w'=>e=.returned (.bool true)∧Below W.heap.size W w':=by
 have HK:Hid (Below W.heap.size W (W.alloc (.cells (Pc P) 23))):=(Below.refl _ W).alloc (Nat.le_refl _) _
 have KN:Hid (∀ v,Calls Tryz.prog 8 #[.int .i64 most] v fun e w'=>e=.returned (.tuple #[.pointer none,.int .i64 1])∧w'=v):=fun v=>new_bad hm v
 have KR:Hid (∀ v,Calls Tryz.prog 9 #[.int .i64 most] v fun e w'=>e=.returned (.tuple #[.pointer none,.int .i64 1])∧w'=v):=fun v=>rnew_no most v hm
 clear hm
 go_enter Tryz.func3,Tryz.ntmps3
 go_upto_region 1 with fail
 change Code.wp _ _ _ _ (W.alloc (.cells (Pc P) 23))
 generalize W.alloc (.cells (Pc P) 23)=W0 at *
 have KWk:=hide (wakes_any W0)
 go_wp2_with fail
 refine (unhide KWk).mono ?_
 rintro e w1 ⟨rfl,hb⟩
 have HB:=hide (HK.out.trans (hb.mono HK.out.size))
 have KN:=hide (KN.out w1)
 clear KWk hb HK
 go_wp2_with fail
 refine (unhide KN).mono ?_
 rintro e w2 ⟨rfl,rfl⟩
 have KR:=hide (KR.out w2)
 clear KN
 go_wp2_with fail
 refine (unhide KR).mono ?_
 rintro e w3 ⟨rfl,rfl⟩
 clear KR
 go_wp2_with fail
 go_loopw [11] (fun iv wr=>iv=.int .i64 0∧Hid (Below W.heap.size W wr)) (fun iv _=>0)
 case atStart=>exact ⟨rfl,HB⟩
 case round =>
  obtain ⟨rfl,hJ⟩:=hrel
  clear HB
  by_cases h0:0 < len
  ·have d1:decide ((0:Int) < (len:Int))=true:=by simp; omega
   go_wp2_with fail
   go_ret
   exact ⟨rfl,hJ.out⟩
  ·have d1:decide ((0:Int) < (len:Int))=false:=by simp; omega
   go_wp2_with fail
   go_ret
   exact ⟨rfl,hJ.out⟩

theorem scripts_good {most:Int} (h1:1 ≤ most) (h2:most ≤ 524288) (P:Nat→Int) (a:Option Addr) (len cap:Nat) (W:World) (hO:OpsU W a len) :
  Calls Tryz.prog 3 #[.int .i64 most,PvN P,.slice a len cap] W fun e w'=>e=.returned (.bool true)∧Below W.heap.size W w':=by
 have HK:=hide (KpN.start W P)
 have hlm:=hO.1
 have HO:=hide hO
 clear hO
 have KN:Hid (∀ v,_):=fun v=>new_ok h1 h2 v
 have KR:Hid (∀ v,_):=fun v=>rnew_ok most v ⟨h1,h2⟩
 have HG:Hid (∀ mp r ra rc b,Good (Tr0 most r mp ra rc) (RTr.new most b) r 0):=fun mp r ra rc b=>good_new h1 h2 mp r ra rc b
 clear h1 h2
 go_enter Tryz.func3,Tryz.ntmps3
 go_upto_region 1 with fail
 change Code.wp _ _ _ _ (W.alloc (.cells (Pc P) 23))
 generalize W.alloc (.cells (Pc P) 23)=W0 at *
 have KWk:=hide (wakes_any W0)
 go_wp2_with fail
 refine (unhide KWk).mono ?_
 rintro e w1 ⟨rfl,hb⟩
 have HB:=hide hb
 have KN:=hide (KN.out w1)
 clear KWk hb
 go_wp2_with fail
 refine (unhide KN).mono ?_
 rintro e w2 ⟨g,r,mp,ra,rc,S,rfl,htm,hS,hb⟩
 have HB2:=hide (HB.out.trans (hb.mono HB.out.size))
 have HT:=hide (And.intro htm hS)
 have KR:=hide (KR.out w2)
 clear KN htm hb hS
 go_wp2_with fail
 refine (unhide KR).mono ?_
 rintro e w3 ⟨rfl,hM,hb⟩
 have H0:Hid (JW W0 g (w2.heap.size + 1) r 0 w3):=⟨S,_,_,_,HT.out.1.below hb,hM,fun j q q2=>by
   have:=HT.out.1.lt j q
   omega,HG.out mp r ra rc _,fun j q=>by
   rcases q with q | q
   ·exact Nat.le_trans HB.out.size (HT.out.2 j q)
   ·exact Nat.le_trans HB2.out.size q.1,HB2.out.trans (hb.mono HB2.out.size)⟩
 clear KR hM hb HT HB HB2 HG
 generalize w2.heap.size + 1=h at *
 go_wp2_with fail
 go_loopw [11] (fun iv wr=>∃ k:Nat,k ≤ len∧iv=.int .i64 (k:Int)∧Hid (JW W0 g h r k wr)) (fun iv _=>(len:Int).toNat - (intOf iv).toNat)
 case atStart=>exact ⟨0,Nat.zero_le _,rfl,H0⟩
 case round =>
  obtain ⟨k,hk,rfl,hJ⟩:=hrel
  clear H0
  have hB:Below W0.heap.size W0 wr:=by
   obtain ⟨_,_,_,_,_,_,_,_,_,q⟩:=hJ.out
   exact q
  have hKr:=HK.out.call hB
  by_cases hlt:k < len
  ·have d1:decide ((k:Int) < (len:Int))=true:=by simp; omega
   obtain ⟨ab,aoff,rfl,habW,hops⟩:=HO.out.2 (by omega)
   obtain ⟨o,ho,hon⟩:=hops k hlt
   have KS:=fun v (hv:Below wr.heap.size wr v)=>step_any (hJ.out.still hv (Nat.le_refl k)) (by omega) P o ho.la ho.lb hon ⟨(ho.row.below HK.out.2 HK.out.2.size).has,ho.row.2.2.1.1,fun h0 x hx=>by
    obtain ⟨b',off',e,hlt',_⟩:=ho.row.2.2.2.2 h0
    rw [hx] at e
    cases e
    exact Nat.lt_of_lt_of_le hlt' HK.out.2.size⟩
   have c0:=(hKr.2.cell (p:=⟨ab,aoff + k * 7,none⟩) habW).trans ho.c0
   have c1:=(hKr.2.cell (p:=⟨ab,aoff + k * 7 + 1,none⟩) habW).trans ho.c1
   have c2:=(hKr.2.cell (p:=⟨ab,aoff + k * 7 + 2,none⟩) habW).trans ho.c2
   have c3:=(hKr.2.cell (p:=⟨ab,aoff + k * 7 + 3,none⟩) habW).trans ho.c3
   have c4:=(hKr.2.cell (p:=⟨ab,aoff + k * 7 + 4,none⟩) habW).trans ho.c4
   have c5:=(hKr.2.cell (p:=⟨ab,aoff + k * 7 + 5,none⟩) habW).trans ho.c5
   have c6:=(hKr.2.cell (p:=⟨ab,aoff + k * 7 + 6,none⟩) habW).trans ho.c6
   have KS:=hide KS
   unfold OpD.v at KS
   obtain ⟨f0,f1,f2,f3,f4,f5,f6,f7,f8,f9,f10,f11⟩:=hKr.cells
   have hlt':(k:Int) < (len:Int):=by omega
   have hk0:(0:Int) ≤ (k:Int):=by omega
   clear hJ hB hKr hops ho hon
   generalize o.kind=ok at *
   generalize St o.a=oa at *
   generalize St o.b=ob at *
   generalize o.f=of at *
   generalize o.n=on at *
   generalize o.m=om at *
   generalize o.da=oda at *
   generalize o.dl=odl at *
   generalize o.dc=odc at *
   go_upto_region 10 with fail
   go_cut [12] from 35 to 54 (fun bv wx=>bv=.bool true∧Hid (JW W0 g h r (k + 1) wx))
   case first =>
    go_region_with ((go_at_call 10; refine (unhide KS _ (by repeat (first | exact Below.refl _ _ | apply bd1 | apply bdr))).mono ?_; rintro e w4 ⟨rfl,hJ2⟩; have HJ:=hide hJ2; clear hJ2))
    all_goals
     go_wp2_with fail
     go_meet
     exact ⟨rfl,HJ⟩
   case rest =>
    obtain ⟨rfl,HJ⟩:=hcut
    clear KS c0 c1 c2 c3 c4 c5 c6 f0 f1 f2 f3 f4 f5 f6 f7 f8 f9 f10 f11
    go_wp2_with fail
    go_roundw
    case rel=>exact ⟨k + 1,by omega,by go_num,HJ⟩
    case measure=>simp [intOf]; omega
  ·obtain rfl:k=len:=by omega
   have d1:decide ((k:Int) < (k:Int))=false:=by simp
   have KD:=hide (both_dump hJ.out (by omega))
   have HB:=hide hKr.2
   clear hJ hB hKr HO
   go_wp2_with fail
   refine (unhide KD).mono ?_
   rintro e w4 ⟨v,rfl,hb,hk⟩
   have HB:=hide (HB.out.trans (hb.mono HB.out.size))
   have KD:=hide hk
   clear hb hk
   go_wp2_with fail
   refine (unhide KD).mono ?_
   rintro e w5 ⟨v2,rfl,hb,hk⟩
   have HB:=hide (HB.out.trans (hb.mono HB.out.size))
   have KD:=hide hk
   clear hb hk
   go_wp2_with fail
   refine (unhide KD).mono ?_
   rintro e w6 ⟨rfl,hb⟩
   have HB:=hide (HB.out.trans (hb.mono HB.out.size))
   clear KD hb
   go_wp2_with fail
   go_ret
   exact ⟨rfl,HB.out⟩

theorem scripts_walk (most:Int) (P:Nat→Int) (a:Option Addr) (len cap:Nat) (W:World) (hO:OpsU W a len) :
  Calls Tryz.prog 3 #[.int .i64 most,PvN P,.slice a len cap] W fun e w'=>e=.returned (.bool true)∧Below W.heap.size W w':=by
 by_cases h1:1 ≤ most∧most ≤ 524288
 ·exact scripts_good h1.1 h1.2 P a len cap W hO
 ·exact scripts_bad (by omega) P a len cap W

end Go.Proofs.YtknmgefpjdfenaaGreat

