/- Joined: OComm, OEnA, OEnd, OPub, ONew. -/
import Derived.Test.YtdfanhjnkjdngaaGreatDoorArJ44
import Derived.Test.YtdfanhjnkjdngaaGreatDoorArGScope
import Derived.Deep.RegionHeld3
import Derived.Test.YtdfanhjnkjdngaaGreatDoorArJ43
import Derived.Test.YtdfanhjnkjdngaaGreatDoorArKNew
/- Commit of a group: all that is dirty is written, then the log commits the group's blocks. -/
namespace Go.Proofs.YtdfanhjnkjdngaaGreatDoor
set_option maxRecDepth 100000
set_option maxHeartbeats 8000000
open Go.RowKit Go.Shelf Go.Maps
set_option linter.unusedVariables false

def coE (C:Cac) (D:Dev):Int:=outE (C.those D.n fDirty) C D

def coC (C:Cac) (D:Dev):Cac:=outC (C.those D.n fDirty) C D

def coD (C:Cac) (D:Dev):Dev:=outD (C.those D.n fDirty) C D

theorem outD_n:∀ (l:List Nat) (C:Cac) (D:Dev),(outD l C D).n=D.n∧(outD l C D).blk=D.blk
 | [],C,D=>⟨rfl,rfl⟩
 | b :: r,C,D=>by
  unfold outD
  split
  ·have h:=outD_n r (C.wbC D b) (C.wbD D b)
   have h2:=wbD_n C D b
   exact ⟨h.1.trans h2.1,h.2.trans h2.2⟩
  ·exact wbD_n C D b

def vOf (G:Geo) (W:Wl):List Wr:=W.map (fun x=>⟨(x.1:Int),none,G.blk,0,x.2⟩)

theorem cmt_congr {G:Geo} {L:Lg} {V V':List Wr} {D:Dev} (h1:wv V=wv V') (h2:wl V=wl V'):cmtE G L V D=cmtE G L V' D∧cmtL G L V D=cmtL G L V' D∧cmtD G L V D=cmtD G L V' D:=by
 have h3:V.length=V'.length:=by have:=congrArg List.length h2; rwa [wl_len,wl_len] at this
 unfold cmtE cmtL cmtD
 rw [h1,h2,h3]
 exact ⟨rfl,rfl,rfl⟩

theorem lstV_wv (G:Geo) (Q:Nat→Option (List Int)) (A:Nat→Nat × Nat):wv (lstV G Q A (pendL G Q).length)=wv (vOf G (pendW G Q))∧wl (lstV G Q A (pendL G Q).length)=wl (vOf G (pendW G Q)):=by
 refine ⟨?_,?_⟩
 ·unfold wv lstV vOf pendW
  rw [List.take_length,List.map_map,List.map_map,List.map_map]
  rfl
 ·unfold wl lstV vOf pendW
  rw [List.take_length,List.map_map,List.map_map,List.map_map]
  rfl

def cmm (G:Geo) (X:Grp) (C:Cac) (L:Lg) (D:Dev):Int × Cac × Lg × Dev :=
 if coE C D ≠ 0 then (coE C D,coC C D,L,coD C D)
 else if (pendL G X.Q).length=0 then ((coD C D).wE,coC C D,L,(coD C D).fD)
 else if G.lg - L.h.used < G.uses (pendL G X.Q).length then
  (if aplyE G L (coD C D) ≠ 0 then (aplyE G L (coD C D),gapC G (coC C D) L (coD C D),aplyL G L (coD C D),aplyD G L (coD C D))
   else (cmtE G (aplyL G L (coD C D)) (vOf G (pendW G X.Q)) (aplyD G L (coD C D)),gapC G (coC C D) L (coD C D),cmtL G (aplyL G L (coD C D)) (vOf G (pendW G X.Q)) (aplyD G L (coD C D)),cmtD G (aplyL G L (coD C D)) (vOf G (pendW G X.Q)) (aplyD G L (coD C D))))
 else (cmtE G L (vOf G (pendW G X.Q)) (coD C D),coC C D,cmtL G L (vOf G (pendW G X.Q)) (coD C D),cmtD G L (vOf G (pendW G X.Q)) (coD C D))

def Grp.clr (X:Grp):Grp:={ X with Q:=fun _=>none,F:=fun _=>false }

def CmS (u:World) (S:Nat→Prop) (g cg lg dg:Nat) (P:Nat→Int) (G:Geo) (X:Grp) (R:Int × Cac × Lg × Dev) (eE:Int) (w':World):Prop :=
 eE=R.1∧∃ S',Gv w' S' g cg lg dg P G X R.2.1 R.2.2.1 R.2.2.2∧Nx S u S' w'

def CmJ (u:World) (S:Nat→Prop) (g cg lg dg:Nat) (P:Nat→Int) (G:Geo) (X:Grp) (R:Int × Cac × Lg × Dev) (a':Act) (w':World):Prop :=
 ∃ eE:Int,CmS u S g cg lg dg P G X R eE w'∧∃ f:Nat→Value,a'={ tmps:=#[.pointer (some ⟨g,0,none⟩),f 1,f 2,.int .i64 eE,f 4,f 5,f 6,f 7,f 8,f 9,f 10,f 11,f 12,f 13,f 14,f 15,f 16,f 17,f 18,f 19,f 20,f 21,f 22,f 23,f 24,f 25,f 26,f 27,f 28,f 29,f 30,f 31,f 32,f 33,f 34,f 35,f 36,f 37,f 38,f 39,f 40,f 41,f 42,f 43,f 44,f 45,f 46,f 47,f 48,f 49,f 50,f 51,f 52,f 53,f 54,f 55,f 56],defers:=[] }

theorem CmJ.mk {u:World} {S:Nat→Prop} {g cg lg dg:Nat} {P:Nat→Int} {G:Geo} {X:Grp} {R:Int × Cac × Lg × Dev} {eE:Int} {w':World} (h:CmS u S g cg lg dg P G X R eE w') {u1 u2 u4 u5 u6 u7 u8 u9 u10 u11 u12 u13 u14 u15 u16 u17 u18 u19 u20 u21 u22 u23 u24 u25 u26 u27 u28 u29 u30 u31 u32 u33 u34 u35 u36 u37 u38 u39 u40 u41 u42 u43 u44 u45 u46 u47 u48 u49 u50 u51 u52 u53 u54 u55 u56:Value} :
  CmJ u S g cg lg dg P G X R { tmps:=#[.pointer (some ⟨g,0,none⟩),u1,u2,.int .i64 eE,u4,u5,u6,u7,u8,u9,u10,u11,u12,u13,u14,u15,u16,u17,u18,u19,u20,u21,u22,u23,u24,u25,u26,u27,u28,u29,u30,u31,u32,u33,u34,u35,u36,u37,u38,u39,u40,u41,u42,u43,u44,u45,u46,u47,u48,u49,u50,u51,u52,u53,u54,u55,u56],defers:=[] } w':=⟨eE,h,fun k=>[undef,u1,u2,undef,u4,u5,u6,u7,u8,u9,u10,u11,u12,u13,u14,u15,u16,u17,u18,u19,u20,u21,u22,u23,u24,u25,u26,u27,u28,u29,u30,u31,u32,u33,u34,u35,u36,u37,u38,u39,u40,u41,u42,u43,u44,u45,u46,u47,u48,u49,u50,u51,u52,u53,u54,u55,u56].getD k undef,rfl⟩

theorem Gv.clr {u:World} {S:Nat→Prop} {g cg lg dg:Nat} {P:Nat→Int} {G:Geo} {X:Grp} {C:Cac} {L:Lg} {D:Dev} (h:Gv u S g cg lg dg P G X C L D) :
  ∃ lb fb w1 w2,u.cell? ⟨g,16,none⟩=some (.map (some lb))∧Hid (∀ ty,(Builtin.clear_ #[121] ty #[.map (some lb)]).run Tryz.prog u=.ok (.tuple #[]) w1)∧w1.cell? ⟨g,17,none⟩=some (.map (some fb))∧Hid (∀ ty,(Builtin.clear_ #[155] ty #[.map (some fb)]).run Tryz.prog w1=.ok (.tuple #[]) w2) ∧
   Hid (∃ S',Gv w2 S' g cg lg dg P G X.clr C L D∧Nx S u S' w2):=by
 obtain ⟨Sg,Sc,Sl,Sd,m,mk,ml,h⟩:=h
 obtain ⟨w1,r1,l1,T1⟩:=h.gr.log.clear
 have g1:=h.gr.logT T1 l1
 obtain ⟨w2,r2,l2,T2⟩:=g1.fre.clear
 have g2:=g1.freT T2 l2
 obtain ⟨S',a1,x1,_⟩:=h.own g2 ((T1.nx h.gr.log.sm).trans (T2.nx g1.fre.sm)) h.seen
 exact ⟨m.lb,m.fb,w1,w2,h.gr.cells.2.2.2.2.2.1,r1,g1.cells.2.2.2.2.2.2.1,r2,S',a1.gv,x1⟩

theorem cm_all {u:World} {S:Nat→Prop} {g cg lg dg:Nat} {P:Nat→Int} {G:Geo} {X:Grp} {C:Cac} {L:Lg} {D:Dev} (h:Gv u S g cg lg dg P G X C L D) :
  u.cell? ⟨g,2,none⟩=some (.pointer (some ⟨cg,0,none⟩))∧Hid (Calls Tryz.prog 203 #[.pointer (some ⟨cg,0,none⟩)] u fun e w1=>e=.returned (.int .i64 (coE C D))∧Hid (∃ S',Gv w1 S' g cg lg dg P G X (coC C D) L (coD C D)∧Nx S u S' w1)):=by
 obtain ⟨Sg,Sc,Sl,Sd,m,mk,ml,h⟩:=h
 refine ⟨h.gr.cells.2.2.1,(all_kv cg dg _ C D u h.kv.kv).mono ?_⟩
 rintro e w1 ⟨rfl,S1,k1,x1⟩
 obtain ⟨S2,Sc2,Sd2,mk2,a2,x2,_⟩:=h.cache k1 x1 (outD_n _ C D)
 exact ⟨rfl,S2,a2.gv,x2⟩

theorem cm_flush {u:World} {S:Nat→Prop} {g cg lg dg:Nat} {P:Nat→Int} {G:Geo} {X:Grp} {C:Cac} {L:Lg} {D:Dev} (h:Gv u S g cg lg dg P G X C L D) :
  u.cell? ⟨g,0,none⟩=some (.pointer (some ⟨dg,0,none⟩))∧Hid (Calls Tryz.prog 142 #[.pointer (some ⟨dg,0,none⟩)] u fun e w1=>e=.returned (.int .i64 D.wE)∧Hid (∃ S',Gv w1 S' g cg lg dg P G X C L D.fD∧Nx S u S' w1)):=by
 obtain ⟨Sg,Sc,Sl,Sd,m,mk,ml,h⟩:=h
 refine ⟨h.gr.cells.1,(flush_any dg Sd D u h.dd).mono ?_⟩
 rintro e w1 ⟨rfl,d1,x1⟩
 obtain ⟨S2,a2,x2⟩:=h.dev d1 x1 (Stp.ap_n .f D)
 exact ⟨rfl,S2,a2.gv,x2⟩

theorem cm_list {u:World} {S:Nat→Prop} {g cg lg dg:Nat} {P:Nat→Int} {G:Geo} {X:Grp} {C:Cac} {L:Lg} {D:Dev} (h:Gv u S g cg lg dg P G X C L D) {v:World} (hv:Below u.heap.size u v) :
  v.cell? ⟨g,1,none⟩=some (.pointer (some ⟨lg,0,none⟩))∧Hid (Calls Tryz.prog 204 #[.pointer (some ⟨g,0,none⟩)] v fun e w1=>∃ a n c,e=.returned (.slice a n c)∧w1.cell? ⟨g,1,none⟩=some (.pointer (some ⟨lg,0,none⟩)) ∧
   Hid (Calls Tryz.prog 15 #[.pointer (some ⟨lg,0,none⟩),.slice a n c] w1 fun e w2=>e=.returned (.int .i64 (cmtE G L (vOf G (pendW G X.Q)) D))∧w2.cell? ⟨g,1,none⟩=some (.pointer (some ⟨lg,0,none⟩))∧Hid (∃ S',Gv w2 S' g cg lg dg P G X C (cmtL G L (vOf G (pendW G X.Q)) D) (cmtD G L (vOf G (pendW G X.Q)) D)∧Nx S u S' w2))):=by
 obtain ⟨Sg,Sc,Sl,Sd,m,mk,ml,h⟩:=h
 have hv1:=h.below hv
 have hG:=h.gr.pg.ok
 have hbk:=hG.blk
 have hn:=hG.n2
 have hs:=hv.size
 refine ⟨hv1.gr.cells.2.1,(list_any hv1.gr).mono ?_⟩
 rintro e w1 ⟨vv,rfl,Y⟩
 obtain ⟨gl,b1⟩:=unhide Y
 have h1:=hv1.below b1
 have hpl:=pendL_len G X.Q
 have hln:(lstV G X.Q m.LA (pendL G X.Q).length).length=(pendL G X.Q).length:=lstV_len (Nat.le_refl _)
 obtain ⟨a,c,rfl,c1,c2⟩:=gl.shape
 obtain ⟨e1,e2⟩:=lstV_wv G X.Q m.LA
 have hrow:∀ j,j < (lstV G X.Q m.LA (pendL G X.Q).length).length→∃ b z,b < G.n∧X.Q b=some z∧wat (lstV G X.Q m.LA (pendL G X.Q).length) j=⟨(b:Int),some ⟨(m.LA b).1,0,none⟩,G.blk,(m.LA b).2,z⟩:=fun j hj=>lstV_mem (wat_mem hj)
 have hw:WHas w1 a (lstV G X.Q m.LA (pendL G X.Q).length).length (lstV G X.Q m.LA (pendL G X.Q).length):=gl.has (fun j hj=>by
  obtain ⟨b,z,hb,hz,ew⟩:=hrow j hj
  rw [ew]
  exact (h1.gr.log.row b z hb hz).row (by omega))
 have ho:WOut (fun k=>Sl k ∨ Sd k) a (lstV G X.Q m.LA (pendL G X.Q).length).length (lstV G X.Q m.LA (pendL G X.Q).length):=by
  refine ⟨fun hp x ex hx=>?_,fun j hj hp x ex hx=>?_⟩
  ·have h2:=(ownsRow_blk2 gl (k:=x.block) (by rw [ex]; rfl)).1
   have h3:x.block < u.heap.size:=by
    rcases hx with hx | hx
    ·exact h.ll.lt _ hx
    ·exact h.dd.lt hx
   omega
  ·obtain ⟨b,z,hb,hz,ew⟩:=hrow j hj
   rw [ew] at ex
   cases ex
   have hm:=(h.gr.log.row b z hb hz).mem
   rcases hx with hx | hx
   ·exact h.gl _ hm hx
   ·exact h.gd _ hm hx
 obtain ⟨q1,q2,q3⟩:=cmt_congr (G:=G) (L:=L) (D:=D) e1 e2
 have hc2:c ≤ 9223372036854775807:=by unfold maxLen at c2; omega
 refine ⟨a,_,c,rfl,h1.gr.cells.2.1,(Commit_any lg dg _ P G L D w1 h1.lv.lv a _ c _ hw ho (by omega) ⟨c1,hc2⟩).mono ?_⟩
 rintro e w2 ⟨rfl,S1,l1,x1⟩
 rw [q2,q3] at l1
 rw [q1]
 obtain ⟨S2,Sl2,Sd2,ml2,a2,x2⟩:=h1.wal l1 x1 (cmt_foll hG L _ D)
 exact ⟨rfl,a2.gr.cells.2.1,S2,a2.gv,(((Nx.refl S u).below' hv).below' b1).trans x2⟩

theorem cm_room {u:World} {S:Nat→Prop} {g cg lg dg:Nat} {P:Nat→Int} {G:Geo} {X:Grp} {C:Cac} {L:Lg} {D:Dev} (h:Gv u S g cg lg dg P G X C L D) :
  ∃ lb,Hid (∀ v,Below u.heap.size u v→Hid (Below u.heap.size u v)∧v.cell? ⟨g,16,none⟩=some (.map (some lb))∧v.cell? ⟨g,1,none⟩=some (.pointer (some ⟨lg,0,none⟩))∧∀ ty,(Builtin.len_ #[121] ty #[.map (some lb)]).run Tryz.prog v=.ok (.int .i64 ((pendL G X.Q).length:Int)) v) ∧
   Hid (∀ v,Below u.heap.size u v→Calls Tryz.prog 131 #[.pointer (some ⟨g,0,none⟩),.int .i64 ((pendL G X.Q).length:Int)] v fun e w'=>e=.returned (.int .i64 (G.uses (pendL G X.Q).length:Int))∧Hid (Below u.heap.size u w')) ∧
   Hid (∀ v,Below u.heap.size u v→Calls Tryz.prog 29 #[.pointer (some ⟨lg,0,none⟩)] v fun e w'=>e=.returned (.int .i64 ((G.lg - L.h.used:Nat):Int))∧Hid (Below u.heap.size u w')):=by
 obtain ⟨Sg,Sc,Sl,Sd,m,mk,ml,h⟩:=h
 have hpl:=pendL_len G X.Q
 have hn:=h.gr.pg.ok.n2
 refine ⟨m.lb,fun v hv=>?_,fun v hv=>?_,fun v hv=>?_⟩
 ·have h1:=h.below hv
  exact ⟨hv,h1.gr.cells.2.2.2.2.2.1,h1.gr.cells.2.1,fun ty=>h1.gr.log.len ty⟩
 ·refine (guses_any (h.below hv).gr _ (by omega)).mono ?_
  rintro e w' ⟨rfl,hb⟩
  exact ⟨rfl,hv.trans (hb.mono hv.size)⟩
 ·refine (room_any lg dg Sl P G L ml v (h.below hv).ll).mono ?_
  rintro e w' ⟨rfl,q,rfl⟩
  exact ⟨rfl,below_drewN hv q⟩

theorem gcommit_any {u:World} {S:Nat→Prop} {g cg lg dg:Nat} {P:Nat→Int} {G:Geo} {X:Grp} {C:Cac} {L:Lg} {D:Dev} (h:Gv u S g cg lg dg P G X C L D) :
  Calls Tryz.prog 132 #[.pointer (some ⟨g,0,none⟩)] u fun e w'=>e=.returned (.int .i64 (cmm G X C L D).1)∧Hid (∃ S',Gv w' S' g cg lg dg P G (if (cmm G X C L D).1=0 then X.clr else X) (cmm G X C L D).2.1 (cmm G X C L D).2.2.1 (cmm G X C L D).2.2.2∧Nx S u S' w'):=by
 obtain ⟨R,hR⟩:∃ R,R=cmm G X C L D:=⟨_,rfl⟩
 rw [← hR]
 obtain ⟨c2,KA⟩:=cm_all h
 have KC:Hid (∀ eE w',CmS u S g cg lg dg P G X R eE w'→eE=0→_):=fun eE w' hs he=>by
  obtain ⟨e1,S',gv,nx⟩:=hs
  obtain ⟨lb,fb,w1,w2,x1,x2,x3,x4,X4⟩:=gv.clr
  have X5:Hid (∃ S',Gv w2 S' g cg lg dg P G X.clr R.2.1 R.2.2.1 R.2.2.2∧Nx S u S' w2):=by
   obtain ⟨S2,g2,n2⟩:=unhide X4
   exact ⟨S2,g2,nx.trans n2⟩
  exact (⟨lb,fb,w1,w2,x1,x2,x3,x4,X5⟩:∃ lb fb w1 w2,w'.cell? ⟨g,16,none⟩=some (.map (some lb))∧Hid (∀ ty,(Builtin.clear_ #[121] ty #[.map (some lb)]).run Tryz.prog w'=.ok (.tuple #[]) w1)∧w1.cell? ⟨g,17,none⟩=some (.map (some fb))∧Hid (∀ ty,(Builtin.clear_ #[155] ty #[.map (some fb)]).run Tryz.prog w1=.ok (.tuple #[]) w2)∧Hid (∃ S',Gv w2 S' g cg lg dg P G X.clr R.2.1 R.2.2.1 R.2.2.2∧Nx S u S' w2))
 have K1:Hid (∀ w1,(∃ S',Gv w1 S' g cg lg dg P G X (coC C D) L (coD C D)∧Nx S u S' w1)→coE C D ≠ 0→CmS u S g cg lg dg P G X R (coE C D) w1):=fun w1 hs hne=>by
  have:R=(coE C D,coC C D,L,coD C D):=by rw [hR]; unfold cmm; rw [if_pos hne]
  rw [this]
  exact ⟨rfl,hs⟩
 have K2:Hid (∀ w1,(∃ S',Gv w1 S' g cg lg dg P G X (coC C D) L (coD C D)∧Nx S u S' w1)→∃ lb,w1.cell? ⟨g,16,none⟩=some (.map (some lb))∧∀ ty,(Builtin.len_ #[121] ty #[.map (some lb)]).run Tryz.prog w1=.ok (.int .i64 ((pendL G X.Q).length:Int)) w1):=fun w1 ⟨S',gv,_⟩=>by
  obtain ⟨lb,k1,_,_⟩:=cm_room gv
  obtain ⟨_,x1,_,x3⟩:=unhide k1 w1 (Below.refl _ _)
  exact ⟨lb,x1,x3⟩
 have K3:Hid (∀ w1,(∃ S',Gv w1 S' g cg lg dg P G X (coC C D) L (coD C D)∧Nx S u S' w1)→coE C D=0→(pendL G X.Q).length=0→w1.cell? ⟨g,0,none⟩=some (.pointer (some ⟨dg,0,none⟩))∧Hid (Calls Tryz.prog 142 #[.pointer (some ⟨dg,0,none⟩)] w1 fun e w2=>∃ e2,e=.returned (.int .i64 e2)∧Hid (CmS u S g cg lg dg P G X R e2 w2))):=fun w1 ⟨S',gv,nx⟩ h0 hq=>by
  have:R=((coD C D).wE,coC C D,L,(coD C D).fD):=by rw [hR]; unfold cmm; rw [if_neg (by omega),if_pos hq]
  rw [this]
  obtain ⟨x1,x2⟩:=cm_flush gv
  refine ⟨x1,(unhide x2).mono ?_⟩
  rintro e w2 ⟨rfl,Y⟩
  obtain ⟨S2,g2,n2⟩:=unhide Y
  exact ⟨_,rfl,rfl,S2,g2,nx.trans n2⟩
 have K4:Hid (∀ w1,(∃ S',Gv w1 S' g cg lg dg P G X (coC C D) L (coD C D)∧Nx S u S' w1)→∃ lb,Hid (∀ v,Below w1.heap.size w1 v→Hid (Below w1.heap.size w1 v)∧v.cell? ⟨g,16,none⟩=some (.map (some lb))∧v.cell? ⟨g,1,none⟩=some (.pointer (some ⟨lg,0,none⟩))∧∀ ty,(Builtin.len_ #[121] ty #[.map (some lb)]).run Tryz.prog v=.ok (.int .i64 ((pendL G X.Q).length:Int)) v) ∧
   Hid (∀ v,Below w1.heap.size w1 v→Calls Tryz.prog 131 #[.pointer (some ⟨g,0,none⟩),.int .i64 ((pendL G X.Q).length:Int)] v fun e w'=>e=.returned (.int .i64 (G.uses (pendL G X.Q).length:Int))∧Hid (Below w1.heap.size w1 w')) ∧
   Hid (∀ v,Below w1.heap.size w1 v→Calls Tryz.prog 29 #[.pointer (some ⟨lg,0,none⟩)] v fun e w'=>e=.returned (.int .i64 ((G.lg - L.h.used:Nat):Int))∧Hid (Below w1.heap.size w1 w')) ∧
   Hid (∀ v,Below w1.heap.size w1 v→∃ S',Gv v S' g cg lg dg P G X (coC C D) L (coD C D)∧Nx S u S' v)):=fun w1 ⟨S',gv,nx⟩=>by
  obtain ⟨lb,k1,k2,k3⟩:=cm_room gv
  exact ⟨lb,k1,k2,k3,fun v hv=>⟨S',gv.below hv,nx.below' hv⟩⟩
 have K5:Hid (∀ w1,(∃ S',Gv w1 S' g cg lg dg P G X (coC C D) L (coD C D)∧Nx S u S' w1)→coE C D=0→(pendL G X.Q).length ≠ 0→G.lg - L.h.used < G.uses (pendL G X.Q).length→Calls Tryz.prog 138 #[.pointer (some ⟨g,0,none⟩)] w1 fun e w2=>∃ e2,e=.returned (.int .i64 e2) ∧
   (e2 ≠ 0→Hid (CmS u S g cg lg dg P G X R e2 w2))∧(e2=0→Hid (∃ C1 L1 D1,(∃ S',Gv w2 S' g cg lg dg P G X C1 L1 D1∧Nx S u S' w2)∧R=(cmtE G L1 (vOf G (pendW G X.Q)) D1,C1,cmtL G L1 (vOf G (pendW G X.Q)) D1,cmtD G L1 (vOf G (pendW G X.Q)) D1)))):=fun w1 ⟨S',gv,nx⟩ h0 hq hr=>by
  refine (gapply_any gv).mono ?_
  rintro e w2 ⟨rfl,Y⟩
  obtain ⟨S2,g2,n2⟩:=unhide Y
  refine ⟨_,rfl,fun hne=>?_,fun he=>?_⟩
  ·have:R=(aplyE G L (coD C D),gapC G (coC C D) L (coD C D),aplyL G L (coD C D),aplyD G L (coD C D)):=by rw [hR]; unfold cmm; rw [if_neg (by omega),if_neg hq,if_pos hr,if_pos hne]
   rw [this]
   exact ⟨rfl,S2,g2,nx.trans n2⟩
  ·refine ⟨_,_,_,⟨S2,g2,nx.trans n2⟩,?_⟩
   rw [hR]
   unfold cmm
   rw [if_neg (by omega),if_neg hq,if_pos hr,if_neg (by omega)]
 have K6:Hid (coE C D=0→(pendL G X.Q).length ≠ 0→¬ G.lg - L.h.used < G.uses (pendL G X.Q).length→R=(cmtE G L (vOf G (pendW G X.Q)) (coD C D),coC C D,cmtL G L (vOf G (pendW G X.Q)) (coD C D),cmtD G L (vOf G (pendW G X.Q)) (coD C D))):=fun h0 hq hr=>by
  rw [hR]
  unfold cmm
  rw [if_neg (by omega),if_neg hq,if_neg hr]
 have K7:Hid (∀ C1 L1 D1 w1,(∃ S',Gv w1 S' g cg lg dg P G X C1 L1 D1∧Nx S u S' w1)→R=(cmtE G L1 (vOf G (pendW G X.Q)) D1,C1,cmtL G L1 (vOf G (pendW G X.Q)) D1,cmtD G L1 (vOf G (pendW G X.Q)) D1)→w1.cell? ⟨g,1,none⟩=some (.pointer (some ⟨lg,0,none⟩))∧Hid (Calls Tryz.prog 204 #[.pointer (some ⟨g,0,none⟩)] w1.drew fun e w2=>∃ a n c,e=.returned (.slice a n c)∧w2.cell? ⟨g,1,none⟩=some (.pointer (some ⟨lg,0,none⟩)) ∧
   Hid (Calls Tryz.prog 15 #[.pointer (some ⟨lg,0,none⟩),.slice a n c] w2 fun e w3=>∃ e2,e=.returned (.int .i64 e2)∧Hid (CmS u S g cg lg dg P G X R e2 w3)))):=fun C1 L1 D1 w1 ⟨S',gv,nx⟩ hRR=>by
  obtain ⟨x1,x2⟩:=cm_list gv (v:=w1.drew) ((Below.refl _ w1).drew)
  refine ⟨x1,(unhide x2).mono ?_⟩
  rintro e w2 ⟨a,n,c,rfl,y1,Y⟩
  refine ⟨a,n,c,rfl,y1,(unhide Y).mono ?_⟩
  rintro e w3 ⟨rfl,_,Z⟩
  obtain ⟨S2,g2,n2⟩:=unhide Z
  refine ⟨_,rfl,?_⟩
  rw [hRR]
  exact ⟨rfl,S2,g2,nx.trans n2⟩
 have KF:Hid (∀ eE w',CmS u S g cg lg dg P G X R eE w'→eE ≠ 0→eE=R.1∧∃ S',Gv w' S' g cg lg dg P G (if R.1=0 then X.clr else X) R.2.1 R.2.2.1 R.2.2.2∧Nx S u S' w'):=fun eE w' ⟨e1,hs⟩ hne=>by
  rw [if_neg (by omega)]
  exact ⟨e1,hs⟩
 have KZ:Hid (∀ w',CmS u S g cg lg dg P G X R 0 w'→0=R.1∧((∃ S',Gv w' S' g cg lg dg P G X.clr R.2.1 R.2.2.1 R.2.2.2∧Nx S u S' w') ↔ (∃ S',Gv w' S' g cg lg dg P G (if R.1=0 then X.clr else X) R.2.1 R.2.2.1 R.2.2.2∧Nx S u S' w'))):=fun w' ⟨e1,_⟩=>by
  rw [if_pos e1.symm]
  exact ⟨e1,Iff.rfl⟩
 have KW:Hid (∀ w',0=R.1→(∃ S',Gv w' S' g cg lg dg P G X.clr R.2.1 R.2.2.1 R.2.2.2∧Nx S u S' w')→∃ S',Gv w' S' g cg lg dg P G (if R.1=0 then X.clr else X) R.2.1 R.2.2.1 R.2.2.2∧Nx S u S' w'):=fun w' e1 hs=>by
  rw [if_pos e1.symm]
  exact hs
 clear h hR KZ
 generalize (if R.1=0 then X.clr else X)=XX at *
 generalize coE C D=aE at *
 generalize coC C D=C0 at *
 generalize coD C D=D0 at *
 generalize (pendL G X.Q).length=np at *
 generalize hr1:G.lg - L.h.used=rm at *
 generalize G.uses np=ns at *
 clear hr1
 go_enter Tryz.func132,Tryz.ntmps132
 go_wp2
 refine wp_scope_one 0 (CmJ u S g cg lg dg P G X R) (fun _ _=>0) rfl ?_ ?_
 ·intro a' w' hJ
  clear KA K1 K2 K3 K4 K5 K6 K7 c2
  obtain ⟨eE,hS,f,rfl⟩:=hJ
  by_cases he:eE=0
  ·subst he
   obtain ⟨lb,fb,w1,w2,x1,x2,x3,x4,X5⟩:=unhide KC _ _ hS rfl
   have E1:=hide hS.1
   have r1:=unhide x2
   have r2:=unhide x4
   clear hS KC KF x2 x4
   go_wp2_with fail
   simp only [Exit.jump]
   go_ret
   exact ⟨by rw [← unhide E1]; rfl,unhide KW _ (unhide E1) (unhide X5)⟩
  ·have Z:=hide (unhide KF _ _ hS he)
   have d1:(eE == 0)=false:=by simpa using he
   clear hS KC KF KW
   go_wp2_with fail
   simp only [Exit.jump]
   go_ret
   exact ⟨by rw [← (unhide Z).1]; rfl,(unhide Z).2⟩
 ·intro N
  have N1:=hide N
  clear N KC KF KW
  go_wp2_with fail
  go_at_call 203
  refine (unhide KA).mono ?_
  rintro e w1 ⟨rfl,Y⟩
  clear KA c2
  by_cases ha:aE=0
  ·subst ha
   obtain ⟨lb,x16,xl⟩:=unhide K2 w1 (unhide Y)
   clear K1 K2
   by_cases hq:np=0
   ·obtain ⟨x0,KFl⟩:=unhide K3 w1 (unhide Y) rfl hq
    have d0:((np:Int) == 0)=true:=by simpa using hq
    clear K3 K4 K5 K6 K7 Y hq
    go_wp2_with fail
    go_at_call 142
    refine (unhide KFl).mono ?_
    rintro e w2 ⟨e2,rfl,Z⟩
    clear KFl x16 xl x0
    go_wp2_with fail
    go_step3
    exact ⟨rfl,CmJ.mk (unhide Z)⟩
   ·obtain ⟨lb2,B0,KU,KR,KG⟩:=unhide K4 w1 (unhide Y)
    have K50:Hid (∀ v,(∃ S',Gv v S' g cg lg dg P G X C0 L D0∧Nx S u S' v)→rm < ns→_):=fun v hs hr=>unhide K5 v hs rfl hq hr
    have K60:Hid (¬ rm < ns→R=_):=fun hr=>unhide K6 rfl hq hr
    have d0:((np:Int) == 0)=false:=by simpa using hq
    have B1:Hid (Below w1.heap.size w1 w1.drew):=(Below.refl _ w1).drew
    clear K3 K4 K5 K6 Y hq
    go_upto_region 5 with fail
    clear x16 xl
    go_cut [34] (fun c wx=>c=.bool (decide (rm < ns))∧Hid (∃ S',Gv wx S' g cg lg dg P G X C0 L D0∧Nx S u S' wx))
    case first =>
     clear K7 K50 K60 N1
     go_region_held3 (fun v=>Hid (Below w1.heap.size w1 v)∧v.cell? ⟨g,16,none⟩=some (.map (some lb2))∧v.cell? ⟨g,1,none⟩=some (.pointer (some ⟨lg,0,none⟩))∧∀ ty,(Builtin.len_ #[121] ty #[.map (some lb2)]).run Tryz.prog v=.ok (.int .i64 (np:Int)) v)
      (with_reducible (first | exact unhide B0 _ (unhide B1) | exact unhide B0 _ (unhide JU) | exact unhide B0 _ (unhide JR)))
      (first
       | (go_at_call 131; refine (unhide KU _ (unhide (‹Hid (Below w1.heap.size w1 _)∧_›).1)).mono ?_; rintro e w3 ⟨rfl,JU⟩)
       | (go_at_call 29; refine (unhide KR _ (unhide (‹Hid (Below w1.heap.size w1 _)∧_›).1)).mono ?_; rintro e w3 ⟨rfl,JR⟩))
     all_goals
      go_wp2_with fail
      go_meet
      first
       | exact ⟨rfl,unhide KG _ (unhide JR)⟩
       | exact ⟨rfl,unhide KG _ (unhide JU)⟩
    case rest =>
     obtain ⟨rfl,Y1⟩:=hcut
     clear B0 B1 KU KR KG d0
     by_cases hr:rm < ns
     ·have d1:decide (rm < ns)=true:=by simpa using hr
      rw [d1]
      have KAp:=hide (unhide K50 _ (unhide Y1) hr)
      clear K50 K60 Y1 d1 hr
      go_wp2_with fail
      go_at_call 138
      refine (unhide KAp).mono ?_
      rintro e w3 ⟨e2,rfl,Z7,Z0⟩
      clear KAp
      by_cases h2:e2=0
      ·subst h2
       obtain ⟨C1,L1,D1,Y2,hRR⟩:=unhide (Z0 rfl)
       obtain ⟨x1,KL⟩:=unhide K7 C1 L1 D1 w3 Y2 hRR
       clear Z7 Z0 Y2 hRR K7
       go_upto_region 8 with fail
       go_cut [3] (fun c wx=>∃ e2,c=.int .i64 e2∧Hid (CmS u S g cg lg dg P G X R e2 wx))
       case first =>
        clear N1
        go_region_with (first | (go_at_call 204; refine (unhide KL).mono ?_; rintro e w5 ⟨a,n,c,rfl,y1,KC⟩; clear KL) | (go_at_call 15; refine (unhide KC).mono ?_; rintro e w6 ⟨e2,rfl,Z⟩; clear KC))
        all_goals
         go_wp2_with fail
         go_meet
         exact ⟨_,rfl,Z⟩
       case rest =>
        obtain ⟨e2,rfl,Z⟩:=hcut
        clear KL x1
        go_wp2_with fail
        go_step3
        rename_i hK
        refine hK _ _ ?_
        exact unhide N1 _ _ (CmJ.mk (unhide Z))
      ·have d2:(e2 != 0)=true:=by simpa using h2
       have Z:=hide (unhide (Z7 h2))
       clear Z7 Z0 K7 h2
       go_wp2_with fail
       go_step3
       exact ⟨rfl,CmJ.mk (unhide Z)⟩
     ·have d1:decide (rm < ns)=false:=by simpa using hr
      rw [d1]
      obtain ⟨x1,KL⟩:=unhide K7 _ _ _ _ (unhide Y1) (unhide K60 hr)
      clear K50 K60 Y1 K7 d1 hr
      go_upto_region 8 with fail
      go_cut [3] (fun c wx=>∃ e2,c=.int .i64 e2∧Hid (CmS u S g cg lg dg P G X R e2 wx))
      case first =>
       clear N1
       go_region_with (first | (go_at_call 204; refine (unhide KL).mono ?_; rintro e w5 ⟨a,n,c,rfl,y1,KC⟩; clear KL) | (go_at_call 15; refine (unhide KC).mono ?_; rintro e w6 ⟨e2,rfl,Z⟩; clear KC))
       all_goals
        go_wp2_with fail
        go_meet
        exact ⟨_,rfl,Z⟩
      case rest =>
       obtain ⟨e2,rfl,Z⟩:=hcut
       clear KL x1
       go_wp2_with fail
       go_step3
       rename_i hK
       refine hK _ _ ?_
       exact unhide N1 _ _ (CmJ.mk (unhide Z))
  ·have d1:(aE != 0)=true:=by simpa using ha
   have Z:=hide (unhide K1 w1 (unhide Y) ha)
   clear K1 K2 K3 K4 K5 K6 K7 Y ha
   go_wp2_with fail
   go_step3
   exact ⟨rfl,CmJ.mk (unhide Z)⟩

end Go.Proofs.YtdfanhjnkjdngaaGreatDoor

/- End of an operation: what it answers and leaves; what stands beside the group while it runs. -/
namespace Go.Proofs.YtdfanhjnkjdngaaGreatDoor
set_option maxRecDepth 100000
set_option maxHeartbeats 8000000
open Go.RowKit Go.Shelf Go.Maps
set_option linter.unusedVariables false

def ntZ (N:Nat→Option Nt) (b:Nat):List Int:=match N b with | some t=>t.z | none=>[]

def ptsE (N:Nat→Option Nt):List Nat→Cac→Dev→Int
 | [],_,_=>0
 | b :: r,C,D=>if C.ptE D b=0 then ptsE N r (C.ptC D b (ntZ N b)) (C.ptD D b) else C.ptE D b

def ptsC (N:Nat→Option Nt):List Nat→Cac→Dev→Cac
 | [],C,_=>C
 | b :: r,C,D=>if C.ptE D b=0 then ptsC N r (C.ptC D b (ntZ N b)) (C.ptD D b) else C.ptC D b (ntZ N b)

def ptsD (N:Nat→Option Nt):List Nat→Cac→Dev→Dev
 | [],_,D=>D
 | b :: r,C,D=>if C.ptE D b=0 then ptsD N r (C.ptC D b (ntZ N b)) (C.ptD D b) else C.ptD D b

def ownQ (N:Nat→Option Nt):List Nat→(Nat→Option (List Int))→(Nat→Option (List Int))
 | [],Q=>Q
 | b :: r,Q=>ownQ N r (fun j=>if j=b then some (ntZ N b) else Q j)

def freC:List Nat→Cac→Cac
 | [],C=>C
 | b :: r,C=>freC r (C.dr b)

def freQ:List Nat→(Nat→Option (List Int))→(Nat→Option (List Int))
 | [],Q=>Q
 | b :: r,Q=>freQ r (fun j=>if j=b then none else Q j)

def freF:List Nat→(Nat→Bool)→(Nat→Bool)
 | [],F=>F
 | b :: r,F=>freF r (fun j=>if j=b then true else F j)

def enR (G:Geo) (X:Grp) (N:Nat→Option Nt) (C:Cac) (L:Lg) (D:Dev):Int × Grp × Cac × Lg × Dev :=
 if G.lg < G.uses ((pendL G X.Q).length + (lstX (isM N X.Q) G.n).length) then ((cmm G X C L D).1,(if (cmm G X C L D).1=0 then X.clr else X),(cmm G X C L D).2.1,(cmm G X C L D).2.2.1,(cmm G X C L D).2.2.2) else (0,X,C,L,D)

def enT (G:Geo) (X:Grp) (N:Nat→Option Nt) (C:Cac) (L:Lg) (D:Dev):Int × Grp × Cac × Lg × Dev :=
 if ptsE N (lstX (isK N 2) G.n) C D ≠ 0 then (ptsE N (lstX (isK N 2) G.n) C D,{ X with N:=none },ptsC N (lstX (isK N 2) G.n) C D,L,ptsD N (lstX (isK N 2) G.n) C D)
 else (0,{ X with Q:=freQ (lstX (isK N 3) G.n) (ownQ N (lstX (isK N 1) G.n) X.Q),F:=freF (lstX (isK N 3) G.n) X.F,N:=none },freC (lstX (isK N 3) G.n) (ptsC N (lstX (isK N 2) G.n) C D),L,ptsD N (lstX (isK N 2) G.n) C D)

def endR (G:Geo) (X:Grp) (N:Nat→Option Nt) (C:Cac) (L:Lg) (D:Dev):Int × Grp × Cac × Lg × Dev :=
 if G.lg < G.uses (lstX (isK N 1) G.n).length then (5,{ X with N:=none },C,L,D)
 else if (enR G X N C L D).1 ≠ 0 then ((enR G X N C L D).1,{ (enR G X N C L D).2.1 with N:=none },(enR G X N C L D).2.2.1,(enR G X N C L D).2.2.2.1,(enR G X N C L D).2.2.2.2)
 else enT G (enR G X N C L D).2.1 N (enR G X N C L D).2.2.1 (enR G X N C L D).2.2.2.1 (enR G X N C L D).2.2.2.2

theorem Out.nxi {S S':Nat→Prop} {w w':World} {a:Option Addr} {len:Nat} {zs:List Int} (h:IHas w a len zs) (hx:Nx S w S' w') (ho:Out S len a):Out S' len a:=fun hp x e hs=>by
 obtain ⟨b,off,e2,_⟩:=h.2 hp
 rw [e] at e2
 cases e2
 exact ho hp _ e (hx.sub _ (h.lt hp e) hs)

def Ls (w:World) (S:Nat→Prop) (a:Option Addr) (zs:List Int):Prop:=IHas w a zs.length zs∧Out S zs.length a

theorem Ls.nx {S S':Nat→Prop} {w w':World} {a:Option Addr} {zs:List Int} (h:Ls w S a zs) (hx:Nx S w S' w'):Ls w' S' a zs:=⟨h.1.nx hx h.2,Out.nxi h.1 hx h.2⟩

theorem Ls.of {B:Nat} {w:World} {S:Nat→Prop} {a:Option Addr} {n c:Nat} {zs:List Int} (h:Gr B w (.slice a n c) zs) (hB:∀ k,S k→k < B):n=zs.length∧Ls w S a zs:=by
 obtain ⟨hi,hn⟩:=gr_ihas h
 subst hn
 refine ⟨rfl,hi,fun hp x e hs=>?_⟩
 have h2:B ≤ x.block:=by
  obtain ⟨_,h2⟩:=h
  rcases h2 with ⟨e2,h0⟩ | ⟨g,cap,cur,e2,hb,_⟩
  ·omega
  ·cases e2
   cases e
   exact hb
 have:=hB _ hs
 omega

theorem Ls.at {w:World} {S:Nat→Prop} {a:Option Addr} {l:List Nat} (h:Ls w S a (l.map (fun b:Nat=>(b:Int)))) {k:Nat} (hk:k < l.length):∃ kb off b,a=some ⟨kb,off,none⟩∧w.cell? ⟨kb,off + k,none⟩=some (.int .i64 ((b:Nat):Int))∧l[k]?=some b:=by
 obtain ⟨h1,h2⟩:=h
 rw [List.length_map] at h1
 obtain ⟨kb,off,e,hc⟩:=h1.2 (by omega)
 refine ⟨kb,off,l[k],e,?_,List.getElem?_eq_getElem hk⟩
 rw [hc k hk]
 simp [List.getElem?_eq_getElem hk]

structure EnV (u:World) (S:Nat→Prop) (g cg lg dg:Nat) (P:Nat→Int) (G:Geo) (X:Grp) (C:Cac) (L:Lg) (D:Dev) (bx:Nat) (a6:Option Addr) (l6:List Int) (w:World) (S':Nat→Prop):Prop where
 gv:Gv w S' g cg lg dg P G X C L D
 nx:Nx S u S' w
 bo:Bl w bx #[.pointer (some ⟨g,0,none⟩)] 62
 bn:¬ S' bx
 ls:Ls w S' a6 l6

theorem EnV.next {u:World} {S:Nat→Prop} {g cg lg dg:Nat} {P:Nat→Int} {G:Geo} {X X':Grp} {C C':Cac} {L L':Lg} {D D':Dev} {bx:Nat} {a6:Option Addr} {l6:List Int} {w w':World} {S' S2:Nat→Prop} (h:EnV u S g cg lg dg P G X C L D bx a6 l6 w S') (hg:Gv w' S2 g cg lg dg P G X' C' L' D') (hx:Nx S' w S2 w'):EnV u S g cg lg dg P G X' C' L' D' bx a6 l6 w' S2:=by
 obtain ⟨k1,k2,_⟩:=hx.keep h.bo.lt h.bn
 exact ⟨hg,h.nx.trans hx,k1.trans h.bo,k2,h.ls.nx hx⟩

theorem EnV.below {u:World} {S:Nat→Prop} {g cg lg dg:Nat} {P:Nat→Int} {G:Geo} {X:Grp} {C:Cac} {L:Lg} {D:Dev} {bx:Nat} {a6:Option Addr} {l6:List Int} {w w':World} {S':Nat→Prop} (h:EnV u S g cg lg dg P G X C L D bx a6 l6 w S') (hb:Below w.heap.size w w'):EnV u S g cg lg dg P G X C L D bx a6 l6 w' S' :=
 h.next (h.gv.below hb) ((Nx.refl S' w).below' hb)

theorem Gv.gr {u:World} {S:Nat→Prop} {g cg lg dg:Nat} {P:Nat→Int} {G:Geo} {X:Grp} {C:Cac} {L:Lg} {D:Dev} (h:Gv u S g cg lg dg P G X C L D):∃ Sg m,GrM u Sg g dg lg cg P G X m∧∀ k,Sg k→S k:=by
 obtain ⟨Sg,Sc,Sl,Sd,m,mk,ml,h⟩:=h
 exact ⟨Sg,m,h.gr,fun k hk=>(h.all k).2 (.inl hk)⟩

theorem en_start {u:World} {S:Nat→Prop} {g cg lg dg:Nat} {P:Nat→Int} {G:Geo} {X:Grp} {C:Cac} {L:Lg} {D:Dev} (h:Gv u S g cg lg dg P G X C L D) {N:Nat→Option Nt} (eN:X.N=some N) :
  u.cell? ⟨X.o,0,none⟩=some (.pointer (some ⟨g,0,none⟩))∧Hid (Calls Tryz.prog 128 #[.pointer (some ⟨X.o,0,none⟩),.func (.func 129) #[] #[]] (u.alloc (.cells #[.pointer (some ⟨g,0,none⟩)] 62)) fun e w2=>∃ a6 c6,e=.returned (.slice a6 (lstX (isK N 1) G.n).length c6) ∧
   Hid (Calls Tryz.prog 128 #[.pointer (some ⟨X.o,0,none⟩),.func (.func 130) #[] #[.pointer (some ⟨u.heap.size,0,none⟩)]] w2 fun e w3=>∃ a7 c7,e=.returned (.slice a7 (lstX (isM N X.Q) G.n).length c7)∧Hid (∃ S',EnV u S g cg lg dg P G X C L D u.heap.size a6 (lstI (isK N 1) G.n) w3 S'))):=by
 have b1:Below u.heap.size u (u.alloc (.cells #[.pointer (some ⟨g,0,none⟩)] 62)):=(Below.refl _ _).alloc (Nat.le_refl _) _
 have BX:=Bl.new u #[.pointer (some ⟨g,0,none⟩)] 62
 have hlt:∀ k,S k→k < u.heap.size:=fun k hk=>h.lt hk
 obtain ⟨Sg,m,hg,hSg⟩:=h.gr
 obtain ⟨Sg1,m1,hg1,_⟩:=(h.below b1).gr
 have h1:=h.below b1
 have z1:(u.alloc (.cells #[.pointer (some ⟨g,0,none⟩)] 62)).heap.size=u.heap.size + 1:=by simp
 generalize u.alloc (.cells #[.pointer (some ⟨g,0,none⟩)] 62)=w1 at *
 refine ⟨(hg.opn N eN).str.cell (i:=0) (by omega),(those1_any hg1 eN).mono ?_⟩
 rintro e w2 ⟨v,rfl,g2,b2⟩
 obtain ⟨a6,c6,rfl⟩:=g2.shape
 rw [lstI_len]
 have h2:=h1.below b2
 obtain ⟨Sg2,m2,hg2,_⟩:=h2.gr
 have BX2:=BX.call b2
 refine ⟨a6,c6,rfl,(those2_any hg2 eN u.heap.size (BX2.cell 0 _ rfl) BX2.lt).mono ?_⟩
 rintro e w3 ⟨v7,rfl,g3,b3⟩
 obtain ⟨a7,c7,rfl⟩:=g3.shape
 rw [lstI_len]
 have g2':=g2.later b3
 obtain ⟨_,ls⟩:=Ls.of g2' (S:=S) (fun k hk=>by have:=hlt k hk; omega)
 exact ⟨a7,c7,rfl,S,h2.below b3,(((Nx.refl S u).below' b1).below' b2).below' b3,BX2.call b3,fun x=>by have:=hlt _ x; omega,ls⟩

theorem EnV.ask {u:World} {S:Nat→Prop} {g cg lg dg:Nat} {P:Nat→Int} {G:Geo} {X:Grp} {C:Cac} {L:Lg} {D:Dev} {bx:Nat} {a6:Option Addr} {l6:List Int} {w:World} {S':Nat→Prop} (h:EnV u S g cg lg dg P G X C L D bx a6 l6 w S') :
  ∃ lb,(∀ v,Below w.heap.size w v→Hid (Below w.heap.size w v)∧v.cell? ⟨bx,0,none⟩=some (.pointer (some ⟨g,0,none⟩))∧v.cell? ⟨g,6,none⟩=some (.int .i64 (G.lg:Int))∧v.cell? ⟨g,16,none⟩=some (.map (some lb))∧∀ ty,(Builtin.len_ #[121] ty #[.map (some lb)]).run Tryz.prog v=.ok (.int .i64 ((pendL G X.Q).length:Int)) v) ∧
   (∀ (n:Nat) v,n ≤ 4096→Below w.heap.size w v→Calls Tryz.prog 131 #[.pointer (some ⟨g,0,none⟩),.int .i64 (n:Int)] v fun e w'=>e=.returned (.int .i64 (G.uses n:Int))∧Hid (Below w.heap.size w w')):=by
 obtain ⟨Sg,m,hg,_⟩:=h.gv.gr
 refine ⟨m.lb,fun v hv=>?_,fun n v hn hv=>?_⟩
 ·have h1:=h.below hv
  have hgv:=hg.kept (u':=v) (S':=Sg) (fun k hk=>hv.block k (hg.lt k hk)) (fun _ x=>x) (fun k hk=>Nat.lt_of_lt_of_le (hg.lt k hk) hv.size)
  have c6:=hgv.cells.2.2.2.1 3 (by omega)
  rw [hgv.pg.p3] at c6
  exact ⟨hv,h1.bo.cell 0 _ rfl,c6,hgv.cells.2.2.2.2.2.1,fun ty=>hgv.log.len ty⟩
 ·have hgv:=hg.kept (u':=v) (S':=Sg) (fun k hk=>hv.block k (hg.lt k hk)) (fun _ x=>x) (fun k hk=>Nat.lt_of_lt_of_le (hg.lt k hk) hv.size)
  refine (guses_any hgv n hn).mono ?_
  rintro e w' ⟨rfl,hb⟩
  exact ⟨rfl,hv.trans (hb.mono hv.size)⟩

theorem EnV.commit {u:World} {S:Nat→Prop} {g cg lg dg:Nat} {P:Nat→Int} {G:Geo} {X:Grp} {C:Cac} {L:Lg} {D:Dev} {bx:Nat} {a6:Option Addr} {l6:List Int} {w:World} {S':Nat→Prop} (h:EnV u S g cg lg dg P G X C L D bx a6 l6 w S') :
  w.cell? ⟨bx,0,none⟩=some (.pointer (some ⟨g,0,none⟩))∧Hid (Calls Tryz.prog 132 #[.pointer (some ⟨g,0,none⟩)] w fun e w'=>e=.returned (.int .i64 (cmm G X C L D).1)∧Hid (∃ S2,EnV u S g cg lg dg P G (if (cmm G X C L D).1=0 then X.clr else X) (cmm G X C L D).2.1 (cmm G X C L D).2.2.1 (cmm G X C L D).2.2.2 bx a6 l6 w' S2)):=by
 refine ⟨h.bo.cell 0 _ rfl,(gcommit_any h.gv).mono ?_⟩
 rintro e w' ⟨rfl,Y⟩
 obtain ⟨S2,g2,x2⟩:=unhide Y
 exact ⟨rfl,S2,h.next g2 x2⟩

theorem EnV.those3 {u:World} {S:Nat→Prop} {g cg lg dg:Nat} {P:Nat→Int} {G:Geo} {X:Grp} {C:Cac} {L:Lg} {D:Dev} {bx:Nat} {a6:Option Addr} {l6:List Int} {w:World} {S':Nat→Prop} (h:EnV u S g cg lg dg P G X C L D bx a6 l6 w S') {N:Nat→Option Nt} (eN:X.N=some N) :
  Calls Tryz.prog 128 #[.pointer (some ⟨X.o,0,none⟩),.func (.func 133) #[] #[]] w fun e w'=>∃ a c,e=.returned (.slice a (lstX (isK N 2) G.n).length c)∧Hid (EnV u S g cg lg dg P G X C L D bx a6 l6 w' S'∧Ls w' S' a (lstI (isK N 2) G.n)):=by
 obtain ⟨Sg,m,hg,_⟩:=h.gv.gr
 refine (those3_any hg eN).mono ?_
 rintro e w' ⟨v,rfl,g2,b2⟩
 obtain ⟨a,c,rfl⟩:=g2.shape
 obtain ⟨hn,ls⟩:=Ls.of g2 (S:=S') (fun k hk=>h.gv.lt hk)
 rw [lstI_len]
 exact ⟨a,c,rfl,h.below b2,ls⟩

theorem EnV.those4 {u:World} {S:Nat→Prop} {g cg lg dg:Nat} {P:Nat→Int} {G:Geo} {X:Grp} {C:Cac} {L:Lg} {D:Dev} {bx:Nat} {a6:Option Addr} {l6:List Int} {w:World} {S':Nat→Prop} (h:EnV u S g cg lg dg P G X C L D bx a6 l6 w S') {N:Nat→Option Nt} (eN:X.N=some N) :
  Calls Tryz.prog 128 #[.pointer (some ⟨X.o,0,none⟩),.func (.func 135) #[] #[]] w fun e w'=>∃ a c,e=.returned (.slice a (lstX (isK N 3) G.n).length c)∧Hid (EnV u S g cg lg dg P G X C L D bx a6 l6 w' S'∧Ls w' S' a (lstI (isK N 3) G.n)):=by
 obtain ⟨Sg,m,hg,_⟩:=h.gv.gr
 refine (those4_any hg eN).mono ?_
 rintro e w' ⟨v,rfl,g2,b2⟩
 obtain ⟨a,c,rfl⟩:=g2.shape
 obtain ⟨hn,ls⟩:=Ls.of g2 (S:=S') (fun k hk=>h.gv.lt hk)
 rw [lstI_len]
 exact ⟨a,c,rfl,h.below b2,ls⟩

structure EnP (u:World) (S:Nat→Prop) (g cg lg dg:Nat) (P:Nat→Int) (G:Geo) (X:Grp) (N:Nat→Option Nt) (L:Lg) (bx:Nat) (a6:Option Addr) (l6:List Int) (a3:Option Addr) (eE:Int) (eC:Cac) (eD:Dev) (k:Nat) (w:World) (S':Nat→Prop) (C:Cac) (D:Dev):Prop where
 en:EnV u S g cg lg dg P G X C L D bx a6 l6 w S'
 ls:Ls w S' a3 (lstI (isK N 2) G.n)
 rE:ptsE N ((lstX (isK N 2) G.n).drop k) C D=eE
 rC:ptsC N ((lstX (isK N 2) G.n).drop k) C D=eC
 rD:ptsD N ((lstX (isK N 2) G.n).drop k) C D=eD

theorem isK_z {N:Nat→Option Nt} {k b:Nat} (h:isK N k b=true):∃ t,N b=some t∧t.k=k∧ntZ N b=t.z:=by
 obtain ⟨t,e,hk⟩:=isK_some h
 exact ⟨t,e,hk,by simp [ntZ,e]⟩

theorem EnP.step {u:World} {S:Nat→Prop} {g cg lg dg:Nat} {P:Nat→Int} {G:Geo} {X:Grp} {N:Nat→Option Nt} {L:Lg} {bx:Nat} {a6:Option Addr} {l6:List Int} {a3:Option Addr} {eE:Int} {eC:Cac} {eD:Dev} {k:Nat} {w:World} {S':Nat→Prop} {C:Cac} {D:Dev} (h:EnP u S g cg lg dg P G X N L bx a6 l6 a3 eE eC eD k w S' C D) (eN:X.N=some N) (hk:k < (lstX (isK N 2) G.n).length) :
  ∃ kb off b,a3=some ⟨kb,off,none⟩∧w.cell? ⟨kb,off + k,none⟩=some (.int .i64 ((b:Nat):Int))∧w.cell? ⟨bx,0,none⟩=some (.pointer (some ⟨g,0,none⟩))∧w.cell? ⟨g,2,none⟩=some (.pointer (some ⟨cg,0,none⟩))∧∃ nb r1 r2,w.cell? ⟨X.o,1,none⟩=some (.map (some nb)) ∧
   (Instr.lookup 158 (.map (some nb)) (.int .i64 (b:Int)) false).run Tryz.prog w.drew=.ok (.agg #[.int .i64 2,.slice (some ⟨r1,0,none⟩) G.blk r2]) w.drew ∧
   Hid (Calls Tryz.prog 134 #[.pointer (some ⟨cg,0,none⟩),.int .i64 (b:Int),.slice (some ⟨r1,0,none⟩) G.blk r2] w.drew fun e w2=>∃ e2,e=.returned (.int .i64 e2)∧(e2=0→Hid (∃ S2 C2 D2,EnP u S g cg lg dg P G X N L bx a6 l6 a3 eE eC eD (k + 1) w2 S2 C2 D2))∧(e2 ≠ 0→Hid (e2=eE∧∃ S2,EnV u S g cg lg dg P G X eC L eD bx a6 l6 w2 S2))):=by
 obtain ⟨kb,off,b,ea,c1,hb⟩:=h.ls.at hk
 obtain ⟨hbn,hbk⟩:=mem_lstX.1 (List.mem_of_getElem? hb)
 obtain ⟨t,et,tk,tz⟩:=isK_z hbk
 obtain ⟨Sg,Sc,Sl,Sd,m,mk,ml,z⟩:=h.en.gv
 have z1:=z.below ((Below.refl _ w).drew)
 have hG:=z.gr.pg.ok
 have hbb:=hG.blk
 have o1:=z.gr.opn N eN
 have o2:=z1.gr.opn N eN
 have lk:=o2.nts.at hG.n2 hbn et
 unfold nv at lk
 simp only [tk] at lk
 have hrow:=o2.nts.row b t hbn et (by omega)
 have hd:(lstX (isK N 2) G.n).drop k=b :: (lstX (isK N 2) G.n).drop (k + 1):=by
  rw [List.drop_eq_getElem_cons hk]
  congr 1
  rw [List.getElem?_eq_getElem hk] at hb
  exact Option.some.inj hb
 have rE:=h.rE
 have rC:=h.rC
 have rD:=h.rD
 rw [hd] at rE rC rD
 unfold ptsE at rE
 unfold ptsC at rC
 unfold ptsD at rD
 refine ⟨kb,off,b,ea,c1,h.en.bo.cell 0 _ rfl,z.gr.cells.2.2.1,m.nb,(m.NA b).1,(m.NA b).2,o1.str.cell (i:=1) (by omega),lk,?_⟩
 have hr:Row w.drew.heap.size w.drew (some ⟨(m.NA b).1,0,none⟩) D.blk (m.NA b).2 t.z:=by
  rw [z1.bd]
  exact hrow.row (by omega)
 have hput:=kput_any cg dg b ⟨(m.NA b).1,0,none⟩ (m.NA b).2 t.z _ C D w.drew z1.kv.kv (by rw [z1.nd]; exact hbn) hr (fun _ x ex=>by
  cases ex
  intro hs
  rcases hs with hs | hs
  ·exact z1.gc _ hrow.mem hs
  ·exact z1.gd _ hrow.mem hs)
 rw [z1.bd] at hput
 refine hput.mono ?_
 rintro e w2 ⟨rfl,S1,k1,x1⟩
 obtain ⟨S2,Sc2,Sd2,mk2,a2,x2,_⟩:=z1.cache k1 x1 (ptD_n C D b)
 have e2:EnV u S g cg lg dg P G X (C.ptC D b t.z) L (C.ptD D b) bx a6 l6 w2 S2:=(h.en.below ((Below.refl _ w).drew)).next a2.gv x2
 have l2:Ls w2 S2 a3 (lstI (isK N 2) G.n):=(h.ls.nx ((Nx.refl S' w).below' ((Below.refl _ w).drew))).nx x2
 rw [tz] at rE rC rD
 refine ⟨_,rfl,fun h0=>?_,fun h0=>?_⟩
 ·rw [if_pos h0] at rE rC rD
  exact ⟨S2,_,_,e2,l2,rE,rC,rD⟩
 ·rw [if_neg h0] at rE rC rD
  rw [← rE,← rC,← rD]
  exact ⟨rfl,S2,e2⟩

structure EnQ (u:World) (S:Nat→Prop) (g cg lg dg:Nat) (P:Nat→Int) (G:Geo) (X:Grp) (N:Nat→Option Nt) (C:Cac) (L:Lg) (D:Dev) (bx:Nat) (a6:Option Addr) (eQ:Nat→Option (List Int)) (k:Nat) (w:World) (S':Nat→Prop) (Q:Nat→Option (List Int)):Prop where
 en:EnV u S g cg lg dg P G { X with Q:=Q } C L D bx a6 (lstI (isK N 1) G.n) w S'
 rQ:ownQ N ((lstX (isK N 1) G.n).drop k) Q=eQ

theorem EnQ.step {u:World} {S:Nat→Prop} {g cg lg dg:Nat} {P:Nat→Int} {G:Geo} {X:Grp} {N:Nat→Option Nt} {C:Cac} {L:Lg} {D:Dev} {bx:Nat} {a6:Option Addr} {eQ:Nat→Option (List Int)} {k:Nat} {w:World} {S':Nat→Prop} {Q:Nat→Option (List Int)} (h:EnQ u S g cg lg dg P G X N C L D bx a6 eQ k w S' Q) (eN:X.N=some N) (hk:k < (lstX (isK N 1) G.n).length) :
  ∃ kb off b,a6=some ⟨kb,off,none⟩∧w.cell? ⟨kb,off + k,none⟩=some (.int .i64 ((b:Nat):Int))∧w.cell? ⟨bx,0,none⟩=some (.pointer (some ⟨g,0,none⟩))∧∃ lb nb r1 r2,w.cell? ⟨g,16,none⟩=some (.map (some lb))∧w.cell? ⟨X.o,1,none⟩=some (.map (some nb)) ∧
   (Instr.lookup 158 (.map (some nb)) (.int .i64 (b:Int)) false).run Tryz.prog w.drew=.ok (.agg #[.int .i64 1,.slice (some ⟨r1,0,none⟩) G.blk r2]) w.drew ∧
   ∃ w2,(Instr.mapUpdate 121 (.map (some lb)) (.int .i64 (b:Int)) (.slice (some ⟨r1,0,none⟩) G.blk r2)).run Tryz.prog w.drew=.ok () w2∧Hid (∃ S2 Q2,EnQ u S g cg lg dg P G X N C L D bx a6 eQ (k + 1) w2 S2 Q2):=by
 obtain ⟨kb,off,b,ea,c1,hb⟩:=h.en.ls.at hk
 obtain ⟨hbn,hbk⟩:=mem_lstX.1 (List.mem_of_getElem? hb)
 obtain ⟨t,et,tk,tz⟩:=isK_z hbk
 obtain ⟨Sg,Sc,Sl,Sd,m,mk,ml,z⟩:=h.en.gv
 have z1:=z.below ((Below.refl _ w).drew)
 have hG:=z.gr.pg.ok
 have o1:=z.gr.opn N eN
 have o2:=z1.gr.opn N eN
 have lk:=o2.nts.at hG.n2 hbn et
 unfold nv at lk
 simp only [tk] at lk
 have hrow:=o2.nts.row b t hbn et (by omega)
 have hd:(lstX (isK N 1) G.n).drop k=b :: (lstX (isK N 1) G.n).drop (k + 1):=by
  rw [List.drop_eq_getElem_cons hk]
  congr 1
  rw [List.getElem?_eq_getElem hk] at hb
  exact Option.some.inj hb
 have rQ:=h.rQ
 rw [hd] at rQ
 unfold ownQ at rQ
 obtain ⟨w2,r2,l2,T⟩:=z1.gr.log.put hG.n2 hbn hrow
 have g2:=z1.gr.logT T l2
 obtain ⟨S2,a2,x2,_⟩:=z1.own g2 (T.nx z1.gr.log.sm) z1.seen
 refine ⟨kb,off,b,ea,c1,h.en.bo.cell 0 _ rfl,m.lb,m.nb,(m.NA b).1,(m.NA b).2,z.gr.cells.2.2.2.2.2.1,o1.str.cell (i:=1) (by omega),lk,w2,r2,S2,_,(h.en.below ((Below.refl _ w).drew)).next a2.gv x2,?_⟩
 rw [tz] at rQ
 exact rQ

theorem free_any {u:World} {S:Nat→Prop} {g cg lg dg:Nat} {P:Nat→Int} {G:Geo} {X:Grp} {C:Cac} {L:Lg} {D:Dev} (h:Gv u S g cg lg dg P G X C L D) {b:Nat} (hb:b < G.n) :
  Calls Tryz.prog 136 #[.pointer (some ⟨g,0,none⟩),.int .i64 (b:Int)] u fun e w'=>e=.returned (.tuple #[])∧Hid (∃ S',Gv w' S' g cg lg dg P G { X with Q:=fun j=>if j=b then none else X.Q j,F:=fun j=>if j=b then true else X.F j } (C.dr b) L D∧Nx S u S' w'):=by
 obtain ⟨Sg,Sc,Sl,Sd,m,mk,ml,h⟩:=h
 have hn:=h.gr.pg.ok.n2
 have c2:=h.gr.cells.2.2.1
 have KD:Hid (Calls Tryz.prog 207 #[.pointer (some ⟨cg,0,none⟩),.int .i64 (b:Int)] u fun e w1=>∃ eE,e=.returned (.int .i64 eE)∧w1.cell? ⟨g,16,none⟩=some (.map (some m.lb))∧∃ w2,Hid (∀ ty,(Builtin.delete_ #[121,3] ty #[.map (some m.lb),.int .i64 (b:Int)]).run Tryz.prog w1=.ok (.tuple #[]) w2)∧w2.cell? ⟨g,17,none⟩=some (.map (some m.fb))∧∃ w3,Hid ((Instr.mapUpdate 155 (.map (some m.fb)) (.int .i64 (b:Int)) (.agg #[])).run Tryz.prog w2=.ok () w3) ∧
   Hid (∃ S',Gv w3 S' g cg lg dg P G { X with Q:=fun j=>if j=b then none else X.Q j,F:=fun j=>if j=b then true else X.F j } (C.dr b) L D∧Nx S u S' w3)):=by
  refine (kdrop_any cg dg b _ C D u h.kv.kv (by rw [h.nd]; exact hb)).mono ?_
  rintro e w1 ⟨eE,rfl,S1,k1,x1⟩
  obtain ⟨S2,Sc2,Sd2,mk2,a2,x2,_⟩:=h.cache k1 x1 ⟨rfl,rfl⟩
  obtain ⟨w2,r2,l2,T2⟩:=a2.gr.log.del hn hb
  have g2:=a2.gr.logT T2 l2
  obtain ⟨w3,r3,l3,T3⟩:=g2.fre.put hn hb
  have g3:=g2.freT T3 l3
  obtain ⟨S3,a3,x3,_⟩:=a2.own g3 ((T2.nx a2.gr.log.sm).trans (T3.nx g2.fre.sm)) a2.seen
  exact ⟨eE,rfl,a2.gr.cells.2.2.2.2.2.1,w2,r2,g2.cells.2.2.2.2.2.2.1,w3,r3,S3,a3.gv,x2.trans x3⟩
 clear h hn
 generalize m.lb=lb at *
 generalize m.fb=fb at *
 generalize { X with Q:=fun j=>if j=b then none else X.Q j,F:=fun j=>if j=b then true else X.F j }=X' at *
 generalize C.dr b=C' at *
 generalize (b:Int)=bi at *
 go_enter Tryz.func136,Tryz.ntmps136
 go_wp2_with fail
 go_at_call 207
 refine (unhide KD).mono ?_
 rintro e w1 ⟨eE,rfl,x1,w2,r2,x2,w3,r3,Z⟩
 clear KD c2
 go_wp2_with (first | (at_delete; refine wpList_delete_run 121 3 rfl _ _ rfl _ _ rfl rfl (unhide r2) ?_; clear r2) | (at_mapUpdate; refine wpList_mapUpdate_run 155 rfl _ _ _ rfl _ _ _ rfl rfl rfl (unhide r3) ?_; clear r3))
 go_end0
 exact ⟨rfl,Z⟩

structure EnF (u:World) (S:Nat→Prop) (g cg lg dg:Nat) (P:Nat→Int) (G:Geo) (X:Grp) (N:Nat→Option Nt) (L:Lg) (D:Dev) (bx:Nat) (a6:Option Addr) (l6:List Int) (a4:Option Addr) (eQ:Nat→Option (List Int)) (eF:Nat→Bool) (eC:Cac) (k:Nat) (w:World) (S':Nat→Prop) (Q:Nat→Option (List Int)) (F:Nat→Bool) (C:Cac):Prop where
 en:EnV u S g cg lg dg P G { X with Q:=Q,F:=F } C L D bx a6 l6 w S'
 ls:Ls w S' a4 (lstI (isK N 3) G.n)
 rQ:freQ ((lstX (isK N 3) G.n).drop k) Q=eQ
 rF:freF ((lstX (isK N 3) G.n).drop k) F=eF
 rC:freC ((lstX (isK N 3) G.n).drop k) C=eC

theorem EnF.step {u:World} {S:Nat→Prop} {g cg lg dg:Nat} {P:Nat→Int} {G:Geo} {X:Grp} {N:Nat→Option Nt} {L:Lg} {D:Dev} {bx:Nat} {a6:Option Addr} {l6:List Int} {a4:Option Addr} {eQ:Nat→Option (List Int)} {eF:Nat→Bool} {eC:Cac} {k:Nat} {w:World} {S':Nat→Prop} {Q:Nat→Option (List Int)} {F:Nat→Bool} {C:Cac} (h:EnF u S g cg lg dg P G X N L D bx a6 l6 a4 eQ eF eC k w S' Q F C) (hk:k < (lstX (isK N 3) G.n).length) :
  ∃ kb off b,a4=some ⟨kb,off,none⟩∧w.cell? ⟨kb,off + k,none⟩=some (.int .i64 ((b:Nat):Int))∧w.cell? ⟨bx,0,none⟩=some (.pointer (some ⟨g,0,none⟩)) ∧
   Hid (Calls Tryz.prog 136 #[.pointer (some ⟨g,0,none⟩),.int .i64 (b:Int)] w fun e w2=>e=.returned (.tuple #[])∧Hid (∃ S2 Q2 F2 C2,EnF u S g cg lg dg P G X N L D bx a6 l6 a4 eQ eF eC (k + 1) w2 S2 Q2 F2 C2)):=by
 obtain ⟨kb,off,b,ea,c1,hb⟩:=h.ls.at hk
 obtain ⟨hbn,hbk⟩:=mem_lstX.1 (List.mem_of_getElem? hb)
 have hd:(lstX (isK N 3) G.n).drop k=b :: (lstX (isK N 3) G.n).drop (k + 1):=by
  rw [List.drop_eq_getElem_cons hk]
  congr 1
  rw [List.getElem?_eq_getElem hk] at hb
  exact Option.some.inj hb
 have rQ:=h.rQ
 have rF:=h.rF
 have rC:=h.rC
 rw [hd] at rQ rF rC
 unfold freQ at rQ
 unfold freF at rF
 unfold freC at rC
 refine ⟨kb,off,b,ea,c1,h.en.bo.cell 0 _ rfl,(free_any h.en.gv hbn).mono ?_⟩
 rintro e w2 ⟨rfl,Y⟩
 obtain ⟨S2,g2,x2⟩:=unhide Y
 exact ⟨rfl,S2,_,_,_,h.en.next g2 x2,h.ls.nx x2,rQ,rF,rC⟩

end Go.Proofs.YtdfanhjnkjdngaaGreatDoor

/- End of an operation. -/
namespace Go.Proofs.YtdfanhjnkjdngaaGreatDoor
set_option maxRecDepth 100000
set_option maxHeartbeats 8000000
open Go.RowKit Go.Shelf Go.Maps
set_option linter.unusedVariables false

theorem fld_note (w:World) (k:Int) (a:Option Addr) (n c:Nat):(Instr.field 167 (.agg #[.int .i64 k,.slice a n c]) 1).run Tryz.prog w=.ok (.slice a n c) w:=by kernel_rfl

theorem filt_two (p q:Nat→Bool):∀ (l:List Nat),(∀ x,¬ (p x=true∧q x=true))→(l.filter p).length + (l.filter q).length ≤ l.length
 | [],_=>by simp
 | x :: r,h=>by
  have ih:=filt_two p q r h
  have hx:=h x
  cases hp:p x <;> cases hq:q x <;> simp [hp,hq] at hx ⊢ <;> omega

def EnS (u:World) (S:Nat→Prop) (g cg lg dg:Nat) (P:Nat→Int) (G:Geo) (o:Nat) (R:Int × Grp × Cac × Lg × Dev) (eE:Int) (w':World):Prop :=
 eE=R.1∧∃ X' S',X'.o=o∧(∃ N',X'.N=some N')∧R.2.1={ X' with N:=none }∧Gv w' S' g cg lg dg P G X' R.2.2.1 R.2.2.2.1 R.2.2.2.2∧Nx S u S' w'

def EnJ (u:World) (S:Nat→Prop) (g cg lg dg:Nat) (P:Nat→Int) (G:Geo) (o:Nat) (R:Int × Grp × Cac × Lg × Dev) (a':Act) (w':World):Prop :=
 ∃ eE:Int,EnS u S g cg lg dg P G o R eE w'∧∃ f:Nat→Value,a'={ tmps:=#[.pointer (some ⟨o,0,none⟩),f 1,f 2,f 3,f 4,.int .i64 eE,f 6,f 7,f 8,f 9,f 10,f 11,f 12,f 13,f 14,f 15,f 16,f 17,f 18,f 19,f 20,f 21,f 22,f 23,f 24,f 25,f 26,f 27,f 28,f 29,f 30,f 31,f 32,f 33,f 34,f 35,f 36,f 37,f 38,f 39,f 40,f 41,f 42,f 43,f 44,f 45,f 46,f 47,f 48,f 49,f 50,f 51,f 52,f 53,f 54,f 55,f 56,f 57,f 58,f 59,f 60,f 61,f 62,f 63,f 64,f 65,f 66,f 67,f 68,f 69,f 70,f 71,f 72,f 73,f 74,f 75,f 76,f 77,f 78,f 79,f 80,f 81,f 82,f 83,f 84,f 85,f 86,f 87,f 88,f 89,f 90,f 91,f 92,f 93,f 94,f 95,f 96,f 97,f 98,f 99,f 100,f 101,f 102,f 103,f 104,f 105,f 106,f 107,f 108,f 109,f 110,f 111,f 112,f 113],defers:=[] }

theorem EnJ.mk {u:World} {S:Nat→Prop} {g cg lg dg:Nat} {P:Nat→Int} {G:Geo} {o:Nat} {R:Int × Grp × Cac × Lg × Dev} {eE:Int} {w':World} (h:EnS u S g cg lg dg P G o R eE w') {u1 u2 u3 u4 u6 u7 u8 u9 u10 u11 u12 u13 u14 u15 u16 u17 u18 u19 u20 u21 u22 u23 u24 u25 u26 u27 u28 u29 u30 u31 u32 u33 u34 u35 u36 u37 u38 u39 u40 u41 u42 u43 u44 u45 u46 u47 u48 u49 u50 u51 u52 u53 u54 u55 u56 u57 u58 u59 u60 u61 u62 u63 u64 u65 u66 u67 u68 u69 u70 u71 u72 u73 u74 u75 u76 u77 u78 u79 u80 u81 u82 u83 u84 u85 u86 u87 u88 u89 u90 u91 u92 u93 u94 u95 u96 u97 u98 u99 u100 u101 u102 u103 u104 u105 u106 u107 u108 u109 u110 u111 u112 u113:Value} :
  EnJ u S g cg lg dg P G o R { tmps:=#[.pointer (some ⟨o,0,none⟩),u1,u2,u3,u4,.int .i64 eE,u6,u7,u8,u9,u10,u11,u12,u13,u14,u15,u16,u17,u18,u19,u20,u21,u22,u23,u24,u25,u26,u27,u28,u29,u30,u31,u32,u33,u34,u35,u36,u37,u38,u39,u40,u41,u42,u43,u44,u45,u46,u47,u48,u49,u50,u51,u52,u53,u54,u55,u56,u57,u58,u59,u60,u61,u62,u63,u64,u65,u66,u67,u68,u69,u70,u71,u72,u73,u74,u75,u76,u77,u78,u79,u80,u81,u82,u83,u84,u85,u86,u87,u88,u89,u90,u91,u92,u93,u94,u95,u96,u97,u98,u99,u100,u101,u102,u103,u104,u105,u106,u107,u108,u109,u110,u111,u112,u113],defers:=[] } w':=⟨eE,h,fun k=>[undef,u1,u2,u3,u4,undef,u6,u7,u8,u9,u10,u11,u12,u13,u14,u15,u16,u17,u18,u19,u20,u21,u22,u23,u24,u25,u26,u27,u28,u29,u30,u31,u32,u33,u34,u35,u36,u37,u38,u39,u40,u41,u42,u43,u44,u45,u46,u47,u48,u49,u50,u51,u52,u53,u54,u55,u56,u57,u58,u59,u60,u61,u62,u63,u64,u65,u66,u67,u68,u69,u70,u71,u72,u73,u74,u75,u76,u77,u78,u79,u80,u81,u82,u83,u84,u85,u86,u87,u88,u89,u90,u91,u92,u93,u94,u95,u96,u97,u98,u99,u100,u101,u102,u103,u104,u105,u106,u107,u108,u109,u110,u111,u112,u113].getD k undef,rfl⟩

def EnM (u:World) (S:Nat→Prop) (g cg lg dg:Nat) (P:Nat→Int) (G:Geo) (o:Nat) (N:Nat→Option Nt) (R:Int × Grp × Cac × Lg × Dev) (bx:Nat) (a6:Option Addr) (w:World):Prop :=
 ∃ X1 C1 L1 D1 S1,EnV u S g cg lg dg P G X1 C1 L1 D1 bx a6 (lstI (isK N 1) G.n) w S1∧X1.N=some N∧X1.o=o∧R=enT G X1 N C1 L1 D1

def EnO (u:World) (S:Nat→Prop) (g cg lg dg:Nat) (P:Nat→Int) (G:Geo) (o:Nat) (N:Nat→Option Nt) (R:Int × Grp × Cac × Lg × Dev) (bx:Nat) (a6:Option Addr) (k:Nat) (w:World):Prop :=
 ∃ X1 C1 L1 D1 eQ S1 Q1,EnQ u S g cg lg dg P G X1 N C1 L1 D1 bx a6 eQ k w S1 Q1∧X1.N=some N∧X1.o=o∧R=(0,{ X1 with Q:=freQ (lstX (isK N 3) G.n) eQ,F:=freF (lstX (isK N 3) G.n) X1.F,N:=none },freC (lstX (isK N 3) G.n) C1,L1,D1)

def EnG (u:World) (S:Nat→Prop) (g cg lg dg:Nat) (P:Nat→Int) (G:Geo) (o:Nat) (N:Nat→Option Nt) (R:Int × Grp × Cac × Lg × Dev) (bx:Nat) (a6 a4:Option Addr) (k:Nat) (w:World):Prop :=
 ∃ X1 L1 D1 eQ eF eC S1 Q1 F1 C1,EnF u S g cg lg dg P G X1 N L1 D1 bx a6 (lstI (isK N 1) G.n) a4 eQ eF eC k w S1 Q1 F1 C1∧X1.N=some N∧X1.o=o∧R=(0,{ X1 with Q:=eQ,F:=eF,N:=none },eC,L1,D1)

def EnD (u:World) (S:Nat→Prop) (g cg lg dg:Nat) (P:Nat→Int) (G:Geo) (o:Nat) (N:Nat→Option Nt) (R:Int × Grp × Cac × Lg × Dev) (bx:Nat) (a6 a3:Option Addr) (k:Nat) (w:World):Prop :=
 ∃ X1 L1 eE eC eD S1 C1 D1,EnP u S g cg lg dg P G X1 N L1 bx a6 (lstI (isK N 1) G.n) a3 eE eC eD k w S1 C1 D1∧X1.N=some N∧X1.o=o∧(eE ≠ 0→R=(eE,{ X1 with N:=none },eC,L1,eD))∧(eE=0→R=(0,{ X1 with Q:=freQ (lstX (isK N 3) G.n) (ownQ N (lstX (isK N 1) G.n) X1.Q),F:=freF (lstX (isK N 3) G.n) X1.F,N:=none },freC (lstX (isK N 3) G.n) eC,L1,eD))

theorem EnM.data {u:World} {S:Nat→Prop} {g cg lg dg:Nat} {P:Nat→Int} {G:Geo} {o:Nat} {N:Nat→Option Nt} {R:Int × Grp × Cac × Lg × Dev} {bx:Nat} {a6:Option Addr} {w:World} (h:EnM u S g cg lg dg P G o N R bx a6 w) :
  Calls Tryz.prog 128 #[.pointer (some ⟨o,0,none⟩),.func (.func 133) #[] #[]] w fun e w'=>∃ a c,e=.returned (.slice a (lstX (isK N 2) G.n).length c)∧Hid (EnD u S g cg lg dg P G o N R bx a6 a 0 w'):=by
 obtain ⟨X1,C1,L1,D1,S1,hV,hN,ho,hR⟩:=h
 rw [← ho]
 refine (hV.those3 hN).mono ?_
 rintro e w' ⟨a,c,rfl,Y⟩
 obtain ⟨e1,l1⟩:=unhide Y
 refine ⟨a,c,rfl,X1,L1,_,_,_,S1,C1,D1,⟨e1,l1,rfl,rfl,rfl⟩,hN,rfl,fun hne=>?_,fun h0=>?_⟩
 ·rw [List.drop_zero] at hne ⊢
  rw [hR]
  unfold enT
  rw [if_pos hne]
 ·rw [List.drop_zero] at h0 ⊢
  rw [hR]
  unfold enT
  rw [if_neg (by omega)]

theorem EnD.step {u:World} {S:Nat→Prop} {g cg lg dg:Nat} {P:Nat→Int} {G:Geo} {o:Nat} {N:Nat→Option Nt} {R:Int × Grp × Cac × Lg × Dev} {bx:Nat} {a6 a3:Option Addr} {k:Nat} {w:World} (h:EnD u S g cg lg dg P G o N R bx a6 a3 k w) (hk:k < (lstX (isK N 2) G.n).length) :
  ∃ kb off b,a3=some ⟨kb,off,none⟩∧w.cell? ⟨kb,off + k,none⟩=some (.int .i64 ((b:Nat):Int))∧w.cell? ⟨bx,0,none⟩=some (.pointer (some ⟨g,0,none⟩))∧w.cell? ⟨g,2,none⟩=some (.pointer (some ⟨cg,0,none⟩))∧∃ nb r1 r2,w.cell? ⟨o,1,none⟩=some (.map (some nb)) ∧
   (Instr.lookup 158 (.map (some nb)) (.int .i64 (b:Int)) false).run Tryz.prog w.drew=.ok (.agg #[.int .i64 2,.slice (some ⟨r1,0,none⟩) G.blk r2]) w.drew ∧
   Hid (Calls Tryz.prog 134 #[.pointer (some ⟨cg,0,none⟩),.int .i64 (b:Int),.slice (some ⟨r1,0,none⟩) G.blk r2] w.drew fun e w2=>∃ e2,e=.returned (.int .i64 e2)∧(e2=0→Hid (EnD u S g cg lg dg P G o N R bx a6 a3 (k + 1) w2))∧(e2 ≠ 0→Hid (EnS u S g cg lg dg P G o R e2 w2))):=by
 obtain ⟨X1,L1,eE,eC,eD,S1,C1,D1,hP,hN,ho,h7,h0⟩:=h
 obtain ⟨kb,off,b,ea,c1,c2,c3,nb,r1,r2,c4,lk,KP⟩:=hP.step hN hk
 rw [ho] at c4
 refine ⟨kb,off,b,ea,c1,c2,c3,nb,r1,r2,c4,lk,(unhide KP).mono ?_⟩
 rintro e w2 ⟨e2,rfl,Z0,Z7⟩
 refine ⟨e2,rfl,fun he=>?_,fun he=>?_⟩
 ·obtain ⟨S2,C2,D2,hP2⟩:=unhide (Z0 he)
  exact ⟨X1,L1,eE,eC,eD,S2,C2,D2,hP2,hN,ho,h7,h0⟩
 ·obtain ⟨e3,S2,hV⟩:=unhide (Z7 he)
  rw [h7 (by omega)]
  exact ⟨e3,X1,S2,ho,⟨N,hN⟩,rfl,hV.gv,hV.nx⟩

theorem EnD.done {u:World} {S:Nat→Prop} {g cg lg dg:Nat} {P:Nat→Int} {G:Geo} {o:Nat} {N:Nat→Option Nt} {R:Int × Grp × Cac × Lg × Dev} {bx:Nat} {a6 a3:Option Addr} {w:World} (h:EnD u S g cg lg dg P G o N R bx a6 a3 (lstX (isK N 2) G.n).length w):EnO u S g cg lg dg P G o N R bx a6 0 w:=by
 obtain ⟨X1,L1,eE,eC,eD,S1,C1,D1,hP,hN,ho,h7,h0⟩:=h
 have rE:=hP.rE
 have rC:=hP.rC
 have rD:=hP.rD
 rw [List.drop_length] at rE rC rD
 unfold ptsE at rE
 unfold ptsC at rC
 unfold ptsD at rD
 subst rC rD
 refine ⟨X1,C1,L1,D1,_,S1,X1.Q,⟨hP.en,rfl⟩,hN,ho,?_⟩
 rw [h0 rE.symm,List.drop_zero]

theorem EnO.step {u:World} {S:Nat→Prop} {g cg lg dg:Nat} {P:Nat→Int} {G:Geo} {o:Nat} {N:Nat→Option Nt} {R:Int × Grp × Cac × Lg × Dev} {bx:Nat} {a6:Option Addr} {k:Nat} {w:World} (h:EnO u S g cg lg dg P G o N R bx a6 k w) (hk:k < (lstX (isK N 1) G.n).length) :
  ∃ kb off b,a6=some ⟨kb,off,none⟩∧w.cell? ⟨kb,off + k,none⟩=some (.int .i64 ((b:Nat):Int))∧w.cell? ⟨bx,0,none⟩=some (.pointer (some ⟨g,0,none⟩))∧∃ lb nb r1 r2,w.cell? ⟨g,16,none⟩=some (.map (some lb))∧w.cell? ⟨o,1,none⟩=some (.map (some nb)) ∧
   (Instr.lookup 158 (.map (some nb)) (.int .i64 (b:Int)) false).run Tryz.prog w.drew=.ok (.agg #[.int .i64 1,.slice (some ⟨r1,0,none⟩) G.blk r2]) w.drew ∧
   ∃ w2,(Instr.mapUpdate 121 (.map (some lb)) (.int .i64 (b:Int)) (.slice (some ⟨r1,0,none⟩) G.blk r2)).run Tryz.prog w.drew=.ok () w2∧Hid (EnO u S g cg lg dg P G o N R bx a6 (k + 1) w2):=by
 obtain ⟨X1,C1,L1,D1,eQ,S1,Q1,hQ,hN,ho,hR⟩:=h
 obtain ⟨kb,off,b,ea,c1,c2,lb,nb,r1,r2,c3,c4,lk,w2,r3,Z⟩:=hQ.step hN hk
 rw [ho] at c4
 obtain ⟨S2,Q2,hQ2⟩:=unhide Z
 exact ⟨kb,off,b,ea,c1,c2,lb,nb,r1,r2,c3,c4,lk,w2,r3,X1,C1,L1,D1,eQ,S2,Q2,hQ2,hN,ho,hR⟩

theorem EnO.done {u:World} {S:Nat→Prop} {g cg lg dg:Nat} {P:Nat→Int} {G:Geo} {o:Nat} {N:Nat→Option Nt} {R:Int × Grp × Cac × Lg × Dev} {bx:Nat} {a6:Option Addr} {w:World} (h:EnO u S g cg lg dg P G o N R bx a6 (lstX (isK N 1) G.n).length w) :
  Calls Tryz.prog 128 #[.pointer (some ⟨o,0,none⟩),.func (.func 135) #[] #[]] w fun e w'=>∃ a c,e=.returned (.slice a (lstX (isK N 3) G.n).length c)∧Hid (EnG u S g cg lg dg P G o N R bx a6 a 0 w'):=by
 obtain ⟨X1,C1,L1,D1,eQ,S1,Q1,hQ,hN,ho,hR⟩:=h
 subst ho
 have rQ:=hQ.rQ
 rw [List.drop_length] at rQ
 unfold ownQ at rQ
 subst rQ
 refine (hQ.en.those4 (show ({ X1 with Q:=Q1 }:Grp).N=some N from hN)).mono ?_
 rintro e w' ⟨a,c,rfl,Y⟩
 obtain ⟨e1,l1⟩:=unhide Y
 exact ⟨a,c,rfl,X1,L1,D1,_,_,_,S1,Q1,X1.F,C1,⟨e1,l1,rfl,rfl,rfl⟩,hN,rfl,by rw [hR,List.drop_zero]⟩

theorem EnG.step {u:World} {S:Nat→Prop} {g cg lg dg:Nat} {P:Nat→Int} {G:Geo} {o:Nat} {N:Nat→Option Nt} {R:Int × Grp × Cac × Lg × Dev} {bx:Nat} {a6 a4:Option Addr} {k:Nat} {w:World} (h:EnG u S g cg lg dg P G o N R bx a6 a4 k w) (hk:k < (lstX (isK N 3) G.n).length) :
  ∃ kb off b,a4=some ⟨kb,off,none⟩∧w.cell? ⟨kb,off + k,none⟩=some (.int .i64 ((b:Nat):Int))∧w.cell? ⟨bx,0,none⟩=some (.pointer (some ⟨g,0,none⟩)) ∧
   Hid (Calls Tryz.prog 136 #[.pointer (some ⟨g,0,none⟩),.int .i64 (b:Int)] w fun e w2=>e=.returned (.tuple #[])∧Hid (EnG u S g cg lg dg P G o N R bx a6 a4 (k + 1) w2)):=by
 obtain ⟨X1,L1,D1,eQ,eF,eC,S1,Q1,F1,C1,hF,hN,ho,hR⟩:=h
 obtain ⟨kb,off,b,ea,c1,c2,KF⟩:=hF.step hk
 refine ⟨kb,off,b,ea,c1,c2,(unhide KF).mono ?_⟩
 rintro e w2 ⟨rfl,Z⟩
 obtain ⟨S2,Q2,F2,C2,hF2⟩:=unhide Z
 exact ⟨rfl,X1,L1,D1,eQ,eF,eC,S2,Q2,F2,C2,hF2,hN,ho,hR⟩

theorem EnG.done {u:World} {S:Nat→Prop} {g cg lg dg:Nat} {P:Nat→Int} {G:Geo} {o:Nat} {N:Nat→Option Nt} {R:Int × Grp × Cac × Lg × Dev} {bx:Nat} {a6 a4:Option Addr} {w:World} (h:EnG u S g cg lg dg P G o N R bx a6 a4 (lstX (isK N 3) G.n).length w):EnS u S g cg lg dg P G o R 0 w:=by
 obtain ⟨X1,L1,D1,eQ,eF,eC,S1,Q1,F1,C1,hF,hN,ho,hR⟩:=h
 have rQ:=hF.rQ
 have rF:=hF.rF
 have rC:=hF.rC
 rw [List.drop_length] at rQ rF rC
 unfold freQ at rQ
 unfold freF at rF
 unfold freC at rC
 subst rQ rF rC
 rw [hR]
 exact ⟨rfl,{ X1 with Q:=Q1,F:=F1 },S1,ho,⟨N,hN⟩,rfl,hF.en.gv,hF.en.nx⟩

theorem oend_any {u:World} {S:Nat→Prop} {g cg lg dg:Nat} {P:Nat→Int} {G:Geo} {X:Grp} {C:Cac} {L:Lg} {D:Dev} (h:Gv u S g cg lg dg P G X C L D) {N:Nat→Option Nt} (eN:X.N=some N) :
  Calls Tryz.prog 46 #[.pointer (some ⟨X.o,0,none⟩)] u fun e w'=>e=.returned (.int .i64 (endR G X N C L D).1)∧Hid (∃ S',Gv w' S' g cg lg dg P G (endR G X N C L D).2.1 (endR G X N C L D).2.2.1 (endR G X N C L D).2.2.2.1 (endR G X N C L D).2.2.2.2∧Nx S u S' w'∧Over w' S' g X.o):=by
 obtain ⟨R,hR⟩:∃ R,R=endR G X N C L D:=⟨_,rfl⟩
 rw [← hR]
 have K0:Hid (Calls Tryz.prog 126 #[.pointer (some ⟨X.o,0,none⟩)] u fun e w'=>e=.returned (.int .i64 0)∧u=w'):=by
  obtain ⟨_,_,hg,_⟩:=h.gr
  exact orefuses_open hg eN
 obtain ⟨o0,KS⟩:=en_start h eN
 have hn:G.n ≤ 4096:=by obtain ⟨_,_,hg,_⟩:=h.gr; exact hg.pg.ok.n2
 have hl1:=lstX_len (isK N 1) G.n
 have hl2:=lstX_len (isK N 2) G.n
 have hl3:=lstX_len (isK N 3) G.n
 have hlm:=lstX_len (isM N X.Q) G.n
 have hlp:=pendL_len G X.Q
 have hls:(pendL G X.Q).length + (lstX (isM N X.Q) G.n).length ≤ 4096:=by
  have:=filt_two (fun b=>(X.Q b).isSome) (isM N X.Q) (List.range G.n) (fun x hx=>by
   obtain ⟨h1,h2⟩:=hx
   unfold isM at h2
   cases e:X.Q x <;> simp [e] at h1 h2)
  rw [List.length_range] at this
  unfold pendL lstX
  omega
 have KL:Hid (∀ a6 w,(∃ S',EnV u S g cg lg dg P G X C L D u.heap.size a6 (lstI (isK N 1) G.n) w S')→G.lg < G.uses (lstX (isK N 1) G.n).length→EnS u S g cg lg dg P G X.o R 5 w):=fun a6 w ⟨S',hV⟩ hlt=>by
  have:R=(5,{ X with N:=none },C,L,D):=by rw [hR]; unfold endR; rw [if_pos hlt]
  rw [this]
  exact ⟨rfl,X,S',rfl,⟨N,eN⟩,rfl,hV.gv,hV.nx⟩
 have KA:Hid (∀ a6 w,(∃ S',EnV u S g cg lg dg P G X C L D u.heap.size a6 (lstI (isK N 1) G.n) w S')→∃ lb,Hid (∀ v,Below w.heap.size w v→Hid (Below w.heap.size w v)∧v.cell? ⟨u.heap.size,0,none⟩=some (.pointer (some ⟨g,0,none⟩))∧v.cell? ⟨g,6,none⟩=some (.int .i64 (G.lg:Int))∧v.cell? ⟨g,16,none⟩=some (.map (some lb))∧∀ ty,(Builtin.len_ #[121] ty #[.map (some lb)]).run Tryz.prog v=.ok (.int .i64 ((pendL G X.Q).length:Int)) v) ∧
   Hid (∀ (n:Nat) v,n ≤ 4096→Below w.heap.size w v→Calls Tryz.prog 131 #[.pointer (some ⟨g,0,none⟩),.int .i64 (n:Int)] v fun e w'=>e=.returned (.int .i64 (G.uses n:Int))∧Hid (Below w.heap.size w w'))∧Hid (∀ v,Below w.heap.size w v→∃ S',EnV u S g cg lg dg P G X C L D u.heap.size a6 (lstI (isK N 1) G.n) v S')):=fun a6 w ⟨S',hV⟩=>by
  obtain ⟨lb,k1,k2⟩:=hV.ask
  exact ⟨lb,k1,k2,fun v hv=>⟨S',hV.below hv⟩⟩
 have KM0:Hid (∀ a6 w,(∃ S',EnV u S g cg lg dg P G X C L D u.heap.size a6 (lstI (isK N 1) G.n) w S')→¬ G.lg < G.uses (lstX (isK N 1) G.n).length→¬ G.lg < G.uses ((pendL G X.Q).length + (lstX (isM N X.Q) G.n).length)→EnM u S g cg lg dg P G X.o N R u.heap.size a6 w):=fun a6 w ⟨S',hV⟩ h1 h2=>by
  refine ⟨X,C,L,D,S',hV,eN,rfl,?_⟩
  have e1:enR G X N C L D=(0,X,C,L,D):=by unfold enR; rw [if_neg h2]
  rw [hR]
  unfold endR
  rw [if_neg h1,e1,if_neg (by simp)]
 have KM1:Hid (∀ a6 w,(∃ S',EnV u S g cg lg dg P G X C L D u.heap.size a6 (lstI (isK N 1) G.n) w S')→¬ G.lg < G.uses (lstX (isK N 1) G.n).length→G.lg < G.uses ((pendL G X.Q).length + (lstX (isM N X.Q) G.n).length)→w.cell? ⟨u.heap.size,0,none⟩=some (.pointer (some ⟨g,0,none⟩))∧Hid (Calls Tryz.prog 132 #[.pointer (some ⟨g,0,none⟩)] w fun e w'=>∃ e2,e=.returned (.int .i64 e2)∧(e2=0→Hid (EnM u S g cg lg dg P G X.o N R u.heap.size a6 w'))∧(e2 ≠ 0→Hid (EnS u S g cg lg dg P G X.o R e2 w')))):=fun a6 w ⟨S',hV⟩ h1 h2=>by
  obtain ⟨x1,x2⟩:=hV.commit
  refine ⟨x1,(unhide x2).mono ?_⟩
  rintro e w' ⟨rfl,Y⟩
  obtain ⟨S2,hV2⟩:=unhide Y
  have e1:enR G X N C L D=((cmm G X C L D).1,(if (cmm G X C L D).1=0 then X.clr else X),(cmm G X C L D).2.1,(cmm G X C L D).2.2.1,(cmm G X C L D).2.2.2):=by unfold enR; rw [if_pos h2]
  refine ⟨_,rfl,fun h0=>?_,fun h0=>?_⟩
  ·rw [if_pos h0] at hV2 e1
   refine ⟨X.clr,_,_,_,S2,hV2,eN,rfl,?_⟩
   rw [hR]
   unfold endR
   rw [if_neg h1,e1,if_neg (by simpa using h0)]
  ·rw [if_neg h0] at hV2 e1
   have:R=((cmm G X C L D).1,{ X with N:=none },(cmm G X C L D).2.1,(cmm G X C L D).2.2.1,(cmm G X C L D).2.2.2):=by
    rw [hR]
    unfold endR
    rw [if_neg h1,e1,if_pos (by simpa using h0)]
   rw [this]
   exact ⟨rfl,X,S2,rfl,⟨N,eN⟩,rfl,hV2.gv,hV2.nx⟩
 have KD:Hid (∀ a6 w,EnM u S g cg lg dg P G X.o N R u.heap.size a6 w→_):=fun a6 w hM=>hM.data
 have KD1:Hid (∀ a6 a3 k w,EnD u S g cg lg dg P G X.o N R u.heap.size a6 a3 k w→k < (lstX (isK N 2) G.n).length→_):=fun a6 a3 k w hD hk=>hD.step hk
 have KD2:Hid (∀ a6 a3 w,EnD u S g cg lg dg P G X.o N R u.heap.size a6 a3 (lstX (isK N 2) G.n).length w→EnO u S g cg lg dg P G X.o N R u.heap.size a6 0 w):=fun a6 a3 w hD=>hD.done
 have KO1:Hid (∀ a6 k w,EnO u S g cg lg dg P G X.o N R u.heap.size a6 k w→k < (lstX (isK N 1) G.n).length→_):=fun a6 k w hD hk=>hD.step hk
 have KO2:Hid (∀ a6 w,EnO u S g cg lg dg P G X.o N R u.heap.size a6 (lstX (isK N 1) G.n).length w→_):=fun a6 w hD=>hD.done
 have KG1:Hid (∀ a6 a4 k w,EnG u S g cg lg dg P G X.o N R u.heap.size a6 a4 k w→k < (lstX (isK N 3) G.n).length→_):=fun a6 a4 k w hD hk=>hD.step hk
 have KG2:Hid (∀ a6 a4 w,EnG u S g cg lg dg P G X.o N R u.heap.size a6 a4 (lstX (isK N 3) G.n).length w→EnS u S g cg lg dg P G X.o R 0 w):=fun a6 a4 w hD=>hD.done
 have KE:Hid (∀ eE w',EnS u S g cg lg dg P G X.o R eE w'→eE=R.1∧Hid (Calls Tryz.prog 137 #[.pointer (some ⟨X.o,0,none⟩)] w' fun e w2=>e=.returned (.tuple #[])∧Hid (∃ S',Gv w2 S' g cg lg dg P G R.2.1 R.2.2.1 R.2.2.2.1 R.2.2.2.2∧Nx S u S' w2∧Over w2 S' g X.o))):=fun eE w' ⟨e1,X',S',ho,⟨N',hN'⟩,hX,gv,nx⟩=>by
  refine ⟨e1,?_⟩
  rw [← ho]
  refine (close_any gv hN').mono ?_
  rintro e w2 ⟨rfl,Y⟩
  obtain ⟨S2,g2,n2,o2⟩:=unhide Y
  rw [hX]
  exact ⟨rfl,S2,g2,nx.trans n2,o2⟩
 have hfd:=fld_note
 have hmf:∀ (fn:Fn) (first cap:Array Value) (w:World),(Instr.makeFunc fn first cap).run Tryz.prog w=.ok (.func fn first cap) w:=fun _ _ _ _=>rfl
 clear h hR eN
 generalize X.o=o at *
 generalize hn1:(lstX (isK N 1) G.n).length=n1 at *
 generalize hn2:(lstX (isK N 2) G.n).length=n2 at *
 generalize hn3:(lstX (isK N 3) G.n).length=n3 at *
 generalize hnm:(lstX (isM N X.Q) G.n).length=nm at *
 generalize hnp:(pendL G X.Q).length=np at *
 clear hn1 hn2 hn3 hnm hnp
 go_enter Tryz.func46,Tryz.ntmps46
 go_wp2
 refine wp_scope_one 0 (EnJ u S g cg lg dg P G o R) (fun _ _=>0) rfl ?_ ?_
 ·intro a' w' hJ
  clear K0 KS KL KA KM0 KM1 KD KD1 KD2 KO1 KO2 KG1 KG2 o0 hmf
  obtain ⟨eE,hS,f,rfl⟩:=hJ
  obtain ⟨e1,KC⟩:=unhide KE _ _ hS
  have E1:=hide e1
  clear KE hS e1
  go_wp2_with fail
  go_at_call 137
  refine (unhide KC).mono ?_
  rintro e w2 ⟨rfl,Z⟩
  clear KC
  go_wp2_with fail
  simp only [Exit.jump]
  go_ret
  exact ⟨by rw [← unhide E1]; rfl,Z⟩
 ·intro N0
  have N1:=hide N0
  clear N0 KE
  go_wp2_with fail
  go_at_call 126
  refine (unhide K0).mono ?_
  rintro e w' ⟨rfl,rfl⟩
  clear K0
  go_wp2_with fail
  go_at_call 128
  refine (unhide KS).mono ?_
  rintro e w2 ⟨a6,c6,rfl,KS2⟩
  clear KS
  go_wp2_with fail
  go_at_call 128
  refine (unhide KS2).mono ?_
  rintro e w3 ⟨a7,c7,rfl,Y3⟩
  obtain ⟨lb,B0,KU,KG⟩:=unhide KA a6 w3 (unhide Y3)
  have KL1:Hid (∀ v,Below w3.heap.size w3 v→G.lg < G.uses n1→EnS u S g cg lg dg P G o R 5 v):=fun v hv hlt=>unhide KL a6 v (unhide KG v hv) hlt
  have KN0:Hid (∀ v,Below w3.heap.size w3 v→¬ G.lg < G.uses n1→¬ G.lg < G.uses (np + nm)→EnM u S g cg lg dg P G o N R u.heap.size a6 v):=fun v hv h1 h2=>unhide KM0 a6 v (unhide KG v hv) h1 h2
  have KN1:Hid (∀ v,Below w3.heap.size w3 v→¬ G.lg < G.uses n1→G.lg < G.uses (np + nm)→_):=fun v hv h1 h2=>unhide KM1 a6 v (unhide KG v hv) h1 h2
  have KU1:Hid (∀ v,Below w3.heap.size w3 v→Calls Tryz.prog 131 #[.pointer (some ⟨g,0,none⟩),.int .i64 (n1:Int)] v fun e w'=>e=.returned (.int .i64 (G.uses n1:Int))∧Hid (Below w3.heap.size w3 w')):=fun v hv=>unhide KU n1 v (by omega) hv
  have KU2:Hid (∀ v,Below w3.heap.size w3 v→Calls Tryz.prog 131 #[.pointer (some ⟨g,0,none⟩),.int .i64 ((np:Int) + (nm:Int))] v fun e w'=>e=.returned (.int .i64 (G.uses (np + nm):Int))∧Hid (Below w3.heap.size w3 w')):=fun v hv=>by
   have:=unhide KU (np + nm) v hls hv
   rw [Int.natCast_add] at this
   exact this
  have hw:IntKind.i64.wrap ((np:Int) + (nm:Int))=(np:Int) + (nm:Int):=by rw [IntKind.wrap_i64]; omega
  have BB:Hid (∀ v,Below w3.heap.size w3 v→Below w3.heap.size w3 v.drew):=fun v hv=>hv.drew
  have B1:Hid (Below w3.heap.size w3 w3.drew):=(Below.refl _ w3).drew
  have HN1:Hid (n1 ≤ 4096):=by show n1 ≤ 4096; omega
  have HN2:Hid (n2 ≤ 4096):=by show n2 ≤ 4096; omega
  have HN3:Hid (n3 ≤ 4096):=by show n3 ≤ 4096; omega
  clear KS2 Y3 KL KA KM0 KM1 KU KG o0 hl1 hl2 hl3 hlm hlp hls hn hmf
  generalize u.heap.size=bx at *
  generalize G.uses n1=s1 at *
  generalize G.uses (np + nm)=s2 at *
  generalize G.lg=glg at *
  go_upto_region 7 with fail
  go_cut [37] (fun c wx=>c=.bool (decide (glg < s1))∧Hid (Below w3.heap.size w3 wx))
  case first=>as_aux_lemma =>
   clear KL1 KN0 KN1 KU2 KD KD1 KD2 KO1 KO2 KG1 KG2 N1 BB hw
   go_region_held3 (fun v=>Hid (Below w3.heap.size w3 v)∧v.cell? ⟨bx,0,none⟩=some (.pointer (some ⟨g,0,none⟩))∧v.cell? ⟨g,6,none⟩=some (.int .i64 (glg:Int))∧v.cell? ⟨g,16,none⟩=some (.map (some lb))∧∀ ty,(Builtin.len_ #[121] ty #[.map (some lb)]).run Tryz.prog v=.ok (.int .i64 (np:Int)) v)
    (with_reducible (first | exact unhide B0 _ (unhide B1) | exact unhide B0 _ (unhide JU)))
    ((go_at_call 131; refine (unhide KU1 _ (unhide (‹Hid (Below w3.heap.size w3 _)∧_›).1)).mono ?_; rintro e w4 ⟨rfl,JU⟩))
   all_goals
    go_wp2_with fail
    go_meet
    exact ⟨rfl,JU⟩
  case rest =>
   obtain ⟨rfl,B2⟩:=hcut
   rename_i wx
   clear KU1 B1
   by_cases h1:glg < s1
   ·have d1:decide (glg < s1)=true:=by simpa using h1
    rw [d1]
    have Z:=hide (unhide KL1 _ (unhide B2) h1)
    clear KL1 KN0 KN1 KU2 KD KD1 KD2 KO1 KO2 KG1 KG2 BB B0 B2 h1 d1
    go_wp2_with fail
    go_step3
    exact ⟨rfl,EnJ.mk (unhide Z)⟩
   ·have d1:decide (glg < s1)=false:=by simpa using h1
    rw [d1]
    have H1:=hide h1
    have B3:=hide (unhide BB _ (unhide B2))
    clear KL1 BB d1 h1
    go_upto_region 9 with fail
    go_cut [53] (fun c wy=>c=.bool (decide (glg < s2))∧Hid (Below w3.heap.size w3 wy))
    case first=>as_aux_lemma =>
     clear KN0 KN1 KD KD1 KD2 KO1 KO2 KG1 KG2 N1 H1 B2
     go_region_held3 (fun v=>Hid (Below w3.heap.size w3 v)∧v.cell? ⟨bx,0,none⟩=some (.pointer (some ⟨g,0,none⟩))∧v.cell? ⟨g,6,none⟩=some (.int .i64 (glg:Int))∧v.cell? ⟨g,16,none⟩=some (.map (some lb))∧∀ ty,(Builtin.len_ #[121] ty #[.map (some lb)]).run Tryz.prog v=.ok (.int .i64 (np:Int)) v)
      (with_reducible (first | exact unhide B0 _ (unhide B3) | exact unhide B0 _ (unhide JU)))
      ((go_at_call 131; refine (unhide KU2 _ (unhide (‹Hid (Below w3.heap.size w3 _)∧_›).1)).mono ?_; rintro e w4 ⟨rfl,JU⟩))
     all_goals
      go_wp2_with fail
      go_meet
      exact ⟨rfl,JU⟩
    case rest =>
     obtain ⟨rfl,B4⟩:=hcut
     rename_i wy
     clear KU2 B0 B2 B3 hw
     go_upto_if 53 with fail
     go_cut [5] (fun c wz=>c=.int .i64 0∧Hid (EnM u S g cg lg dg P G o N R bx a6 wz))
     case first =>
      clear KD KD1 KD2 KO1 KO2 KG1 KG2
      by_cases h2:glg < s2
      ·have d2:decide (glg < s2)=true:=by simpa using h2
       rw [d2]
       obtain ⟨x0,KC⟩:=unhide KN1 _ (unhide B4) (unhide H1) h2
       clear KN0 KN1 H1 B4 h2 d2
       go_wp2_with fail
       go_at_call 132
       refine (unhide KC).mono ?_
       rintro e w5 ⟨e2,rfl,Z0,Z7⟩
       clear KC x0
       by_cases h3:e2=0
       ·subst h3
        have Z:=Z0 rfl
        clear Z0 Z7 N1
        go_wp2_with fail
        go_meet
        exact ⟨rfl,Z⟩
       ·have d3:(e2 != 0)=true:=by simpa using h3
        have Z:=hide (unhide (Z7 h3))
        clear Z0 Z7 N1 h3
        go_wp2_with fail
        go_step3
        exact ⟨rfl,EnJ.mk (unhide Z)⟩
      ·have d2:decide (glg < s2)=false:=by simpa using h2
       rw [d2]
       have Z:=hide (unhide KN0 _ (unhide B4) (unhide H1) h2)
       clear KN0 KN1 H1 B4 h2 d2 N1
       go_wp2_with fail
       go_meet
       exact ⟨rfl,unhide Z⟩
     case rest =>
      obtain ⟨rfl,Y5⟩:=hcut
      rename_i wz
      clear KN0 KN1 H1 B4
      have KD0:=hide (unhide KD a6 _ (unhide Y5))
      clear KD Y5
      go_wp2_with fail
      go_at_call 128
      refine (unhide KD0).mono ?_
      rintro e w6 ⟨a3,c3,rfl,Y6⟩
      clear KD0
      have KP1:Hid (∀ k w,EnD u S g cg lg dg P G o N R bx a6 a3 k w→k < n2→_):=fun k w hD hk=>unhide KD1 a6 a3 k w hD hk
      have KP2:Hid (∀ w,EnD u S g cg lg dg P G o N R bx a6 a3 n2 w→EnO u S g cg lg dg P G o N R bx a6 0 w):=fun w hD=>unhide KD2 a6 a3 w hD
      clear KD1 KD2
      go_wp2_with fail
      go_loopw [5,61] (fun c i wr=>c=.int .i64 0∧∃ k:Nat,k ≤ n2∧i=.int .i64 (k:Int)∧Hid (EnD u S g cg lg dg P G o N R bx a6 a3 k wr)) (fun _ i _=>n2 - (intOf i).toNat)
      case atStart=>exact ⟨rfl,0,Nat.zero_le _,rfl,Y6⟩
      case round =>
       obtain ⟨rfl,k,hk,rfl,hJ⟩:=hrel
       have hn2:=unhide HN2
       clear Y6
       by_cases hlt:k < n2
       ·obtain ⟨kb,off,b,ea,x1,x2,x3,nb,r1,r2,x4,lk,KP⟩:=unhide KP1 k wr (unhide hJ) hlt
        clear KP1 KP2 KO1 KO2 KG1 KG2 hJ N1
        subst ea
        generalize (b:Int)=bi at *
        go_upto_region 15 with fail
        go_region_with (go_at_call 134; refine (unhide KP).mono ?_; rintro e w7 ⟨e2,rfl,Z0,Z7⟩)
        all_goals
         clear KP x1 x2 x3 x4 lk
         by_cases h3:e2=0
         ·subst h3
          have Z:=Z0 rfl
          clear Z0 Z7
          go_wp2_with fail
          go_roundw
          case rel=>exact ⟨rfl,k + 1,by omega,by go_num,Z⟩
          case measure=>simp [intOf]; omega
         ·have d3:(e2 != 0)=true:=by simpa using h3
          have Z:=hide (unhide (Z7 h3))
          clear Z0 Z7 h3
          go_wp2_with fail
          go_step3
          exact ⟨rfl,EnJ.mk (unhide Z)⟩
       ·have ek:k=n2:=by omega
        rw [ek] at hJ
        have Y7:=hide (unhide KP2 wr (unhide hJ))
        clear KP1 KP2 hJ hn2 HN2
        go_wp2_with fail
        go_loopw [83] (fun i wr=>∃ k:Nat,k ≤ n1∧i=.int .i64 (k:Int)∧Hid (EnO u S g cg lg dg P G o N R bx a6 k wr)) (fun i _=>n1 - (intOf i).toNat)
        case atStart=>exact ⟨0,Nat.zero_le _,rfl,Y7⟩
        case round =>
         obtain ⟨k2,hk2,rfl,hJ⟩:=hrel
         have hn1:=unhide HN1
         clear Y7
         by_cases hlt:k2 < n1
         ·obtain ⟨kb,off,b,ea,x1,x2,lb2,nb,r1,r2,x3,x4,lk,w8,rr,Z⟩:=unhide KO1 a6 k2 _ (unhide hJ) hlt
          clear KO1 KO2 KG1 KG2 hJ N1
          subst ea
          generalize (b:Int)=bi at *
          go_upto_region 21 with fail
          go_region
          clear x1 x2 x3 x4 lk rr
          go_wp2_with fail
          go_roundw
          case rel=>exact ⟨k2 + 1,by omega,by go_num,Z⟩
          case measure=>simp [intOf]; omega
         ·have ek2:k2=n1:=by omega
          rw [ek2] at hJ
          have KO:=hide (unhide KO2 a6 _ (unhide hJ))
          clear KO1 KO2 hJ hn1 HN1
          go_wp2_with fail
          go_at_call 128
          refine (unhide KO).mono ?_
          rintro e w9 ⟨a4,c4,rfl,Y9⟩
          clear KO
          go_wp2_with fail
          go_loopw [103] (fun i wr=>∃ k:Nat,k ≤ n3∧i=.int .i64 (k:Int)∧Hid (EnG u S g cg lg dg P G o N R bx a6 a4 k wr)) (fun i _=>n3 - (intOf i).toNat)
          case atStart=>exact ⟨0,Nat.zero_le _,rfl,Y9⟩
          case round =>
           obtain ⟨k3,hk3,rfl,hJ⟩:=hrel
           have hn3:=unhide HN3
           clear Y9
           by_cases hlt:k3 < n3
           ·obtain ⟨kb,off,b,ea,x1,x2,KF⟩:=unhide KG1 a6 a4 k3 _ (unhide hJ) hlt
            clear KG1 KG2 hJ N1
            subst ea
            generalize (b:Int)=bi at *
            go_wp2_with fail
            go_at_call 136
            refine (unhide KF).mono ?_
            rintro e w10 ⟨rfl,Z⟩
            clear KF x1 x2
            go_wp2_with fail
            go_roundw
            case rel=>exact ⟨k3 + 1,by omega,by go_num,Z⟩
            case measure=>simp [intOf]; omega
           ·have ek3:k3=n3:=by omega
            rw [ek3] at hJ
            have Z:=hide (unhide KG2 a6 a4 _ (unhide hJ))
            clear KG1 KG2 hJ
            go_wp2_with fail
            go_step3
            rename_i hK
            refine hK _ _ ?_
            exact unhide N1 _ _ (EnJ.mk (unhide Z))

end Go.Proofs.YtdfanhjnkjdngaaGreatDoor

/- Commit, Settle, Out; what an operation reads; Kept of no group; New. -/
namespace Go.Proofs.YtdfanhjnkjdngaaGreatDoor
set_option maxRecDepth 100000
set_option maxHeartbeats 8000000
open Go.RowKit Go.Shelf Go.Maps
set_option linter.unusedVariables false

theorem pcommit_any {u:World} {S:Nat→Prop} {g cg lg dg:Nat} {P:Nat→Int} {G:Geo} {X:Grp} {C:Cac} {L:Lg} {D:Dev} (h:Gv u S g cg lg dg P G X C L D) (eN:X.N=none) :
  Calls Tryz.prog 47 #[.pointer (some ⟨g,0,none⟩)] u fun e w'=>e=.returned (.int .i64 (cmm G X C L D).1)∧Hid (∃ S',Gv w' S' g cg lg dg P G (if (cmm G X C L D).1=0 then X.clr else X) (cmm G X C L D).2.1 (cmm G X C L D).2.2.1 (cmm G X C L D).2.2.2∧Nx S u S' w'):=by
 have K:=hide (gcommit_any h)
 obtain ⟨_,_,hg,_⟩:=h.gr
 have c15:=hg.cells.2.2.2.2.1
 rw [eN] at c15
 simp only [Option.map_none] at c15
 clear hg h eN
 generalize (if (cmm G X C L D).1=0 then X.clr else X)=X' at *
 generalize cmm G X C L D=R at *
 obtain ⟨R1,R2,R3,R4⟩:=R
 simp only at K ⊢
 go_enter Tryz.func47,Tryz.ntmps47
 go_wp2_with (go_at_call 132; refine (unhide K).mono ?_; rintro e w' ⟨rfl,Z⟩; clear K)
 go_ret
 exact ⟨rfl,Z⟩

def gouE (C:Cac) (D:Dev) (ns:List Nat):Int:=if outE ns C D=0 then (outD ns C D).wE else outE ns C D

def gouD (C:Cac) (D:Dev) (ns:List Nat):Dev:=if outE ns C D=0 then (outD ns C D).fD else outD ns C D

theorem gout_any {u:World} {S:Nat→Prop} {g cg lg dg:Nat} {P:Nat→Int} {G:Geo} {X:Grp} {C:Cac} {L:Lg} {D:Dev} (h:Gv u S g cg lg dg P G X C L D) (a:Option Addr) (cap:Nat) (zs:List Int) (hr:zs.length * 8 ≤ 140737488351232) (hI:IHas u a zs.length zs) (hz:∀ z ∈ zs,0 ≤ z∧z < G.n) :
  Calls Tryz.prog 51 #[.pointer (some ⟨g,0,none⟩),.slice a zs.length cap] u fun e w'=>e=.returned (.int .i64 (gouE C D (nums zs)))∧Hid (∃ S',Gv w' S' g cg lg dg P G X (outC (nums zs) C D) L (gouD C D (nums zs))∧Nx S u S' w'):=by
 have K:Hid (Calls Tryz.prog 141 #[.pointer (some ⟨cg,0,none⟩),.slice a zs.length cap] u fun e w1=>∃ e1,e=.returned (.int .i64 e1)∧(e1 ≠ 0→Hid (e1=gouE C D (nums zs)∧∃ S',Gv w1 S' g cg lg dg P G X (outC (nums zs) C D) L (gouD C D (nums zs))∧Nx S u S' w1)) ∧
   (e1=0→w1.cell? ⟨g,0,none⟩=some (.pointer (some ⟨dg,0,none⟩))∧Hid (Calls Tryz.prog 142 #[.pointer (some ⟨dg,0,none⟩)] w1 fun e w2=>e=.returned (.int .i64 (gouE C D (nums zs)))∧Hid (∃ S',Gv w2 S' g cg lg dg P G X (outC (nums zs) C D) L (gouD C D (nums zs))∧Nx S u S' w2)))):=by
  obtain ⟨Sg,Sc,Sl,Sd,m,mk,ml,z⟩:=h
  refine (out_kv cg dg _ C D u z.kv.kv a _ cap zs rfl hr hI (fun y hy=>by rw [z.nd]; exact hz y hy)).mono ?_
  rintro e w1 ⟨rfl,S1,k1,x1⟩
  obtain ⟨S2,Sc2,Sd2,mk2,a2,x2,_⟩:=z.cache k1 x1 (outD_n _ C D)
  refine ⟨_,rfl,fun hne=>?_,fun h0=>?_⟩
  ·unfold gouE gouD
   rw [if_neg hne,if_neg hne]
   exact ⟨rfl,S2,a2.gv,x2⟩
  ·unfold gouE gouD
   rw [if_pos h0,if_pos h0]
   obtain ⟨y1,y2⟩:=cm_flush a2.gv
   refine ⟨y1,(unhide y2).mono ?_⟩
   rintro e w2 ⟨rfl,Y2⟩
   obtain ⟨S3,g3,x3⟩:=unhide Y2
   exact ⟨rfl,S3,g3,x2.trans x3⟩
 obtain ⟨_,_,hg,_⟩:=h.gr
 have c2:=hg.cells.2.2.1
 clear h hr hI hz hg
 generalize gouE C D (nums zs)=eE at *
 generalize gouD C D (nums zs)=eD at *
 generalize outC (nums zs) C D=eC at *
 generalize zs.length=len at *
 go_enter Tryz.func51,Tryz.ntmps51
 go_wp2_with fail
 go_at_call 141
 refine (unhide K).mono ?_
 rintro e w1 ⟨e1,rfl,Z7,Z0⟩
 clear K c2
 by_cases h0:e1=0
 ·subst h0
  obtain ⟨c0,KF⟩:=Z0 rfl
  clear Z7 Z0
  go_wp2_with fail
  go_at_call 142
  refine (unhide KF).mono ?_
  rintro e w2 ⟨rfl,Z⟩
  clear KF
  go_wp2_with fail
  go_ret
  exact ⟨rfl,Z⟩
 ·have d1:(e1 != 0)=true:=by simpa using h0
  have Z:=hide (unhide (Z7 h0))
  clear Z7 Z0 h0
  go_wp2_with fail
  go_ret
  exact ⟨by rw [← (unhide Z).1]; rfl,(unhide Z).2⟩

end Go.Proofs.YtdfanhjnkjdngaaGreatDoor

/- A new group over a device, its log and its cache. -/
namespace Go.Proofs.YtdfanhjnkjdngaaGreatDoor
set_option maxRecDepth 100000
set_option maxHeartbeats 8000000
open Go.RowKit Go.Shelf Go.Maps
set_option linter.unusedVariables false

structure TriM (u:World) (S Sc Sl Sd:Nat→Prop) (cg lg dg:Nat) (P:Nat→Int) (G:Geo) (C:Cac) (L:Lg) (D:Dev) (mk:KMem) (ml:LMem):Prop where
 cc:CcM u Sc cg dg D.n D.blk C mk
 ll:LgM u Sl lg dg P G L ml
 dd:Dv u Sd dg D
 cl:∀ k,Sc k→¬ Sl k
 cd:∀ k,Sc k→¬ Sd k
 ld:∀ k,Sl k→¬ Sd k
 all:∀ k,S k ↔ (Sc k ∨ Sl k ∨ Sd k)
 bd:D.blk=G.blk
 nd:D.n=G.n
 tab:Tab u
 z0:¬ S 0

def Tri (u:World) (S:Nat→Prop) (cg lg dg:Nat) (P:Nat→Int) (G:Geo) (C:Cac) (L:Lg) (D:Dev):Prop:=∃ Sc Sl Sd mk ml,TriM u S Sc Sl Sd cg lg dg P G C L D mk ml

theorem tri_of {u w':World} {S S1 Sl Sd:Nat→Prop} {cg lg dg:Nat} {P:Nat→Int} {G:Geo} {C:Cac} {L:Lg} {D:Dev} {ml:LMem} (h:LvM u S Sl Sd lg dg P G L D ml) (hK:Kv w' S1 cg dg C D) (h1:∀ k,S1 k→Sd k ∨ u.heap.size ≤ k) (hb:Below u.heap.size u w') :
  ∃ S',Tri w' S' cg lg dg P G C L D∧Nx S u S' w':=by
 obtain ⟨Sc,Sd',mk,c1,d1,dis,a1⟩:=hK
 have hl:∀ k,Sl k→¬ S1 k:=fun k hk hs=>by
  rcases h1 k hs with x | x
  ·exact h.dis k hk x
  ·have:=h.ll.lt k hk; omega
 have z1:¬ S1 0:=fun hs=>by
  rcases h1 0 hs with x | x
  ·exact h.z0 ((h.all 0).2 (.inr x))
  ·have:=h.tab.lt; omega
 refine ⟨fun k=>Sc k ∨ Sl k ∨ Sd' k,⟨Sc,Sl,Sd',mk,ml,c1,h.ll.kept (fun k hk=>hb.block k (h.ll.lt k hk)) (fun _ x=>x) (fun k hk=>Nat.lt_of_lt_of_le (h.ll.lt k hk) hb.size),d1,fun k hc hk=>hl k hk ((a1 k).2 (.inl hc)),dis,fun k hk hd=>hl k hk ((a1 k).2 (.inr hd)),fun k=>Iff.rfl,h.bd,h.nd,h.tab.kept (hb.block 0 h.tab.lt),?_⟩,⟨⟨hb.os,hb.tape,hb.output,hb.size,fun k hk _=>hb.block k hk⟩,fun k hk x=>?_⟩⟩
 ·rintro (x | x | x)
  ·exact z1 ((a1 0).2 (.inl x))
  ·exact h.z0 ((h.all 0).2 (.inl x))
  ·exact z1 ((a1 0).2 (.inr x))
 ·rcases x with x | x | x
  ·rcases h1 k ((a1 k).2 (.inl x)) with y | y
   ·exact (h.all k).2 (.inr y)
   ·omega
  ·exact (h.all k).2 (.inl x)
  ·rcases h1 k ((a1 k).2 (.inr x)) with y | y
   ·exact (h.all k).2 (.inr y)
   ·omega

def Grp.new:Grp:=⟨fun _=>none,fun _=>false,none,0⟩

def gmem (v:Nat):GMem:=⟨v,fun _=>(0,0),v + 1,0,fun _=>(0,0),⟨0,0,0⟩,none,fun _=>(0,0),fun _=>none⟩

theorem gnew_laid {u v:World} {S:Nat→Prop} {cg lg dg:Nat} {P:Nat→Int} {G:Geo} {C:Cac} {L:Lg} {D:Dev} (h:Tri u S cg lg dg P G C L D) (hs:Seen (gmem 0) G L) (hda:(G.ib:Int) ≤ P 11∧P 11 ≤ (G.n:Int)) (hv:Below u.heap.size u v) :
  ∃ S',Gv (((v.alloc (.map #[] 0)).alloc (.map #[] 0)).alloc (.cells #[.pointer (some ⟨dg,0,none⟩),.pointer (some ⟨lg,0,none⟩),.pointer (some ⟨cg,0,none⟩),.int .i64 (P 0),.int .i64 (P 1),.int .i64 (P 2),.int .i64 (P 3),.int .i64 (P 4),.int .i64 (P 5),.int .i64 (P 6),.int .i64 (P 7),.int .i64 (P 8),.int .i64 (P 9),.int .i64 (P 10),.int .i64 (P 11),.pointer none,.map (some v.heap.size),.map (some (v.heap.size + 1)),.int .i64 0,.int .i64 0,.int .i64 0,.map none] 157)) S' (v.heap.size + 2) cg lg dg P G Grp.new C L D∧Nx S u S' (((v.alloc (.map #[] 0)).alloc (.map #[] 0)).alloc (.cells #[.pointer (some ⟨dg,0,none⟩),.pointer (some ⟨lg,0,none⟩),.pointer (some ⟨cg,0,none⟩),.int .i64 (P 0),.int .i64 (P 1),.int .i64 (P 2),.int .i64 (P 3),.int .i64 (P 4),.int .i64 (P 5),.int .i64 (P 6),.int .i64 (P 7),.int .i64 (P 8),.int .i64 (P 9),.int .i64 (P 10),.int .i64 (P 11),.pointer none,.map (some v.heap.size),.map (some (v.heap.size + 1)),.int .i64 0,.int .i64 0,.int .i64 0,.map none] 157)):=by
 obtain ⟨Sc,Sl,Sd,mk,ml,h⟩:=h
 have hsz:=hv.size
 have b1:Below v.heap.size v (v.alloc (.map #[] 0)):=(Below.refl _ _).alloc (Nat.le_refl _) _
 have z1:(v.alloc (.map #[] 0)).heap.size=v.heap.size + 1:=by simp
 have b2:Below (v.alloc (.map #[] 0)).heap.size (v.alloc (.map #[] 0)) ((v.alloc (.map #[] 0)).alloc (.map #[] 0)):=(Below.refl _ _).alloc (Nat.le_refl _) _
 have z2:((v.alloc (.map #[] 0)).alloc (.map #[] 0)).heap.size=v.heap.size + 2:=by simp
 have m1:=MapX.made (kB G.blk) v G.n
 have m2:=MapX.made kU (v.alloc (.map #[] 0)) G.n
 rw [z1] at m2
 have m1':=m1.kept (b2.block _ (by omega))
 generalize hv2:(v.alloc (.map #[] 0)).alloc (.map #[] 0)=v2 at *
 have b12:Below v.heap.size v v2:=b1.trans (b2.mono b1.size)
 have b3:Below v2.heap.size v2 (v2.alloc (.cells #[.pointer (some ⟨dg,0,none⟩),.pointer (some ⟨lg,0,none⟩),.pointer (some ⟨cg,0,none⟩),.int .i64 (P 0),.int .i64 (P 1),.int .i64 (P 2),.int .i64 (P 3),.int .i64 (P 4),.int .i64 (P 5),.int .i64 (P 6),.int .i64 (P 7),.int .i64 (P 8),.int .i64 (P 9),.int .i64 (P 10),.int .i64 (P 11),.pointer none,.map (some v.heap.size),.map (some (v.heap.size + 1)),.int .i64 0,.int .i64 0,.int .i64 0,.map none] 157)):=(Below.refl _ _).alloc (Nat.le_refl _) _
 have z3:(v2.alloc (.cells #[.pointer (some ⟨dg,0,none⟩),.pointer (some ⟨lg,0,none⟩),.pointer (some ⟨cg,0,none⟩),.int .i64 (P 0),.int .i64 (P 1),.int .i64 (P 2),.int .i64 (P 3),.int .i64 (P 4),.int .i64 (P 5),.int .i64 (P 6),.int .i64 (P 7),.int .i64 (P 8),.int .i64 (P 9),.int .i64 (P 10),.int .i64 (P 11),.pointer none,.map (some v.heap.size),.map (some (v.heap.size + 1)),.int .i64 0,.int .i64 0,.int .i64 0,.map none] 157)).heap.size=v.heap.size + 3:=by simp [z2]
 have str:=World.rowIs_alloc v2 #[.pointer (some ⟨dg,0,none⟩),.pointer (some ⟨lg,0,none⟩),.pointer (some ⟨cg,0,none⟩),.int .i64 (P 0),.int .i64 (P 1),.int .i64 (P 2),.int .i64 (P 3),.int .i64 (P 4),.int .i64 (P 5),.int .i64 (P 6),.int .i64 (P 7),.int .i64 (P 8),.int .i64 (P 9),.int .i64 (P 10),.int .i64 (P 11),.pointer none,.map (some v.heap.size),.map (some (v.heap.size + 1)),.int .i64 0,.int .i64 0,.int .i64 0,.map none] 157 (ucell dg lg cg P Grp.new (gmem v.heap.size)) (fun i hi=>by
  have h22:i < 22:=by simpa using hi
  have:i=0 ∨ i=1 ∨ i=2 ∨ i=3 ∨ i=4 ∨ i=5 ∨ i=6 ∨ i=7 ∨ i=8 ∨ i=9 ∨ i=10 ∨ i=11 ∨ i=12 ∨ i=13 ∨ i=14 ∨ i=15 ∨ i=16 ∨ i=17 ∨ i=18 ∨ i=19 ∨ i=20 ∨ i=21:=by omega
  rcases this with rfl | rfl | rfl | rfl | rfl | rfl | rfl | rfl | rfl | rfl | rfl | rfl | rfl | rfl | rfl | rfl | rfl | rfl | rfl | rfl | rfl | rfl <;> rfl)
 rw [z2] at str
 have m1'':=m1'.kept (b3.block _ (by omega))
 have m2'':=m2.kept (b3.block _ (by omega))
 have bb:Below u.heap.size u (v2.alloc (.cells #[.pointer (some ⟨dg,0,none⟩),.pointer (some ⟨lg,0,none⟩),.pointer (some ⟨cg,0,none⟩),.int .i64 (P 0),.int .i64 (P 1),.int .i64 (P 2),.int .i64 (P 3),.int .i64 (P 4),.int .i64 (P 5),.int .i64 (P 6),.int .i64 (P 7),.int .i64 (P 8),.int .i64 (P 9),.int .i64 (P 10),.int .i64 (P 11),.pointer none,.map (some v.heap.size),.map (some (v.heap.size + 1)),.int .i64 0,.int .i64 0,.int .i64 0,.map none] 157)):=(hv.trans (b12.mono hsz)).trans (b3.mono (by omega))
 generalize v2.alloc (.cells #[.pointer (some ⟨dg,0,none⟩),.pointer (some ⟨lg,0,none⟩),.pointer (some ⟨cg,0,none⟩),.int .i64 (P 0),.int .i64 (P 1),.int .i64 (P 2),.int .i64 (P 3),.int .i64 (P 4),.int .i64 (P 5),.int .i64 (P 6),.int .i64 (P 7),.int .i64 (P 8),.int .i64 (P 9),.int .i64 (P 10),.int .i64 (P 11),.pointer none,.map (some v.heap.size),.map (some (v.heap.size + 1)),.int .i64 0,.int .i64 0,.int .i64 0,.map none] 157)=w3 at *
 have gr:GrM w3 (fun k=>v.heap.size ≤ k∧k < w3.heap.size) (v.heap.size + 2) dg lg cg P G Grp.new (gmem v.heap.size) :=
  ⟨str,⟨m1''.congr (fun k hk=>rfl),fun b z _ e=>(by cases e),⟨Nat.le_refl _,by show v.heap.size < _; omega⟩⟩,⟨m2''.congr (fun k hk=>rfl),⟨by show v.heap.size ≤ v.heap.size + 1; omega,by show v.heap.size + 1 < _; omega⟩⟩,fun N e=>(by cases e),fun pb e=>(by cases e),fun _ b _=>rfl,⟨by omega,by omega⟩,by show v.heap.size ≠ v.heap.size + 1; omega,fun e=>(by cases e),fun e=>(by cases e),fun k hk=>hk.2,h.ll.pg,hda⟩
 have hlt:∀ k,(Sc k ∨ Sl k ∨ Sd k)→k < u.heap.size:=fun k hk=>by
  rcases hk with x | x | x
  ·exact h.cc.lt k x
  ·exact h.ll.lt k x
  ·exact h.dd.lt x
 refine ⟨fun k=>(v.heap.size ≤ k∧k < w3.heap.size) ∨ Sc k ∨ Sl k ∨ Sd k,⟨_,Sc,Sl,Sd,gmem v.heap.size,mk,ml,gr,h.cc.kept (fun k hk=>bb.block k (h.cc.lt k hk)) (fun _ x=>x) (fun k hk=>Nat.lt_of_lt_of_le (h.cc.lt k hk) bb.size),h.ll.kept (fun k hk=>bb.block k (h.ll.lt k hk)) (fun _ x=>x) (fun k hk=>Nat.lt_of_lt_of_le (h.ll.lt k hk) bb.size),h.dd.below bb,
  fun k hk x=>by have:=hlt k (.inl x); omega,fun k hk x=>by have:=hlt k (.inr (.inl x)); omega,fun k hk x=>by have:=hlt k (.inr (.inr x)); omega,h.cl,h.cd,h.ld,fun k=>Iff.rfl,h.bd,h.nd,h.tab.kept (bb.block 0 h.tab.lt),?_,hs⟩,⟨⟨bb.os,bb.tape,bb.output,bb.size,fun k hk _=>bb.block k hk⟩,fun k hk x=>?_⟩⟩
 ·rintro (x | x)
  ·have:=h.tab.lt; omega
  ·exact h.z0 ((h.all 0).2 x)
 ·rcases x with x | x
  ·omega
  ·exact (h.all k).2 x

theorem gnew_ok {u:World} {S:Nat→Prop} {cg lg dg:Nat} {P:Nat→Int} {G:Geo} {C:Cac} {L:Lg} {D:Dev} (h:Tri u S cg lg dg P G C L D) (hs:Seen (gmem 0) G L) (hda:(G.ib:Int) ≤ P 11∧P 11 ≤ (G.n:Int)) :
  Calls Tryz.prog 112 #[.pointer (some ⟨dg,0,none⟩),.pointer (some ⟨lg,0,none⟩),.pointer (some ⟨cg,0,none⟩),Pv P] u fun e w'=>∃ g,e=.returned (.tuple #[.pointer (some ⟨g,0,none⟩),.int .i64 0])∧Hid (∃ S',Gv w' S' g cg lg dg P G Grp.new C L D∧Nx S u S' w'∧u.heap.size ≤ g):=by
 have hpg:PG P G:=by obtain ⟨_,_,_,_,_,h⟩:=h; exact h.ll.pg
 have HK:=hide (Kp.start u P)
 have K1:Hid (∀ w,Calls Tryz.prog 184 #[Pv P] w fun e w'=>e=.returned (.int .i64 0)∧Below w.heap.size w w'):=fun w=>by
  have:=check_any P w
  rwa [hpg.chk] at this
 have KL:Hid (∀ w1,Below u.heap.size u w1→∃ S',Gv (((w1.alloc (.map #[] 0)).alloc (.map #[] 0)).alloc (.cells #[.pointer (some ⟨dg,0,none⟩),.pointer (some ⟨lg,0,none⟩),.pointer (some ⟨cg,0,none⟩),.int .i64 (P 0),.int .i64 (P 1),.int .i64 (P 2),.int .i64 (P 3),.int .i64 (P 4),.int .i64 (P 5),.int .i64 (P 6),.int .i64 (P 7),.int .i64 (P 8),.int .i64 (P 9),.int .i64 (P 10),.int .i64 (P 11),.pointer none,.map (some w1.heap.size),.map (some (w1.heap.size + 1)),.int .i64 0,.int .i64 0,.int .i64 0,.map none] 157)) S' (w1.heap.size + 2) cg lg dg P G Grp.new C L D∧Nx S u S' (((w1.alloc (.map #[] 0)).alloc (.map #[] 0)).alloc (.cells #[.pointer (some ⟨dg,0,none⟩),.pointer (some ⟨lg,0,none⟩),.pointer (some ⟨cg,0,none⟩),.int .i64 (P 0),.int .i64 (P 1),.int .i64 (P 2),.int .i64 (P 3),.int .i64 (P 4),.int .i64 (P 5),.int .i64 (P 6),.int .i64 (P 7),.int .i64 (P 8),.int .i64 (P 9),.int .i64 (P 10),.int .i64 (P 11),.pointer none,.map (some w1.heap.size),.map (some (w1.heap.size + 1)),.int .i64 0,.int .i64 0,.int .i64 0,.map none] 157))∧u.heap.size ≤ w1.heap.size + 2):=fun w1 hb=>by
  obtain ⟨S',g1,x1⟩:=gnew_laid h hs hda hb
  exact ⟨S',g1,x1,by have:=hb.size; omega⟩
 have hmm:=@run_makeMap Tryz.prog
 clear h hs hda hpg
 obtain ⟨f0,f1,f2,f3,f4,f5,f6,f7,f8,f9,f10,f11⟩:=(unhide HK).cells
 go_enter Tryz.func112,Tryz.ntmps112
 go_wp2_with fail
 go_at_call 184
 refine (unhide K1 _).mono ?_
 rintro e w1 ⟨rfl,hb⟩
 replace HK:=hide ((unhide HK).call hb)
 clear f0 f1 f2 f3 f4 f5 f6 f7 f8 f9 f10 f11 K1 hb
 obtain ⟨f0,f1,f2,f3,f4,f5,f6,f7,f8,f9,f10,f11⟩:=(unhide HK).cells
 have Z:=hide (unhide KL w1 (unhide HK).2)
 clear KL HK
 go_wp2_with fail
 go_ret2
 exact ⟨_,rfl,unhide Z⟩

end Go.Proofs.YtdfanhjnkjdngaaGreatDoor

