/- Joined: OLaw, OKpA, OKpB, WWake, WSt. -/
import Derived.Test.YtdfanhjnkjdngaaGreatDoorArJ45
import Derived.Test.YtdfanhjnkjdngaaGreatDoorArJ42
import Derived.Test.YtdfanhjnkjdngaaGreatDoorArJ3
import Derived.Test.YtdfanhjnkjdngaaGreatDoorArJ2
import Derived.Test.YtdfanhjnkjdngaaGreatDoorArJ4
import Derived.Test.YtdfanhjnkjdngaaGreatDoorArCOpenH
import Derived.Test.YtdfanhjnkjdngaaGreatDoorArJ32
import Derived.Test.YtdfanhjnkjdngaaGreatDoorArJ14
/- A law's own group: small, full, fresh; the contract of wakes. -/
namespace Go.Proofs.YtdfanhjnkjdngaaGreatDoor
set_option maxRecDepth 100000
set_option maxHeartbeats 8000000
open Go.RowKit Go.Shelf Go.Maps
set_option linter.unusedVariables false

theorem gfull_any (x:Int) (w:World) :
  Calls Tryz.prog 44 #[.int .u8 x] w fun e w'=>e=.returned (.slice (some ⟨w.heap.size,0,none⟩) 64 64)∧Block w' w.heap.size (fl x)∧Below w.heap.size w w':=by
 have hmk:∀ w:World,(Instr.makeSlice 50 (.int .i64 64) (.int .i64 64)).run Tryz.prog w=.ok (.slice (some ⟨w.heap.size,0,none⟩) 64 64) (w.alloc (.cells (madeCells #[.int .u8 0] 64) 5)):=run_make_row' (P:=Tryz.prog) 50 5 (.int .u8 0) 1 Tryz.underlying50 info5 rfl .i64 .i64 64 (by omega) (by omega)
 have B0:Hid (Below w.heap.size w (w.alloc (.cells (madeCells #[.int .u8 0] 64) 5))):=(Below.refl _ w).alloc (Nat.le_refl _) _
 have I0:=hide (show Block (w.alloc (.cells (madeCells #[.int .u8 0] 64) 5)) w.heap.size (List.replicate 0 x ++ List.replicate (64 - 0) 0) by
  unfold Block
  rw [World.alloc_heap_new,← Array.toArray_toList (xs:=madeCells #[.int .u8 0] 64),toList_madeCells_one]
  simp)
 go_enter Tryz.func44,Tryz.ntmps44
 go_upto_region 3 with fail
 change Code.wp _ _ _ _ (w.alloc (.cells (madeCells #[.int .u8 0] 64) 5))
 generalize w.alloc (.cells (madeCells #[.int .u8 0] 64) 5)=w1 at *
 clear hmk
 go_loopw [4] (fun i wr=>∃ k:Nat,k ≤ 64∧i=.int .i64 (k:Int)∧Hid (Block wr w.heap.size (List.replicate k x ++ List.replicate (64 - k) 0))∧Hid (Below w.heap.size w wr)) (fun i _=>64 - (intOf i).toNat)
 case atStart=>exact ⟨0,Nat.zero_le _,rfl,I0,B0⟩
 case round =>
  obtain ⟨k,hk,rfl,hI,hX⟩:=hrel
  clear I0 B0
  by_cases hlt:k < 64
  ·have c1:=(unhide hI).cell (i:=k) (by simp; omega)
   have f1:=(unhide hI).free k
   have I2:=(unhide hI).set k x
   rw [fl_set x k hlt] at I2
   replace I2:=hide I2
   have X2:=hide ((unhide hX).setCell (p:=⟨w.heap.size,k,none⟩) (Nat.le_refl _) (.int .u8 x))
   generalize (List.replicate k x ++ List.replicate (64 - k) 0)[k]?.getD 0=z at *
   clear hI hX
   generalize w.heap.size=g at *
   go_wp2_with fail
   exact ⟨⟨k + 1,by omega,by go_num,I2,X2⟩,by simp [intOf]; omega⟩
  ·obtain rfl:k=64:=by omega
   go_wp2_with fail
   go_ret
   refine ⟨rfl,?_,unhide hX⟩
   have:=unhide hI
   simpa [fl] using this

theorem gsmall_any (w:World):Calls Tryz.prog 35 #[] w fun e w'=>e=.returned (Pv sP)∧Below w.heap.size w w':=by
 have K:Hid (∀ u,Calls Tryz.prog 72 #[.int .i64 64,.int .i64 60,.int .i64 6,.int .i64 9] u fun e w'=>e=.returned (.tuple #[Pv sP,.int .i64 0])∧Below u.heap.size u w'):=fun u=>by
  have:=refMake_any 64 60 6 9 u
  rw [sP_make] at this
  exact this
 have HZ:=hide (Bl.new w #[.int .i64 0,.int .i64 0,.int .i64 0,.int .i64 0,.int .i64 0,.int .i64 0,.int .i64 0,.int .i64 0,.int .i64 0,.int .i64 0,.int .i64 0,.int .i64 0] 25)
 have HB:=hide ((Below.refl w.heap.size w).alloc (Nat.le_refl _) (.cells #[.int .i64 0,.int .i64 0,.int .i64 0,.int .i64 0,.int .i64 0,.int .i64 0,.int .i64 0,.int .i64 0,.int .i64 0,.int .i64 0,.int .i64 0,.int .i64 0] 25))
 generalize sP=p at *
 go_enter Tryz.func35,Tryz.ntmps35
 go_wp2_with fail
 go_at_call 72
 refine (unhide K _).mono ?_
 rintro e w1 ⟨rfl,hb⟩
 have HZ2:=hide (((unhide HZ).call hb).alloc (.cells (Pc p) 25))
 have HB2:=hide (((unhide HB).trans (hb.mono (unhide HB).size)).alloc ((unhide HB).trans (hb.mono (unhide HB).size)).size (.cells (Pc p) 25))
 have HN:=hide (Bl.new w1 (Pc p) 25)
 clear HZ HB hb K
 go_upto_region 2 with fail
 change Code.wp _ _ _ _ (w1.alloc (.cells (Pc p) 25))
 generalize w1.alloc (.cells (Pc p) 25)=w2 at *
 generalize w1.heap.size=g1 at *
 have z0:=(unhide HZ2).cell 0 (.int .i64 0) rfl
 have z1:=(unhide HZ2).cell 1 (.int .i64 0) rfl
 have z2:=(unhide HZ2).cell 2 (.int .i64 0) rfl
 have z3:=(unhide HZ2).cell 3 (.int .i64 0) rfl
 have z4:=(unhide HZ2).cell 4 (.int .i64 0) rfl
 have z5:=(unhide HZ2).cell 5 (.int .i64 0) rfl
 have z6:=(unhide HZ2).cell 6 (.int .i64 0) rfl
 have z7:=(unhide HZ2).cell 7 (.int .i64 0) rfl
 have z8:=(unhide HZ2).cell 8 (.int .i64 0) rfl
 have z9:=(unhide HZ2).cell 9 (.int .i64 0) rfl
 have z10:=(unhide HZ2).cell 10 (.int .i64 0) rfl
 have z11:=(unhide HZ2).cell 11 (.int .i64 0) rfl
 have n0:=(unhide HN).cell 0 (.int .i64 (p 0)) rfl
 have n1:=(unhide HN).cell 1 (.int .i64 (p 1)) rfl
 have n2:=(unhide HN).cell 2 (.int .i64 (p 2)) rfl
 have n3:=(unhide HN).cell 3 (.int .i64 (p 3)) rfl
 have n4:=(unhide HN).cell 4 (.int .i64 (p 4)) rfl
 have n5:=(unhide HN).cell 5 (.int .i64 (p 5)) rfl
 have n6:=(unhide HN).cell 6 (.int .i64 (p 6)) rfl
 have n7:=(unhide HN).cell 7 (.int .i64 (p 7)) rfl
 have n8:=(unhide HN).cell 8 (.int .i64 (p 8)) rfl
 have n9:=(unhide HN).cell 9 (.int .i64 (p 9)) rfl
 have n10:=(unhide HN).cell 10 (.int .i64 (p 10)) rfl
 have n11:=(unhide HN).cell 11 (.int .i64 (p 11)) rfl
 have fz:=(unhide HZ2).free
 go_wp2_with fail
 have hW:Below w.heap.size w (setAll w2 w.heap.size 0 [.int .i64 (p 0),.int .i64 (p 1),.int .i64 (p 2),.int .i64 (p 3),.int .i64 (p 4),.int .i64 (p 5),.int .i64 (p 6),.int .i64 (p 7),.int .i64 (p 8),.int .i64 (p 9),.int .i64 (p 10),.int .i64 (p 11)]):=below_setAll (Nat.le_refl _) _ _ _ _ (unhide HB2)
 have hA:=setAll_whole [.int .i64 (p 0),.int .i64 (p 1),.int .i64 (p 2),.int .i64 (p 3),.int .i64 (p 4),.int .i64 (p 5),.int .i64 (p 6),.int .i64 (p 7),.int .i64 (p 8),.int .i64 (p 9),.int .i64 (p 10),.int .i64 (p 11)] _ _ (unhide HZ2) rfl
 change bodyPost _ _ _ _ _ (setAll w2 w.heap.size 0 [.int .i64 (p 0),.int .i64 (p 1),.int .i64 (p 2),.int .i64 (p 3),.int .i64 (p 4),.int .i64 (p 5),.int .i64 (p 6),.int .i64 (p 7),.int .i64 (p 8),.int .i64 (p 9),.int .i64 (p 10),.int .i64 (p 11)])
 generalize setAll w2 w.heap.size 0 [.int .i64 (p 0),.int .i64 (p 1),.int .i64 (p 2),.int .i64 (p 3),.int .i64 (p 4),.int .i64 (p 5),.int .i64 (p 6),.int .i64 (p 7),.int .i64 (p 8),.int .i64 (p 9),.int .i64 (p 10),.int .i64 (p 11)]=wf at *
 refine bodyPost_ret (v:=Pv p) ?_ rfl ⟨rfl,hW⟩
 simp [results,Tryz.results35,go_sem,hA.cell 0 _ rfl,hA.cell 1 _ rfl,hA.cell 2 _ rfl,hA.cell 3 _ rfl,hA.cell 4 _ rfl,hA.cell 5 _ rfl,hA.cell 6 _ rfl,hA.cell 7 _ rfl,hA.cell 8 _ rfl,hA.cell 9 _ rfl,hA.cell 10 _ rfl,hA.cell 11 _ rfl]


structure GL (B:Nat) (w:World) (g cg lg dg:Nat) (X:Grp) (C:Cac) (L:Lg) (D:Dev) (rows:List (Nat × Obj)) (u:World) (S:Nat→Prop):Prop where
 gv:Gv u S g cg lg dg sP sG X C L D
 ge:∀ k,S k→B ≤ k
 bel:Below B w u
 sz:B ≤ w.heap.size
 ro:∀ x ∈ rows,u.heap[x.1]?=some x.2∧¬ S x.1

theorem GL.next {B:Nat} {w:World} {g cg lg dg:Nat} {X X':Grp} {C C':Cac} {L L':Lg} {D D':Dev} {rows:List (Nat × Obj)} {u u':World} {S S':Nat→Prop} (h:GL B w g cg lg dg X C L D rows u S) (hg:Gv u' S' g cg lg dg sP sG X' C' L' D') (hx:Nx S u S' u'):GL B w g cg lg dg X' C' L' D' rows u' S' :=
 ⟨hg,hx.base h.ge (Nat.le_trans h.sz h.bel.size),h.bel.trans (hx.below h.ge (Nat.le_trans h.sz h.bel.size)),h.sz,fun x hm=>by
  obtain ⟨h1,h2⟩:=h.ro x hm
  obtain ⟨k1,k2,_⟩:=hx.keep (Array.getElem?_eq_some_iff.1 h1).1 h2
  exact ⟨k1.trans h1,k2⟩⟩

theorem GL.later {B:Nat} {w:World} {g cg lg dg:Nat} {X:Grp} {C:Cac} {L:Lg} {D:Dev} {rows:List (Nat × Obj)} {u u':World} {S:Nat→Prop} (h:GL B w g cg lg dg X C L D rows u S) (hb:Below u.heap.size u u'):GL B w g cg lg dg X C L D rows u' S :=
 h.next (h.gv.below hb) ((Nx.refl S u).below' hb)

theorem GL.add {B:Nat} {w:World} {g cg lg dg:Nat} {X:Grp} {C:Cac} {L:Lg} {D:Dev} {rows:List (Nat × Obj)} {u:World} {S:Nat→Prop} (h:GL B w g cg lg dg X C L D rows u S) {k:Nat} {o:Obj} (h1:u.heap[k]?=some o) (h2:¬ S k):GL B w g cg lg dg X C L D ((k,o) :: rows) u S :=
 ⟨h.gv,h.ge,h.bel,h.sz,fun x hm=>by
  rcases List.mem_cons.1 hm with e | e
  ·subst e; exact ⟨h1,h2⟩
  ·exact h.ro x e⟩

def GD (B:Nat) (w:World) (g dg:Nat) (X:Grp) (C:Cac) (L:Lg) (D:Dev) (rows:List (Nat × Obj)) (u:World):Prop:=∃ cg lg S,GL B w g cg lg dg X C L D rows u S

theorem GD.later {B:Nat} {w:World} {g dg:Nat} {X:Grp} {C:Cac} {L:Lg} {D:Dev} {rows:List (Nat × Obj)} {u u':World} (h:GD B w g dg X C L D rows u) (hb:Below u.heap.size u u'):GD B w g dg X C L D rows u':=by
 obtain ⟨cg,lg,S,h⟩:=h
 exact ⟨cg,lg,S,h.later hb⟩

theorem GD.bel {B:Nat} {w:World} {g dg:Nat} {X:Grp} {C:Cac} {L:Lg} {D:Dev} {rows:List (Nat × Obj)} {u:World} (h:GD B w g dg X C L D rows u):Below B w u:=by
 obtain ⟨cg,lg,S,h⟩:=h
 exact h.bel

theorem sL_seen:Seen (gmem 0) sG sL:=.inr (.inl (by show 0 < 1; omega))

theorem sP_da:(sG.ib:Int) ≤ sP 11∧sP 11 ≤ (sG.n:Int):=by
 have e:sP 11=planOf 64 60 6 9 11:=by unfold sP; rw [makeP_ok sP_make]
 rw [e]
 decide

theorem gfresh_chain (w u:World) (hT:Tab w) (hu:Below w.heap.size w u) (cap:Nat) (hc:1 ≤ cap∧cap ≤ 512) (a:Option Addr) (len c:Nat) (ns:List Int) (hI:IHas w a len ns) (hn:len ≤ 17592186043904) (ha:a=none→c=0∧len=0) :
  Calls Tryz.prog 73 #[.int .i64 (sP 0),.int .i64 (sP 1)] u fun e w1=>∃ dg,e=.returned (.tuple #[.pointer (some ⟨dg,0,none⟩),.int .i64 0])∧Below u.heap.size u w1∧Hid (∀ u1,Below w1.heap.size w1 u1 →
   Calls Tryz.prog 74 #[.pointer (some ⟨dg,0,none⟩),Pv sP] u1 fun e w2=>e=.returned (.int .i64 0)∧Below u.heap.size u w2∧Hid (∀ u2,Below w2.heap.size w2 u2 →
    Calls Tryz.prog 23 #[.pointer (some ⟨dg,0,none⟩),Pv sP] u2 fun e w3=>∃ lg,e=.returned (.tuple #[.pointer (some ⟨lg,0,none⟩),.int .i64 0])∧Below u.heap.size u w3∧Hid (
     Calls Tryz.prog 111 #[.pointer (some ⟨dg,0,none⟩),.int .i64 (cap:Int),.slice a len c] w3 fun e w4=>∃ cg,e=.returned (.tuple #[.pointer (some ⟨cg,0,none⟩),.int .i64 0])∧Below u.heap.size u w4∧Hid (
      Calls Tryz.prog 112 #[.pointer (some ⟨dg,0,none⟩),.pointer (some ⟨lg,0,none⟩),.pointer (some ⟨cg,0,none⟩),Pv sP] w4 fun e w5=>∃ g,e=.returned (.tuple #[.pointer (some ⟨g,0,none⟩),.int .i64 0])∧Hid (GD w.heap.size w g dg Grp.new (Cac.new cap ns) sL sD [] w5))))):=by
 have hTu:Tab u:=hT.kept (hu.block 0 hT.lt)
 have hus:=hu.size
 refine (fresh_chain u u hTu (Below.refl _ _)).mono ?_
 rintro e w1 ⟨dg,rfl,hb1,K1⟩
 refine ⟨dg,rfl,hb1,fun u1 hu1=>(unhide K1 u1 hu1).mono ?_⟩
 rintro e w2 ⟨rfl,hb2,K2⟩
 refine ⟨rfl,hb2,fun u2 hu2=>(unhide K2 u2 hu2).mono ?_⟩
 rintro e w3 ⟨lg,rfl,Y⟩
 obtain ⟨S3,l3⟩:=unhide Y
 obtain ⟨Sl,Sd,ml,lv⟩:=l3.lv
 have hw3:Below w.heap.size w w3:=hu.trans (l3.bel.mono hus)
 have hI3:IHas w3 a len ns:=by
  refine ⟨hI.1,fun hp=>?_⟩
  obtain ⟨b,off,e,hcell⟩:=hI.2 hp
  refine ⟨b,off,e,fun j hj=>(hw3.cell (p:=⟨b,off + j,none⟩) (hI.lt hp e)).trans (hcell j hj)⟩
 refine ⟨lg,rfl,l3.bel,(cnew_ok dg Sd sD cap a len c ns w3 lv.dd hc hI3 hn ha).mono ?_⟩
 rintro e w4 ⟨cg,rfl,Y4⟩
 obtain ⟨S4,k4,g4,b4⟩:=unhide Y4
 obtain ⟨S5,t5,x5⟩:=tri_of lv k4 g4 b4
 have h4:Below u.heap.size u w4:=l3.bel.trans (b4.mono l3.bel.size)
 refine ⟨cg,rfl,h4,(gnew_ok t5 sL_seen sP_da).mono ?_⟩
 rintro e w5 ⟨g,rfl,Y5⟩
 obtain ⟨S6,g6,x6,_⟩:=unhide Y5
 have ge5:∀ k,S5 k→u.heap.size ≤ k:=x5.base l3.ge l3.bel.size
 exact ⟨g,rfl,cg,lg,S6,g6,fun k hk=>Nat.le_trans hus (x6.base ge5 h4.size k hk),(hu.trans (h4.mono hus)).trans ((x6.below ge5 h4.size).mono hus),Nat.le_refl _,fun x hx=>by simp at hx⟩

theorem gfresh_any (w:World) (hT:Tab w) (cap:Nat) (hc:1 ≤ cap∧cap ≤ 512) (a:Option Addr) (len c:Nat) (ns:List Int) (hI:IHas w a len ns) (hn:len ≤ 17592186043904) (ha:a=none→c=0∧len=0) :
  Calls Tryz.prog 36 #[Pv sP,.int .i64 (cap:Int),.slice a len c] w fun e w'=>∃ dg g,e=.returned (.tuple #[.pointer (some ⟨dg,0,none⟩),.pointer (some ⟨g,0,none⟩)])∧Hid (GD w.heap.size w g dg Grp.new (Cac.new cap ns) sL sD [] w'):=by
 have K:Hid (∀ u,Below w.heap.size w u→_):=fun u hu=>gfresh_chain w u hT hu cap hc a len c ns hI hn ha
 have HK:=hide (Kp.start w sP)
 clear hT hI hn ha hc
 generalize sP=p at *
 generalize (cap:Int)=ci at *
 go_enter Tryz.func36,Tryz.ntmps36
 go_wp2_with fail
 go_at_call 73
 refine (unhide K _ (unhide HK).2).mono ?_
 rintro e w1 ⟨dg,rfl,hb1,K2⟩
 have HK1:=hide ((unhide HK).call hb1)
 have KF:=hide (unhide K2 _ (Below.refl _ _))
 clear K K2 hb1
 obtain ⟨f0,f1,f2,f3,f4,f5,f6,f7,f8,f9,f10,f11⟩:=(unhide HK1).cells
 go_wp2_with fail
 go_at_call 74
 refine (unhide KF).mono ?_
 rintro e w2 ⟨rfl,hb2,K3⟩
 have HK2:=hide ((unhide HK).call hb2)
 have KO:=hide (unhide K3 _ (Below.refl _ _))
 clear KF K3 hb2 HK1 f0 f1 f2 f3 f4 f5 f6 f7 f8 f9 f10 f11
 obtain ⟨f0,f1,f2,f3,f4,f5,f6,f7,f8,f9,f10,f11⟩:=(unhide HK2).cells
 go_wp2_with fail
 go_at_call 23
 refine (unhide KO).mono ?_
 rintro e w3 ⟨lg,rfl,hb3,KN⟩
 have HK3:=hide ((unhide HK).call hb3)
 clear KO hb3 HK2 f0 f1 f2 f3 f4 f5 f6 f7 f8 f9 f10 f11
 go_wp2_with fail
 go_at_call 111
 refine (unhide KN).mono ?_
 rintro e w4 ⟨cg,rfl,hb4,KG⟩
 have HK4:=hide ((unhide HK).call hb4)
 clear KN hb4 HK3
 obtain ⟨f0,f1,f2,f3,f4,f5,f6,f7,f8,f9,f10,f11⟩:=(unhide HK4).cells
 go_wp2_with fail
 go_at_call 112
 refine (unhide KG).mono ?_
 rintro e w5 ⟨g,rfl,X⟩
 clear KG HK HK4 f0 f1 f2 f3 f4 f5 f6 f7 f8 f9 f10 f11
 go_wp2_with fail
 go_ret2
 exact ⟨dg,g,rfl,X⟩

theorem ihas_none (w:World):IHas w none 0 []:=⟨rfl,fun h=>absurd h (by omega)⟩

theorem g_begin {B:Nat} {w:World} {g dg:Nat} {X:Grp} {C:Cac} {L:Lg} {D:Dev} {rows:List (Nat × Obj)} {u:World} (h:GD B w g dg X C L D rows u) (hN:X.N=none) :
  Calls Tryz.prog 38 #[.pointer (some ⟨g,0,none⟩)] u fun e u'=>∃ o,e=.returned (.tuple #[.pointer (some ⟨o,0,none⟩),.int .i64 0])∧Hid (GD B w g dg { X with N:=some (fun _=>none),o:=o } C L D rows u'):=by
 obtain ⟨cg,lg,S,h⟩:=h
 refine (begin_ok h.gv hN).mono ?_
 rintro e u' ⟨o,rfl,Y⟩
 obtain ⟨S',g1,x1,_⟩:=unhide Y
 exact ⟨o,rfl,cg,lg,S',h.next g1 x1⟩

theorem g_write {B:Nat} {w:World} {g dg:Nat} {X:Grp} {C:Cac} {L:Lg} {D:Dev} {rows:List (Nat × Obj)} {u:World} (h:GD B w g dg X C L D rows u) {N:Nat→Option Nt} (eN:X.N=some N) (b:Nat) (hb:11 ≤ b∧b < 60) (a:Option Addr) (cap:Nat) (zs:List Int) (hr:Row u.heap.size u a 64 cap zs) :
  Calls Tryz.prog 43 #[.pointer (some ⟨X.o,0,none⟩),.int .i64 (b:Int),.slice a 64 cap] u fun e u'=>e=.returned (.int .i64 0)∧Hid (GD B w g dg { X with N:=some (noteN N b ⟨1,zs⟩) } C L D rows u'):=by
 obtain ⟨cg,lg,S,h⟩:=h
 have e1:notE sG (b:Int) ((sG.ib:Nat):Int) 64=0:=by
  have h0:rngE sG.n (b:Int) ((sG.ib:Nat):Int)=0:=by
   unfold rngE
   rw [if_neg]
   show ¬ ((b:Int) < 11 ∨ (60:Int) ≤ (b:Int))
   omega
  unfold notE
  rw [if_pos h0,if_pos (show 64=sG.blk from rfl)]
 have:=owrite_any h.gv eN (b:Int) a 64 cap zs hr
 rw [e1,if_pos rfl] at this
 refine this.mono ?_
 rintro e u' ⟨rfl,Y⟩
 obtain ⟨S',g1,x1⟩:=unhide Y
 rw [show (b:Int).toNat=b by simp] at g1
 exact ⟨rfl,cg,lg,S',h.next g1 x1⟩

theorem g_end {B:Nat} {w:World} {g dg:Nat} {X:Grp} {C:Cac} {L:Lg} {D:Dev} {rows:List (Nat × Obj)} {u:World} (h:GD B w g dg X C L D rows u) {N:Nat→Option Nt} (eN:X.N=some N) :
  Calls Tryz.prog 46 #[.pointer (some ⟨X.o,0,none⟩)] u fun e u'=>e=.returned (.int .i64 (endR sG X N C L D).1)∧Hid (GD B w g dg (endR sG X N C L D).2.1 (endR sG X N C L D).2.2.1 (endR sG X N C L D).2.2.2.1 (endR sG X N C L D).2.2.2.2 rows u'):=by
 obtain ⟨cg,lg,S,h⟩:=h
 refine (oend_any h.gv eN).mono ?_
 rintro e u' ⟨rfl,Y⟩
 obtain ⟨S',g1,x1,_⟩:=unhide Y
 exact ⟨rfl,cg,lg,S',h.next g1 x1⟩

theorem g_read {B:Nat} {w:World} {g dg:Nat} {X:Grp} {C:Cac} {L:Lg} {D:Dev} {rows:List (Nat × Obj)} {u:World} (h:GD B w g dg X C L D rows u) {b:Nat} (hb:b < 60) (he:grE X C L D b=0) :
  Calls Tryz.prog 109 #[.pointer (some ⟨g,0,none⟩),.int .i64 (b:Int)] u fun e u'=>∃ a c,e=.returned (.tuple #[.slice a 64 c,.int .i64 0])∧Hid (Own u.heap.size u' a 64 c (grZ X C L D b)∧GD B w g dg X (grC X C L D b) L (grD X C L D b) rows u'∧u.heap.size ≤ u'.heap.size):=by
 obtain ⟨cg,lg,S,h⟩:=h
 refine (gread_ok h.gv hb he).mono ?_
 rintro e u' ⟨a,c,rfl,Y⟩
 obtain ⟨S',o1,g1,x1,_⟩:=unhide Y
 exact ⟨a,c,rfl,o1,⟨cg,lg,S',h.next g1 x1⟩,x1.fr.size⟩

theorem g_blocks {B:Nat} {w:World} {g dg:Nat} {X:Grp} {C:Cac} {L:Lg} {D:Dev} {rows:List (Nat × Obj)} {u:World} (h:GD B w g dg X C L D rows u) :
  Calls Tryz.prog 110 #[.pointer (some ⟨g,0,none⟩)] u fun e u'=>∃ a c,e=.returned (.slice a (blkI 60 X.Q).length c)∧Hid (IHas u' a (blkI 60 X.Q).length (blkI 60 X.Q)∧GD B w g dg X C L D rows u'∧Below u.heap.size u u'):=by
 obtain ⟨cg,lg,S,h⟩:=h
 obtain ⟨Sg,m,hg,_⟩:=h.gv.gr
 refine (blocks_any hg).mono ?_
 rintro e u' ⟨v,rfl,Y⟩
 obtain ⟨g1,b1⟩:=unhide Y
 obtain ⟨a,c,rfl⟩:=g1.shape
 exact ⟨a,c,rfl,(gr_ihas g1).1,⟨cg,lg,S,h.later b1⟩,b1⟩

theorem end_one (o b:Nat) (z:List Int) (hb:b < 60) (C:Cac) (D:Dev) (L:Lg):endR sG ⟨fun _=>none,fun _=>false,some (noteN (fun _=>none) b ⟨1,z⟩),o⟩ (noteN (fun _=>none) b ⟨1,z⟩) C L D=(0,⟨fun j=>if j=b then some z else none,fun _=>false,none,o⟩,C,L,D):=by
 have k1:isK (noteN (fun _=>none) b ⟨1,z⟩) 1=fun j=>j == b:=by
  funext j
  unfold isK noteN
  by_cases e:j=b <;> simp [e]
 have k2:isK (noteN (fun _=>none) b ⟨1,z⟩) 2=fun j=>false:=by
  funext j
  unfold isK noteN
  by_cases e:j=b <;> simp [e]
 have k3:isK (noteN (fun _=>none) b ⟨1,z⟩) 3=fun j=>false:=by
  funext j
  unfold isK noteN
  by_cases e:j=b <;> simp [e]
 have km:isM (noteN (fun _=>none) b ⟨1,z⟩) (fun _=>none)=fun j=>j == b:=by
  funext j
  unfold isM
  rw [k1]
  simp
 have l0:lstX (fun _=>false) sG.n=[]:=by decide
 have l1:lstX (fun j=>j == b) sG.n=[b]:=by
  have:∀ b:Fin 60,lstX (fun j=>j == b.val) 60=[b.val]:=by decide +kernel
  exact this ⟨b,hb⟩
 have lp:pendL sG (fun _=>none)=[]:=by decide
 have hz:ntZ (noteN (fun _=>none) b ⟨1,z⟩) b=z:=by simp [ntZ,noteN]
 have h1:¬ sG.lg < sG.uses 1:=by decide
 generalize noteN (fun _=>none) b ⟨1,z⟩=N at *
 have en:enR sG ⟨fun _=>none,fun _=>false,some N,o⟩ N C L D=(0,⟨fun _=>none,fun _=>false,some N,o⟩,C,L,D):=by
  unfold enR
  rw [if_neg]
  simp only [km,l1,lp,List.length_nil,List.length_cons,Nat.zero_add]
  exact h1
 unfold endR
 rw [en,k1,l1]
 rw [if_neg (by simpa using h1),if_neg (by simp)]
 unfold enT
 simp only [k1,k2,k3,l0,l1,ptsE,ptsC,ptsD,freQ,freF,freC,ownQ,ne_eq,not_true_eq_false,if_false,hz]

theorem gwakes_any (w:World) (hT:Tab w):Calls Tryz.prog 34 #[] w fun e w'=>e=.returned (.bool true)∧Below w.heap.size w w':=by
 have K1:=hide (gsmall_any w)
 have K2:Hid (∀ u,Below w.heap.size w u→Calls Tryz.prog 36 #[Pv sP,.int .i64 8,.slice none 0 0] u fun e w'=>∃ dg g,e=.returned (.tuple #[.pointer (some ⟨dg,0,none⟩),.pointer (some ⟨g,0,none⟩)])∧Hid (GD u.heap.size u g dg Grp.new (Cac.new 8 []) sL sD [] w'∧Below w.heap.size w u)):=fun u hu=>by
  refine (gfresh_any u (hT.kept (hu.block 0 hT.lt)) 8 (by omega) none 0 0 [] (ihas_none u) (by omega) (fun _=>⟨rfl,rfl⟩)).mono ?_
  rintro e w' ⟨dg,g,rfl,Y⟩
  exact ⟨dg,g,rfl,unhide Y,hu⟩
 have K3:Hid (∀ v g dg u,GD v.heap.size v g dg Grp.new (Cac.new 8 []) sL sD [] u→Calls Tryz.prog 38 #[.pointer (some ⟨g,0,none⟩)] u fun e u1=>∃ o,e=.returned (.tuple #[.pointer (some ⟨o,0,none⟩),.int .i64 0]) ∧
   Hid (Calls Tryz.prog 44 #[.int .u8 5] u1 fun e u2=>∃ k,e=.returned (.slice (some ⟨k,0,none⟩) 64 64) ∧
    Hid (Calls Tryz.prog 43 #[.pointer (some ⟨o,0,none⟩),.int .i64 20,.slice (some ⟨k,0,none⟩) 64 64] u2 fun e u3=>e=.returned (.int .i64 0) ∧
     Hid (Calls Tryz.prog 46 #[.pointer (some ⟨o,0,none⟩)] u3 fun e u4=>e=.returned (.int .i64 0) ∧
      Hid (Calls Tryz.prog 109 #[.pointer (some ⟨g,0,none⟩),.int .i64 20] u4 fun e u5=>∃ a c,e=.returned (.tuple #[.slice a 64 c,.int .i64 0]) ∧
       Hid (Calls Tryz.prog 44 #[.int .u8 5] u5 fun e u6=>∃ k,e=.returned (.slice (some ⟨k,0,none⟩) 64 64) ∧
        Hid (Calls Tryz.prog 50 #[.slice a 64 c,.slice (some ⟨k,0,none⟩) 64 64] u6 fun e u7=>e=.returned (.bool true) ∧
         Hid (Calls Tryz.prog 110 #[.pointer (some ⟨g,0,none⟩)] u7 fun e u8=>∃ a c,e=.returned (.slice a 1 c) ∧
          Hid (∀ u9,u9=u8.alloc (.cells #[.int .i64 20] 3)→Calls Tryz.prog 106 #[.slice a 1 c,.slice (some ⟨u8.heap.size,0,none⟩) 1 1] u9 fun e u10=>e=.returned (.bool true)∧Hid (Below v.heap.size v u10)))))))))):=fun v g dg u h=>by
  refine (g_begin h rfl).mono ?_
  rintro e u1 ⟨o,rfl,Y1⟩
  refine ⟨o,rfl,(gfull_any 5 u1).mono ?_⟩
  rintro e u2 ⟨rfl,B2,b2⟩
  refine ⟨_,rfl,(g_write ((unhide Y1).later b2) rfl 20 (by omega) (some ⟨u1.heap.size,0,none⟩) 64 (fl 5) (full_row (by omega) (by omega) B2)).mono ?_⟩
  rintro e u3 ⟨rfl,Y3⟩
  have he:=g_end (X:=⟨fun _=>none,fun _=>false,some (noteN (fun _=>none) 20 ⟨1,fl 5⟩),o⟩) (unhide Y3) rfl
  rw [end_one o 20 (fl 5) (by omega)] at he
  refine ⟨rfl,he.mono ?_⟩
  rintro e u4 ⟨rfl,Y4⟩
  refine ⟨rfl,(g_read (b:=20) (unhide Y4) (by omega) rfl).mono ?_⟩
  rintro e u5 ⟨a,c,rfl,Y5⟩
  obtain ⟨o5,g5,_⟩:=unhide Y5
  refine ⟨a,c,rfl,(gfull_any 5 u5).mono ?_⟩
  rintro e u6 ⟨rfl,B6,b6⟩
  refine ⟨_,rfl,(same_true a (some ⟨u5.heap.size,0,none⟩) 64 c 64 (fl 5) u6 (o5.has.later b6) (full_row (by omega) (by omega) B6).has).mono ?_⟩
  rintro e u7 ⟨rfl,rfl⟩
  refine ⟨rfl,(g_blocks (g5.later b6)).mono ?_⟩
  rintro e u8 ⟨a8,c8,rfl,Y8⟩
  obtain ⟨i8,g8,b8⟩:=unhide Y8
  have eB:blkI 60 (fun j=>if j=20 then some (fl 5) else none)=[20]:=by
   have:blkL 60 (fun j=>if j=20 then some (fl 5) else none)=[20]:=by
    have e2:(fun b=>((if b=20 then some (fl 5) else none:Option (List Int))).isSome)=fun b=>b == 20:=by
     funext j
     by_cases e:j=20 <;> simp [e]
    unfold blkL
    rw [e2]
    decide
   unfold blkI
   rw [this]
   rfl
  have i8':IHas u8 a8 1 [20]:=by
   have:=i8
   show IHas u8 a8 [(20:Int)].length [20]
   rw [← eB]
   exact i8
  refine ⟨a8,c8,?_,fun u9 e9=>?_⟩
  ·show Ending.returned (Value.slice a8 (blkI 60 (fun j=>if j=20 then some (fl 5) else none)).length c8)=_
   rw [eB]
   rfl
  ·have ba:Below u8.heap.size u8 u9:=by rw [e9]; exact (Below.refl _ _).alloc (Nat.le_refl _) _
   have i9:IHas u9 a8 1 [20]:=by
    refine ⟨i8'.1,fun hp=>?_⟩
    obtain ⟨b,off,e,hcell⟩:=i8'.2 hp
    exact ⟨b,off,e,fun j hj=>(ba.cell (p:=⟨b,off + j,none⟩) (i8'.lt hp e)).trans (hcell j hj)⟩
   have n9:IHas u9 (some ⟨u8.heap.size,0,none⟩) 1 [20]:=by
    refine ⟨rfl,fun _=>⟨u8.heap.size,0,rfl,fun j hj=>?_⟩⟩
    have ej:j=0:=by omega
    subst ej
    rw [e9]
    exact (Bl.new u8 #[.int .i64 20] 3).cell 0 _ rfl
   refine (sameInts_any a8 (some ⟨u8.heap.size,0,none⟩) 1 c8 1 [20] u9 i9 n9 (by omega)).mono ?_
   rintro e u10 ⟨rfl,q,rfl⟩
   exact ⟨rfl,below_drewN (g8.later ba).bel q⟩
 clear hT
 generalize sP=p at *
 go_enter Tryz.func34,Tryz.ntmps34
 go_wp2_with fail
 go_at_call 35
 refine (unhide K1).mono ?_
 rintro e w1 ⟨rfl,hb1⟩
 have KF:=hide (unhide K2 _ hb1)
 clear K1 K2 hb1
 go_wp2_with fail
 go_at_call 36
 refine (unhide KF).mono ?_
 rintro e w2 ⟨dg,g,rfl,X⟩
 have KB:=hide (unhide K3 _ _ _ _ (unhide X).1)
 have BW:=hide (unhide X).2
 clear KF K3 X
 go_wp2_with fail
 go_at_call 38
 refine (unhide KB).mono ?_
 rintro e u1 ⟨o,rfl,K4⟩
 clear KB
 go_wp2_with fail
 go_at_call 44
 refine (unhide K4).mono ?_
 rintro e u2 ⟨k,rfl,K5⟩
 clear K4
 go_wp2_with fail
 go_at_call 43
 refine (unhide K5).mono ?_
 rintro e u3 ⟨rfl,K6⟩
 clear K5
 go_wp2_with fail
 go_at_call 46
 refine (unhide K6).mono ?_
 rintro e u4 ⟨rfl,K7⟩
 clear K6
 go_wp2_with fail
 go_at_call 109
 refine (unhide K7).mono ?_
 rintro e u5 ⟨a,c,rfl,K8⟩
 clear K7
 go_wp2_with fail
 go_at_call 44
 refine (unhide K8).mono ?_
 rintro e u6 ⟨k2,rfl,K9⟩
 clear K8
 go_wp2_with fail
 go_at_call 50
 refine (unhide K9).mono ?_
 rintro e u7 ⟨rfl,K10⟩
 clear K9
 go_wp2_with fail
 go_at_call 110
 refine (unhide K10).mono ?_
 rintro e u8 ⟨a8,c8,rfl,K11⟩
 clear K10
 go_wp2_with fail
 go_at_call 106
 refine (unhide K11 _ rfl).mono ?_
 rintro e u9 ⟨rfl,Z⟩
 clear K11
 go_wp2_with fail
 go_ret
 exact ⟨rfl,(unhide BW).trans ((unhide Z).mono (unhide BW).size)⟩

end Go.Proofs.YtdfanhjnkjdngaaGreatDoor

/- GroupKeeps: its memory and its calls. -/
namespace Go.Proofs.YtdfanhjnkjdngaaGreatDoor
set_option maxRecDepth 100000
set_option maxHeartbeats 8000000
open Go.RowKit Go.Shelf Go.Maps
set_option linter.unusedVariables false

theorem oblock_own {u:World} {g B:Nat} {zs:List Int} (h:Block u g zs) (hB:B ≤ g) {n c:Nat} (hn:n ≤ c) (hc:zs.length=c) (hm:c ≤ 10000):Own B u (some ⟨g,0,none⟩) n c (zs.take n) :=
 ⟨by simp; omega,hn,by unfold maxLen; omega,.inr ⟨g,_,rfl,hB,h,by simp [hc],by simp [List.map_take]⟩⟩

end Go.Proofs.YtdfanhjnkjdngaaGreatDoor

/- GroupKeeps: its calls behind each other. -/
namespace Go.Proofs.YtdfanhjnkjdngaaGreatDoor
set_option maxRecDepth 100000
set_option maxHeartbeats 8000000
open Go.RowKit Go.Shelf Go.Maps
set_option linter.unusedVariables false

def nt2 (x:Int):Nat→Option Nt:=noteN (noteN (fun _=>none) 30 ⟨1,fl x⟩) 31 ⟨2,fl x⟩

def X2 (x:Int) (o:Nat):Grp:=⟨fun _=>none,fun _=>false,some (nt2 x),o⟩

def X3 (x:Int) (o:Nat):Grp:=⟨fun j=>if j=30 then some (fl x) else none,fun _=>false,none,o⟩

def C3 (x:Int):Cac:=(Cac.new 3 []).set 31 ⟨fl x,true,0⟩

end Go.Proofs.YtdfanhjnkjdngaaGreatDoor

/- The contract of wakes; devices that live. -/
namespace Go.Proofs.YtdfanhjnkjdngaaGreatDoor
set_option maxRecDepth 100000
set_option maxHeartbeats 8000000
open Go.RowKit Go.Shelf Go.Maps
set_option linter.unusedVariables false

def Dev.Live (D:Dev):Prop:=D.f=-1∧D.dead=false

theorem Dev.Live.wE {D:Dev} (h:D.Live):D.wE=0:=by
 unfold Dev.wE
 rw [if_neg]
 rintro (h1 | h1)
 ·rw [h.1] at h1; omega
 ·rw [h.2] at h1; cases h1

theorem Dev.Live.ap {D:Dev} (h:D.Live) (s:Stp):(s.ap D).Live:=by
 have hb:¬ (D.f=0 ∨ D.dead=true):=by
  rintro (h1 | h1)
  ·rw [h.1] at h1; omega
  ·rw [h.2] at h1; cases h1
 have hbu:D.burn.Live:=⟨by show (if 0 < D.f then D.f - 1 else D.f)=-1; rw [h.1]; rfl,h.2⟩
 cases s with
 | w i z =>
  show (D.wD i z).Live
  unfold Dev.wD
  rw [if_neg hb]
  split <;> exact hbu
 | f =>
  show D.fD.Live
  unfold Dev.fD
  rw [if_neg hb]
  exact hbu

theorem Dev.Live.run {D:Dev} (h:D.Live):∀ l:List Stp,runE l D=0∧(runD l D).Live
 | []=>⟨rfl,h⟩
 | s :: r=>by
  rw [runE_ok h.wE,runD_ok h.wE]
  exact (h.ap s).run r
termination_by l=>l.length

theorem sD_lives:sD.Live:=⟨sD_live.2.2.2.1,sD_live.1⟩

def V2 (g1 g2:Nat):List Wr:=[⟨20,some ⟨g1,0,none⟩,64,64,fl 1⟩,⟨21,some ⟨g2,0,none⟩,64,64,fl 2⟩]

end Go.Proofs.YtdfanhjnkjdngaaGreatDoor

/- A log that stands on a device that lives: each call keeps it so. -/
namespace Go.Proofs.YtdfanhjnkjdngaaGreatDoor
set_option maxRecDepth 100000
set_option maxHeartbeats 8000000
open Go.RowKit Go.Shelf
set_option linter.unusedVariables false

structure St (G:Geo) (L:Lg) (D:Dev):Prop where
 live:D.Live
 ld:L.dead=false
 n:D.n=G.n
 inv:∃ Ps,Inv G D.rd L Ps
 fl:∀ j,j < G.n→D.Y j=[]
 q:∀ b z,L.Q b=some z→G.ib ≤ b∧b < G.n

theorem sL_st:St sG sL sD:=by
 refine ⟨sD_lives,rfl,sD_live.2.2.1,⟨[],?_⟩,sD_live.2.2.2.2,fun b z h=>by cases h⟩
 exact ⟨sD_rd,hd1_ok sG_ok,Nat.zero_le _,trivial,rfl,rfl⟩

theorem spanP_zero {Ps:List Wl} (h:spanP Ps=0):Ps=[]:=by
 have:=spanP_len Ps
 exact List.length_eq_zero_iff.1 (by omega)

theorem Inv.none {G:Geo} {rd:Nat→List Int} {L:Lg} {Ps:List Wl} (h:Inv G rd L Ps) (h0:L.h.used=0):L.Q=fun _=>none:=by
 have:=h.sp
 rw [h0] at this
 rw [h.q,spanP_zero this]
 rfl

theorem run_flush (A:List Stp) (D:Dev) (h:D.Live):∀ j,j < D.n→(runD (A ++ [.f]) D).Y j=[]:=by
 have:∀ (A:List Stp) (D:Dev),D.Live→runD (A ++ [.f]) D=(runD A D).fD:=by
  intro A
  induction A with
  | nil=>intro D h; show (if D.wE=0 then D.fD else D.fD)=_; split <;> rfl
  | cons s r ih =>
   intro D h
   show runD (s :: (r ++ [.f])) D=(runD (s :: r) D).fD
   rw [runD_ok h.wE,runD_ok h.wE]
   exact ih _ (h.ap s)
 intro j hj
 rw [this A D h]
 have hl:=(h.run A).2
 have hn:(runD A D).n=D.n:=(runD_n A D).1
 generalize runD A D=E at *
 unfold Dev.fD
 rw [if_neg (by
  rintro (h1 | h1)
  ·rw [hl.1] at h1; omega
  ·rw [hl.2] at h1; cases h1)]
 show (if j < E.burn.n then [] else _)=[]
 have:E.burn.n=E.n:=rfl
 rw [this,hn,if_pos hj]

theorem stl_end (A:List Stp) (G:Geo) (h:Hd):A ++ stlS G h=(A ++ [.f,.w 1 (hdB G h)]) ++ [.f]:=by simp [stlS]

structure Good (G:Geo) (L:Lg) (W:Wl):Prop where
 b:blkE G (W.map (fun x=>(x.1:Int)))=0
 q:L.h.seq + G.parts W.length ≤ 4294967295
 u:G.uses W.length ≤ G.lg

theorem good_of {G:Geo} {L:Lg} {V:List Wr} (hs:L.h.seq ≤ 4294967295) (h:lstE G L.h.seq (wv V)=0):Good G L (wl V):=by
 unfold lstE at h
 by_cases h1:(wv V).all (fun x=>decide (x.2=G.blk))=true
 ·rw [if_pos h1] at h
  by_cases h2:blkE G ((wv V).map (·.1))=0
  ·rw [if_pos h2] at h
   have hl:(wv V).length=V.length:=by simp [wv]
   rw [hl] at h
   have hw:(wl V).length=V.length:=wl_len V
   by_cases h3:G.lg < G.uses V.length
   ·rw [if_pos h3] at h; omega
   ·rw [if_neg h3] at h
    by_cases h4:4294967295 - L.h.seq < G.parts V.length
    ·rw [if_pos h4] at h; omega
    ·refine ⟨?_,by rw [hw]; omega,by rw [hw]; omega⟩
     have e:(wl V).map (fun x=>(x.1:Int))=(wv V).map (·.1):=by
      unfold wl wv
      rw [List.map_map,List.map_map]
      refine List.map_congr_left (fun v hv=>?_)
      obtain ⟨h5,_⟩:=blkE_ok h2
      have:=(h5 v.b (List.mem_map.2 ⟨(v.b,v.dl),List.mem_map.2 ⟨v,hv,rfl⟩,rfl⟩)).1
      show ((v.b.toNat:Nat):Int)=v.b
      omega
     rw [e]
     exact h2
  ·rw [if_neg h2] at h; exact absurd h h2
 ·rw [if_neg h1] at h; omega

theorem setW_keys {G:Geo}:∀ (W:Wl) (Q:Nat→Option (List Int)),(∀ x ∈ W,G.ib ≤ x.1∧x.1 < G.n)→(∀ b z,Q b=some z→G.ib ≤ b∧b < G.n)→∀ b z,setW Q W b=some z→G.ib ≤ b∧b < G.n
 | [],Q,_,hQ,b,z,h=>hQ b z h
 | x :: r,Q,hW,hQ,b,z,h=>by
  refine setW_keys r _ (fun y hy=>hW y (List.mem_cons_of_mem _ hy)) (fun b z h=>?_) b z h
  by_cases e:b=x.1
  ·rw [e]; exact hW x (by simp)
  ·rw [if_neg e] at h; exact hQ b z h

theorem Good.keys {G:Geo} {L:Lg} {W:Wl} (h:Good G L W):∀ x ∈ W,G.ib ≤ x.1∧x.1 < G.n:=fun x hx=>by
 have:=(blkE_ok h.b).1 (x.1:Int) (List.mem_map.2 ⟨x,hx,rfl⟩)
 omega

theorem Lg.eta {L:Lg} (h:L.dead=false):L=⟨L.h,L.Q,false⟩:=by cases L; simp at h; rw [h]

theorem St.apl {G:Geo} (hG:G.Ok) {L:Lg} {D:Dev} (h:St G L D):apE G L D=0∧St G (apL G L D) (apD G L D)∧(apL G L D).h.used=0∧(apL G L D).h.seq=L.h.seq∧(apL G L D).Q=(fun _=>none)∧(∀ j,G.ib ≤ j→j < G.n→(apD G L D).rd j=(L.Q j).getD (D.rd j)):=by
 obtain ⟨Ps,hI⟩:=h.inv
 have hib:=hG.ibn
 unfold apE apL apD
 by_cases h0:L.h.used=0
 ·rw [if_pos h0,if_pos h0,if_pos h0]
  have hn:=hI.none h0
  exact ⟨rfl,h,h0,rfl,hn,fun j _ _=>by rw [hn]; rfl⟩
 ·have hr:=h.live.run (aplS G L)
  rw [if_neg h0,if_neg h0,if_neg h0,if_pos hr.1]
  have hrd:=run_rd (aplS G L) D hr.1
  refine ⟨hr.1,⟨hr.2,h.ld,(runD_n _ _).1.trans h.n,⟨[],?_⟩,fun j hj=>?_,fun b z hb=>by cases hb⟩,rfl,rfl,rfl,fun j h1 h2=>?_⟩
  ·rw [hrd]
   exact hI.apply hG _
  ·unfold aplS
   rw [stl_end]
   exact run_flush _ D h.live j (by rw [h.n]; exact hj)
  ·rw [hrd]
   unfold aplS
   rw [rdS_append,rdS_stl]
   show (if j=1 then _ else rdS (homeS (pendW G L.Q)) D.rd j)=_
   rw [if_neg (by omega),home_rd G L.Q D.rd j h2]

theorem St.aply {G:Geo} (hG:G.Ok) {L:Lg} {D:Dev} (h:St G L D):aplyE G L D=0∧aplyL G L D=apL G L D∧aplyD G L D=apD G L D:=by
 have:=(h.apl hG).1
 unfold aplyE aplyL aplyD
 have hnd:¬ (L.dead=true):=by rw [h.ld]; decide
 rw [if_neg hnd,if_neg hnd,if_neg hnd,this]
 unfold Lg.met
 rw [if_neg (by decide)]
 exact ⟨rfl,rfl,rfl⟩

theorem St.parse {G:Geo} (hG:G.Ok) {L:Lg} {D:Dev} (h:St G L D):Go.Proofs.YtdfanhjnkjdngaaGreatDoor.parse G D.rd=some L:=by
 obtain ⟨Ps,hI⟩:=h.inv
 rw [hI.parse hG (hd_back hG hI.ok),← Lg.eta h.ld]

theorem crash_rd {D:Dev} (h:∀ j,j < D.n→D.Y j=[]) (ps:List Int):(D.crash ps).rd=D.rd:=by
 funext j
 unfold Dev.rd
 by_cases hj:j < D.n
 ·have e1:(D.crash ps).Y j=[]:=by show (if j < D.n then [] else D.Y j)=[]; rw [if_pos hj]
  have e2:(D.crash ps).X j=D.X j:=by
   show (if j < D.n then D.pick j _ else D.X j)=D.X j
   rw [if_pos hj,pick_low (.inr (h j hj))]
  rw [e1,e2,h j hj]
 ·have e1:(D.crash ps).Y j=D.Y j:=by show (if j < D.n then [] else D.Y j)=D.Y j; rw [if_neg hj]
  have e2:(D.crash ps).X j=D.X j:=by show (if j < D.n then D.pick j _ else D.X j)=D.X j; rw [if_neg hj]
  rw [e1,e2]

theorem crash_y (D:Dev) (ps:List Int):∀ j,j < D.n→(D.crash ps).Y j=[]:=fun j hj=>by
 show (if j < D.n then [] else D.Y j)=[]
 rw [if_pos hj]

theorem St.crash {G:Geo} {L:Lg} {D:Dev} (h:St G L D) (ps:List Int):St G L (D.crash ps):=by
 have e:=crash_rd (D:=D) (fun j hj=>h.fl j (by rw [← h.n]; exact hj)) ps
 exact ⟨⟨rfl,rfl⟩,h.ld,h.n,by rw [e]; exact h.inv,fun j hj=>crash_y D ps j (by rw [h.n]; exact hj),h.q⟩

end Go.Proofs.YtdfanhjnkjdngaaGreatDoor

