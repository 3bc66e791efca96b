/- Joined: IFresh, INew. -/
import Derived.Test.YtbofhdfhhbgdgaaGreatDoorIaJ40
import Derived.Test.YtbofhdfhhbgdgaaGreatDoorIaJ39
import Derived.Test.YtbofhdfhhbgdgaaGreatDoorIaJ34
import Derived.Test.YtbofhdfhhbgdgaaGreatDoorIaJ36
/- The law's plan, its device and its group; the blocks that it logs. -/
namespace Go.Proofs.YtbofhdfhhbgdgaaGreatDoor
set_option maxRecDepth 100000
set_option maxHeartbeats 8000000
open Go.RowKit Go.Shelf Go.Maps
set_option linter.unusedVariables false
theorem abX (w:World):gq w none 0 []:=⟨rfl,fun h=>absurd h (by omega)⟩
theorem Lo.acX {w:World}{P G E g rows i V F u v}(h:Lo u P G E g rows i V F v)(hb:Below w.heap.size w u):Lo w P G E g rows i V F v:=by
 obtain⟨cg,lg,dg,X,C,L,D,S,h,r⟩:=h
 exact⟨cg,lg,dg,X,C,L,D,S,⟨⟨h.hl.gv,fun k hk=>Nat.le_trans hb.size (h.hl.ge k hk),hb.trans (h.hl.bel.mono hb.size),Nat.le_refl _,h.hl.ro⟩,h.gs,h.sq,h.vl,h.fl,h.vb,h.eb,h.eu,h.ed⟩,r⟩
theorem Lo.old {w P G E g rows i V F u}{k:Nat}{ob:Obj}(h:Lo w P G E g rows i V F u)(hk:w.heap[k]?=some ob):Lo w P G E g ((k,ob)::rows) i V F u:=by
 obtain⟨cg,lg,dg,X,C,L,D,S,h,r⟩:=h
 have hl:=(Array.getElem?_eq_some_iff.1 hk).1
 exact⟨cg,lg,dg,X,C,L,D,S,h.add ((h.hl.bel.block k hl).trans hk) (fun hs=>by have:=h.hl.ge k hs;omega),r⟩
def aP:Nat->Int:=oz 64 90 6 30
def aG:Geo:=⟨64,90,30⟩
theorem abY:aG.Ok:=⟨.inl rfl,by decide,by decide,by decide,by decide⟩
theorem uf:dO 64 90 6 30=0:=by decide
theorem aPG:PG aP aG:=by
 have e:∀ k,aP k=gy 64 90 6 30 k:=fun k=>by unfold aP;rw[kK uf]
 refine⟨?_,?_,?_,?_,?_,?_,abY⟩
 ·have e0:aP 0=64:=by rw[e];rfl
  have e1:aP 1=90:=by rw[e];rfl
  have e2:aP 2=6:=by rw[e];rfl
  have e3:aP 3=30:=by rw[e];rfl
  refine wK (by rw[e0,e1,e2,e3];exact uf) (fun k hk=>by rw[e0,e1,e2,e3];rfl)
 ·rw[e];rfl
 ·rw[e];rfl
 ·rw[e];rfl
 ·rw[e];rfl
 ·rw[e];rfl
def aD:Dev:=um (whS aG hd1) (Dev.new 64 90)
theorem ahn:pW (whS aG hd1) (Dev.new 64 90)=0:=by
 unfold whS
 rw[nR (by decide)]
 show pW [.f] ((Dev.new 64 90).wD 1 (hdB aG hd1))=0
 have:((Dev.new 64 90).wD 1 (hdB aG hd1)).wE=0:=by
  unfold Dev.wD
  rw[if_neg (by decide),if_pos (by show ([]:List (List Int)).length<400;decide)]
  rfl
 rw[nR this]
 rfl
theorem akc:aD=((Dev.new 64 90).dR.add 1 (hdB aG hd1)).dR.flush:=by
 unfold aD whS
 rw[nT (by decide)]
 show um [.f] ((Dev.new 64 90).wD 1 (hdB aG hd1))=_
 have e1:(Dev.new 64 90).wD 1 (hdB aG hd1)=(Dev.new 64 90).dR.add 1 (hdB aG hd1):=by
  unfold Dev.wD
  rw[if_neg (by decide),if_pos (by show ([]:List (List Int)).length<400;decide)]
 rw[e1]
 have e2:((Dev.new 64 90).dR.add 1 (hdB aG hd1)).wE=0:=rfl
 rw[nT e2]
 show ((Dev.new 64 90).dR.add 1 (hdB aG hd1)).fD=_
 unfold Dev.fD
 rw[if_neg]
 rintro (h | h)
 ·exact absurd h (by decide)
 ·exact absurd h (by decide)
theorem agH:aD.rd 1=hdB aG hd1:=by
 rw[akc]
 rfl
theorem jo:aD.dead=false/\aD.blk=64/\aD.n=90/\aD.f=-1/\(∀ i,i<90->aD.Y i=[]):=by
 rw[akc]
 refine⟨rfl,rfl,rfl,rfl,fun i hi=>?_⟩
 show (if i<90 then [] else _)=[]
 rw[if_pos hi]
theorem aa8:parse aG aD.rd=some sL:=by
 obtain⟨h1,h2⟩:=adI abY (aat abY)
 rw[aai (by rw[agH,h2];exact⟨h1,by decide,by decide⟩),agH,h2]
 have:goP aG aD.rd ((hd1.seq:Nat):Int) hd1.tail (hd1.tail+hd1.used) 600 hd1.tail ((hd1.seq:Nat):Int) (fun _=>none)=some (fun _=>none):=by
  rw[goP,if_pos (show hd1.tail=hd1.tail+hd1.used from rfl)]
  simp
 rw[this]
 rfl
theorem aeC:(adJ (aD.rd 1)/\(fK (aD.rd 1)).tail<aG.lg/\(fK (aD.rd 1)).used<=aG.lg)/\(fK (aD.rd 1)).used=0:=by
 obtain⟨h1,h2⟩:=adI abY (aat abY)
 rw[agH,h2]
 exact⟨⟨h1,by decide,by decide⟩,rfl⟩
theorem ajy:newE 64 90=0:=by decide
theorem qW (w:World):Calls Tryz.prog 10 #[] w fun e w'=>e=.returned (Pv aP)/\Below w.heap.size w w':=by
 have K:Hid (∀ u,Calls Tryz.prog 34 #[.int .i64 64,.int .i64 90,.int .i64 6,.int .i64 30] u fun e w'=>e=.returned (.tuple #[Pv aP,.int .i64 0])/\Below u.heap.size u w'):=fun u=>by
  have:=aaZ 64 90 6 30 _ _ _ _ u (fun h=>by have:=iM.2 h;revert this;decide) (by decide) rfl rfl rfl rfl (by decide)
  rw[← af8,← kK uf] at this
  exact this
 have HZ:=hide (Bl.new w #[.int .i64 0,.int .i64 0,.int .i64 0,.int .i64 0,.int .i64 0,.int .i64 0,.int .i64 0,.int .i64 0,.int .i64 0,.int .i64 0,.int .i64 0,.int .i64 0] 25)
 have HB:=hide ((Below.refl w.heap.size w).alloc (Nat.le_refl _) (.cells #[.int .i64 0,.int .i64 0,.int .i64 0,.int .i64 0,.int .i64 0,.int .i64 0,.int .i64 0,.int .i64 0,.int .i64 0,.int .i64 0,.int .i64 0,.int .i64 0] 25))
 generalize aP=p at *
 go_enter Tryz.func10,Tryz.ntmps10
 go_wp2_with fail
 go_at_call 34
 refine(ah K _).mono ?_
 rintro e w1 ⟨rfl,hb⟩
 have HZ2:=hide (((ah HZ).call hb).alloc (.cells (Pc p) 25))
 have HB2:=hide (((ah HB).trans (hb.mono (ah HB).size)).alloc ((ah HB).trans (hb.mono (ah HB).size)).size (.cells (Pc p) 25))
 have HN:=hide (Bl.new w1 (Pc p) 25)
 clear HZ HB hb K
 go_upto_region 2 with fail
 change Code.wp _ _ _ _ (w1.alloc (.cells (Pc p) 25))
 generalize w1.alloc (.cells (Pc p) 25)=w2 at *
 generalize w1.heap.size=g1 at *
 have z0:=(ah HZ2).cell 0 (.int .i64 0) rfl
 have z1:=(ah HZ2).cell 1 (.int .i64 0) rfl
 have z2:=(ah HZ2).cell 2 (.int .i64 0) rfl
 have z3:=(ah HZ2).cell 3 (.int .i64 0) rfl
 have z4:=(ah HZ2).cell 4 (.int .i64 0) rfl
 have z5:=(ah HZ2).cell 5 (.int .i64 0) rfl
 have z6:=(ah HZ2).cell 6 (.int .i64 0) rfl
 have z7:=(ah HZ2).cell 7 (.int .i64 0) rfl
 have z8:=(ah HZ2).cell 8 (.int .i64 0) rfl
 have z9:=(ah HZ2).cell 9 (.int .i64 0) rfl
 have z10:=(ah HZ2).cell 10 (.int .i64 0) rfl
 have z11:=(ah HZ2).cell 11 (.int .i64 0) rfl
 have n0:=(ah HN).cell 0 (.int .i64 (p 0)) rfl
 have n1:=(ah HN).cell 1 (.int .i64 (p 1)) rfl
 have n2:=(ah HN).cell 2 (.int .i64 (p 2)) rfl
 have n3:=(ah HN).cell 3 (.int .i64 (p 3)) rfl
 have n4:=(ah HN).cell 4 (.int .i64 (p 4)) rfl
 have n5:=(ah HN).cell 5 (.int .i64 (p 5)) rfl
 have n6:=(ah HN).cell 6 (.int .i64 (p 6)) rfl
 have n7:=(ah HN).cell 7 (.int .i64 (p 7)) rfl
 have n8:=(ah HN).cell 8 (.int .i64 (p 8)) rfl
 have n9:=(ah HN).cell 9 (.int .i64 (p 9)) rfl
 have n10:=(ah HN).cell 10 (.int .i64 (p 10)) rfl
 have n11:=(ah HN).cell 11 (.int .i64 (p 11)) rfl
 have fz:=(ah HZ2).free
 go_wp2_with fail
 have hW:Below w.heap.size w (aI w2 w.heap.size 0 [.int .i64 (p 0),.int .i64 (p 1),.int .i64 (p 2),.int .i64 (p 3),.int .i64 (p 4),.int .i64 (p 5),.int .i64 (p 6),.int .i64 (p 7),.int .i64 (p 8),.int .i64 (p 9),.int .i64 (p 10),.int .i64 (p 11)]):=aW (Nat.le_refl _) _ _ _ _ (ah HB2)
 have hA:=aU [.int .i64 (p 0),.int .i64 (p 1),.int .i64 (p 2),.int .i64 (p 3),.int .i64 (p 4),.int .i64 (p 5),.int .i64 (p 6),.int .i64 (p 7),.int .i64 (p 8),.int .i64 (p 9),.int .i64 (p 10),.int .i64 (p 11)] _ _ (ah HZ2) rfl
 change bodyPost _ _ _ _ _ (aI w2 w.heap.size 0 [.int .i64 (p 0),.int .i64 (p 1),.int .i64 (p 2),.int .i64 (p 3),.int .i64 (p 4),.int .i64 (p 5),.int .i64 (p 6),.int .i64 (p 7),.int .i64 (p 8),.int .i64 (p 9),.int .i64 (p 10),.int .i64 (p 11)])
 generalize aI w2 w.heap.size 0 [.int .i64 (p 0),.int .i64 (p 1),.int .i64 (p 2),.int .i64 (p 3),.int .i64 (p 4),.int .i64 (p 5),.int .i64 (p 6),.int .i64 (p 7),.int .i64 (p 8),.int .i64 (p 9),.int .i64 (p 10),.int .i64 (p 11)]=wf at *
 refine bodyPost_ret (v:=Pv p) ?_ rfl ⟨rfl,hW⟩
 simp[results,Tryz.results10,go_sem,hA.cell 0 _ rfl,hA.cell 1 _ rfl,hA.cell 2 _ rfl,hA.cell 3 _ rfl,hA.cell 4 _ rfl,hA.cell 5 _ rfl,hA.cell 6 _ rfl,hA.cell 7 _ rfl,hA.cell 8 _ rfl,hA.cell 9 _ rfl,hA.cell 10 _ rfl,hA.cell 11 _ rfl]
theorem gQ (k:Nat):aP k=gy 64 90 6 30 k:=by unfold aP;rw[kK uf]
theorem alk:(aG.ib:Int)<=aP 11/\aP 11<=(aG.n:Int):=by
 rw[gQ]
 decide
theorem ai9:Seen (gmem 0) aG sL:=.inr (.inl (by show 0<1;omega))
theorem alm:Su aG sL aD:=by
 refine⟨⟨jo.2.2.2.1,jo.1⟩,rfl,jo.2.2.1,⟨[],?_⟩,fun b z h=>by cases h⟩
 exact⟨agH,aat abY,Nat.zero_le _,trivial,rfl,rfl⟩
def aE (j:Nat):Bool:=decide (32<=j/\j<37)
theorem agG {j:Nat}:aE j=true↔32<=j/\j<37:=by simp[aE]
theorem aA:Ab aP aG aE 33 37 6 :=
 ⟨by rw[gQ];rfl,by rw[gQ];rfl,by rw[gQ];rfl,rfl,rfl,by decide,by decide,by decide,by decide,by decide⟩
theorem akb:∀ j:Nat,aP 11<=(j:Int)->aE j=false:=fun j hj=>by
 have e:aP 11=37:=by rw[gQ];rfl
 rw[e] at hj
 cases h:aE j with
 | false=>rfl
 | true=>have:=agG.1 h;omega
theorem wQ (w u:World)(hT:Tab w)(hu:Below w.heap.size w u) :
  Calls Tryz.prog 35 #[.int .i64 (aP 0),.int .i64 (aP 1)] u fun e w1=>∃ dg,e=.returned (.tuple #[.pointer (some ⟨dg,0,none⟩),.int .i64 0])/\Below u.heap.size u w1/\Hid (
   Calls Tryz.prog 36 #[.pointer (some ⟨dg,0,none⟩),Pv aP] w1 fun e w2=>e=.returned (.int .i64 0)/\Below u.heap.size u w2/\Hid (
    Calls Tryz.prog 37 #[.pointer (some ⟨dg,0,none⟩),Pv aP] w2 fun e w3=>∃ lg,e=.returned (.tuple #[.pointer (some ⟨lg,0,none⟩),.int .i64 0])/\Below u.heap.size u w3/\Hid (
     Calls Tryz.prog 38 #[.pointer (some ⟨dg,0,none⟩),.int .i64 8,.slice none 0 0] w3 fun e w4=>∃ cg,e=.returned (.tuple #[.pointer (some ⟨cg,0,none⟩),.int .i64 0])/\Below u.heap.size u w4/\Hid (
      Calls Tryz.prog 39 #[.pointer (some ⟨dg,0,none⟩),.pointer (some ⟨lg,0,none⟩),.pointer (some ⟨cg,0,none⟩),Pv aP] w4 fun e w5=>∃ g,e=.returned (.tuple #[.pointer (some ⟨g,0,none⟩),.int .i64 0])/\Below u.heap.size u w5/\Hid (Lo w aP aG aE g [] 1 (fun _=>fl 0) (fun _=>false) w5))))):=by
 have e0:aP 0=((64:Nat):Int):=aPG.p0
 have e1:aP 1=((90:Nat):Int):=aPG.p1
 rw[e0,e1]
 refine(ahb 64 90 u ajy).mono ?_
 rintro e w1 ⟨dg,S,rfl,hD,hS,hb1⟩
 refine⟨dg,rfl,hb1,?_⟩
 have hus:=hu.size
 have hT0:=hT.lt
 have bw1:Below w.heap.size w w1:=hu.trans (hb1.mono hus)
 have h0:¬ S 0:=fun h=>by have:=hS 0 h;omega
 have hf:=abA aP aG dg S (Dev.new 64 90) w1 aPG hD rfl rfl (hT.kept (bw1.block 0 hT0)) h0
 rw[ahn] at hf
 refine hf.mono ?_
 rintro e w2 ⟨rfl,S2,d2,n2⟩
 have ge2:∀ k,S2 k->u.heap.size<=k:=n2.base hS hb1.size
 have bu2:Below u.heap.size u w2:=hb1.trans (n2.below hS hb1.size)
 refine⟨rfl,bu2,?_⟩
 have bw3:Below w.heap.size w w2:=hu.trans (bu2.mono hus)
 have h02:¬ S2 0:=fun h=>by have:=ge2 0 h;omega
 refine(abq aP aG dg S2 aD w2 aPG (show Dv w2 S2 dg aD from d2) jo.2.1 jo.2.2.1 (hT.kept (bw3.block 0 hT0)) h02 jo.1 aeC.1 aeC.2).mono ?_
 intro e w3 X
 obtain⟨S3,n3,(⟨hx,_⟩ | ⟨_,hx,_⟩ | ⟨_,L,lg,hp,he,hl⟩)⟩:=ah X
 ·rw[jo.1] at hx;cases hx
 ·rw[aa8] at hx;cases hx
 ·rw[aa8] at hp
  cases hp
  have ge3:∀ k,S3 k->u.heap.size<=k:=n3.base ge2 bu2.size
  have bu3:Below u.heap.size u w3:=bu2.trans (n3.below ge2 bu2.size)
  obtain⟨Sl,Sd,ml,lv⟩:=hl
  refine⟨lg,he,bu3,(ai5 dg Sd aD 8 none 0 0 [] w3 lv.dd (by omega) (abX w3) (by omega) (fun _=>⟨rfl,rfl⟩)).mono ?_⟩
  rintro e w4 ⟨cg,rfl,Y4⟩
  obtain⟨S4,k4,g4,b4⟩:=ah Y4
  obtain⟨S5,t5,x5⟩:=aiU lv k4 g4 b4
  have h4:Below u.heap.size u w4:=bu3.trans (b4.mono bu3.size)
  refine⟨cg,rfl,h4,(ais t5 ai9 alk).mono ?_⟩
  rintro e w5 ⟨g,rfl,Y5⟩
  obtain⟨S6,g6,x6,_⟩:=ah Y5
  have ge5:∀ k,S5 k->u.heap.size<=k:=x5.base ge3 bu3.size
  have bu5:=h4.trans (x6.below ge5 h4.size)
  refine⟨g,rfl,bu5,cg,lg,dg,_,_,_,_,S6,⟨⟨g6,fun k hk=>Nat.le_trans hus (x6.base ge5 h4.size k hk),hu.trans (bu5.mono hus),Nat.le_refl _,fun x hx=>by simp at hx⟩,⟨alm,fun b l _ e=>(by cases e),?_,by show 1<=8;omega,fun b l e=>(by cases e),fun b z e=>(by cases e),fun b z e=>(by cases e),?_⟩,Nat.le_refl _,fun j hj hj2=>?_,fun j _=>rfl,fun j hj=>⟨by rw[ahi];rfl,fun z hz=>?_⟩,fun j hj=>?_,?_,fun j hj=>?_⟩,rfl⟩
  ·have:cnt ((Cac.new 8 []).wants bK) aD.n<=cnt (fun _=>false) aD.n:=cnt_mono (fun b _ hw=>by cases hw)
   have h0:cnt (fun _=>false) aD.n=0:=by rw[jo.2.2.1];decide
   show cnt ((Cac.new 8 []).wants bK) aD.n<=8
   omega
  ·show aG.uses (bf aG (fun _=>none)).length<=aG.lg
   decide
  ·show aD.rd j=fl 0
   have:=agG.1 hj
   rw[show aD.rd=rdS (whS aG hd1) (Dev.new 64 90).rd from agU _ _ ahn]
   show (if j=1 then _ else (Dev.new 64 90).rd j)=_
   rw[if_neg (by omega)]
   rfl
  ·have:z=0:=List.eq_of_mem_replicate hz
   omega
  ·have:=agG.1 hj
   show 32<=j/\j<90
   omega
  ·decide
  ·have:=agG.1 hj
   rw[show aP 11=37 by rw[gQ];rfl]
   omega
theorem ai7 (P:Nat->Int)(g:Nat)(u:World)(hc:bD P=0) :
  Calls Tryz.prog 40 #[.pointer (some ⟨g,0,none⟩),Pv P] u fun e u'=>∃ a,e=.returned (.tuple #[.pointer (some ⟨a,0,none⟩),.int .i64 0])/\Hid (Below u.heap.size u u'/\u.heap.size<=a/\u'.heap[a]?=some (alO g P)):=by
 have HK:=hide (Kp.start u P)
 have K1:Hid (∀ w,Calls Tryz.prog 100 #[Pv P] w fun e w'=>e=.returned (.int .i64 0)/\Below w.heap.size w w'):=fun w=>by
  have:=check_any P w
  rwa [hc] at this
 have KL:Hid (∀ w1,Below u.heap.size u w1->Below u.heap.size u (w1.alloc (.cells #[.pointer (some ⟨g,0,none⟩),.int .i64 (P 0),.int .i64 (P 1),.int .i64 (P 2),.int .i64 (P 3),.int .i64 (P 4),.int .i64 (P 5),.int .i64 (P 6),.int .i64 (P 7),.int .i64 (P 8),.int .i64 (P 9),.int .i64 (P 10),.int .i64 (P 11)] 118))/\u.heap.size<=w1.heap.size/\(w1.alloc (.cells #[.pointer (some ⟨g,0,none⟩),.int .i64 (P 0),.int .i64 (P 1),.int .i64 (P 2),.int .i64 (P 3),.int .i64 (P 4),.int .i64 (P 5),.int .i64 (P 6),.int .i64 (P 7),.int .i64 (P 8),.int .i64 (P 9),.int .i64 (P 10),.int .i64 (P 11)] 118)).heap[w1.heap.size]?=some (alO g P)):=fun w1 hb =>
  ⟨hb.alloc hb.size _,hb.size,World.alloc_heap_new w1 _⟩
 clear hc
 obtain⟨f0,f1,f2,f3,f4,f5,f6,f7,f8,f9,f10,f11⟩:=(ah HK).cells
 go_enter Tryz.func40,Tryz.ntmps40
 go_wp2_with fail
 go_at_call 100
 refine(ah K1 _).mono ?_
 rintro e w1 ⟨rfl,hb⟩
 replace HK:=hide ((ah HK).call hb)
 clear f0 f1 f2 f3 f4 f5 f6 f7 f8 f9 f10 f11 K1 hb
 obtain⟨f0,f1,f2,f3,f4,f5,f6,f7,f8,f9,f10,f11⟩:=(ah HK).cells
 have Z:=hide (ah KL w1 (ah HK).2)
 clear KL HK
 go_wp2_with fail
 go_ret2
 exact⟨_,rfl,ah Z⟩
theorem ae9 {w P G E g o rows i V F V' K u}{bb da ni:Nat}(h:Lp w P G E g o rows i V F V' K u)(hA:Ab P G E bb da ni)(hrc:∀ x∈rows,x.2.isCells=true)(h0:0<w.heap.size)(hp6:P 6=1)(hp8:P 8=1)(hda:0<da/\da<=8*G.blk)(hE:Hid (∀ j:Nat,P 11<=(j:Int)->E j=false)) :
  Calls Tryz.prog 42 #[.pointer (some ⟨o,0,none⟩),Pv P] u fun e u'=>e=.returned (.int .i64 0)/\Hid (Lp w P G E g o rows i V F (fun j=>if j=bb then fV G.blk (upTo da) else if j=G.ib then fV G.blk (upTo 2) else V' j) K u'):=by
 have hpg:=h.ok
 have hbk:=hpg.ok.blk
 have hp0:=hpg.p0
 have hp5:=hpg.p5
 have hi4:G.ib<=4096:=by have:=hpg.ok.n1;have:=hpg.ok.n2;unfold Geo.ib;omega
 have H0:=hide (h.new (.cells (Pc P) 25))
 have akO:∀ x∈(u.heap.size,Obj.cells (Pc P) 25)::rows,x.2.isCells=true:=fun x hx=>by
  rcases List.mem_cons.1 hx with e | e
  ·subst e;rfl
  ·exact hrc x e
 have K1:Hid (∀ w,Calls Tryz.prog 100 #[Pv P] w fun e w'=>e=.returned (.int .i64 0)/\Below w.heap.size w w'):=fun w=>by
  have:=check_any P w
  rwa [hpg.chk] at this
 have K2:Hid (∀ v V2,Lp w P G E g o ((u.heap.size,.cells (Pc P) 25)::rows) i V F V2 K v->Calls Tryz.prog 101 #[.pointer (some ⟨o,0,none⟩),.int .i64 (P 0),.int .i64 (P 5),.int .i64 (P 6),.int .i64 2] v fun e u'=>e=.returned (.int .i64 0)/\Hid (Lp w P G E g o ((u.heap.size,.cells (Pc P) 25)::rows) i V F (fun j=>if j=G.ib then fV G.blk (upTo 2) else V2 j) K u')):=fun v V2 hv=>by
  rw[hp0,hp5,hp6]
  exact ahd hv hA.ei 2 (by omega) akO h0 hi4 hE
 have K3:Hid (∀ v V2,Lp w P G E g o ((u.heap.size,.cells (Pc P) 25)::rows) i V F V2 K v->Calls Tryz.prog 101 #[.pointer (some ⟨o,0,none⟩),.int .i64 (P 0),.int .i64 (P 7),.int .i64 (P 8),.int .i64 (P 11)] v fun e u'=>e=.returned (.int .i64 0)/\Hid (Lp w P G E g o rows i V F (fun j=>if j=bb then fV G.blk (upTo da) else V2 j) K u')):=fun v V2 hv=>by
  rw[hp0,hA.p7,hp8,hA.p11]
  refine(ahd hv hA.eb da hda akO h0 hA.b4 hE).mono ?_
  rintro e u' ⟨rfl,Y⟩
  exact⟨rfl,(ah Y).pop⟩
 have HB:Hid (∀ v V2,Lp w P G E g o ((u.heap.size,.cells (Pc P) 25)::rows) i V F V2 K v->Bl v u.heap.size (Pc P) 25):=fun v V2 hv=>hv.row (x:=(u.heap.size,.cells (Pc P) 25)) (by simp)
 clear h hA hrc h0 hp6 hp8 hda hpg hbk hp0 hp5 hi4 akO
 go_enter Tryz.func42,Tryz.ntmps42
 go_upto_region 1 with fail
 change Code.wp _ _ _ _ (u.alloc (.cells (Pc P) 25))
 generalize u.alloc (.cells (Pc P) 25)=w0 at *
 generalize u.heap.size=mb at *
 have bl:=ah HB _ _ (ah H0)
 have x0:=bl.cell 0 (.int .i64 (P 0)) rfl
 have x1:=bl.cell 1 (.int .i64 (P 1)) rfl
 have x2:=bl.cell 2 (.int .i64 (P 2)) rfl
 have x3:=bl.cell 3 (.int .i64 (P 3)) rfl
 have x4:=bl.cell 4 (.int .i64 (P 4)) rfl
 have x5:=bl.cell 5 (.int .i64 (P 5)) rfl
 have x6:=bl.cell 6 (.int .i64 (P 6)) rfl
 have x7:=bl.cell 7 (.int .i64 (P 7)) rfl
 have x8:=bl.cell 8 (.int .i64 (P 8)) rfl
 have x9:=bl.cell 9 (.int .i64 (P 9)) rfl
 have x10:=bl.cell 10 (.int .i64 (P 10)) rfl
 have x11:=bl.cell 11 (.int .i64 (P 11)) rfl
 clear bl
 go_wp2_with fail
 go_at_call 100
 refine(ah K1 _).mono ?_
 rintro e w1 ⟨rfl,hb1⟩
 have H1:=hide ((ah H0).later hb1)
 clear H0 hb1 K1 x0 x1 x2 x3 x4 x5 x6 x7 x8 x9 x10 x11
 have bl:=ah HB _ _ (ah H1)
 have x0:=bl.cell 0 (.int .i64 (P 0)) rfl
 have x5:=bl.cell 5 (.int .i64 (P 5)) rfl
 have x6:=bl.cell 6 (.int .i64 (P 6)) rfl
 clear bl
 go_wp2_with fail
 go_at_call 101
 refine(ah K2 _ _ (ah H1)).mono ?_
 rintro e w2 ⟨rfl,Z2⟩
 clear H1 x0 x5 x6 K2
 have bl:=ah HB _ _ (ah Z2)
 have x0:=bl.cell 0 (.int .i64 (P 0)) rfl
 have x7:=bl.cell 7 (.int .i64 (P 7)) rfl
 have x8:=bl.cell 8 (.int .i64 (P 8)) rfl
 have x11:=bl.cell 11 (.int .i64 (P 11)) rfl
 clear bl
 go_wp2_with fail
 go_at_call 101
 refine(ah K3 _ _ (ah Z2)).mono ?_
 rintro e w3 ⟨rfl,Z3⟩
 clear Z2 K3
 go_wp2_with fail
 go_ret
 exact⟨rfl,Z3⟩
def x1:Nat->Int:=fun k=>if k=0 then 1 else if k=1 then 1 else 0
theorem ng:bP x1:=by unfold bP;decide
def tbZ (X Y:Nat->Int):List Int:=bW 32 (dG X)++bW 32 (dG Y)
theorem fP (X:Nat->Int):(bW 32 (dG X)).length=32:=eG (by rw[iH];omega)
theorem ah3 (X Y:Nat->Int):(tbZ X Y).length=64:=by unfold tbZ;rw[List.length_append,fP,fP]
theorem ah5 (X Y Z:Nat->Int):put (tbZ X Y) 0 (bW 32 (dG Z))=tbZ Z Y:=by
 have e:=fP X
 have e2:=fP Z
 unfold put tbZ
 rw[List.take_zero,List.nil_append,e2,Nat.zero_add,List.drop_append_of_le_length (by omega),List.drop_of_length_le (by omega),List.nil_append]
theorem aiZ (X Y Z:Nat->Int):put (tbZ X Y) 32 (bW 32 (dG Z))=tbZ X Z:=by
 have e:=fP X
 have e2:=fP Z
 have e3:=fP Y
 unfold put tbZ
 rw[List.take_append_of_le_length (by omega),List.take_of_length_le (by omega),e2,List.drop_of_length_le (by rw[List.length_append];omega),List.append_nil]
theorem rG (X Y:Nat->Int):((tbZ X Y).drop 0).take 32=bW 32 (dG X):=by
 have e:=fP X
 unfold tbZ
 rw[List.drop_zero,List.take_append_of_le_length (by omega),List.take_of_length_le (by omega)]
theorem ah4 (X Y:Nat->Int):((tbZ X Y).drop 32).take 32=bW 32 (dG Y):=by
 have e:=fP X
 have e2:=fP Y
 unfold tbZ
 rw[List.drop_append_of_le_length (by omega),List.drop_of_length_le (by omega),List.nil_append,List.take_of_length_le (by omega)]
theorem ajS:fl 0=tbZ wX wX:=by decide
def aV (j:Nat):List Int:=if j=35 then tbZ x1 x1 else if j=33 then fV 64 (upTo 37) else if j=32 then fV 64 (upTo 2) else fl 0
theorem abg:gU aP 2=0/\jE aP 2=((35:Nat):Int)/\jF aP 2=((0:Nat):Int):=by
 have e:gU aP 2=0:=by
  unfold gU
  rw[if_neg (by rw[aPG.chk];omega),if_neg (by rw[gQ 2];decide)]
 refine⟨e,?_,?_⟩
 ·unfold jE;rw[if_pos e,gQ 9,gQ 0];decide
 ·unfold jF;rw[if_pos e,gQ 0];decide
theorem akn:gU aP 3=0/\jE aP 3=((35:Nat):Int)/\jF aP 3=((32:Nat):Int):=by
 have e:gU aP 3=0:=by
  unfold gU
  rw[if_neg (by rw[aPG.chk];omega),if_neg (by rw[gQ 2];decide)]
 refine⟨e,?_,?_⟩
 ·unfold jE;rw[if_pos e,gQ 9,gQ 0];decide
 ·unfold jF;rw[if_pos e,gQ 0];decide
theorem qJ (w:World)(hT:Tab w):Calls Tryz.prog 11 #[Pv aP] w fun e w'=>∃ g a t,e=.returned (.tuple #[.pointer (some ⟨g,0,none⟩),.pointer (some ⟨a,0,none⟩),.pointer (some ⟨t,0,none⟩)])/\Hid (Lo w aP aG aE g [(t,tbO a aP),(a,alO g aP)] 1 aV (fun _=>false) w'):=by
 have hT0:=hT.lt
 have B0:Below w.heap.size w (w.alloc (.cells (Pc aP) 25)):=(Below.refl _ _).alloc (Nat.le_refl _) _
 have K:=hide (wQ (w.alloc (.cells (Pc aP) 25)) (w.alloc (.cells (Pc aP) 25)) (hT.kept (B0.block 0 hT0)) (Below.refl _ _))
 have HK:=hide (Kp.start w aP)
 have BX:=hide (Bl.new w (Pc aP) 25)
 have KN:Hid (∀ g v,Lo (w.alloc (.cells (Pc aP) 25)) aP aG aE g [] 1 (fun _=>fl 0) (fun _=>false) v->Calls Tryz.prog 40 #[.pointer (some ⟨g,0,none⟩),Pv aP] v fun e u'=>∃ a,e=.returned (.tuple #[.pointer (some ⟨a,0,none⟩),.int .i64 0])/\Hid (Lo (w.alloc (.cells (Pc aP) 25)) aP aG aE g [(a,alO g aP),(w.heap.size,.cells (Pc aP) 25)] 1 (fun _=>fl 0) (fun _=>false) u')):=fun g v hv=>by
  refine(ai7 aP g v aPG.chk).mono ?_
  rintro e u' ⟨a,rfl,Y⟩
  obtain⟨b1,a1,a2⟩:=ah Y
  exact⟨a,rfl,(hv.old (ah BX)).push b1 a1 a2⟩
 have KM:Hid (∀ g a v,Lo (w.alloc (.cells (Pc aP) 25)) aP aG aE g [(a,alO g aP),(w.heap.size,.cells (Pc aP) 25)] 1 (fun _=>fl 0) (fun _=>false) v->Calls Tryz.prog 41 #[.pointer (some ⟨a,0,none⟩),Pv aP] v fun e u'=>∃ t,e=.returned (.tuple #[.pointer (some ⟨t,0,none⟩),.int .i64 0])/\Hid (Lo (w.alloc (.cells (Pc aP) 25)) aP aG aE g [(t,tbO a aP),(a,alO g aP),(w.heap.size,.cells (Pc aP) 25)] 1 (fun _=>fl 0) (fun _=>false) u')):=fun g a v hv=>by
  refine(ahy aP a v aPG.chk).mono ?_
  rintro e u' ⟨t,rfl,Y⟩
  obtain⟨b1,a1,a2⟩:=ah Y
  exact⟨t,rfl,hv.push b1 a1 a2⟩
 have KF:Hid (∀ g a t o v,Lp (w.alloc (.cells (Pc aP) 25)) aP aG aE g o [(t,tbO a aP),(a,alO g aP),(w.heap.size,.cells (Pc aP) 25)] 1 (fun _=>fl 0) (fun _=>false) (fun _=>fl 0) (fun _=>false) v->Calls Tryz.prog 42 #[.pointer (some ⟨o,0,none⟩),Pv aP] v fun e u'=>e=.returned (.int .i64 0) /\
   Hid (Calls Tryz.prog 17 #[.pointer (some ⟨t,0,none⟩),.pointer (some ⟨o,0,none⟩),.int .i64 2,Iv x1] u' fun e u1=>e=.returned (.int .i64 0) /\
    Hid (Calls Tryz.prog 17 #[.pointer (some ⟨t,0,none⟩),.pointer (some ⟨o,0,none⟩),.int .i64 3,Iv x1] u1 fun e u2=>e=.returned (.int .i64 0) /\
     Hid (Calls Tryz.prog 20 #[.pointer (some ⟨o,0,none⟩)] u2 fun e u3=>e=.returned (.int .i64 0)/\Hid (Lo w aP aG aE g [(t,tbO a aP),(a,alO g aP)] 1 aV (fun _=>false) u3))))):=fun g a t o v hv=>by
  refine(ae9 hv aA (fun x hx=>by
   simp only[List.mem_cons,List.not_mem_nil,or_false] at hx
   rcases hx with rfl | rfl | rfl<;>rfl) (by simp) (by rw[gQ];rfl) (by rw[gQ];rfl) (by decide) (hide akb)).mono ?_
  rintro e u' ⟨rfl,Y⟩
  refine⟨rfl,?_⟩
  refine(xE (a:=a) (ah Y) x1 2 (by simp) (by simp) abg.1 abg.2.1 abg.2.2 (by decide) (by decide) ng).mono ?_
  rintro e u1 ⟨rfl,Y1⟩
  refine⟨rfl,?_⟩
  refine(xE (a:=a) (ah Y1) x1 3 (by simp) (by simp) akn.1 akn.2.1 akn.2.2 (by decide) (by decide) ng).mono ?_
  rintro e u2 ⟨rfl,Y2⟩
  refine⟨rfl,(akT (ah Y2) akb).mono ?_⟩
  rintro e u3 ⟨rfl,Y3⟩
  refine⟨rfl,?_⟩
  have:=((ah Y3).lo.acX B0).sub (rows':=[(t,tbO a aP),(a,alO g aP)]) (fun x hx=>by simp at hx ⊢;rcases hx with h | h<;>simp[h])
  have ev:(fun q=>if q=35 then put ((fun q=>if q=35 then put ((fun j=>if j=33 then fV aG.blk (upTo 37) else if j=aG.ib then fV aG.blk (upTo 2) else (fun _=>fl 0) j) 35) 0 (bW 32 (dG x1)) else (fun j=>if j=33 then fV aG.blk (upTo 37) else if j=aG.ib then fV aG.blk (upTo 2) else (fun _=>fl 0) j) q) 35) 32 (bW 32 (dG x1)) else (fun q=>if q=35 then put ((fun j=>if j=33 then fV aG.blk (upTo 37) else if j=aG.ib then fV aG.blk (upTo 2) else (fun _=>fl 0) j) 35) 0 (bW 32 (dG x1)) else (fun j=>if j=33 then fV aG.blk (upTo 37) else if j=aG.ib then fV aG.blk (upTo 2) else (fun _=>fl 0) j) q) q)=aV:=by
   funext q
   unfold aV
   by_cases e:q=35
   ·simp only[if_pos e,if_true]
    rw[if_neg (by decide),if_neg (by decide),ajS,ah5,aiZ]
   ·simp only[if_neg e]
    rfl
  rw[ev] at this
  exact this
 have KD:Hid (∀ g a t o v,Lp (w.alloc (.cells (Pc aP) 25)) aP aG aE g o [(t,tbO a aP),(a,alO g aP),(w.heap.size,.cells (Pc aP) 25)] 1 (fun _=>fl 0) (fun _=>false) (fun _=>fl 0) (fun _=>false) v->Bl v w.heap.size (Pc aP) 25):=fun g a t o v hv=>hv.row (x:=(w.heap.size,.cells (Pc aP) 25)) (by simp)
 have KE:Hid (∀ g a v,Lo (w.alloc (.cells (Pc aP) 25)) aP aG aE g [(a,alO g aP),(w.heap.size,.cells (Pc aP) 25)] 1 (fun _=>fl 0) (fun _=>false) v->Bl v w.heap.size (Pc aP) 25):=fun g a v hv=>hv.row (x:=(w.heap.size,.cells (Pc aP) 25)) (by simp)
 clear hT hT0 B0 BX
 generalize hx1:x1=X1 at *
 generalize aV=aV' at *
 generalize hp:aP=p at *
 clear hp
 go_enter Tryz.func11,Tryz.ntmps11
 go_wp2_with fail
 go_at_call 35
 refine(ah K).mono ?_
 rintro e w1 ⟨dg,rfl,hb1,K2⟩
 have HK1:=hide ((ah HK).call hb1)
 clear K hb1
 obtain⟨f0,f1,f2,f3,f4,f5,f6,f7,f8,f9,f10,f11⟩:=(ah HK1).cells
 go_wp2_with fail
 go_at_call 36
 refine(ah K2).mono ?_
 rintro e w2 ⟨rfl,hb2,K3⟩
 have HK2:=hide ((ah HK).call hb2)
 clear K2 hb2 HK1 f0 f1 f2 f3 f4 f5 f6 f7 f8 f9 f10 f11
 obtain⟨f0,f1,f2,f3,f4,f5,f6,f7,f8,f9,f10,f11⟩:=(ah HK2).cells
 go_wp2_with fail
 go_at_call 37
 refine(ah K3).mono ?_
 rintro e w3 ⟨lg,rfl,hb3,K4⟩
 have HK3:=hide ((ah HK).call hb3)
 clear K3 hb3 HK2 f0 f1 f2 f3 f4 f5 f6 f7 f8 f9 f10 f11
 go_wp2_with fail
 go_at_call 38
 refine(ah K4).mono ?_
 rintro e w4 ⟨cg,rfl,hb4,K5⟩
 have HK4:=hide ((ah HK).call hb4)
 clear K4 hb4 HK3
 obtain⟨f0,f1,f2,f3,f4,f5,f6,f7,f8,f9,f10,f11⟩:=(ah HK4).cells
 go_wp2_with fail
 go_at_call 39
 refine(ah K5).mono ?_
 rintro e w5 ⟨g,rfl,hb5,Z5⟩
 have HK5:=hide ((ah HK).call hb5)
 clear K5 hb5 HK HK4 f0 f1 f2 f3 f4 f5 f6 f7 f8 f9 f10 f11
 obtain⟨f0,f1,f2,f3,f4,f5,f6,f7,f8,f9,f10,f11⟩:=(ah HK5).cells
 have K6:=hide (ah KN g w5 (ah Z5))
 clear KN Z5
 go_wp2_with fail
 go_at_call 40
 refine(ah K6).mono ?_
 rintro e w6 ⟨a,rfl,Z6⟩
 have bl:=ah KE g a w6 (ah Z6)
 have KM1:=hide (ah KM g a w6 (ah Z6))
 clear K6 HK5 f0 f1 f2 f3 f4 f5 f6 f7 f8 f9 f10 f11 KE KM Z6
 have x0:=bl.cell 0 (.int .i64 (p 0)) rfl
 have x1:=bl.cell 1 (.int .i64 (p 1)) rfl
 have x2:=bl.cell 2 (.int .i64 (p 2)) rfl
 have x3:=bl.cell 3 (.int .i64 (p 3)) rfl
 have x4:=bl.cell 4 (.int .i64 (p 4)) rfl
 have x5:=bl.cell 5 (.int .i64 (p 5)) rfl
 have x6:=bl.cell 6 (.int .i64 (p 6)) rfl
 have x7:=bl.cell 7 (.int .i64 (p 7)) rfl
 have x8:=bl.cell 8 (.int .i64 (p 8)) rfl
 have x9:=bl.cell 9 (.int .i64 (p 9)) rfl
 have x10:=bl.cell 10 (.int .i64 (p 10)) rfl
 have x11:=bl.cell 11 (.int .i64 (p 11)) rfl
 clear bl
 go_wp2_with fail
 go_at_call 41
 refine(ah KM1).mono ?_
 rintro e w6b ⟨t,rfl,Z6⟩
 have K7:=hide (yZ (ah Z6))
 clear KM1 Z6 x0 x1 x2 x3 x4 x5 x6 x7 x8 x9 x10 x11
 go_wp2_with fail
 go_at_call 12
 refine(ah K7).mono ?_
 rintro e w7 ⟨o,rfl,Z7⟩
 have bl:=ah KD g a t o w7 (ah Z7)
 have x0:=bl.cell 0 (.int .i64 (p 0)) rfl
 have x1:=bl.cell 1 (.int .i64 (p 1)) rfl
 have x2:=bl.cell 2 (.int .i64 (p 2)) rfl
 have x3:=bl.cell 3 (.int .i64 (p 3)) rfl
 have x4:=bl.cell 4 (.int .i64 (p 4)) rfl
 have x5:=bl.cell 5 (.int .i64 (p 5)) rfl
 have x6:=bl.cell 6 (.int .i64 (p 6)) rfl
 have x7:=bl.cell 7 (.int .i64 (p 7)) rfl
 have x8:=bl.cell 8 (.int .i64 (p 8)) rfl
 have x9:=bl.cell 9 (.int .i64 (p 9)) rfl
 have x10:=bl.cell 10 (.int .i64 (p 10)) rfl
 have x11:=bl.cell 11 (.int .i64 (p 11)) rfl
 have K8:=hide (ah KF g a t o w7 (ah Z7))
 clear K7 KD KF Z7 bl
 go_wp2_with fail
 go_at_call 42
 refine(ah K8).mono ?_
 rintro e w8 ⟨rfl,K9⟩
 clear K8 x0 x1 x2 x3 x4 x5 x6 x7 x8 x9 x10 x11
 have K9':=hide (ah K9)
 subst hx1
 go_wp2_with fail
 go_at_call 17
 refine(ah K9).mono ?_
 rintro e w9 ⟨rfl,K10⟩
 clear K9 K9'
 go_wp2_with fail
 go_at_call 17
 refine(ah K10).mono ?_
 rintro e w10 ⟨rfl,K11⟩
 clear K10
 go_wp2_with fail
 go_at_call 20
 refine(ah K11).mono ?_
 rintro e w11 ⟨rfl,Z9⟩
 clear K11
 go_wp2_with fail
 go_ret3
 exact⟨g,a,t,rfl,Z9⟩
end Go.Proofs.YtbofhdfhhbgdgaaGreatDoor
