/- Joined: IFresh, INew, FNew, ENew, IWakes, INil, IWkA. -/
import Derived.Test.YtefdkpbmeoakgaaGreatDoorDnJ37
import Derived.Test.YtefdkpbmeoakgaaGreatDoorDnJ36
import Derived.Test.YtefdkpbmeoakgaaGreatDoorDnJ31
import Derived.Test.YtefdkpbmeoakgaaGreatDoorDnJ33
import Derived.Test.YtefdkpbmeoakgaaGreatDoorDnJ39
import Derived.Test.YtefdkpbmeoakgaaGreatDoorDnJ9
import Derived.Deep.DeepCutAuto
import Derived.Lib.AppendZeros
/- The law's plan, its device and its group; the blocks that it logs. -/
namespace Go.Proofs.YtefdkpbmeoakgaaGreatDoor
set_option maxRecDepth 100000
set_option maxHeartbeats 8000000
open Go.RowKit Go.Shelf Go.Maps
set_option linter.unusedVariables false
theorem acr (w:World):jh w none 0 []:=⟨rfl,fun h=>absurd h (by omega)⟩
theorem Lp.ag5 {w:World}{P G E g o rows i V F V' K u v}(h:Lp u P G E g o rows i V F V' K v)(hb:Below w.heap.size w u):Lp w P G E g o rows i V F V' K v:=by
 obtain⟨E0,cg,lg,dg,X,C,L,D,S,N,h,r⟩:=h
 exact⟨E0,cg,lg,dg,X,C,L,D,S,N,⟨⟨h.hl.gv,fun k hk=>Nat.le_trans hb.size (h.hl.ge k hk),hb.trans (h.hl.bel.mono hb.size),Nat.le_refl _,h.hl.ro⟩,h.gs,h.sq,h.vl,h.fl,h.vb,h.eb,h.eu,h.ed⟩,r⟩
theorem Lo.old {w P G E g rows i V F u}{k:Nat}{ob:Obj}(h:Lo w P G E g rows i V F u)(hk:w.heap[k]?=some ob):Lo w P G E g ((k,ob)::rows) i V F u:=by
 obtain⟨cg,lg,dg,X,C,L,D,S,h,r⟩:=h
 have hl:=(Array.getElem?_eq_some_iff.1 hk).1
 exact⟨cg,lg,dg,X,C,L,D,S,h.add ((h.hl.bel.block k hl).trans hk) (fun hs=>by have:=h.hl.ge k hs;omega),r⟩
def aP:Nat->Int:=oZ 64 90 6 30
def aG:Geo:=⟨64,90,30⟩
theorem acs:aG.Ok:=⟨.inl rfl,by decide,by decide,by decide,by decide⟩
theorem uQ:eF 64 90 6 30=0:=by decide
theorem aPG:PG aP aG:=by
 have e:∀ k,aP k=iC 64 90 6 30 k:=fun k=>by unfold aP;rw[kZ uQ]
 refine⟨?_,?_,?_,?_,?_,?_,acs⟩
 ·have e0:aP 0=64:=by rw[e];rfl
  have e1:aP 1=90:=by rw[e];rfl
  have e2:aP 2=6:=by rw[e];rfl
  have e3:aP 3=30:=by rw[e];rfl
  refine xK (by rw[e0,e1,e2,e3];exact uQ) (fun k hk=>by rw[e0,e1,e2,e3];rfl)
 ·rw[e];rfl
 ·rw[e];rfl
 ·rw[e];rfl
 ·rw[e];rfl
 ·rw[e];rfl
def aD:Dev:=yc (whS aG hd1) (Dev.new 64 90)
theorem agQ:vN (whS aG hd1) (Dev.new 64 90)=0:=by
 unfold whS
 rw[o9 (by decide)]
 show vN [.f] ((Dev.new 64 90).wD 1 (hdB aG hd1))=0
 have:((Dev.new 64 90).wD 1 (hdB aG hd1)).wE=0:=by
  unfold Dev.wD
  rw[if_neg (by decide),if_pos (by show ([]:List (List Int)).length<400;decide)]
  rfl
 rw[o9 this]
 rfl
theorem ajO:aD=((Dev.new 64 90).eU.add 1 (hdB aG hd1)).eU.flush:=by
 unfold aD whS
 rw[oC (by decide)]
 show yc [.f] ((Dev.new 64 90).wD 1 (hdB aG hd1))=_
 have e1:(Dev.new 64 90).wD 1 (hdB aG hd1)=(Dev.new 64 90).eU.add 1 (hdB aG hd1):=by
  unfold Dev.wD
  rw[if_neg (by decide),if_pos (by show ([]:List (List Int)).length<400;decide)]
 rw[e1]
 have e2:((Dev.new 64 90).eU.add 1 (hdB aG hd1)).wE=0:=rfl
 rw[oC e2]
 show ((Dev.new 64 90).eU.add 1 (hdB aG hd1)).fD=_
 unfold Dev.fD
 rw[if_neg]
 rintro (h | h)
 ·exact absurd h (by decide)
 ·exact absurd h (by decide)
theorem agy:aD.rd 1=hdB aG hd1:=by
 rw[ajO]
 rfl
theorem jI:aD.dead=false/\aD.blk=64/\aD.n=90/\aD.f=-1/\(∀ i,i<90->aD.Y i=[]):=by
 rw[ajO]
 refine⟨rfl,rfl,rfl,rfl,fun i hi=>?_⟩
 show (if i<90 then [] else _)=[]
 rw[if_pos hi]
theorem aaO:parse aG aD.rd=some sL:=by
 obtain⟨h1,h2⟩:=adO acs (aaB acs)
 rw[aa1 (by rw[agy,h2];exact⟨h1,by decide,by decide⟩),agy,h2]
 have:goP aG aD.rd ((hd1.seq:Nat):Int) hd1.tail (hd1.tail+hd1.used) 600 hd1.tail ((hd1.seq:Nat):Int) (fun _=>none)=some (fun _=>none):=by
  rw[goP,if_pos (show hd1.tail=hd1.tail+hd1.used from rfl)]
  simp
 rw[this]
 rfl
theorem aeB:(adP (aD.rd 1)/\(gu (aD.rd 1)).tail<aG.lg/\(gu (aD.rd 1)).used<=aG.lg)/\(gu (aD.rd 1)).used=0:=by
 obtain⟨h1,h2⟩:=adO acs (aaB acs)
 rw[agy,h2]
 exact⟨⟨h1,by decide,by decide⟩,rfl⟩
theorem ajl:newE 64 90=0:=by decide
theorem gB (k:Nat):aP k=iC 64 90 6 30 k:=by unfold aP;rw[kZ uQ]
theorem akH:(aG.ib:Int)<=aP 11/\aP 11<=(aG.n:Int):=by
 rw[gB]
 decide
theorem ai0:Seen (gmem 0) aG sL:=.inr (.inl (by show 0<1;omega))
theorem akI:Su aG sL aD:=by
 refine⟨⟨jI.2.2.2.1,jI.1⟩,rfl,jI.2.2.1,⟨[],?_⟩,fun b z h=>by cases h⟩
 exact⟨agy,aaB acs,Nat.zero_le _,trivial,rfl,rfl⟩
def aE (j:Nat):Bool:=decide (32<=j/\j<37)
theorem agx {j:Nat}:aE j=true↔32<=j/\j<37:=by simp[aE]
theorem aA:Ab aP aG aE 33 37 6 :=
 ⟨by rw[gB];rfl,by rw[gB];rfl,by rw[gB];rfl,rfl,rfl,by decide,by decide,by decide,by decide,by decide⟩
theorem ajN:∀ j:Nat,aP 11<=(j:Int)->aE j=false:=fun j hj=>by
 have e:aP 11=37:=by rw[gB];rfl
 rw[e] at hj
 cases h:aE j with
 | false=>rfl
 | true=>have:=agx.1 h;omega
theorem xY (w u:World)(hT:Tab w)(hu:Below w.heap.size w u) :
  Calls Tryz.prog 14 #[.int .i64 (aP 0),.int .i64 (aP 1)] u fun e w1=>∃ dg,e=.returned (.tuple #[.pointer (some ⟨dg,0,none⟩),.int .i64 0])/\Below u.heap.size u w1/\Hid (
   Calls Tryz.prog 15 #[.pointer (some ⟨dg,0,none⟩),Pv aP] w1 fun e w2=>e=.returned (.int .i64 0)/\Below u.heap.size u w2/\Hid (
    Calls Tryz.prog 16 #[.pointer (some ⟨dg,0,none⟩),Pv aP] w2 fun e w3=>∃ lg,e=.returned (.tuple #[.pointer (some ⟨lg,0,none⟩),.int .i64 0])/\Below u.heap.size u w3/\Hid (
     Calls Tryz.prog 17 #[.pointer (some ⟨dg,0,none⟩),.int .i64 8,.slice none 0 0] w3 fun e w4=>∃ cg,e=.returned (.tuple #[.pointer (some ⟨cg,0,none⟩),.int .i64 0])/\Below u.heap.size u w4/\Hid (
      Calls Tryz.prog 18 #[.pointer (some ⟨dg,0,none⟩),.pointer (some ⟨lg,0,none⟩),.pointer (some ⟨cg,0,none⟩),Pv aP] w4 fun e w5=>∃ g,e=.returned (.tuple #[.pointer (some ⟨g,0,none⟩),.int .i64 0])/\Below u.heap.size u w5/\Hid (Lo w aP aG aE g [] 1 (fun _=>fl 0) (fun _=>false) w5))))):=by
 have e0:aP 0=((64:Nat):Int):=aPG.p0
 have e1:aP 1=((90:Nat):Int):=aPG.p1
 rw[e0,e1]
 refine(ajk 64 90 u ajl).mono ?_
 rintro e w1 ⟨dg,S,rfl,hD,hS,hb1⟩
 refine⟨dg,rfl,hb1,?_⟩
 have hus:=hu.size
 have hT0:=hT.lt
 have bw1:Below w.heap.size w w1:=hu.trans (hb1.mono hus)
 have h0:¬ S 1:=fun h=>by have:=hS 1 h;omega
 have hf:=abM aP aG dg S (Dev.new 64 90) w1 aPG hD rfl rfl (hT.kept (bw1.block 1 hT0)) h0
 rw[agQ] at hf
 refine hf.mono ?_
 rintro e w2 ⟨rfl,S2,d2,n2⟩
 have ge2:∀ k,S2 k->u.heap.size<=k:=n2.base hS hb1.size
 have bu2:Below u.heap.size u w2:=hb1.trans (n2.below hS hb1.size)
 refine⟨rfl,bu2,?_⟩
 have bw3:Below w.heap.size w w2:=hu.trans (bu2.mono hus)
 have h02:¬ S2 1:=fun h=>by have:=ge2 1 h;omega
 refine(abx aP aG dg S2 aD w2 aPG (show Dv w2 S2 dg aD from d2) jI.2.1 jI.2.2.1 (hT.kept (bw3.block 1 hT0)) h02 jI.1 aeB.1 aeB.2).mono ?_
 intro e w3 X
 obtain⟨S3,n3,(⟨hx,_⟩ | ⟨_,hx,_⟩ | ⟨_,L,lg,hp,he,hl⟩)⟩:=ah X
 ·rw[jI.1] at hx;cases hx
 ·rw[aaO] at hx;cases hx
 ·rw[aaO] at hp
  cases hp
  have ge3:∀ k,S3 k->u.heap.size<=k:=n3.base ge2 bu2.size
  have bu3:Below u.heap.size u w3:=bu2.trans (n3.below ge2 bu2.size)
  obtain⟨Sl,Sd,ml,lv⟩:=hl
  refine⟨lg,he,bu3,(aiw dg Sd aD 8 none 0 0 [] w3 lv.dd (by omega) (acr w3) (by omega) (fun _=>⟨rfl,rfl⟩)).mono ?_⟩
  rintro e w4 ⟨cg,rfl,Y4⟩
  obtain⟨S4,k4,g4,b4⟩:=ah Y4
  obtain⟨S5,t5,x5⟩:=aiG lv k4 g4 b4
  have h4:Below u.heap.size u w4:=bu3.trans (b4.mono bu3.size)
  refine⟨cg,rfl,h4,(ahX t5 ai0 akH).mono ?_⟩
  rintro e w5 ⟨g,rfl,Y5⟩
  obtain⟨S6,g6,x6,_⟩:=ah Y5
  have ge5:∀ k,S5 k->u.heap.size<=k:=x5.base ge3 bu3.size
  have bu5:=h4.trans (x6.below ge5 h4.size)
  refine⟨g,rfl,bu5,cg,lg,dg,_,_,_,_,S6,⟨⟨g6,fun k hk=>Nat.le_trans hus (x6.base ge5 h4.size k hk),hu.trans (bu5.mono hus),Nat.le_refl _,fun x hx=>by simp at hx⟩,⟨akI,fun b l _ e=>(by cases e),?_,by show 1<=8;omega,fun b l e=>(by cases e),fun b z e=>(by cases e),fun b z e=>(by cases e),?_⟩,Nat.le_refl _,fun j hj hj2=>?_,fun j _=>rfl,fun j hj=>⟨by rw[aj9];rfl,fun z hz=>?_⟩,fun j hj=>?_,?_,fun j hj=>?_⟩,rfl⟩
  ·have:cnt ((Cac.new 8 []).wants cZ) aD.n<=cnt (fun _=>false) aD.n:=cnt_mono (fun b _ hw=>by cases hw)
   have h0:cnt (fun _=>false) aD.n=0:=by rw[jI.2.2.1];decide
   show cnt ((Cac.new 8 []).wants cZ) aD.n<=8
   omega
  ·show aG.uses (gW aG (fun _=>none)).length<=aG.lg
   decide
  ·show aD.rd j=fl 0
   have:=agx.1 hj
   rw[show aD.rd=rdS (whS aG hd1) (Dev.new 64 90).rd from ag2 _ _ agQ]
   show (if j=1 then _ else (Dev.new 64 90).rd j)=_
   rw[if_neg (by omega)]
   rfl
  ·have:z=0:=List.eq_of_mem_replicate hz
   omega
  ·have:=agx.1 hj
   show 32<=j/\j<90
   omega
  ·decide
  ·have:=agx.1 hj
   rw[show aP 11=37 by rw[gB];rfl]
   omega
theorem aiz (P:Nat->Int)(g:Nat)(u:World)(hc:bH P=0) :
  Calls Tryz.prog 19 #[.pointer (some ⟨g,0,none⟩),Pv P] u fun e u'=>∃ a,e=.returned (.tuple #[.pointer (some ⟨a,0,none⟩),.int .i64 0])/\Hid (Below u.heap.size u u'/\u.heap.size<=a/\u'.heap[a]?=some (alO g P)):=by
 have HK:=hide (Kp.start u P)
 have K1:Hid (∀ w,Calls Tryz.prog 46 #[Pv P] w fun e w'=>e=.returned (.int .i64 0)/\Below w.heap.size w w'):=fun w=>by
  have:=check_any P w
  rwa [hc] at this
 have KL:Hid (∀ w1,Below u.heap.size u w1->Below u.heap.size u (w1.alloc (.cells #[.pointer (some ⟨g,0,none⟩),.int .i64 (P 0),.int .i64 (P 1),.int .i64 (P 2),.int .i64 (P 3),.int .i64 (P 4),.int .i64 (P 5),.int .i64 (P 6),.int .i64 (P 7),.int .i64 (P 8),.int .i64 (P 9),.int .i64 (P 10),.int .i64 (P 11)] 112))/\u.heap.size<=w1.heap.size/\(w1.alloc (.cells #[.pointer (some ⟨g,0,none⟩),.int .i64 (P 0),.int .i64 (P 1),.int .i64 (P 2),.int .i64 (P 3),.int .i64 (P 4),.int .i64 (P 5),.int .i64 (P 6),.int .i64 (P 7),.int .i64 (P 8),.int .i64 (P 9),.int .i64 (P 10),.int .i64 (P 11)] 112)).heap[w1.heap.size]?=some (alO g P)):=fun w1 hb =>
  ⟨hb.alloc hb.size _,hb.size,World.alloc_heap_new w1 _⟩
 clear hc
 obtain⟨f0,f1,f2,f3,f4,f5,f6,f7,f8,f9,f10,f11⟩:=(ah HK).cells
 go_enter Tryz.func19,Tryz.ntmps19
 go_wp2_with fail
 go_at_call 46
 refine(ah K1 _).mono ?_
 rintro e w1 ⟨rfl,hb⟩
 replace HK:=hide ((ah HK).call hb)
 clear f0 f1 f2 f3 f4 f5 f6 f7 f8 f9 f10 f11 K1 hb
 obtain⟨f0,f1,f2,f3,f4,f5,f6,f7,f8,f9,f10,f11⟩:=(ah HK).cells
 have Z:=hide (ah KL w1 (ah HK).2)
 clear KL HK
 go_wp2_with fail
 go_ret2
 exact⟨_,rfl,ah Z⟩
theorem ae9 {w P G E g o rows i V F V' K u}{bb da ni:Nat}(h:Lp w P G E g o rows i V F V' K u)(hA:Ab P G E bb da ni)(hrc:∀ x∈rows,x.2.isCells=true)(h0:1<w.heap.size)(hp6:P 6=1)(hp8:P 8=1)(hda:0<da/\da<=8*G.blk)(hE:Hid (∀ j:Nat,P 11<=(j:Int)->E j=false)) :
  Calls Tryz.prog 22 #[.pointer (some ⟨o,0,none⟩),Pv P] u fun e u'=>e=.returned (.int .i64 0)/\Hid (Lp w P G E g o rows i V F (fun j=>if j=bb then gy G.blk (upTo da) else if j=G.ib then gy G.blk (upTo 2) else V' j) K u'):=by
 have hpg:=h.ok
 have hbk:=hpg.ok.blk
 have hp0:=hpg.p0
 have hp5:=hpg.p5
 have hi4:G.ib<=4096:=by have:=hpg.ok.n1;have:=hpg.ok.n2;unfold Geo.ib;omega
 have H0:=hide (h.new (.cells (Pc P) 24))
 have akz:∀ x∈(u.heap.size,Obj.cells (Pc P) 24)::rows,x.2.isCells=true:=fun x hx=>by
  rcases List.mem_cons.1 hx with e | e
  ·subst e;rfl
  ·exact hrc x e
 have K1:Hid (∀ w,Calls Tryz.prog 46 #[Pv P] w fun e w'=>e=.returned (.int .i64 0)/\Below w.heap.size w w'):=fun w=>by
  have:=check_any P w
  rwa [hpg.chk] at this
 have K2:Hid (∀ v V2,Lp w P G E g o ((u.heap.size,.cells (Pc P) 24)::rows) i V F V2 K v->Calls Tryz.prog 47 #[.pointer (some ⟨o,0,none⟩),.int .i64 (P 0),.int .i64 (P 5),.int .i64 (P 6),.int .i64 2] v fun e u'=>e=.returned (.int .i64 0)/\Hid (Lp w P G E g o ((u.heap.size,.cells (Pc P) 24)::rows) i V F (fun j=>if j=G.ib then gy G.blk (upTo 2) else V2 j) K u')):=fun v V2 hv=>by
  rw[hp0,hp5,hp6]
  exact agF hv hA.ei 2 (by omega) akz h0 hi4 hE
 have K3:Hid (∀ v V2,Lp w P G E g o ((u.heap.size,.cells (Pc P) 24)::rows) i V F V2 K v->Calls Tryz.prog 47 #[.pointer (some ⟨o,0,none⟩),.int .i64 (P 0),.int .i64 (P 7),.int .i64 (P 8),.int .i64 (P 11)] v fun e u'=>e=.returned (.int .i64 0)/\Hid (Lp w P G E g o rows i V F (fun j=>if j=bb then gy G.blk (upTo da) else V2 j) K u')):=fun v V2 hv=>by
  rw[hp0,hA.p7,hp8,hA.p11]
  refine(agF hv hA.eb da hda akz h0 hA.b4 hE).mono ?_
  rintro e u' ⟨rfl,Y⟩
  exact⟨rfl,(ah Y).pop⟩
 have HB:Hid (∀ v V2,Lp w P G E g o ((u.heap.size,.cells (Pc P) 24)::rows) i V F V2 K v->Bl v u.heap.size (Pc P) 24):=fun v V2 hv=>hv.row (x:=(u.heap.size,.cells (Pc P) 24)) (by simp)
 clear h hA hrc h0 hp6 hp8 hda hpg hbk hp0 hp5 hi4 akz
 go_enter Tryz.func22,Tryz.ntmps22
 go_upto_region 1 with fail
 change Code.wp _ _ _ _ (u.alloc (.cells (Pc P) 24))
 generalize u.alloc (.cells (Pc P) 24)=w0 at *
 generalize u.heap.size=mb at *
 have bl:=ah HB _ _ (ah H0)
 have x0:=bl.cell 0 (.int .i64 (P 0)) rfl
 have x1:=bl.cell 1 (.int .i64 (P 1)) rfl
 have x2:=bl.cell 2 (.int .i64 (P 2)) rfl
 have x3:=bl.cell 3 (.int .i64 (P 3)) rfl
 have x4:=bl.cell 4 (.int .i64 (P 4)) rfl
 have x5:=bl.cell 5 (.int .i64 (P 5)) rfl
 have x6:=bl.cell 6 (.int .i64 (P 6)) rfl
 have x7:=bl.cell 7 (.int .i64 (P 7)) rfl
 have x8:=bl.cell 8 (.int .i64 (P 8)) rfl
 have x9:=bl.cell 9 (.int .i64 (P 9)) rfl
 have x10:=bl.cell 10 (.int .i64 (P 10)) rfl
 have x11:=bl.cell 11 (.int .i64 (P 11)) rfl
 clear bl
 go_wp2_with fail
 go_at_call 46
 refine(ah K1 _).mono ?_
 rintro e w1 ⟨rfl,hb1⟩
 have H1:=hide ((ah H0).later hb1)
 clear H0 hb1 K1 x0 x1 x2 x3 x4 x5 x6 x7 x8 x9 x10 x11
 have bl:=ah HB _ _ (ah H1)
 have x0:=bl.cell 0 (.int .i64 (P 0)) rfl
 have x5:=bl.cell 5 (.int .i64 (P 5)) rfl
 have x6:=bl.cell 6 (.int .i64 (P 6)) rfl
 clear bl
 go_wp2_with fail
 go_at_call 47
 refine(ah K2 _ _ (ah H1)).mono ?_
 rintro e w2 ⟨rfl,Z2⟩
 clear H1 x0 x5 x6 K2
 have bl:=ah HB _ _ (ah Z2)
 have x0:=bl.cell 0 (.int .i64 (P 0)) rfl
 have x7:=bl.cell 7 (.int .i64 (P 7)) rfl
 have x8:=bl.cell 8 (.int .i64 (P 8)) rfl
 have x11:=bl.cell 11 (.int .i64 (P 11)) rfl
 clear bl
 go_wp2_with fail
 go_at_call 47
 refine(ah K3 _ _ (ah Z2)).mono ?_
 rintro e w3 ⟨rfl,Z3⟩
 clear Z2 K3
 go_wp2_with fail
 go_ret
 exact⟨rfl,Z3⟩
def x1:Nat->Int:=fun k=>if k=0 then 1 else if k=1 then 1 else 0
theorem acz:bM x1:=by unfold bM;decide
def tbZ (X Y:Nat->Int):List Int:=aZ 32 (dP X)++aZ 32 (dP Y)
theorem jD (X:Nat->Int):(aZ 32 (dP X)).length=32:=dH (by rw[fB];omega)
theorem akh (X Y Z:Nat->Int):put (tbZ X Y) 0 (aZ 32 (dP Z))=tbZ Z Y:=by
 have e:=jD X
 have e2:=jD Z
 unfold put tbZ
 rw[List.take_zero,List.nil_append,e2,Nat.zero_add,List.drop_append_of_le_length (by omega),List.drop_of_length_le (by omega),List.nil_append]
theorem ahi (X Y Z:Nat->Int):put (tbZ X Y) 32 (aZ 32 (dP Z))=tbZ X Z:=by
 have e:=jD X
 have e2:=jD Z
 have e3:=jD Y
 unfold put tbZ
 rw[List.take_append_of_le_length (by omega),List.take_of_length_le (by omega),e2,List.drop_of_length_le (by rw[List.length_append];omega),List.append_nil]
theorem ahh (X Y:Nat->Int):((tbZ X Y).drop 0).take 32=aZ 32 (dP X):=by
 have e:=jD X
 unfold tbZ
 rw[List.drop_zero,List.take_append_of_le_length (by omega),List.take_of_length_le (by omega)]
theorem ahg (X Y:Nat->Int):((tbZ X Y).drop 32).take 32=aZ 32 (dP Y):=by
 have e:=jD X
 have e2:=jD Y
 unfold tbZ
 rw[List.drop_append_of_le_length (by omega),List.drop_of_length_le (by omega),List.nil_append,List.take_of_length_le (by omega)]
theorem aj8:fl 0=tbZ dB dB:=by decide
def aV (j:Nat):List Int:=if j=35 then tbZ x1 x1 else if j=33 then gy 64 (upTo 37) else if j=32 then gy 64 (upTo 2) else fl 0
theorem ai6:jJ aP 2=0/\oL aP 2=((35:Nat):Int)/\oM aP 2=((0:Nat):Int):=by
 have e:jJ aP 2=0:=by
  unfold jJ
  rw[if_neg (by rw[aPG.chk];omega),if_neg (by rw[gB 2];decide)]
 refine⟨e,?_,?_⟩
 ·unfold oL;rw[if_pos e,gB 9,gB 0];decide
 ·unfold oM;rw[if_pos e,gB 0];decide
theorem nN:jJ aP 3=0/\oL aP 3=((35:Nat):Int)/\oM aP 3=((32:Nat):Int):=by
 have e:jJ aP 3=0:=by
  unfold jJ
  rw[if_neg (by rw[aPG.chk];omega),if_neg (by rw[gB 2];decide)]
 refine⟨e,?_,?_⟩
 ·unfold oL;rw[if_pos e,gB 9,gB 0];decide
 ·unfold oM;rw[if_pos e,gB 0];decide
def xD:Nat->Int:=fun k=>if k=0 then 2 else if k=1 then 1 else 0
theorem lM:bM xD:=by unfold bM;decide
def fV (j:Nat):List Int:=if j=35 then tbZ x1 xD else if j=33 then gy 64 (upTo 37) else if j=32 then gy 64 (upTo 2) else fl 0
theorem aeg (w:World)(hT:Tab w):Calls Tryz.prog 6 #[Pv aP] w fun e w'=>∃ g a t o,e=.returned (.tuple #[.pointer (some ⟨g,0,none⟩),.pointer (some ⟨t,0,none⟩),.pointer (some ⟨o,0,none⟩)])/\Hid (Lp w aP aG aE g o [(t,tbO a aP),(a,alO g aP)] 1 (fun _=>fl 0) (fun _=>false) fV (fun _=>false) w'):=by
 have hT0:=hT.lt
 have B0:Below w.heap.size w (w.alloc (.cells (Pc aP) 24)):=(Below.refl _ _).alloc (Nat.le_refl _) _
 have K:=hide (xY (w.alloc (.cells (Pc aP) 24)) (w.alloc (.cells (Pc aP) 24)) (hT.kept (B0.block 1 hT0)) (Below.refl _ _))
 have HK:=hide (Kp.start w aP)
 have BX:=hide (Bl.new w (Pc aP) 24)
 have KN:Hid (∀ g v,Lo (w.alloc (.cells (Pc aP) 24)) aP aG aE g [] 1 (fun _=>fl 0) (fun _=>false) v->Calls Tryz.prog 19 #[.pointer (some ⟨g,0,none⟩),Pv aP] v fun e u'=>∃ a,e=.returned (.tuple #[.pointer (some ⟨a,0,none⟩),.int .i64 0])/\Hid (Lo (w.alloc (.cells (Pc aP) 24)) aP aG aE g [(a,alO g aP),(w.heap.size,.cells (Pc aP) 24)] 1 (fun _=>fl 0) (fun _=>false) u')):=fun g v hv=>by
  refine(aiz aP g v aPG.chk).mono ?_
  rintro e u' ⟨a,rfl,Y⟩
  obtain⟨b1,a1,a2⟩:=ah Y
  exact⟨a,rfl,(hv.old (ah BX)).push b1 a1 a2⟩
 have KM:Hid (∀ g a v,Lo (w.alloc (.cells (Pc aP) 24)) aP aG aE g [(a,alO g aP),(w.heap.size,.cells (Pc aP) 24)] 1 (fun _=>fl 0) (fun _=>false) v->Calls Tryz.prog 20 #[.pointer (some ⟨a,0,none⟩),Pv aP] v fun e u'=>∃ t,e=.returned (.tuple #[.pointer (some ⟨t,0,none⟩),.int .i64 0])/\Hid (Lo (w.alloc (.cells (Pc aP) 24)) aP aG aE g [(t,tbO a aP),(a,alO g aP),(w.heap.size,.cells (Pc aP) 24)] 1 (fun _=>fl 0) (fun _=>false) u')):=fun g a v hv=>by
  refine(aha aP a v aPG.chk).mono ?_
  rintro e u' ⟨t,rfl,Y⟩
  obtain⟨b1,a1,a2⟩:=ah Y
  exact⟨t,rfl,hv.push b1 a1 a2⟩
 have KF:Hid (∀ g a t o v,Lp (w.alloc (.cells (Pc aP) 24)) aP aG aE g o [(t,tbO a aP),(a,alO g aP),(w.heap.size,.cells (Pc aP) 24)] 1 (fun _=>fl 0) (fun _=>false) (fun _=>fl 0) (fun _=>false) v->Calls Tryz.prog 22 #[.pointer (some ⟨o,0,none⟩),Pv aP] v fun e u'=>e=.returned (.int .i64 0) /\
   Hid (Calls Tryz.prog 23 #[.pointer (some ⟨t,0,none⟩),.pointer (some ⟨o,0,none⟩),.int .i64 2,Iv x1] u' fun e u1=>e=.returned (.int .i64 0) /\
    Hid (Calls Tryz.prog 23 #[.pointer (some ⟨t,0,none⟩),.pointer (some ⟨o,0,none⟩),.int .i64 3,Iv xD] u1 fun e u2=>e=.returned (.int .i64 0) /\
     Hid (Lp w aP aG aE g o [(t,tbO a aP),(a,alO g aP)] 1 (fun _=>fl 0) (fun _=>false) fV (fun _=>false) u2)))):=fun g a t o v hv=>by
  refine(ae9 hv aA (fun x hx=>by
   simp only[List.mem_cons,List.not_mem_nil,or_false] at hx
   rcases hx with rfl | rfl | rfl<;>rfl) (Nat.lt_of_lt_of_le hT0 B0.size) (by rw[gB];rfl) (by rw[gB];rfl) (by decide) (hide ajN)).mono ?_
  rintro e u' ⟨rfl,Y⟩
  refine⟨rfl,?_⟩
  refine(sZ (a:=a) (ah Y) x1 2 (by simp) (Nat.lt_of_lt_of_le hT0 B0.size) ai6.1 ai6.2.1 ai6.2.2 (by decide) (by decide) acz).mono ?_
  rintro e u1 ⟨rfl,Y1⟩
  refine⟨rfl,?_⟩
  refine(sZ (a:=a) (ah Y1) xD 3 (by simp) (Nat.lt_of_lt_of_le hT0 B0.size) nN.1 nN.2.1 nN.2.2 (by decide) (by decide) lM).mono ?_
  rintro e u2 ⟨rfl,Y2⟩
  refine⟨rfl,?_⟩
  have:=((ah Y2).ag5 B0).sub (rows':=[(t,tbO a aP),(a,alO g aP)]) (fun x hx=>by simp at hx ⊢;rcases hx with h | h<;>simp[h])
  have ev:(fun q=>if q=35 then put ((fun q=>if q=35 then put ((fun j=>if j=33 then gy aG.blk (upTo 37) else if j=aG.ib then gy aG.blk (upTo 2) else (fun _=>fl 0) j) 35) 0 (aZ 32 (dP x1)) else (fun j=>if j=33 then gy aG.blk (upTo 37) else if j=aG.ib then gy aG.blk (upTo 2) else (fun _=>fl 0) j) q) 35) 32 (aZ 32 (dP xD)) else (fun q=>if q=35 then put ((fun j=>if j=33 then gy aG.blk (upTo 37) else if j=aG.ib then gy aG.blk (upTo 2) else (fun _=>fl 0) j) 35) 0 (aZ 32 (dP x1)) else (fun j=>if j=33 then gy aG.blk (upTo 37) else if j=aG.ib then gy aG.blk (upTo 2) else (fun _=>fl 0) j) q) q)=fV:=by
   funext q
   unfold fV
   by_cases e:q=35
   ·simp only[if_pos e,if_true]
    rw[if_neg (by decide),if_neg (by decide),aj8,akh,ahi]
   ·simp only[if_neg e]
    rfl
  rw[ev] at this
  exact this
 have KD:Hid (∀ g a t o v,Lp (w.alloc (.cells (Pc aP) 24)) aP aG aE g o [(t,tbO a aP),(a,alO g aP),(w.heap.size,.cells (Pc aP) 24)] 1 (fun _=>fl 0) (fun _=>false) (fun _=>fl 0) (fun _=>false) v->Bl v w.heap.size (Pc aP) 24):=fun g a t o v hv=>hv.row (x:=(w.heap.size,.cells (Pc aP) 24)) (by simp)
 have KE:Hid (∀ g a v,Lo (w.alloc (.cells (Pc aP) 24)) aP aG aE g [(a,alO g aP),(w.heap.size,.cells (Pc aP) 24)] 1 (fun _=>fl 0) (fun _=>false) v->Bl v w.heap.size (Pc aP) 24):=fun g a v hv=>hv.row (x:=(w.heap.size,.cells (Pc aP) 24)) (by simp)
 clear hT hT0 B0 BX
 generalize hx1:x1=X1 at *
 generalize hxD:xD=XD at *
 generalize fV=aV' at *
 generalize hp:aP=p at *
 clear hp
 go_enter Tryz.func6,Tryz.ntmps6
 go_wp2_with fail
 go_at_call 14
 refine(ah K).mono ?_
 rintro e w1 ⟨dg,rfl,hb1,K2⟩
 have HK1:=hide ((ah HK).call hb1)
 clear K hb1
 obtain⟨f0,f1,f2,f3,f4,f5,f6,f7,f8,f9,f10,f11⟩:=(ah HK1).cells
 go_wp2_with fail
 go_at_call 15
 refine(ah K2).mono ?_
 rintro e w2 ⟨rfl,hb2,K3⟩
 have HK2:=hide ((ah HK).call hb2)
 clear K2 hb2 HK1 f0 f1 f2 f3 f4 f5 f6 f7 f8 f9 f10 f11
 obtain⟨f0,f1,f2,f3,f4,f5,f6,f7,f8,f9,f10,f11⟩:=(ah HK2).cells
 go_wp2_with fail
 go_at_call 16
 refine(ah K3).mono ?_
 rintro e w3 ⟨lg,rfl,hb3,K4⟩
 have HK3:=hide ((ah HK).call hb3)
 clear K3 hb3 HK2 f0 f1 f2 f3 f4 f5 f6 f7 f8 f9 f10 f11
 go_wp2_with fail
 go_at_call 17
 refine(ah K4).mono ?_
 rintro e w4 ⟨cg,rfl,hb4,K5⟩
 have HK4:=hide ((ah HK).call hb4)
 clear K4 hb4 HK3
 obtain⟨f0,f1,f2,f3,f4,f5,f6,f7,f8,f9,f10,f11⟩:=(ah HK4).cells
 go_wp2_with fail
 go_at_call 18
 refine(ah K5).mono ?_
 rintro e w5 ⟨g,rfl,hb5,Z5⟩
 have HK5:=hide ((ah HK).call hb5)
 clear K5 hb5 HK HK4 f0 f1 f2 f3 f4 f5 f6 f7 f8 f9 f10 f11
 obtain⟨f0,f1,f2,f3,f4,f5,f6,f7,f8,f9,f10,f11⟩:=(ah HK5).cells
 have K6:=hide (ah KN g w5 (ah Z5))
 clear KN Z5
 go_wp2_with fail
 go_at_call 19
 refine(ah K6).mono ?_
 rintro e w6 ⟨a,rfl,Z6⟩
 have bl:=ah KE g a w6 (ah Z6)
 have KM1:=hide (ah KM g a w6 (ah Z6))
 clear K6 HK5 f0 f1 f2 f3 f4 f5 f6 f7 f8 f9 f10 f11 KE KM Z6
 have x0:=bl.cell 0 (.int .i64 (p 0)) rfl
 have x1:=bl.cell 1 (.int .i64 (p 1)) rfl
 have x2:=bl.cell 2 (.int .i64 (p 2)) rfl
 have x3:=bl.cell 3 (.int .i64 (p 3)) rfl
 have x4:=bl.cell 4 (.int .i64 (p 4)) rfl
 have x5:=bl.cell 5 (.int .i64 (p 5)) rfl
 have x6:=bl.cell 6 (.int .i64 (p 6)) rfl
 have x7:=bl.cell 7 (.int .i64 (p 7)) rfl
 have x8:=bl.cell 8 (.int .i64 (p 8)) rfl
 have x9:=bl.cell 9 (.int .i64 (p 9)) rfl
 have x10:=bl.cell 10 (.int .i64 (p 10)) rfl
 have x11:=bl.cell 11 (.int .i64 (p 11)) rfl
 clear bl
 go_wp2_with fail
 go_at_call 20
 refine(ah KM1).mono ?_
 rintro e w6b ⟨t,rfl,Z6⟩
 have K7:=hide (ahT (ah Z6))
 clear KM1 Z6 x0 x1 x2 x3 x4 x5 x6 x7 x8 x9 x10 x11
 go_wp2_with fail
 go_at_call 21
 refine(ah K7).mono ?_
 rintro e w7 ⟨o,rfl,Z7⟩
 have bl:=ah KD g a t o w7 (ah Z7)
 have x0:=bl.cell 0 (.int .i64 (p 0)) rfl
 have x1:=bl.cell 1 (.int .i64 (p 1)) rfl
 have x2:=bl.cell 2 (.int .i64 (p 2)) rfl
 have x3:=bl.cell 3 (.int .i64 (p 3)) rfl
 have x4:=bl.cell 4 (.int .i64 (p 4)) rfl
 have x5:=bl.cell 5 (.int .i64 (p 5)) rfl
 have x6:=bl.cell 6 (.int .i64 (p 6)) rfl
 have x7:=bl.cell 7 (.int .i64 (p 7)) rfl
 have x8:=bl.cell 8 (.int .i64 (p 8)) rfl
 have x9:=bl.cell 9 (.int .i64 (p 9)) rfl
 have x10:=bl.cell 10 (.int .i64 (p 10)) rfl
 have x11:=bl.cell 11 (.int .i64 (p 11)) rfl
 have K8:=hide (ah KF g a t o w7 (ah Z7))
 clear K7 KD KF Z7 bl
 go_wp2_with fail
 go_at_call 22
 refine(ah K8).mono ?_
 rintro e w8 ⟨rfl,K9⟩
 clear K8 x0 x1 x2 x3 x4 x5 x6 x7 x8 x9 x10 x11
 have K9':=hide (ah K9)
 subst hx1
 subst hxD
 go_wp2_with fail
 go_at_call 23
 refine(ah K9).mono ?_
 rintro e w9 ⟨rfl,K10⟩
 clear K9 K9'
 go_wp2_with fail
 go_at_call 23
 refine(ah K10).mono ?_
 rintro e w10 ⟨rfl,K11⟩
 clear K10
 go_wp2_with fail
 go_ret3
 exact⟨g,a,t,o,rfl,K11⟩
theorem vH {p q:Nat->Bool}:∀ {n f:Nat},(∀ j,f<=j->j<f+n->p j=q j)->skp p f n=skp q f n
 | 0,f,_=>rfl
 | n+1,f,h=>by
  unfold skp
  rw[h f (Nat.le_refl _) (by omega),vH (n:=n) (f:=f+1) (fun j a b=>h j (by omega) (by omega))]
theorem ak5:ku (aV 33) (fun _=>false) 37 aG.n=37:=by
 unfold ku
 have:skp (cand (aV 33) (fun _=>false)) 37 (aG.n - 37)=skp (fun j=>!decide (j<37)) 37 (aG.n - 37):=vH (fun j h1 h2=>by
  unfold cand
  rw[show aV 33=gy 64 (upTo 37) from rfl,aaN 64 37 (by omega) j]
  simp)
 rw[this]
 decide
theorem akZ:aP 0 / 2=32:=by rw[gB];decide
theorem sQ:mfb aP=1064:=by unfold mfb;rw[gB];decide
theorem sS:(bH aP=0)/\(¬ (0:Int)<0)/\¬ mfb aP<=0:=⟨aPG.chk,by omega,by rw[sQ];omega⟩
def x3:Nat->Int:=fun k=>if k=0 then 3 else 0
def s1 (st:List Int×List Int) (b:Int) (nm:Nat):List Int×List Int:=if b=0 then st else (st.1++List.replicate (nm - st.1.length) 0++[b],st.2)
end Go.Proofs.YtefdkpbmeoakgaaGreatDoor
