/- Joined: WRead3, WOpen, WLaw, WOpE. -/
import Derived.Test.YtefdkpbmeoakgaaGreatDoorDnJ29
import Derived.Test.YtefdkpbmeoakgaaGreatDoorDnJ2
import Derived.Test.YtefdkpbmeoakgaaGreatDoorDnJ30
import Derived.Test.YtefdkpbmeoakgaaGreatDoorDnJ12
import Derived.Test.YtefdkpbmeoakgaaGreatDoorDnJ21
import Derived.Test.YtefdkpbmeoakgaaGreatDoorDnJ1
import Derived.Test.YtefdkpbmeoakgaaGreatDoorDnJ4
import Derived.BigQuiet
/- The contract of aiT: what it stands on. -/
namespace Go.Proofs.YtefdkpbmeoakgaaGreatDoor
set_option maxRecDepth 100000
set_option maxHeartbeats 8000000
open Go.RowKit Go.Shelf Go.Maps
set_option linter.unusedVariables false
def Lg.at (L:Lg) (Q:Nat->Option (List Int)):Lg:={ L with Q:=Q }
def Lg.new:Lg:=⟨⟨0,0,0⟩,fun _=>none,false⟩
theorem adp {w w1:World}{Sd:Nat->Prop}{dg:Nat}{D:Dev}{P G}(hP:PG P G)(hD:Dv w Sd dg D)(bd:D.blk=G.blk)(nd:D.n=G.n)(hT:Tab w)(h0:¬ Sd 1)(hb:Below w.heap.size w w1) :
  ∃ S,Lv ((w1.alloc (.map #[] 0)).alloc (.cells #[.pointer (some ⟨dg,0,none⟩),.int .i64 (P 0),.int .i64 (P 1),.int .i64 (P 2),.int .i64 (P 3),.int .i64 (P 4),.int .i64 (P 5),.int .i64 (P 6),.int .i64 (P 7),.int .i64 (P 8),.int .i64 (P 9),.int .i64 (P 10),.int .i64 (P 11),.int .i64 0,.int .i64 0,.int .i64 0,.map (some w1.heap.size),.bool false] 101)) S (w1.heap.size+1) dg P G Lg.new D/\Nx Sd w S ((w1.alloc (.map #[] 0)).alloc (.cells #[.pointer (some ⟨dg,0,none⟩),.int .i64 (P 0),.int .i64 (P 1),.int .i64 (P 2),.int .i64 (P 3),.int .i64 (P 4),.int .i64 (P 5),.int .i64 (P 6),.int .i64 (P 7),.int .i64 (P 8),.int .i64 (P 9),.int .i64 (P 10),.int .i64 (P 11),.int .i64 0,.int .i64 0,.int .i64 0,.map (some w1.heap.size),.bool false] 101)):=by
 have hs:=hb.size
 have h0w:=hT.lt
 have b1:Below w1.heap.size w1 (w1.alloc (.map #[] 0)):=(Below.refl _ _).alloc (Nat.le_refl _) _
 have z1:(w1.alloc (.map #[] 0)).heap.size=w1.heap.size+1:=by simp
 have b2:Below (w1.alloc (.map #[] 0)).heap.size (w1.alloc (.map #[] 0)) ((w1.alloc (.map #[] 0)).alloc (.cells #[.pointer (some ⟨dg,0,none⟩),.int .i64 (P 0),.int .i64 (P 1),.int .i64 (P 2),.int .i64 (P 3),.int .i64 (P 4),.int .i64 (P 5),.int .i64 (P 6),.int .i64 (P 7),.int .i64 (P 8),.int .i64 (P 9),.int .i64 (P 10),.int .i64 (P 11),.int .i64 0,.int .i64 0,.int .i64 0,.map (some w1.heap.size),.bool false] 101)):=(Below.refl _ _).alloc (Nat.le_refl _) _
 have z2:((w1.alloc (.map #[] 0)).alloc (.cells #[.pointer (some ⟨dg,0,none⟩),.int .i64 (P 0),.int .i64 (P 1),.int .i64 (P 2),.int .i64 (P 3),.int .i64 (P 4),.int .i64 (P 5),.int .i64 (P 6),.int .i64 (P 7),.int .i64 (P 8),.int .i64 (P 9),.int .i64 (P 10),.int .i64 (P 11),.int .i64 0,.int .i64 0,.int .i64 0,.map (some w1.heap.size),.bool false] 101)).heap.size=w1.heap.size+2:=by simp
 have b3:Below w.heap.size w ((w1.alloc (.map #[] 0)).alloc (.cells #[.pointer (some ⟨dg,0,none⟩),.int .i64 (P 0),.int .i64 (P 1),.int .i64 (P 2),.int .i64 (P 3),.int .i64 (P 4),.int .i64 (P 5),.int .i64 (P 6),.int .i64 (P 7),.int .i64 (P 8),.int .i64 (P 9),.int .i64 (P 10),.int .i64 (P 11),.int .i64 0,.int .i64 0,.int .i64 0,.map (some w1.heap.size),.bool false] 101)):=(hb.trans (b1.mono hs)).trans (b2.mono (by omega))
 have str:=World.rowIs_alloc (w1.alloc (.map #[] 0)) #[.pointer (some ⟨dg,0,none⟩),.int .i64 (P 0),.int .i64 (P 1),.int .i64 (P 2),.int .i64 (P 3),.int .i64 (P 4),.int .i64 (P 5),.int .i64 (P 6),.int .i64 (P 7),.int .i64 (P 8),.int .i64 (P 9),.int .i64 (P 10),.int .i64 (P 11),.int .i64 0,.int .i64 0,.int .i64 0,.map (some w1.heap.size),.bool false] 101 (lG dg P Lg.new ⟨w1.heap.size,fun _=>(0,0)⟩) (fun i hi=>by
  have h18:i<18:=by simpa using hi
  have:i=0\/i=1\/i=2\/i=3\/i=4\/i=5\/i=6\/i=7\/i=8\/i=9\/i=10\/i=11\/i=12\/i=13\/i=14\/i=15\/i=16\/i=17:=by omega
  rcases this with rfl | rfl | rfl | rfl | rfl | rfl | rfl | rfl | rfl | rfl | rfl | rfl | rfl | rfl | rfl | rfl | rfl | rfl<;>rfl)
 rw[z1] at str
 have mp:qC ((w1.alloc (.map #[] 0)).alloc (.cells #[.pointer (some ⟨dg,0,none⟩),.int .i64 (P 0),.int .i64 (P 1),.int .i64 (P 2),.int .i64 (P 3),.int .i64 (P 4),.int .i64 (P 5),.int .i64 (P 6),.int .i64 (P 7),.int .i64 (P 8),.int .i64 (P 9),.int .i64 (P 10),.int .i64 (P 11),.int .i64 0,.int .i64 0,.int .i64 0,.map (some w1.heap.size),.bool false] 101)) G.blk w1.heap.size G.n (fun _=>none):=(qC.made w1 G.blk G.n).kept (b2.block _ (by omega))
 have hd:=hD.below b3
 have hTb:=hT.kept (b3.block 1 h0w)
 generalize ((w1.alloc (.map #[] 0)).alloc (.cells #[.pointer (some ⟨dg,0,none⟩),.int .i64 (P 0),.int .i64 (P 1),.int .i64 (P 2),.int .i64 (P 3),.int .i64 (P 4),.int .i64 (P 5),.int .i64 (P 6),.int .i64 (P 7),.int .i64 (P 8),.int .i64 (P 9),.int .i64 (P 10),.int .i64 (P 11),.int .i64 0,.int .i64 0,.int .i64 0,.map (some w1.heap.size),.bool false] 101))=u at *
 have ll:LgM u (fun k=>w1.heap.size<=k/\k<u.heap.size) (w1.heap.size+1) dg P G Lg.new ⟨w1.heap.size,fun _=>(0,0)⟩ :=
  ⟨str,mp.congr (fun k hk=>rfl),(fun b z hb' e=>by cases e),⟨by omega,by omega⟩,⟨Nat.le_refl _,by show w1.heap.size<_;omega⟩,fun k hk=>hk.2,hP,⟨by show 0<=4294967295;omega,by show 0<G.lg;have:=hP.ok.l1;omega,Nat.zero_le _⟩⟩
 refine⟨fun k=>(w1.heap.size<=k/\k<u.heap.size)\/Sd k,⟨_,Sd,_,ll,hd,fun k hk hs'=>by have:=hD.lt hs';omega,fun k=>Iff.rfl,bd,nd,hTb,fun h=>?_⟩,⟨⟨b3.os,b3.tape,b3.output,b3.size,fun k hk _=>b3.block k hk⟩,fun k hk h=>?_⟩⟩
 ·rcases h with h | h
  ·omega
  ·exact h0 h
 ·rcases h with h | h
  ·omega
  ·exact h
def OpA (P:Nat->Int) (G:Geo) (D:Dev) (dg:Nat) (w:World) (Sd:Nat->Prop) (w':World) (e:Ending):Prop :=
 ∃ S',Nx Sd w S' w'/\((D.dead=true/\e=.returned (.tuple #[.pointer none,.int .i64 7])/\∃ S2,Dv w' S2 dg D/\Nx Sd w S2 w')\/(D.dead=false/\parse G D.rd=none/\e=.returned (.tuple #[.pointer none,.int .i64 9])/\∃ S2,Dv w' S2 dg D/\Nx Sd w S2 w') \/
  (D.dead=false/\∃ L g,parse G D.rd=some L/\e=.returned (.tuple #[.pointer (some ⟨g,0,none⟩),.int .i64 0])/\Lv w' S' g dg P G L D))
theorem Lv.dv {u S g dg P G L D}(h:Lv u S g dg P G L D){Sd:Nat->Prop}{w:World}(hx:Nx Sd w S u):∃ S2,Dv u S2 dg D/\Nx Sd w S2 u:=by
 obtain⟨Sl,S2,m,x⟩:=h
 exact⟨S2,x.dd,⟨hx.fr,fun k hk h2=>hx.sub k hk ((x.all k).2 (.inr h2))⟩⟩
theorem aa1 {G:Geo}{rd:Nat->List Int}(h:adP (rd 1)/\(gu (rd 1)).tail<G.lg/\(gu (rd 1)).used<=G.lg):parse G rd=(goP G rd ((gu (rd 1)).seq:Int) (gu (rd 1)).tail ((gu (rd 1)).tail+(gu (rd 1)).used) 600 (gu (rd 1)).tail ((gu (rd 1)).seq:Int) (fun _=>none)).map (fun Q=>⟨gu (rd 1),Q,false⟩):=by
 unfold parse
 rw[if_pos h]
theorem adO {G:Geo}(hG:G.Ok){h:Hd}(hh:h.Ok G):adP (hdB G h)/\gu (hdB G h)=h:=by
 have hf:=hdF hG hh
 have hb:=afP hf G.blk
 have hl:=adQ (h:=h) hG
 refine⟨⟨by rw[hl];exact hG.size,?_⟩,?_⟩
 ·rw[hl]
  have:=abJ hb
  unfold hdB
  rw[this]
 ·simp only[Hv,Value.agg.injEq,Array.mk.injEq,List.cons.injEq,Value.int.injEq,true_and,and_true] at hb
  obtain⟨h0,h1,h2⟩:=hb
  unfold gu hdB
  rw[h0,h1,h2]
  show Hd.mk ((h.seq:Int)).toNat ((h.tail:Int)).toNat ((h.used:Int)).toNat=h
  simp
def sL:Lg:=⟨hd1,fun _=>none,false⟩
theorem yS (g dg:Nat)(S:Nat->Prop)(P:Nat->Int)(G:Geo)(L:Lg)(D:Dev)(w:World)(h:Lv w S g dg P G L D)(hu:L.h.used=0)(R:Option (Nat->Option (List Int)))(hR:goP G D.rd (L.h.seq:Int) L.h.tail (L.h.tail+L.h.used) 600 L.h.tail (L.h.seq:Int) L.Q=R) :
  Calls Tryz.prog 44 #[.pointer (some ⟨g,0,none⟩)] w fun e w'=>∃ Q',Hid (∃ S',Lv w' S' g dg P G (L.at Q') D/\Nx S w S' w')/\((R=none/\e=.returned (.int .i64 9))\/(R=some Q'/\e=.returned (.int .i64 0))):=by
 have hr:R=some L.Q:=by
  rw[← hR,goP,if_pos (show L.h.tail=L.h.tail+L.h.used by omega),if_pos rfl]
 have hh:L.h.Ok G:=by obtain⟨_,_,_,x⟩:=h;exact x.ll.hok
 have hG:G.Ok:=by obtain⟨_,_,_,x⟩:=h;exact x.ll.pg.ok
 have hl2:=hG.l2
 have ht:=hh.tail
 obtain⟨c3,c4,c5⟩:w.cell? ⟨g,13,none⟩=some (.int .i64 (L.h.seq:Int))/\w.cell? ⟨g,14,none⟩=some (.int .i64 (L.h.tail:Int))/\w.cell? ⟨g,15,none⟩=some (.int .i64 (L.h.used:Int)):=by
  obtain⟨_,_,_,x⟩:=h
  exact⟨x.ll.cells.2.2.1,x.ll.cells.2.2.2.1,x.ll.cells.2.2.2.2.1⟩
 rw[hu] at c5
 have X:Hid (∀ m,∃ S',Lv (w.drewN m) S' g dg P G (L.at L.Q) D/\Nx S w S' (w.drewN m)):=fun m=>⟨S,h.below (below_drewN (Below.refl _ w) m),(Nx.refl S w).below' (below_drewN (Below.refl _ w) m)⟩
 have HRr:=hide hr
 have htl:(L.h.tail:Int)<=4000:=by omega
 have ht0:(0:Int)<=(L.h.tail:Int):=by omega
 clear h hu hR hr hh hG hl2 ht
 generalize (L.h.tail:Int)=tl at *
 generalize (L.h.seq:Int)=sq at *
 have d0:(tl==tl)=true:=by simp
 have d1:(sq != sq)=false:=by simp
 go_enter Tryz.func44,Tryz.ntmps44
 go_wp2_with fail
 go_step3
 go_upto_region 1 with fail
 go_quiet (fail)
 go_wp2_with fail
 go_step3
 go_wp2_with fail
 rw[Exit.noGoto_ret]
 go_ret
 exact⟨L.Q,ah X _,.inr ⟨ah HRr,rfl⟩⟩
theorem abx (P:Nat->Int)(G:Geo)(dg:Nat)(Sd:Nat->Prop)(D:Dev)(w:World)(hP:PG P G)(hD:Dv w Sd dg D)(bd:D.blk=G.blk)(nd:D.n=G.n)(hT:Tab w)(h0:¬ Sd 1)(hd:D.dead=false)(hh:adP (D.rd 1)/\(gu (D.rd 1)).tail<G.lg/\(gu (D.rd 1)).used<=G.lg)(hu:(gu (D.rd 1)).used=0) :
  Calls Tryz.prog 16 #[.pointer (some ⟨dg,0,none⟩),Pv P] w fun e w'=>Hid (OpA P G D dg w Sd w' e):=by
 have K1:Hid (∀ u,Below w.heap.size w u->Calls Tryz.prog 41 #[.pointer (some ⟨dg,0,none⟩),Pv P] u fun e w'=>e=.returned (.int .i64 0)/\Below u.heap.size u w'):=fun u hu=>mZ P G dg Sd D u hP (hD.below hu) bd nd
 have K2:Hid (∀ w1,Below w.heap.size w w1->∃ S,Lv ((w1.alloc (.map #[] 0)).alloc (.cells #[.pointer (some ⟨dg,0,none⟩),.int .i64 (P 0),.int .i64 (P 1),.int .i64 (P 2),.int .i64 (P 3),.int .i64 (P 4),.int .i64 (P 5),.int .i64 (P 6),.int .i64 (P 7),.int .i64 (P 8),.int .i64 (P 9),.int .i64 (P 10),.int .i64 (P 11),.int .i64 0,.int .i64 0,.int .i64 0,.map (some w1.heap.size),.bool false] 101)) S (w1.heap.size+1) dg P G Lg.new D/\Nx Sd w S ((w1.alloc (.map #[] 0)).alloc (.cells #[.pointer (some ⟨dg,0,none⟩),.int .i64 (P 0),.int .i64 (P 1),.int .i64 (P 2),.int .i64 (P 3),.int .i64 (P 4),.int .i64 (P 5),.int .i64 (P 6),.int .i64 (P 7),.int .i64 (P 8),.int .i64 (P 9),.int .i64 (P 10),.int .i64 (P 11),.int .i64 0,.int .i64 0,.int .i64 0,.map (some w1.heap.size),.bool false] 101))):=fun w1 hb=>adp hP hD bd nd hT h0 hb
 have HK:=hide (Kp.start w P)
 have hmk:=@run_makeMap Tryz.prog
 clear hP hD bd nd hT h0
 have hp:=aa1 (G:=G) (rd:=D.rd) hh
 have K3:Hid (∀ u S g,Lv u S g dg P G Lg.new D->Nx Sd w S u->Calls Tryz.prog 43 #[.pointer (some ⟨g,0,none⟩)] u fun e w'=>e=.returned (.int .i64 0)/\Hid (Calls Tryz.prog 44 #[.pointer (some ⟨g,0,none⟩)] w' fun e w2=>∃ q:Int,e=.returned (.int .i64 q)/\((q=9/\Hid (∀ e',e'=.returned (.tuple #[.pointer none,.int .i64 9])->OpA P G D dg w Sd w2 e'))\/(q=0/\Hid (∀ e',e'=.returned (.tuple #[.pointer (some ⟨g,0,none⟩),.int .i64 0])->OpA P G D dg w Sd w2 e'))))):=fun u S g hl hx=>by
  refine(oK g dg S P G Lg.new D u hl hd hh.1 hh.2.1 hh.2.2).mono ?_
  rintro e w' ⟨rfl,S',l1,n1⟩
  refine⟨rfl,(yS g dg S' P G _ D w' l1 hu _ rfl).mono ?_⟩
  rintro e w2 ⟨Q',X,(⟨hr,rfl⟩ | ⟨hr,rfl⟩)⟩
  ·obtain⟨S2,l2,n2⟩:=ah X
   have hx2:=(hx.trans n1).trans n2
   refine⟨9,rfl,.inl ⟨rfl,fun e' he=>⟨S2,hx2,.inr (.inl ⟨hd,?_,he,l2.dv hx2⟩)⟩⟩⟩
   rw[hp]
   have hr2:goP G D.rd ((gu (D.rd 1)).seq:Int) (gu (D.rd 1)).tail ((gu (D.rd 1)).tail+(gu (D.rd 1)).used) 600 (gu (D.rd 1)).tail ((gu (D.rd 1)).seq:Int) (fun _=>none)=none:=hr
   rw[hr2]
   rfl
  ·obtain⟨S2,l2,n2⟩:=ah X
   have hx2:=(hx.trans n1).trans n2
   refine⟨0,rfl,.inr ⟨rfl,fun e' he=>⟨S2,hx2,.inr (.inr ⟨hd,_,g,?_,he,l2⟩)⟩⟩⟩
   rw[hp]
   have hr2:goP G D.rd ((gu (D.rd 1)).seq:Int) (gu (D.rd 1)).tail ((gu (D.rd 1)).tail+(gu (D.rd 1)).used) 600 (gu (D.rd 1)).tail ((gu (D.rd 1)).seq:Int) (fun _=>none)=some Q':=hr
   rw[hr2]
   rfl
 clear hd hh hp hu
 go_enter Tryz.func16,Tryz.ntmps16
 go_wp2_with fail
 go_at_call 41
 refine(ah K1 _ (ah HK).2).mono ?_
 rintro e w1 ⟨rfl,hb⟩
 replace HK:=hide ((ah HK).call hb)
 clear hb K1
 obtain⟨f0,f1,f2,f3,f4,f5,f6,f7,f8,f9,f10,f11⟩:=(ah HK).cells
 obtain⟨S1,l1,n1⟩:=ah K2 _ (ah HK).2
 have K4:=hide (ah K3 _ _ _ l1 n1)
 clear K2 K3 l1 n1 HK
 go_wp2_with fail
 go_at_call 43
 refine(ah K4).mono ?_
 rintro e w2 ⟨rfl,K5⟩
 clear K4 f0 f1 f2 f3 f4 f5 f6 f7 f8 f9 f10 f11
 go_wp2_with fail
 go_at_call 44
 refine(ah K5).mono ?_
 rintro e w3 ⟨q,rfl,(⟨rfl,X⟩ | ⟨rfl,X⟩)⟩
 ·clear K5
  go_wp2_with fail
  go_ret2
  exact ah X _ rfl
 ·clear K5
  go_wp2_with fail
  go_ret2
  exact ah X _ rfl
end Go.Proofs.YtefdkpbmeoakgaaGreatDoor
