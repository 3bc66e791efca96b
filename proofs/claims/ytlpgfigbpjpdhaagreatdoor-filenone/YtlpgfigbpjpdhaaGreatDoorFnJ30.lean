/- Joined: WRead, WRead2, WCommit, WOps. -/
import Derived.Test.YtlpgfigbpjpdhaaGreatDoorFnJ29
import Derived.Test.YtlpgfigbpjpdhaaGreatDoorFnJ22
import Derived.Deep.DeepBigQuietO
import Derived.Test.YtlpgfigbpjpdhaaGreatDoorFnJ3
/- The contracts of aio and ajG. -/
namespace Go.Proofs.YtlpgfigbpjpdhaaGreatDoor
set_option maxRecDepth 100000
set_option maxHeartbeats 8000000
open Go.RowKit Go.Shelf Go.Maps
set_option linter.unusedVariables false
theorem zx {zs:List Int}(hz:∀ z∈zs,0<=z/\z<=255):∀ k,k<3->dA zs k=(gJ zs).fn k:=by
 intro k hk
 have h0:0<=ak zs 4 4/\ak zs 4 4<256 ^ 4:=dG hz 4 4
 have h1:0<=ak zs 8 2/\ak zs 8 2<256 ^ 2:=dG hz 8 2
 have h2:0<=ak zs 10 2/\ak zs 10 2<256 ^ 2:=dG hz 10 2
 have:k=0\/k=1\/k=2:=by omega
 rcases this with rfl | rfl | rfl
 ·show dA zs 0=(((dA zs 0).toNat:Nat):Int)
  have:dA zs 0=ak zs 4 4:=rfl
  omega
 ·show dA zs 1=(((dA zs 1).toNat:Nat):Int)
  have:dA zs 1=ak zs 8 2:=rfl
  omega
 ·show dA zs 2=(((dA zs 2).toNat:Nat):Int)
  have:dA zs 2=ak zs 10 2:=rfl
  omega
theorem afI {zs:List Int}(hz:∀ z∈zs,0<=z/\z<=255):(gJ zs).seq<=4294967295:=by
 have h0:0<=ak zs 4 4/\ak zs 4 4<256 ^ 4:=dG hz 4 4
 show (ak zs 4 4).toNat<=_
 omega
theorem ahz {w:World}{S g dg P G L D u}(h:Lv u S g dg P G L D)(hd:D.dead=false)(i:Nat)(hi:i<G.n) :
  Calls Tryz.prog 109 #[.pointer (some ⟨dg,0,none⟩),.int .i64 (i:Int)] u fun e u'=>∃ r,e=.returned (.tuple #[.slice (some ⟨r,0,none⟩) G.blk G.blk,.int .i64 0])/\u.heap.size<=r/\Hid (Block u' r (D.rd i))/\Below u.heap.size u u':=by
 obtain⟨Sl,Sd,m,x⟩:=h
 have:=acR dg i Sd D u x.dd hd (by rw[x.nd];exact hi)
 rw[x.bd] at this
 refine this.mono ?_
 rintro e u' ⟨rfl,hB,hb⟩
 exact⟨_,rfl,Nat.le_refl _,hB,hb⟩
theorem Lv.rd {u S g dg P G L D}(h:Lv u S g dg P G L D){i:Nat}(hi:i<G.n):(D.rd i).length=G.blk/\∀ z∈D.rd i,0<=z/\z<=255:=by
 obtain⟨Sl,Sd,m,x⟩:=h
 have:=x.dd.ag4 (i:=i) (by rw[x.nd];exact hi)
 rw[x.bd] at this
 exact this
theorem afc {g dg S P G L D w}(h:Lv w S g dg P G L D)(hd:D.dead=false) :
  Calls Tryz.prog 109 #[.pointer (some ⟨dg,0,none⟩),.int .i64 1] w fun e w1=>∃ r,e=.returned (.tuple #[.slice (some ⟨r,0,none⟩) G.blk G.blk,.int .i64 0]) /\
   Hid (Calls Tryz.prog 110 #[.slice (some ⟨r,0,none⟩) G.blk G.blk] w1 fun e w2=>Hid (Below w.heap.size w w2) /\
    ((adD (D.rd 1)/\e=.returned (.tuple #[.agg #[.int .i64 ((gJ (D.rd 1)).seq:Int),.int .i64 ((gJ (D.rd 1)).tail:Int),.int .i64 ((gJ (D.rd 1)).used:Int)],.int .i64 0]))\/(¬ adD (D.rd 1)/\e=.returned (.tuple #[.agg #[.int .i64 0,.int .i64 0,.int .i64 0],.int .i64 4])))):=by
 have hG:G.Ok:=by obtain⟨_,_,_,x⟩:=h;exact x.ll.pg.ok
 have hT:Tab w:=by obtain⟨_,_,_,x⟩:=h;exact x.tab
 have hn:=hG.ibn
 have hbk:=hG.blk
 obtain⟨r1,r2⟩:=h.rd (i:=1) (by omega)
 refine(ahz (w:=w) h hd 1 (by omega)).mono ?_
 rintro e w1 ⟨r,rfl,hr,hB,hb⟩
 refine⟨r,rfl,?_⟩
 have hrow:=(ah hB).row r1 (by omega) r2
 have hT1:=hT.kept (hb.block 0 hT.lt)
 by_cases hI:adD (D.rd 1)
 ·have hI2:=hI
  unfold adD at hI2
  rw[r1] at hI2
  refine(vk _ G.blk G.blk (D.rd 1) w1 hrow hT1 hI2.1 hI2.2).mono ?_
  rintro e w2 ⟨rfl,hb2⟩
  refine⟨hb.trans (hb2.mono hb.size),.inl ⟨hI,?_⟩⟩
  have f0:=zx r2 0 (by omega)
  have f1:=zx r2 1 (by omega)
  have f2:=zx r2 2 (by omega)
  show Ending.returned (.tuple #[.agg #[.int .i64 (dA (D.rd 1) 0),.int .i64 (dA (D.rd 1) 1),.int .i64 (dA (D.rd 1) 2)],.int .i64 0])=_
  rw[f0,f1,f2]
  rfl
 ·have hI2:=hI
  unfold adD at hI2
  rw[r1] at hI2
  refine(xW _ G.blk G.blk (D.rd 1) w1 hrow hT1 hI2).mono ?_
  rintro e w2 ⟨rfl,hb2⟩
  exact⟨hb.trans (hb2.mono hb.size),.inr ⟨hI,rfl⟩⟩
theorem Lv.head {u S g dg P G L D}(h:Lv u S g dg P G L D)(H:Hd)(hH:H.Ok G):u.cell? ⟨g,13,none⟩=some (.int .i64 (L.h.seq:Int))/\u.cell? ⟨g,14,none⟩=some (.int .i64 (L.h.tail:Int))/\u.cell? ⟨g,15,none⟩=some (.int .i64 (L.h.used:Int))/\(∀ k,u.frozen? ⟨g,k,none⟩=false) /\
  Hid (∃ S',Lv (((u.setCell ⟨g,13,none⟩ (.int .i64 (H.seq:Int))).setCell ⟨g,14,none⟩ (.int .i64 (H.tail:Int))).setCell ⟨g,15,none⟩ (.int .i64 (H.used:Int))) S' g dg P G { L with h:=H } D/\Nx S u S' (((u.setCell ⟨g,13,none⟩ (.int .i64 (H.seq:Int))).setCell ⟨g,14,none⟩ (.int .i64 (H.tail:Int))).setCell ⟨g,15,none⟩ (.int .i64 (H.used:Int)))):=by
 obtain⟨Sl,Sd,m,x⟩:=h
 obtain⟨_,_,c3,c4,c5,_,_,fr⟩:=x.ll.cells
 have n1:Nx Sl u Sl (u.setCell ⟨g,13,none⟩ (.int .i64 (H.seq:Int))):=Nx.set (p:=⟨g,13,none⟩) x.ll.sg _
 have n2:Nx Sl (u.setCell ⟨g,13,none⟩ (.int .i64 (H.seq:Int))) Sl ((u.setCell ⟨g,13,none⟩ (.int .i64 (H.seq:Int))).setCell ⟨g,14,none⟩ (.int .i64 (H.tail:Int))):=Nx.set (p:=⟨g,14,none⟩) x.ll.sg _
 obtain⟨y1,y2⟩:=x.own (x.ll.head H hH) ((n1.trans n2).trans (Nx.set (p:=⟨g,15,none⟩) x.ll.sg _))
 exact⟨c3,c4,c5,fr,_,y1.lv,y2⟩
theorem oM (g dg:Nat)(S:Nat->Prop)(P:Nat->Int)(G:Geo)(L:Lg)(D:Dev)(w:World)(h:Lv w S g dg P G L D)(hd:D.dead=false)(hI:adD (D.rd 1))(ht:(gJ (D.rd 1)).tail<G.lg)(hu:(gJ (D.rd 1)).used<=G.lg) :
  Calls Tryz.prog 59 #[.pointer (some ⟨g,0,none⟩)] w fun e w'=>e=.returned (.int .i64 0)/\∃ S',Lv w' S' g dg P G { L with h:=gJ (D.rd 1) } D/\Nx S w S' w':=by
 have hG:G.Ok:=by obtain⟨_,_,_,x⟩:=h;exact x.ll.pg.ok
 have hok:(gJ (D.rd 1)).Ok G:=⟨afI (h.rd (by have:=hG.ibn;omega)).2,ht,hu⟩
 have K:=hide (afc h hd)
 have c0:w.cell? ⟨g,0,none⟩=some (.pointer (some ⟨dg,0,none⟩)):=by
  obtain⟨_,_,_,x⟩:=h
  exact x.ll.cells.1
 have KL:Hid (∀ u,Below w.heap.size w u->u.cell? ⟨g,4,none⟩=some (.int .i64 (G.lg:Int))):=fun u hb=>by
  obtain⟨_,_,_,x⟩:=h.below hb
  have:=x.ll.cells.2.1 3 (by omega)
  rwa [x.ll.pg.p3] at this
 have KH:Hid (∀ u,Below w.heap.size w u->_):=fun u hb=>(h.below hb).head (gJ (D.rd 1)) hok
 have KN:Hid (∀ u,Below w.heap.size w u->∀ S' u',Nx S u S' u'->Nx S w S' u'):=fun u hb S' u' hx=>((Nx.refl S w).below' hb).trans hx
 have anZ:Tryz.prog.follows Departure.mixedOrders=true:=by kernel_rfl
 have HI:=hide hI
 clear h hd hG hok hI
 generalize gJ (D.rd 1)=H at *
 have d1:decide ((G.lg:Int)<=(H.tail:Int))=false:=by rw[decide_eq_false_iff_not];omega
 have d1b:decide (G.lg<=H.tail)=false:=by rw[decide_eq_false_iff_not];omega
 have d2:decide ((G.lg:Int)<(H.used:Int))=false:=by rw[decide_eq_false_iff_not];omega
 have d2b:decide (G.lg<H.used)=false:=by rw[decide_eq_false_iff_not];omega
 clear ht hu
 go_enter Tryz.func59,Tryz.ntmps59
 go_wp2_with fail
 go_at_call 109
 refine(ah K).mono ?_
 rintro e w1 ⟨r,rfl,K2⟩
 clear K c0
 go_wp2_with fail
 go_at_call 110
 refine(ah K2).mono ?_
 rintro e w2 ⟨B2,(⟨hI,rfl⟩ | ⟨hI,rfl⟩)⟩
 ·have BZ:=hide ((ah B2).alloc (ah B2).size (.cells #[.int .i64 (H.seq:Int),.int .i64 (H.tail:Int),.int .i64 (H.used:Int)] 118))
  have z:=Bl.new w2 #[.int .i64 (H.seq:Int),.int .i64 (H.tail:Int),.int .i64 (H.used:Int)] 118
  have z0:=z.cell 0 (.int .i64 (H.seq:Int)) rfl
  have z1:=z.cell 1 (.int .i64 (H.tail:Int)) rfl
  have z2:=z.cell 2 (.int .i64 (H.used:Int)) rfl
  have l4:=ah KL _ (ah BZ)
  clear K2 KL z B2 hI HI
  go_upto_region 5 with fail
  change Code.wp _ _ _ _ (w2.alloc (.cells #[.int .i64 (H.seq:Int),.int .i64 (H.tail:Int),.int .i64 (H.used:Int)] 118))
  generalize w2.alloc (.cells #[.int .i64 (H.seq:Int),.int .i64 (H.tail:Int),.int .i64 (H.used:Int)] 118)=ub at *
  generalize w2.heap.size=gb at *
  go_cut [43] (fun c wx=>c=.bool false/\∃ q,wx=ub.drewN q)
  case first =>
   clear KH KN
   go_big_quiet_o (fail)
   go_wp2
   go_meet
   exact⟨rfl,_,rfl⟩
  case rest =>
   obtain⟨rfl,q,rfl⟩:=hcut
   have B3:Hid (Below w.heap.size w (ub.drewN q)):=below_drewN (ah BZ) q
   obtain⟨c3,c4,c5,fr,X⟩:=ah KH _ (ah B3)
   have y0:(ub.drewN q).cell? ⟨gb,0,none⟩=some (.int .i64 (H.seq:Int)):=z0
   have y1:(ub.drewN q).cell? ⟨gb,1,none⟩=some (.int .i64 (H.tail:Int)):=z1
   have y2:(ub.drewN q).cell? ⟨gb,2,none⟩=some (.int .i64 (H.used:Int)):=z2
   clear KH z0 z1 z2 l4 BZ d1 d1b d2 d2b
   generalize ub.drewN q=uq at *
   go_wp2_with fail
   go_ret
   obtain⟨S',l1,n1⟩:=ah X
   exact⟨rfl,S',l1,ah KN _ (ah B3) _ _ n1⟩
 ·exact absurd (ah HI) hI
theorem acD {Q:Nat->Option (List Int)}{V:List Wr}{k:Nat}(hk:k<V.length)(b:Nat)(hb:(wat V k).b=(b:Int)):setW Q ((wl V).take (k+1))=fun j=>if j=b then some (wat V k).z else setW Q ((wl V).take k) j:=by
 have h1:k<(wl V).length:=by rw[acj];exact hk
 rw[List.take_succ_eq_append_getElem h1,yC]
 have e:(wl V)[k]=(b,(wat V k).z):=by
  have:(wl V)[k]?=some ((wat V k).b.toNat,(wat V k).z):=by simp[wl,wat,List.getElem?_eq_getElem hk]
  rw[List.getElem?_eq_getElem h1,hb] at this
  simpa using this
 rw[e]
 rfl
def als (G:Geo) (L:Lg) (V:List Wr) (D:Dev):Int:=if ajJ G L.h.seq (wv V)=0 then (if L.dead=true then 7 else if V.length=0 then 0 else cmE G L (wl V) D) else ajJ G L.h.seq (wv V)
def alr (G:Geo) (L:Lg) (V:List Wr) (D:Dev):Lg:=if ajJ G L.h.seq (wv V)=0 then (if L.dead=true then L else if V.length=0 then L else (cmL G L (wl V) D).met (cmE G L (wl V) D)) else L
def alu (G:Geo) (L:Lg) (V:List Wr) (D:Dev):Dev:=if ajJ G L.h.seq (wv V)=0 then (if L.dead=true then D else if V.length=0 then D else cmD G L (wl V) D) else D
def aic (G:Geo) (L:Lg) (D:Dev):Int:=if L.dead=true then 7 else apE G L D
def ags (G:Geo) (L:Lg) (D:Dev):Lg:=if L.dead=true then L else (apL G L D).met (apE G L D)
def agt (G:Geo) (L:Lg) (D:Dev):Dev:=if L.dead=true then D else apD G L D
end Go.Proofs.YtlpgfigbpjpdhaaGreatDoor
