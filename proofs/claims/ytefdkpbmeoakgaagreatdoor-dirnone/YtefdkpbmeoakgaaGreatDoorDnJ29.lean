/- Joined: WRead, WRead2. -/
import Derived.Test.YtefdkpbmeoakgaaGreatDoorDnJ28
import Derived.Test.YtefdkpbmeoakgaaGreatDoorDnJ22
import Derived.Deep.DeepBigQuietO
/- The contracts of ai5 and ajQ. -/
namespace Go.Proofs.YtefdkpbmeoakgaaGreatDoor
set_option maxRecDepth 100000
set_option maxHeartbeats 8000000
open Go.RowKit Go.Shelf Go.Maps
set_option linter.unusedVariables false
theorem zK {zs:List Int}(hz:∀ z∈zs,0<=z/\z<=255):∀ k,k<3->dw zs k=(gu zs).fn k:=by
 intro k hk
 have h0:0<=ak zs 4 4/\ak zs 4 4<256 ^ 4:=dJ hz 4 4
 have h1:0<=ak zs 8 2/\ak zs 8 2<256 ^ 2:=dJ hz 8 2
 have h2:0<=ak zs 10 2/\ak zs 10 2<256 ^ 2:=dJ hz 10 2
 have:k=0\/k=1\/k=2:=by omega
 rcases this with rfl | rfl | rfl
 ·show dw zs 0=(((dw zs 0).toNat:Nat):Int)
  have:dw zs 0=ak zs 4 4:=rfl
  omega
 ·show dw zs 1=(((dw zs 1).toNat:Nat):Int)
  have:dw zs 1=ak zs 8 2:=rfl
  omega
 ·show dw zs 2=(((dw zs 2).toNat:Nat):Int)
  have:dw zs 2=ak zs 10 2:=rfl
  omega
theorem afQ {zs:List Int}(hz:∀ z∈zs,0<=z/\z<=255):(gu zs).seq<=4294967295:=by
 have h0:0<=ak zs 4 4/\ak zs 4 4<256 ^ 4:=dJ hz 4 4
 show (ak zs 4 4).toNat<=_
 omega
theorem ah8 {w:World}{S g dg P G L D u}(h:Lv u S g dg P G L D)(hd:D.dead=false)(i:Nat)(hi:i<G.n) :
  Calls Tryz.prog 73 #[.pointer (some ⟨dg,0,none⟩),.int .i64 (i:Int)] u fun e u'=>∃ r,e=.returned (.tuple #[.slice (some ⟨r,0,none⟩) G.blk G.blk,.int .i64 0])/\u.heap.size<=r/\Hid (Block u' r (D.rd i))/\Below u.heap.size u u':=by
 obtain⟨Sl,Sd,m,x⟩:=h
 have:=adf dg i Sd D u x.dd hd (by rw[x.nd];exact hi)
 rw[x.bd] at this
 refine this.mono ?_
 rintro e u' ⟨rfl,hB,hb⟩
 exact⟨_,rfl,Nat.le_refl _,hB,hb⟩
theorem Lv.rd {u S g dg P G L D}(h:Lv u S g dg P G L D){i:Nat}(hi:i<G.n):(D.rd i).length=G.blk/\∀ z∈D.rd i,0<=z/\z<=255:=by
 obtain⟨Sl,Sd,m,x⟩:=h
 have:=x.dd.ag6 (i:=i) (by rw[x.nd];exact hi)
 rw[x.bd] at this
 exact this
theorem afn {g dg S P G L D w}(h:Lv w S g dg P G L D)(hd:D.dead=false) :
  Calls Tryz.prog 73 #[.pointer (some ⟨dg,0,none⟩),.int .i64 1] w fun e w1=>∃ r,e=.returned (.tuple #[.slice (some ⟨r,0,none⟩) G.blk G.blk,.int .i64 0]) /\
   Hid (Calls Tryz.prog 74 #[.slice (some ⟨r,0,none⟩) G.blk G.blk] w1 fun e w2=>Hid (Below w.heap.size w w2) /\
    ((adP (D.rd 1)/\e=.returned (.tuple #[.agg #[.int .i64 ((gu (D.rd 1)).seq:Int),.int .i64 ((gu (D.rd 1)).tail:Int),.int .i64 ((gu (D.rd 1)).used:Int)],.int .i64 0]))\/(¬ adP (D.rd 1)/\e=.returned (.tuple #[.agg #[.int .i64 0,.int .i64 0,.int .i64 0],.int .i64 4])))):=by
 have hG:G.Ok:=by obtain⟨_,_,_,x⟩:=h;exact x.ll.pg.ok
 have hT:Tab w:=by obtain⟨_,_,_,x⟩:=h;exact x.tab
 have hn:=hG.ibn
 have hbk:=hG.blk
 obtain⟨r1,r2⟩:=h.rd (i:=1) (by omega)
 refine(ah8 (w:=w) h hd 1 (by omega)).mono ?_
 rintro e w1 ⟨r,rfl,hr,hB,hb⟩
 refine⟨r,rfl,?_⟩
 have hrow:=(ah hB).row r1 (by omega) r2
 have hT1:=hT.kept (hb.block 1 hT.lt)
 by_cases hI:adP (D.rd 1)
 ·have hI2:=hI
  unfold adP at hI2
  rw[r1] at hI2
  refine(vg _ G.blk G.blk (D.rd 1) w1 hrow hT1 hI2.1 hI2.2).mono ?_
  rintro e w2 ⟨rfl,hb2⟩
  refine⟨hb.trans (hb2.mono hb.size),.inl ⟨hI,?_⟩⟩
  have f0:=zK r2 0 (by omega)
  have f1:=zK r2 1 (by omega)
  have f2:=zK r2 2 (by omega)
  show Ending.returned (.tuple #[.agg #[.int .i64 (dw (D.rd 1) 0),.int .i64 (dw (D.rd 1) 1),.int .i64 (dw (D.rd 1) 2)],.int .i64 0])=_
  rw[f0,f1,f2]
  rfl
 ·have hI2:=hI
  unfold adP at hI2
  rw[r1] at hI2
  refine(yA _ G.blk G.blk (D.rd 1) w1 hrow hT1 hI2).mono ?_
  rintro e w2 ⟨rfl,hb2⟩
  exact⟨hb.trans (hb2.mono hb.size),.inr ⟨hI,rfl⟩⟩
theorem Lv.head {u S g dg P G L D}(h:Lv u S g dg P G L D)(H:Hd)(hH:H.Ok G):u.cell? ⟨g,13,none⟩=some (.int .i64 (L.h.seq:Int))/\u.cell? ⟨g,14,none⟩=some (.int .i64 (L.h.tail:Int))/\u.cell? ⟨g,15,none⟩=some (.int .i64 (L.h.used:Int))/\(∀ k,u.frozen? ⟨g,k,none⟩=false) /\
  Hid (∃ S',Lv (((u.setCell ⟨g,13,none⟩ (.int .i64 (H.seq:Int))).setCell ⟨g,14,none⟩ (.int .i64 (H.tail:Int))).setCell ⟨g,15,none⟩ (.int .i64 (H.used:Int))) S' g dg P G { L with h:=H } D/\Nx S u S' (((u.setCell ⟨g,13,none⟩ (.int .i64 (H.seq:Int))).setCell ⟨g,14,none⟩ (.int .i64 (H.tail:Int))).setCell ⟨g,15,none⟩ (.int .i64 (H.used:Int)))):=by
 obtain⟨Sl,Sd,m,x⟩:=h
 obtain⟨_,_,c3,c4,c5,_,_,fr⟩:=x.ll.cells
 have n1:Nx Sl u Sl (u.setCell ⟨g,13,none⟩ (.int .i64 (H.seq:Int))):=Nx.set (p:=⟨g,13,none⟩) x.ll.sg _
 have n2:Nx Sl (u.setCell ⟨g,13,none⟩ (.int .i64 (H.seq:Int))) Sl ((u.setCell ⟨g,13,none⟩ (.int .i64 (H.seq:Int))).setCell ⟨g,14,none⟩ (.int .i64 (H.tail:Int))):=Nx.set (p:=⟨g,14,none⟩) x.ll.sg _
 obtain⟨y1,y2⟩:=x.own (x.ll.head H hH) ((n1.trans n2).trans (Nx.set (p:=⟨g,15,none⟩) x.ll.sg _))
 exact⟨c3,c4,c5,fr,_,y1.lv,y2⟩
theorem oK (g dg:Nat)(S:Nat->Prop)(P:Nat->Int)(G:Geo)(L:Lg)(D:Dev)(w:World)(h:Lv w S g dg P G L D)(hd:D.dead=false)(hI:adP (D.rd 1))(ht:(gu (D.rd 1)).tail<G.lg)(hu:(gu (D.rd 1)).used<=G.lg) :
  Calls Tryz.prog 43 #[.pointer (some ⟨g,0,none⟩)] w fun e w'=>e=.returned (.int .i64 0)/\∃ S',Lv w' S' g dg P G { L with h:=gu (D.rd 1) } D/\Nx S w S' w':=by
 have hG:G.Ok:=by obtain⟨_,_,_,x⟩:=h;exact x.ll.pg.ok
 have hok:(gu (D.rd 1)).Ok G:=⟨afQ (h.rd (by have:=hG.ibn;omega)).2,ht,hu⟩
 have K:=hide (afn h hd)
 have c0:w.cell? ⟨g,0,none⟩=some (.pointer (some ⟨dg,0,none⟩)):=by
  obtain⟨_,_,_,x⟩:=h
  exact x.ll.cells.1
 have KL:Hid (∀ u,Below w.heap.size w u->u.cell? ⟨g,4,none⟩=some (.int .i64 (G.lg:Int))):=fun u hb=>by
  obtain⟨_,_,_,x⟩:=h.below hb
  have:=x.ll.cells.2.1 3 (by omega)
  rwa [x.ll.pg.p3] at this
 have KH:Hid (∀ u,Below w.heap.size w u->_):=fun u hb=>(h.below hb).head (gu (D.rd 1)) hok
 have KN:Hid (∀ u,Below w.heap.size w u->∀ S' u',Nx S u S' u'->Nx S w S' u'):=fun u hb S' u' hx=>((Nx.refl S w).below' hb).trans hx
 have anY:Tryz.prog.follows Departure.mixedOrders=true:=by kernel_rfl
 have HI:=hide hI
 clear h hd hG hok hI
 generalize gu (D.rd 1)=H at *
 have d1:decide ((G.lg:Int)<=(H.tail:Int))=false:=by rw[decide_eq_false_iff_not];omega
 have d1b:decide (G.lg<=H.tail)=false:=by rw[decide_eq_false_iff_not];omega
 have d2:decide ((G.lg:Int)<(H.used:Int))=false:=by rw[decide_eq_false_iff_not];omega
 have d2b:decide (G.lg<H.used)=false:=by rw[decide_eq_false_iff_not];omega
 clear ht hu
 go_enter Tryz.func43,Tryz.ntmps43
 go_wp2_with fail
 go_at_call 73
 refine(ah K).mono ?_
 rintro e w1 ⟨r,rfl,K2⟩
 clear K c0
 go_wp2_with fail
 go_at_call 74
 refine(ah K2).mono ?_
 rintro e w2 ⟨B2,(⟨hI,rfl⟩ | ⟨hI,rfl⟩)⟩
 ·have BZ:=hide ((ah B2).alloc (ah B2).size (.cells #[.int .i64 (H.seq:Int),.int .i64 (H.tail:Int),.int .i64 (H.used:Int)] 98))
  have z:=Bl.new w2 #[.int .i64 (H.seq:Int),.int .i64 (H.tail:Int),.int .i64 (H.used:Int)] 98
  have z0:=z.cell 0 (.int .i64 (H.seq:Int)) rfl
  have z1:=z.cell 1 (.int .i64 (H.tail:Int)) rfl
  have z2:=z.cell 2 (.int .i64 (H.used:Int)) rfl
  have l4:=ah KL _ (ah BZ)
  clear K2 KL z B2 hI HI
  go_upto_region 5 with fail
  change Code.wp _ _ _ _ (w2.alloc (.cells #[.int .i64 (H.seq:Int),.int .i64 (H.tail:Int),.int .i64 (H.used:Int)] 98))
  generalize w2.alloc (.cells #[.int .i64 (H.seq:Int),.int .i64 (H.tail:Int),.int .i64 (H.used:Int)] 98)=ub at *
  generalize w2.heap.size=gb at *
  go_cut [43] (fun c wx=>c=.bool false/\∃ q,wx=ub.drewN q)
  case first =>
   clear KH KN
   go_big_quiet_o (fail)
   go_wp2
   go_meet
   exact⟨rfl,_,rfl⟩
  case rest =>
   obtain⟨rfl,q,rfl⟩:=hcut
   have B3:Hid (Below w.heap.size w (ub.drewN q)):=below_drewN (ah BZ) q
   obtain⟨c3,c4,c5,fr,X⟩:=ah KH _ (ah B3)
   have y0:(ub.drewN q).cell? ⟨gb,0,none⟩=some (.int .i64 (H.seq:Int)):=z0
   have y1:(ub.drewN q).cell? ⟨gb,1,none⟩=some (.int .i64 (H.tail:Int)):=z1
   have y2:(ub.drewN q).cell? ⟨gb,2,none⟩=some (.int .i64 (H.used:Int)):=z2
   clear KH z0 z1 z2 l4 BZ d1 d1b d2 d2b
   generalize ub.drewN q=uq at *
   go_wp2_with fail
   go_ret
   obtain⟨S',l1,n1⟩:=ah X
   exact⟨rfl,S',l1,ah KN _ (ah B3) _ _ n1⟩
 ·exact absurd (ah HI) hI
end Go.Proofs.YtefdkpbmeoakgaaGreatDoor
