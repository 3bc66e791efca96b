/- Joined: WRead, WRead2. -/
import Derived.Test.YtokngjcfkkceiaaGreatDoorInJ38
import Derived.Test.YtokngjcfkkceiaaGreatDoorInCUnD
import Derived.Deep.DeepBigQuietO
/- The contracts of readHeader and readDesc. -/
namespace Go.Proofs.YtokngjcfkkceiaaGreatDoor
set_option maxRecDepth 100000
set_option maxHeartbeats 8000000
open Go.RowKit Go.Shelf Go.Maps
set_option linter.unusedVariables false

theorem hdOf_fn {zs:List Int}(hz:∀ z∈zs,0≤z∧z≤255):∀ k,k<3→hdrOf zs k=(hdOf zs).fn k:=by
 intro k hk
 have h0:0≤getVal zs 4 4∧getVal zs 4 4<256 ^ 4:=getVal_bound hz 4 4
 have h1:0≤getVal zs 8 2∧getVal zs 8 2<256 ^ 2:=getVal_bound hz 8 2
 have h2:0≤getVal zs 10 2∧getVal zs 10 2<256 ^ 2:=getVal_bound hz 10 2
 have:k=0∨k=1∨k=2:=by omega
 rcases this with rfl | rfl | rfl
 ·show hdrOf zs 0=(((hdrOf zs 0).toNat:Nat):Int)
  have:hdrOf zs 0=getVal zs 4 4:=rfl
  omega
 ·show hdrOf zs 1=(((hdrOf zs 1).toNat:Nat):Int)
  have:hdrOf zs 1=getVal zs 8 2:=rfl
  omega
 ·show hdrOf zs 2=(((hdrOf zs 2).toNat:Nat):Int)
  have:hdrOf zs 2=getVal zs 10 2:=rfl
  omega

theorem hdOf_seq {zs:List Int}(hz:∀ z∈zs,0≤z∧z≤255):(hdOf zs).seq≤4294967295:=by
 have h0:0≤getVal zs 4 4∧getVal zs 4 4<256 ^ 4:=getVal_bound hz 4 4
 show (getVal zs 4 4).toNat≤_
 omega

theorem lj_read {w:World}{S:Nat→Prop}{g dg:Nat}{P:Nat→Int}{G:Geo}{L:Lg}{D:Dev}{u:World}(h:Lv u S g dg P G L D)(hd:D.dead=false)(i:Nat)(hi:i<G.n) :
  Calls Tryz.prog 125 #[.pointer (some ⟨dg,0,none⟩),.int .i64 (i:Int)] u fun e u'=>∃ r,e=.returned (.tuple #[.slice (some ⟨r,0,none⟩) G.blk G.blk,.int .i64 0])∧u.heap.size≤r∧Hid (Block u' r (D.rd i))∧Below u.heap.size u u':=by
 obtain⟨Sl,Sd,m,x⟩:=h
 have:=read_ok dg i Sd D u x.dd hd (by rw[x.nd];exact hi)
 rw[x.bd] at this
 refine this.mono ?_
 rintro e u' ⟨rfl,hB,hb⟩
 exact⟨_,rfl,Nat.le_refl _,hB,hb⟩

theorem Lv.rd {u:World}{S:Nat→Prop}{g dg:Nat}{P:Nat→Int}{G:Geo}{L:Lg}{D:Dev}(h:Lv u S g dg P G L D){i:Nat}(hi:i<G.n):(D.rd i).length=G.blk∧∀ z∈D.rd i,0≤z∧z≤255:=by
 obtain⟨Sl,Sd,m,x⟩:=h
 have:=x.dd.rd_byt (i:=i) (by rw[x.nd];exact hi)
 rw[x.bd] at this
 exact this

theorem readHeader_dead (g dg:Nat)(S:Nat→Prop)(P:Nat→Int)(G:Geo)(L:Lg)(D:Dev)(w:World)(h:Lv w S g dg P G L D)(hd:D.dead=true) :
  Calls Tryz.prog 72 #[.pointer (some ⟨g,0,none⟩)] w fun e w'=>e=.returned (.int .i64 7)∧Below w.heap.size w w':=by
 have K:Hid (Calls Tryz.prog 125 #[.pointer (some ⟨dg,0,none⟩),.int .i64 1] w fun e w'=>e=.returned (.tuple #[.slice none 0 0,.int .i64 7])∧Below w.heap.size w w'):=by
  obtain⟨Sl,Sd,m,x⟩:=h
  have:=read_dead dg 1 Sd D w x.dd hd
  refine this.mono ?_
  rintro e w' ⟨rfl,h2⟩
  first
   | exact⟨rfl,h2 ▸ Below.refl _ _⟩
   | exact⟨rfl,h2⟩
 have c0:w.cell? ⟨g,0,none⟩=some (.pointer (some ⟨dg,0,none⟩)):=by
  obtain⟨_,_,_,x⟩:=h
  exact x.ll.cells.1
 clear h hd
 go_enter Tryz.func72,Tryz.ntmps72
 go_wp2_with fail
 go_at_call 125
 refine(unhide K).mono ?_
 rintro e w1 ⟨rfl,hb⟩
 have B:=hide hb
 clear K hb
 go_wp2_with fail
 go_ret
 exact⟨rfl,unhide B⟩

theorem rh_chain {g dg:Nat}{S:Nat→Prop}{P:Nat→Int}{G:Geo}{L:Lg}{D:Dev}{w:World}(h:Lv w S g dg P G L D)(hd:D.dead=false) :
  Calls Tryz.prog 125 #[.pointer (some ⟨dg,0,none⟩),.int .i64 1] w fun e w1=>∃ r,e=.returned (.tuple #[.slice (some ⟨r,0,none⟩) G.blk G.blk,.int .i64 0]) ∧
   Hid (Calls Tryz.prog 126 #[.slice (some ⟨r,0,none⟩) G.blk G.blk] w1 fun e w2=>Hid (Below w.heap.size w w2) ∧
    ((hdIs (D.rd 1)∧e=.returned (.tuple #[.agg #[.int .i64 ((hdOf (D.rd 1)).seq:Int),.int .i64 ((hdOf (D.rd 1)).tail:Int),.int .i64 ((hdOf (D.rd 1)).used:Int)],.int .i64 0]))∨(¬ hdIs (D.rd 1)∧e=.returned (.tuple #[.agg #[.int .i64 0,.int .i64 0,.int .i64 0],.int .i64 4])))):=by
 have hG:G.Ok:=by obtain⟨_,_,_,x⟩:=h;exact x.ll.pg.ok
 have hT:Tab w:=by obtain⟨_,_,_,x⟩:=h;exact x.tab
 have hn:=hG.ibn
 have hbk:=hG.blk
 obtain⟨r1,r2⟩:=h.rd (i:=1) (by omega)
 refine(lj_read (w:=w) h hd 1 (by omega)).mono ?_
 rintro e w1 ⟨r,rfl,hr,hB,hb⟩
 refine⟨r,rfl,?_⟩
 have hrow:=(unhide hB).row r1 (by omega) r2
 have hT1:=hT.kept (hb.block 0 hT.lt)
 by_cases hI:hdIs (D.rd 1)
 ·have hI2:=hI
  unfold hdIs at hI2
  rw[r1] at hI2
  refine(unheader_yes _ G.blk G.blk (D.rd 1) w1 hrow hT1 hI2.1 hI2.2).mono ?_
  rintro e w2 ⟨rfl,hb2⟩
  refine⟨hb.trans (hb2.mono hb.size),.inl ⟨hI,?_⟩⟩
  have f0:=hdOf_fn r2 0 (by omega)
  have f1:=hdOf_fn r2 1 (by omega)
  have f2:=hdOf_fn r2 2 (by omega)
  show Ending.returned (.tuple #[.agg #[.int .i64 (hdrOf (D.rd 1) 0),.int .i64 (hdrOf (D.rd 1) 1),.int .i64 (hdrOf (D.rd 1) 2)],.int .i64 0])=_
  rw[f0,f1,f2]
  rfl
 ·have hI2:=hI
  unfold hdIs at hI2
  rw[r1] at hI2
  refine(unheader_no _ G.blk G.blk (D.rd 1) w1 hrow hT1 hI2).mono ?_
  rintro e w2 ⟨rfl,hb2⟩
  exact⟨hb.trans (hb2.mono hb.size),.inr ⟨hI,rfl⟩⟩

theorem readHeader_bad (g dg:Nat)(S:Nat→Prop)(P:Nat→Int)(G:Geo)(L:Lg)(D:Dev)(w:World)(h:Lv w S g dg P G L D)(hd:D.dead=false)(hbad:¬ (hdIs (D.rd 1)∧(hdOf (D.rd 1)).tail<G.lg∧(hdOf (D.rd 1)).used≤G.lg)) :
  Calls Tryz.prog 72 #[.pointer (some ⟨g,0,none⟩)] w fun e w'=>e=.returned (.int .i64 9)∧Below w.heap.size w w':=by
 have K:=hide (rh_chain h hd)
 have c0:w.cell? ⟨g,0,none⟩=some (.pointer (some ⟨dg,0,none⟩)):=by
  obtain⟨_,_,_,x⟩:=h
  exact x.ll.cells.1
 have KL:Hid (∀ u,Below w.heap.size w u→u.cell? ⟨g,4,none⟩=some (.int .i64 (G.lg:Int))):=fun u hb=>by
  obtain⟨_,_,_,x⟩:=h.below hb
  have:=x.ll.cells.2.1 3 (by omega)
  rwa [x.ll.pg.p3] at this
 have HB:=hide hbad
 have hmix:Tryz.prog.follows Departure.mixedOrders=true:=by kernel_rfl
 clear h hd hbad
 generalize hdOf (D.rd 1)=H at *
 go_enter Tryz.func72,Tryz.ntmps72
 go_wp2_with fail
 go_at_call 125
 refine(unhide K).mono ?_
 rintro e w1 ⟨r,rfl,K2⟩
 clear K c0
 go_wp2_with fail
 go_at_call 126
 refine(unhide K2).mono ?_
 rintro e w2 ⟨B2,(⟨hI,rfl⟩ | ⟨hI,rfl⟩)⟩
 ·have BZ:=hide ((unhide B2).alloc (unhide B2).size (.cells #[.int .i64 (H.seq:Int),.int .i64 (H.tail:Int),.int .i64 (H.used:Int)] 81))
  have z:=Bl.new w2 #[.int .i64 (H.seq:Int),.int .i64 (H.tail:Int),.int .i64 (H.used:Int)] 81
  have z1:=z.cell 1 (.int .i64 (H.tail:Int)) rfl
  have z2:=z.cell 2 (.int .i64 (H.used:Int)) rfl
  have l4:=unhide KL _ (unhide BZ)
  have hdi:=hide hI
  clear K2 KL z B2 hI
  go_upto_region 5 with fail
  change Code.wp _ _ _ _ (w2.alloc (.cells #[.int .i64 (H.seq:Int),.int .i64 (H.tail:Int),.int .i64 (H.used:Int)] 81))
  generalize w2.alloc (.cells #[.int .i64 (H.seq:Int),.int .i64 (H.tail:Int),.int .i64 (H.used:Int)] 81)=ub at *
  generalize w2.heap.size=gb at *
  by_cases ht:H.tail<G.lg
  ·have hu:¬ H.used≤G.lg:=fun hu=>unhide HB ⟨unhide hdi,ht,hu⟩
   have d1:decide ((G.lg:Int)≤(H.tail:Int))=false:=by rw[decide_eq_false_iff_not];omega
   have d1b:decide (G.lg≤H.tail)=false:=by rw[decide_eq_false_iff_not];omega
   have d2:(G.lg:Int)<(H.used:Int):=by omega
   clear HB hdi ht hu
   go_big_quiet_o (fail)
   go_wp2
   go_ret
   exact⟨rfl,below_drewN (unhide BZ) _⟩
  ·have d1:(G.lg:Int)≤(H.tail:Int):=by omega
   clear HB hdi ht
   go_big_quiet_o (fail)
   go_wp2
   go_ret
   exact⟨rfl,below_drewN (unhide BZ) _⟩
 ·have BZ:=hide ((unhide B2).alloc (unhide B2).size (.cells #[.int .i64 0,.int .i64 0,.int .i64 0] 81))
  clear K2 KL B2 hI HB
  go_upto_region 5 with fail
  change Code.wp _ _ _ _ (w2.alloc (.cells #[.int .i64 0,.int .i64 0,.int .i64 0] 81))
  generalize w2.alloc (.cells #[.int .i64 0,.int .i64 0,.int .i64 0] 81)=ub at *
  go_big_quiet_o (fail)
  go_wp2
  go_ret
  exact⟨rfl,below_drewN (unhide BZ) _⟩

theorem Lv.head {u:World}{S:Nat→Prop}{g dg:Nat}{P:Nat→Int}{G:Geo}{L:Lg}{D:Dev}(h:Lv u S g dg P G L D)(H:Hd)(hH:H.Ok G):u.cell? ⟨g,13,none⟩=some (.int .i64 (L.h.seq:Int))∧u.cell? ⟨g,14,none⟩=some (.int .i64 (L.h.tail:Int))∧u.cell? ⟨g,15,none⟩=some (.int .i64 (L.h.used:Int))∧(∀ k,u.frozen? ⟨g,k,none⟩=false) ∧
  Hid (∃ S',Lv (((u.setCell ⟨g,13,none⟩ (.int .i64 (H.seq:Int))).setCell ⟨g,14,none⟩ (.int .i64 (H.tail:Int))).setCell ⟨g,15,none⟩ (.int .i64 (H.used:Int))) S' g dg P G { L with h:=H } D∧Nx S u S' (((u.setCell ⟨g,13,none⟩ (.int .i64 (H.seq:Int))).setCell ⟨g,14,none⟩ (.int .i64 (H.tail:Int))).setCell ⟨g,15,none⟩ (.int .i64 (H.used:Int)))):=by
 obtain⟨Sl,Sd,m,x⟩:=h
 obtain⟨_,_,c3,c4,c5,_,_,fr⟩:=x.ll.cells
 have n1:Nx Sl u Sl (u.setCell ⟨g,13,none⟩ (.int .i64 (H.seq:Int))):=Nx.set (p:=⟨g,13,none⟩) x.ll.sg _
 have n2:Nx Sl (u.setCell ⟨g,13,none⟩ (.int .i64 (H.seq:Int))) Sl ((u.setCell ⟨g,13,none⟩ (.int .i64 (H.seq:Int))).setCell ⟨g,14,none⟩ (.int .i64 (H.tail:Int))):=Nx.set (p:=⟨g,14,none⟩) x.ll.sg _
 obtain⟨y1,y2⟩:=x.own (x.ll.head H hH) ((n1.trans n2).trans (Nx.set (p:=⟨g,15,none⟩) x.ll.sg _))
 exact⟨c3,c4,c5,fr,_,y1.lv,y2⟩

theorem readHeader_good (g dg:Nat)(S:Nat→Prop)(P:Nat→Int)(G:Geo)(L:Lg)(D:Dev)(w:World)(h:Lv w S g dg P G L D)(hd:D.dead=false)(hI:hdIs (D.rd 1))(ht:(hdOf (D.rd 1)).tail<G.lg)(hu:(hdOf (D.rd 1)).used≤G.lg) :
  Calls Tryz.prog 72 #[.pointer (some ⟨g,0,none⟩)] w fun e w'=>e=.returned (.int .i64 0)∧∃ S',Lv w' S' g dg P G { L with h:=hdOf (D.rd 1) } D∧Nx S w S' w':=by
 have hG:G.Ok:=by obtain⟨_,_,_,x⟩:=h;exact x.ll.pg.ok
 have hok:(hdOf (D.rd 1)).Ok G:=⟨hdOf_seq (h.rd (by have:=hG.ibn;omega)).2,ht,hu⟩
 have K:=hide (rh_chain h hd)
 have c0:w.cell? ⟨g,0,none⟩=some (.pointer (some ⟨dg,0,none⟩)):=by
  obtain⟨_,_,_,x⟩:=h
  exact x.ll.cells.1
 have KL:Hid (∀ u,Below w.heap.size w u→u.cell? ⟨g,4,none⟩=some (.int .i64 (G.lg:Int))):=fun u hb=>by
  obtain⟨_,_,_,x⟩:=h.below hb
  have:=x.ll.cells.2.1 3 (by omega)
  rwa [x.ll.pg.p3] at this
 have KH:Hid (∀ u,Below w.heap.size w u→_):=fun u hb=>(h.below hb).head (hdOf (D.rd 1)) hok
 have KN:Hid (∀ u,Below w.heap.size w u→∀ S' u',Nx S u S' u'→Nx S w S' u'):=fun u hb S' u' hx=>((Nx.refl S w).below' hb).trans hx
 have hmix:Tryz.prog.follows Departure.mixedOrders=true:=by kernel_rfl
 have HI:=hide hI
 clear h hd hG hok hI
 generalize hdOf (D.rd 1)=H at *
 have d1:decide ((G.lg:Int)≤(H.tail:Int))=false:=by rw[decide_eq_false_iff_not];omega
 have d1b:decide (G.lg≤H.tail)=false:=by rw[decide_eq_false_iff_not];omega
 have d2:decide ((G.lg:Int)<(H.used:Int))=false:=by rw[decide_eq_false_iff_not];omega
 have d2b:decide (G.lg<H.used)=false:=by rw[decide_eq_false_iff_not];omega
 clear ht hu
 go_enter Tryz.func72,Tryz.ntmps72
 go_wp2_with fail
 go_at_call 125
 refine(unhide K).mono ?_
 rintro e w1 ⟨r,rfl,K2⟩
 clear K c0
 go_wp2_with fail
 go_at_call 126
 refine(unhide K2).mono ?_
 rintro e w2 ⟨B2,(⟨hI,rfl⟩ | ⟨hI,rfl⟩)⟩
 ·have BZ:=hide ((unhide B2).alloc (unhide B2).size (.cells #[.int .i64 (H.seq:Int),.int .i64 (H.tail:Int),.int .i64 (H.used:Int)] 81))
  have z:=Bl.new w2 #[.int .i64 (H.seq:Int),.int .i64 (H.tail:Int),.int .i64 (H.used:Int)] 81
  have z0:=z.cell 0 (.int .i64 (H.seq:Int)) rfl
  have z1:=z.cell 1 (.int .i64 (H.tail:Int)) rfl
  have z2:=z.cell 2 (.int .i64 (H.used:Int)) rfl
  have l4:=unhide KL _ (unhide BZ)
  clear K2 KL z B2 hI HI
  go_upto_region 5 with fail
  change Code.wp _ _ _ _ (w2.alloc (.cells #[.int .i64 (H.seq:Int),.int .i64 (H.tail:Int),.int .i64 (H.used:Int)] 81))
  generalize w2.alloc (.cells #[.int .i64 (H.seq:Int),.int .i64 (H.tail:Int),.int .i64 (H.used:Int)] 81)=ub at *
  generalize w2.heap.size=gb at *
  go_cut [43] (fun c wx=>c=.bool false∧∃ q,wx=ub.drewN q)
  case first =>
   clear KH KN
   go_big_quiet_o (fail)
   go_wp2
   go_meet
   exact⟨rfl,_,rfl⟩
  case rest =>
   obtain⟨rfl,q,rfl⟩:=hcut
   have B3:Hid (Below w.heap.size w (ub.drewN q)):=below_drewN (unhide BZ) q
   obtain⟨c3,c4,c5,fr,X⟩:=unhide KH _ (unhide B3)
   have y0:(ub.drewN q).cell? ⟨gb,0,none⟩=some (.int .i64 (H.seq:Int)):=z0
   have y1:(ub.drewN q).cell? ⟨gb,1,none⟩=some (.int .i64 (H.tail:Int)):=z1
   have y2:(ub.drewN q).cell? ⟨gb,2,none⟩=some (.int .i64 (H.used:Int)):=z2
   clear KH z0 z1 z2 l4 BZ d1 d1b d2 d2b
   generalize ub.drewN q=uq at *
   go_wp2_with fail
   go_ret
   obtain⟨S',l1,n1⟩:=unhide X
   exact⟨rfl,S',l1,unhide KN _ (unhide B3) _ _ n1⟩
 ·exact absurd (unhide HI) hI

def UdK (G : Geo) (zs : List Int) (w : World) (r : Nat) (w1 : World) : Prop :=
  Calls Tryz.prog 180 #[.slice (some ⟨r, 0, none⟩) G.blk G.blk] w1 fun e w2 => Hid (Below w.heap.size w w2) ∧
        ((descIs zs ∧ ∃ gr, w.heap.size ≤ gr ∧ e = .returned (.tuple #[.int .i64 (getVal zs 4 4), .slice (some ⟨gr, 0, none⟩) (dsL zs).length (dsL zs).length, .int .i64 0]) ∧ Hid (IHas w2 (some ⟨gr, 0, none⟩) (dsL zs).length (dsL zs))) ∨ (¬ descIs zs ∧ e = .returned (.tuple #[.int .i64 0, .slice none 0 0, .int .i64 4])))

theorem rd_undesc {g dg:Nat}{S:Nat→Prop}{P:Nat→Int}{G:Geo}{L:Lg}{D:Dev}{w:World}(h:Lv w S g dg P G L D)(hd:D.dead=false)(i:Nat)(hi:i<G.n)(u:World)(hu:Below w.heap.size w u) :
  Calls Tryz.prog 125 #[.pointer (some ⟨dg,0,none⟩),.int .i64 (i:Int)] u fun e w1=>∃ r,e=.returned (.tuple #[.slice (some ⟨r,0,none⟩) G.blk G.blk,.int .i64 0]) ∧
   Hid (UdK G (D.rd i) w r w1):=by
 have hG:G.Ok:=by obtain⟨_,_,_,x⟩:=h;exact x.ll.pg.ok
 have hT:Tab w:=by obtain⟨_,_,_,x⟩:=h;exact x.tab
 have hbk:=hG.blk
 obtain⟨r1,r2⟩:=h.rd hi
 refine(lj_read (w:=w) (h.below hu) hd i hi).mono ?_
 rintro e w1 ⟨r,rfl,hr,hB,hb⟩
 refine⟨r,rfl,?_⟩
 have hbb:Below w.heap.size w w1:=hu.trans (hb.mono hu.size)
 have hrow:=(unhide hB).row r1 (by omega) r2
 have hT1:=hT.kept (hbb.block 0 hT.lt)
 have hl:(dsL (D.rd i)).length=dN (D.rd i):=takeL_length _ _
 by_cases hI:descIs (D.rd i)
 ·refine(undesc_is _ G.blk G.blk (D.rd i) w1 hrow hT1 hI).mono ?_
  rintro e w2 ⟨gr,rfl,hgr,hR,hb2⟩
  refine⟨hbb.trans (hb2.mono hbb.size),.inl ⟨hI,gr,Nat.le_trans hbb.size hgr,by rw[hl],?_⟩⟩
  rw[hl]
  exact row_ihas (unhide hR)
 ·refine(undesc_not _ G.blk G.blk (D.rd i) w1 hrow hT1 hI).mono ?_
  rintro e w2 ⟨rfl,hb2⟩
  exact⟨hbb.trans (hb2.mono hbb.size),.inr ⟨hI,rfl⟩⟩

def RdA (G:Geo) (zs:List Int) (w w':World) (e:Ending):Prop :=
 Below w.heap.size w w'∧((dscOk G zs∧∃ gr,w.heap.size≤gr∧e=.returned (.tuple #[.int .i64 (getVal zs 4 4),.slice (some ⟨gr,0,none⟩) (dsL zs).length (dsL zs).length,.int .i64 0])∧IHas w' (some ⟨gr,0,none⟩) (dsL zs).length (dsL zs))∨(¬ dscOk G zs∧e=.returned (.tuple #[.int .i64 0,.slice none 0 0,.int .i64 9])))

theorem readDesc_any (g dg:Nat)(S:Nat→Prop)(P:Nat→Int)(G:Geo)(L:Lg)(D:Dev)(w:World)(h:Lv w S g dg P G L D)(hd:D.dead=false)(k:Nat) :
  Calls Tryz.prog 127 #[.pointer (some ⟨g,0,none⟩),.int .i64 (k:Int)] w fun e w'=>Hid (RdA G (D.rd (G.ring k)) w w' e):=by
 have hG:G.Ok:=by obtain⟨_,_,_,x⟩:=h;exact x.ll.pg.ok
 have hdl:(dsL (D.rd (G.ring k))).length≤65535:=by
  have:(dsL (D.rd (G.ring k))).length=dN (D.rd (G.ring k)):=takeL_length _ _
  rw[this]
  exact(dN_le (h.rd (hG.ring k).2.2).2).1
 have KG:Hid (Calls Tryz.prog 128 #[.pointer (some ⟨g,0,none⟩),.int .i64 (k:Int)] w.drew fun e w'=>e=.returned (.int .i64 (G.ring k:Int))∧∃ q,w'=w.drew.drewN q):=by
  obtain⟨Sl,Sd,m,x⟩:=h
  exact ring_any g dg k Sl P G L m w.drew (x.below ((Below.refl _ w).drew)).ll
 have KR:Hid (∀ u,Below w.heap.size w u→_):=fun u hu=>rd_undesc h hd (G.ring k) (hG.ring k).2.2 u hu
 have c0:w.cell? ⟨g,0,none⟩=some (.pointer (some ⟨dg,0,none⟩)):=by
  obtain⟨_,_,_,x⟩:=h
  exact x.ll.cells.1
 have KB:Hid (∀ u x,IHas u x (dsL (D.rd (G.ring k))).length (dsL (D.rd (G.ring k)))→Calls Tryz.prog 181 #[Pv P,.slice x (dsL (D.rd (G.ring k))).length (dsL (D.rd (G.ring k))).length] u fun e w'=>e=.returned (.int .i64 (blkE G (dsL (D.rd (G.ring k)))))∧Below u.heap.size u w'):=fun u x hi=>by
  obtain⟨_,_,_,y⟩:=h
  exact refusesBlocks_any P G y.ll.pg x _ _ _ u hi (by omega)
 have KP:Hid (∀ u,Below w.heap.size w u→_):=fun u hb=>(by obtain⟨_,_,_,x⟩:=h.below hb;exact x.ll.plan:u.cell? ⟨g,1,none⟩=some (.int .i64 (P 0))∧u.cell? ⟨g,2,none⟩=some (.int .i64 (P 1))∧u.cell? ⟨g,3,none⟩=some (.int .i64 (P 2))∧u.cell? ⟨g,4,none⟩=some (.int .i64 (P 3))∧u.cell? ⟨g,5,none⟩=some (.int .i64 (P 4))∧u.cell? ⟨g,6,none⟩=some (.int .i64 (P 5))∧u.cell? ⟨g,7,none⟩=some (.int .i64 (P 6))∧u.cell? ⟨g,8,none⟩=some (.int .i64 (P 7))∧u.cell? ⟨g,9,none⟩=some (.int .i64 (P 8))∧u.cell? ⟨g,10,none⟩=some (.int .i64 (P 9))∧u.cell? ⟨g,11,none⟩=some (.int .i64 (P 10))∧u.cell? ⟨g,12,none⟩=some (.int .i64 (P 11)))
 clear h hd hG
 generalize D.rd (G.ring k)=zs at *
 go_enter Tryz.func127,Tryz.ntmps127
 go_wp2_with fail
 go_cut [6,7] (fun c6 c7 wx=>c6=.int .i64 0∧∃ r,c7=.slice (some ⟨r,0,none⟩) G.blk G.blk∧Hid (UdK G zs w r wx))
 case first =>
  clear KB KP hdl
  go_region_with (first
   | (go_at_call 128;refine(unhide KG).mono ?_;rintro e u2 ⟨rfl,q,rfl⟩)
   | (go_at_call 125;refine(unhide KR _ (below_drewN (Below.refl _ w) _)).mono ?_;rintro e u3 ⟨r,rfl,K2⟩))
  all_goals
   go_wp2_with fail
   go_meet
   exact⟨rfl,r,rfl,K2⟩
 case rest =>
  obtain⟨rfl,r,rfl,K2⟩:=hcut
  clear KG KR c0
  go_wp2_with fail
  go_at_call 180
  refine(unhide K2).mono ?_
  rintro e w2 ⟨B2,(⟨hI,gr,hgr,rfl,X⟩ | ⟨hI,rfl⟩)⟩
  ·have HI:=hide hI
   have HGR:=hide hgr
   clear hI K2 hgr
   by_cases h0:(dsL zs).length=0
   ·have e0:(((dsL zs).length:Int)==0)=true:=by simp[h0]
    have hn:Hid (¬ dscOk G zs):=fun hk=>hk.2.1 (List.eq_nil_of_length_eq_zero h0)
    clear KB KP h0 X
    generalize (dsL zs).length=nl at *
    go_wp2_with fail
    go_ret3
    exact⟨unhide B2,.inr ⟨unhide hn,rfl⟩⟩
   ·have e0:(((dsL zs).length:Int)==0)=false:=by simpa using h0
    obtain⟨q0,q1,q2,q3,q4,q5,q6,q7,q8,q9,q10,q11⟩:=unhide KP _ (unhide B2)
    have K3:=hide (unhide KB _ _ (unhide X))
    have HL:Hid (dsL zs≠[]):=fun e=>h0 (by rw[e];rfl)
    have hG2:Hid (∀ w3,Below w2.heap.size w2 w3→IHas w3 (some ⟨gr,0,none⟩) (dsL zs).length (dsL zs)∧Below w.heap.size w w3):=fun w3 hb=>⟨(unhide X).later hb,(unhide B2).trans (hb.mono (unhide B2).size)⟩
    have hR:Hid (∀ w3 e,Below w2.heap.size w2 w3→blkE G (dsL zs)=0→e=.returned (.tuple #[.int .i64 (getVal zs 4 4),.slice (some ⟨gr,0,none⟩) (dsL zs).length (dsL zs).length,.int .i64 0])→RdA G zs w w3 e):=fun w3 e hb hE he=>⟨(unhide hG2 w3 hb).2,.inl ⟨⟨unhide HI,unhide HL,hE⟩,gr,unhide HGR,he,(unhide hG2 w3 hb).1⟩⟩
    have hR2:Hid (∀ w3 e,Below w2.heap.size w2 w3→blkE G (dsL zs)≠0→e=.returned (.tuple #[.int .i64 0,.slice none 0 0,.int .i64 9])→RdA G zs w w3 e):=fun w3 e hb hE he=>⟨(unhide hG2 w3 hb).2,.inr ⟨fun hk=>hE hk.2.2,he⟩⟩
    have hE:blkE G (dsL zs)=0∨blkE G (dsL zs)≠0:=by omega
    clear KB KP h0 X B2 HI HL hG2 hdl
    generalize (dsL zs).length=nl at *
    generalize getVal zs 4 4=sq at *
    rcases hE with hE | hE
    ·rw[hE] at K3
     have R:=hide (fun w3 e hb=>unhide hR w3 e hb hE)
     clear hR hR2 hE
     go_wp2_with fail
     go_at_call 181
     refine(unhide K3).mono ?_
     rintro e w3 ⟨rfl,hb3⟩
     have B3:=hide hb3
     clear K3 q0 q1 q2 q3 q4 q5 q6 q7 q8 q9 q10 q11 hb3
     go_wp2_with fail
     go_ret3
     exact unhide R _ _ (unhide B3) rfl
    ·have R:=hide (fun w3 e hb=>unhide hR2 w3 e hb hE)
     have d3:(blkE G (dsL zs) != 0)=true:=by simpa using hE
     generalize blkE G (dsL zs)=q at *
     clear hR hR2 hE
     go_wp2_with fail
     go_at_call 181
     refine(unhide K3).mono ?_
     rintro e w3 ⟨rfl,hb3⟩
     have B3:=hide hb3
     clear K3 q0 q1 q2 q3 q4 q5 q6 q7 q8 q9 q10 q11 hb3
     go_wp2_with fail
     go_ret3
     exact unhide R _ _ (unhide B3) rfl
  ·have hn:Hid (¬ dscOk G zs):=fun hk=>hI hk.1
   clear KB KP hI K2
   go_wp2_with fail
   go_ret3
   exact⟨unhide B2,.inr ⟨unhide hn,rfl⟩⟩

end Go.Proofs.YtokngjcfkkceiaaGreatDoor
