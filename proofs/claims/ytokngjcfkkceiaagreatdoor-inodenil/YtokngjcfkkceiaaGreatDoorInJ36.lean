/- Joined: WLeaf, WHead. -/
import Derived.Test.YtokngjcfkkceiaaGreatDoorInWBase
import Derived.Test.YtokngjcfkkceiaaGreatDoorInJ29
import Derived.Test.YtokngjcfkkceiaaGreatDoorInJ11
import Derived.BigRegion
import Derived.BigQuiet
import Derived.Test.YtokngjcfkkceiaaGreatDoorInJ25
/- The contracts of a log's small functions. -/
namespace Go.Proofs.YtokngjcfkkceiaaGreatDoor
set_option maxRecDepth 100000
set_option maxHeartbeats 8000000
open Go.RowKit Go.Shelf Go.Maps
set_option linter.unusedVariables false

theorem PG.most {P:Nat→Int}{G:Geo}(h:PG P G):wrap64 ((wrap64 (P 0 - 10)).tdiv 2)=(G.most:Int):=by
 have h1:=h.ok.blk
 have h2:wrap64 (P 0 - 10)=((G.blk - 10:Nat):Int):=by rw[h.p0];unfold wrap64;omega
 have h3:((G.blk - 10:Nat):Int).tdiv 2=(((G.blk - 10) / 2:Nat):Int):=rfl
 rw[h2,h3]
 unfold Geo.most wrap64
 omega

theorem most_any (P:Nat→Int)(G:Geo)(hP:PG P G)(w:World):Calls Tryz.prog 231 #[Pv P] w fun e w'=>e=.returned (.int .i64 (G.most:Int))∧Below w.heap.size w w':=by
 have e1:=hide hP.most
 have HB:=hide ((Below.refl w.heap.size w).alloc (Nat.le_refl _) (.cells (Pc P) 25))
 clear hP
 go_enter Tryz.func231,Tryz.ntmps231
 go_wp2
 go_ret
 refine⟨?_,unhide HB⟩
 show Ending.returned (.int .i64 (wrap64 ((wrap64 (P 0 - 10)).tdiv 2)))=_
 rw[unhide e1]

theorem parts_nums {G:Geo}(h:G.Ok)(n:Nat)(hn:n≤17592186043904):∃ y x:Int,IntKind.i64.wrap ((n:Int)+(G.most:Int))=y∧IntKind.i64.wrap (y - 1)=x∧IntKind.i64.wrap (x.tdiv (G.most:Int))=(G.parts n:Int)∧(G.most:Int)≠0:=by
 have hm:=h.most
 have hp:=Geo.parts_le h n
 refine⟨((n+G.most:Nat):Int),((n+G.most - 1:Nat):Int),?_,?_,?_,by omega⟩
 ·rw[IntKind.wrap_i64];omega
 ·rw[IntKind.wrap_i64];omega
 ·have e:((n+G.most - 1:Nat):Int).tdiv (G.most:Int)=(G.parts n:Int):=rfl
  rw[e,IntKind.wrap_i64]
  omega

theorem parts_any (P:Nat→Int)(G:Geo)(hP:PG P G)(n:Nat)(hn:n≤17592186043904)(w:World):Calls Tryz.prog 207 #[Pv P,.int .i64 (n:Int)] w fun e w'=>e=.returned (.int .i64 (G.parts n:Int))∧Below w.heap.size w w':=by
 have H1:Hid (∀ u,Calls Tryz.prog 231 #[Pv P] u fun e w'=>e=.returned (.int .i64 (G.most:Int))∧Below u.heap.size u w'):=fun u=>most_any P G hP u
 obtain⟨y,x,s1,s2,s3,s4⟩:=parts_nums hP.ok n hn
 have HK:=hide (Kp.start w P)
 clear hP
 generalize (G.parts n:Int)=r at *
 generalize (G.most:Int)=m at *
 generalize (n:Int)=n' at *
 clear hn
 go_enter Tryz.func207,Tryz.ntmps207
 go_wp2_with fail
 obtain⟨f0,f1,f2,f3,f4,f5,f6,f7,f8,f9,f10,f11⟩:=(unhide HK).cells
 go_region_held3 (fun u=>Hid (Kp w P u)∧u.cell? ⟨w.heap.size,0,none⟩=some (.int .i64 (P 0))∧u.cell? ⟨w.heap.size,1,none⟩=some (.int .i64 (P 1))∧u.cell? ⟨w.heap.size,2,none⟩=some (.int .i64 (P 2))∧u.cell? ⟨w.heap.size,3,none⟩=some (.int .i64 (P 3))∧u.cell? ⟨w.heap.size,4,none⟩=some (.int .i64 (P 4))∧u.cell? ⟨w.heap.size,5,none⟩=some (.int .i64 (P 5))∧u.cell? ⟨w.heap.size,6,none⟩=some (.int .i64 (P 6))∧u.cell? ⟨w.heap.size,7,none⟩=some (.int .i64 (P 7))∧u.cell? ⟨w.heap.size,8,none⟩=some (.int .i64 (P 8))∧u.cell? ⟨w.heap.size,9,none⟩=some (.int .i64 (P 9))∧u.cell? ⟨w.heap.size,10,none⟩=some (.int .i64 (P 10))∧u.cell? ⟨w.heap.size,11,none⟩=some (.int .i64 (P 11)))
  (with_reducible (first | exact(unhide HK).drew.js | exact(unhide J1).js | exact(unhide HK).js))
  ((go_at_call 231;refine(unhide H1 _).mono ?_;rintro e w6 ⟨rfl,hb⟩;have J1:Hid (Kp w P w6):=Kp.call (unhide (‹Hid (Kp w P _)∧_›).1) hb;clear hb))
 all_goals
  have jj:=unhide (‹Hid (Kp w P _)∧_›).1
  go_wp2
  go_ret
  exact⟨rfl,jj.2⟩

theorem uses_any (P:Nat→Int)(G:Geo)(hP:PG P G)(n:Nat)(hn:n≤17592186043904)(w:World):Calls Tryz.prog 152 #[Pv P,.int .i64 (n:Int)] w fun e w'=>e=.returned (.int .i64 (G.uses n:Int))∧Below w.heap.size w w':=by
 have H1:Hid (∀ u,Calls Tryz.prog 207 #[Pv P,.int .i64 (n:Int)] u fun e w'=>e=.returned (.int .i64 (G.parts n:Int))∧Below u.heap.size u w'):=fun u=>parts_any P G hP n hn u
 have hp:=Geo.parts_le hP.ok n
 have HE:Hid (wrap64 ((n:Int)+(G.parts n:Int))=(G.uses n:Int)):=by
  have:(G.uses n:Int)=(n:Int)+(G.parts n:Int):=by unfold Geo.uses;omega
  rw[this]
  unfold wrap64
  show _=_
  omega
 have HK:=hide (Kp.start w P)
 clear hP hp
 generalize (G.parts n:Int)=r at *
 generalize (G.uses n:Int)=r2 at *
 generalize (n:Int)=n' at *
 clear hn
 go_enter Tryz.func152,Tryz.ntmps152
 go_wp2_with fail
 go_at_call 207
 refine(unhide H1 _).mono ?_
 rintro e w1 ⟨rfl,hb⟩
 replace HK:=hide ((unhide HK).call hb)
 clear hb H1
 go_wp2
 go_ret
 refine⟨?_,(unhide HK).2⟩
 show Ending.returned (.int .i64 (wrap64 (n'+r)))=_
 rw[unhide HE]

theorem ring_nums {G:Geo}(h:G.Ok)(k:Nat):∃ y:Int,(k:Int).tmod (G.lg:Int)=y∧IntKind.i64.wrap (2+y)=(G.ring k:Int)∧wrap64 (2+y)=(G.ring k:Int)∧(G.lg:Int)≠0:=by
 have h1:=h.l1
 have h2:=h.l2
 have h3:=Nat.mod_lt k (show G.lg > 0 by omega)
 have e:wrap64 (2+((k%G.lg:Nat):Int))=(G.ring k:Int):=by unfold Geo.ring wrap64;omega
 have e2:IntKind.i64.wrap (2+((k%G.lg:Nat):Int))=(G.ring k:Int):=by rw[IntKind.wrap_i64];unfold Geo.ring;omega
 exact⟨((k%G.lg:Nat):Int),rfl,e2,e,by omega⟩

theorem ring_any (g dg k:Nat)(S:Nat→Prop)(P:Nat→Int)(G:Geo)(L:Lg)(m:LMem)(w:World)(h:LgM w S g dg P G L m) :
  Calls Tryz.prog 128 #[.pointer (some ⟨g,0,none⟩),.int .i64 (k:Int)] w fun e w'=>e=.returned (.int .i64 (G.ring k:Int))∧∃ q,w'=w.drewN q:=by
 obtain⟨_,cp,_⟩:=h.cells
 have c4:w.cell? ⟨g,5,none⟩=_:=cp 4 (by omega)
 have c3:w.cell? ⟨g,4,none⟩=_:=cp 3 (by omega)
 rw[h.pg.p4] at c4
 rw[h.pg.p3] at c3
 obtain⟨y,s1,s2,s3,s4⟩:=ring_nums h.pg.ok k
 clear h cp
 generalize (G.ring k:Int)=r at *
 generalize (G.lg:Int)=l at *
 generalize (k:Int)=k' at *
 go_enter Tryz.func128,Tryz.ntmps128
 go_wp2
 go_quiet (fail)
 go_wp2
 go_ret
 exact⟨rfl,_,rfl⟩

theorem met_any (g dg:Nat)(e0:Int)(S:Nat→Prop)(P:Nat→Int)(G:Geo)(L:Lg)(D:Dev)(w:World)(h:Lv w S g dg P G L D) :
  Calls Tryz.prog 158 #[.pointer (some ⟨g,0,none⟩),.int .i64 e0] w fun e w'=>e=.returned (.int .i64 e0)∧∃ S',Lv w' S' g dg P G (L.met e0) D∧Nx S w S' w':=by
 obtain⟨Sl,Sd,m,h⟩:=h
 by_cases he:e0=7
 ·subst he
  have hx:Nx Sl w Sl (w.setCell ⟨g,17,none⟩ (.bool true)):=Nx.set (p:=⟨g,17,none⟩) h.ll.sg _
  obtain⟨x1,x2⟩:=h.own h.ll.die hx
  have X:Hid (∃ S',Lv (w.setCell ⟨g,17,none⟩ (.bool true)) S' g dg P G (L.met 7) D∧Nx S w S' (w.setCell ⟨g,17,none⟩ (.bool true))):=⟨_,by have:=x1.lv;unfold Lg.met;rw[if_pos rfl];exact this,x2⟩
  obtain⟨_,_,_,_,_,_,c7,fr⟩:=h.ll.cells
  have f7:=fr 17
  clear h hx x1 x2 fr
  go_enter Tryz.func158,Tryz.ntmps158
  go_wp2
  go_ret
  exact⟨rfl,unhide X⟩
 ·have d1:(e0==7)=false:=by simpa using he
  have X:Hid (∃ S',Lv w S' g dg P G (L.met e0) D∧Nx S w S' w):=⟨S,by unfold Lg.met;rw[if_neg he];exact h.lv,Nx.refl _ _⟩
  clear h he
  go_enter Tryz.func158,Tryz.ntmps158
  go_wp2
  go_ret
  exact⟨rfl,unhide X⟩

theorem room_any (g dg:Nat)(S:Nat→Prop)(P:Nat→Int)(G:Geo)(L:Lg)(m:LMem)(w:World)(h:LgM w S g dg P G L m) :
  Calls Tryz.prog 108 #[.pointer (some ⟨g,0,none⟩)] w fun e w'=>e=.returned (.int .i64 ((G.lg - L.h.used:Nat):Int))∧∃ q,w'=w.drewN q:=by
 obtain⟨_,cp,_,_,c5,_⟩:=h.cells
 have c3:w.cell? ⟨g,4,none⟩=_:=cp 3 (by omega)
 rw[h.pg.p3] at c3
 have e1:IntKind.i64.wrap ((G.lg:Int) - (L.h.used:Int))=((G.lg - L.h.used:Nat):Int):=by
  have h1:=h.hok.used
  have h2:=h.pg.ok.l2
  rw[IntKind.wrap_i64]
  omega
 clear h cp
 generalize ((G.lg - L.h.used:Nat):Int)=r at *
 generalize (G.lg:Int)=l at *
 generalize (L.h.used:Int)=k' at *
 go_enter Tryz.func108,Tryz.ntmps108
 go_wp2
 go_quiet (fail)
 go_wp2
 go_ret
 exact⟨rfl,_,rfl⟩

theorem header_any (g dg:Nat)(S:Nat→Prop)(P:Nat→Int)(G:Geo)(L:Lg)(m:LMem)(w:World)(h:LgM w S g dg P G L m) :
  Calls Tryz.prog 138 #[.pointer (some ⟨g,0,none⟩)] w fun e w'=>e=.returned (Hv L.h.fn)∧Below w.heap.size w w':=by
 obtain⟨_,_,c3,c4,c5,_⟩:=h.cells
 have hg:=h.lt g h.sg
 have hb:=(Below.refl w.heap.size w).alloc (Nat.le_refl _) (.cells #[.int .i64 0,.int .i64 0,.int .i64 0] 81)
 have d3:=(hb.cell (p:=⟨g,13,none⟩) hg).trans c3
 have d4:=(hb.cell (p:=⟨g,14,none⟩) hg).trans c4
 have d5:=(hb.cell (p:=⟨g,15,none⟩) hg).trans c5
 clear c3 c4 c5 h hb
 change Calls Tryz.prog 138 #[.pointer (some ⟨g,0,none⟩)] w fun e w'=>e=.returned (.agg #[.int .i64 (L.h.seq:Int),.int .i64 (L.h.tail:Int),.int .i64 (L.h.used:Int)])∧Below w.heap.size w w'
 generalize (L.h.seq:Int)=x at *
 generalize (L.h.tail:Int)=y at *
 generalize (L.h.used:Int)=z at *
 have HA:=hide (Bl.new w #[.int .i64 x,.int .i64 y,.int .i64 z] 81)
 have HB:=hide ((Below.refl _ w).alloc (Nat.le_refl _) (.cells #[.int .i64 x,.int .i64 y,.int .i64 z] 81))
 go_enter Tryz.func138,Tryz.ntmps138
 go_wp2
 have hA:=unhide HA
 have hW:=unhide HB
 generalize w.alloc (.cells #[.int .i64 x,.int .i64 y,.int .i64 z] 81)=wf at *
 refine bodyPost_ret (v:=.agg #[.int .i64 x,.int .i64 y,.int .i64 z]) ?_ rfl ⟨rfl,hW⟩
 simp[results,Tryz.results138,go_sem,hA.cell 0 _ rfl,hA.cell 1 _ rfl,hA.cell 2 _ rfl]

theorem refuses_good (P:Nat→Int)(G:Geo)(dg:Nat)(S:Nat→Prop)(D:Dev)(w:World)(hP:PG P G)(hD:Dv w S dg D)(hb:D.blk=G.blk)(hn:D.n=G.n):Calls Tryz.prog 70 #[.pointer (some ⟨dg,0,none⟩),Pv P] w fun e w'=>e=.returned (.int .i64 0)∧Below w.heap.size w w':=by
 have K:Hid (∀ u,Calls Tryz.prog 66 #[Pv P] u fun e w'=>e=.returned (.int .i64 0)∧Below u.heap.size u w'):=fun u=>by
  have:=check_any P u
  rwa [hP.chk] at this
 have K1:Hid (∀ u,Below w.heap.size w u→Calls Tryz.prog 121 #[.pointer (some ⟨dg,0,none⟩)] u fun e w'=>e=.returned (.int .i64 (P 0))∧u=w'):=fun u hu=>by
  obtain⟨m,h⟩:=hD.below hu
  have:=block_dev dg u D.blk h.cells.1
  rw[hb] at this
  rw[hP.p0]
  exact this
 have K2:Hid (∀ u,Below w.heap.size w u→Calls Tryz.prog 122 #[.pointer (some ⟨dg,0,none⟩)] u fun e w'=>e=.returned (.int .i64 (P 1))∧u=w'):=fun u hu=>by
  obtain⟨m,h⟩:=hD.below hu
  have:=blocks_dev dg m.h D.n u h.cells.2.1
  rw[hn] at this
  rw[hP.p1]
  exact this
 have HK:=hide (Kp.start w P)
 clear hP hD hb hn
 go_enter Tryz.func70,Tryz.ntmps70
 go_wp2_with fail
 obtain⟨f0,f1,f2,f3,f4,f5,f6,f7,f8,f9,f10,f11⟩:=(unhide HK).cells
 go_region_held3 (fun u=>Hid (Kp w P u)∧u.cell? ⟨w.heap.size,0,none⟩=some (.int .i64 (P 0))∧u.cell? ⟨w.heap.size,1,none⟩=some (.int .i64 (P 1))∧u.cell? ⟨w.heap.size,2,none⟩=some (.int .i64 (P 2))∧u.cell? ⟨w.heap.size,3,none⟩=some (.int .i64 (P 3))∧u.cell? ⟨w.heap.size,4,none⟩=some (.int .i64 (P 4))∧u.cell? ⟨w.heap.size,5,none⟩=some (.int .i64 (P 5))∧u.cell? ⟨w.heap.size,6,none⟩=some (.int .i64 (P 6))∧u.cell? ⟨w.heap.size,7,none⟩=some (.int .i64 (P 7))∧u.cell? ⟨w.heap.size,8,none⟩=some (.int .i64 (P 8))∧u.cell? ⟨w.heap.size,9,none⟩=some (.int .i64 (P 9))∧u.cell? ⟨w.heap.size,10,none⟩=some (.int .i64 (P 10))∧u.cell? ⟨w.heap.size,11,none⟩=some (.int .i64 (P 11)))
  (with_reducible (first | exact(unhide HK).drew.js | exact(unhide J1).js | exact(unhide HK).js))
  (first
   | (go_at_call 66;refine(unhide K _).mono ?_;rintro e w6 ⟨rfl,hb⟩;have J1:Hid (Kp w P w6):=Kp.call (unhide (‹Hid (Kp w P _)∧_›).1) hb;clear hb)
   | (go_at_call 121;refine(unhide K1 _ (unhide (‹Hid (Kp w P _)∧_›).1).2).mono ?_;rintro e w6 ⟨rfl,rfl⟩)
   | (go_at_call 122;refine(unhide K2 _ (unhide (‹Hid (Kp w P _)∧_›).1).2).mono ?_;rintro e w6 ⟨rfl,rfl⟩))
 all_goals
  have jj:=unhide (‹Hid (Kp w P _)∧_›).1
  go_wp2
  go_ret
  exact⟨rfl,jj.2⟩

theorem hdF {h:Hd}{G:Geo}(hG:G.Ok)(hh:h.Ok G):hdrF h.fn=true:=by
 have h1:=hh.seq
 have h2:=hh.tail
 have h3:=hh.used
 have h4:=hG.l2
 unfold hdrF
 rw[Bool.and_eq_true,fitB_iff,fitB_iff]
 refine⟨fun v hv=>?_,fun v hv=>?_⟩
 ·have:v=(h.seq:Int):=by simpa [Hd.fn] using hv
  omega
 ·have:v=(h.tail:Int)∨v=(h.used:Int):=by simpa [Hd.fn] using hv
  omega

theorem hdB_len {h:Hd}{G:Geo}(hG:G.Ok):(hdB G h).length=G.blk:=by
 have:=hG.blk
 exact cells_len (zs:=[]) (hdrH_length _) (by omega)

theorem hdB_byt {h:Hd}{G:Geo}:∀ z∈hdB G h,0≤z∧z≤255:=sumB_byts (hdrH_byts _)

def whS (G:Geo) (h:Hd):List Stp:=[.w 1 (hdB G h),.f]

theorem wh_chain (dg:Nat)(S:Nat→Prop)(D:Dev)(G:Geo)(h:Hd)(w:World)(hD:Dv w S dg D)(hG:G.Ok)(bd:D.blk=G.blk)(nd:D.n=G.n)(hh:h.Ok G)(hT:Tab w)(h0:¬ S 0)(u:World)(hu:Below w.heap.size w u) :
  Calls Tryz.prog 123 #[Hv h.fn,.int .i64 (G.blk:Int)] u fun e w1=>∃ g1,e=.returned (.tuple #[.slice (some ⟨g1,0,none⟩) G.blk G.blk,.int .i64 0]) ∧
   Hid (Calls Tryz.prog 124 #[.pointer (some ⟨dg,0,none⟩),.int .i64 1,.slice (some ⟨g1,0,none⟩) G.blk G.blk] w1 fun e w2=>e=.returned (.int .i64 D.wE) ∧
    (D.wE≠0→Hid (7=runE (whS G h) D∧∃ S',Dv w2 S' dg (runD (whS G h) D)∧Nx S w S' w2)) ∧
    (D.wE=0→Hid (Calls Tryz.prog 107 #[.pointer (some ⟨dg,0,none⟩)] w2 fun e w3=>e=.returned (.int .i64 (runE (whS G h) D))∧Hid (∃ S',Dv w3 S' dg (runD (whS G h) D)∧Nx S w S' w3)))):=by
 have hb:=hG.ibn
 refine(header_good h.fn G.blk u hG.size (hdF hG hh) (hT.kept (hu.block 0 hT.lt))).mono ?_
 rintro e w1 ⟨g1,rfl,hg1,B1,b1⟩
 have B1':Block w1 g1 (hdB G h):=unhide B1
 have hb1:Below w.heap.size w w1:=hu.trans (b1.mono hu.size)
 have hD1:=hD.below hb1
 have hgs:=hu.size
 refine⟨g1,rfl,?_⟩
 have hr:=B1'.row (hdB_len hG) (by have:=hG.blk;omega) hdB_byt
 have ho:Out S G.blk (some ⟨g1,0,none⟩):=fun _ x e hs=>by cases e;have:g1<w.heap.size:=hD.lt hs;omega
 have hW:=write_any dg 1 (some ⟨g1,0,none⟩) G.blk (hdB G h) S D w1 hD1 (by rw[nd];omega) (by rw[bd];exact hr) (by rw[bd];exact ho)
 rw[bd] at hW
 refine hW.mono ?_
 rintro e w2 ⟨rfl,S2,d2,x2⟩
 have x2':Nx S w S2 w2:=((Nx.refl S w).below' hb1).trans x2
 refine⟨rfl,fun he=>⟨by rw[whS,runE_no he],S2,by rw[whS,runD_no he];exact d2,x2'⟩,fun he=>?_⟩
 refine(flush_any dg S2 _ w2 d2).mono ?_
 rintro e w3 ⟨rfl,d3,x3⟩
 have e1:runE (whS G h) D=(D.wD 1 (hdB G h)).wE:=by
  rw[whS,runE_ok he]
  show runE [.f] (D.wD 1 (hdB G h))=_
  rcases(D.wD 1 (hdB G h)).wE_two with h7 | h7
  ·rw[runE_ok h7,h7];rfl
  ·rw[runE_no (by omega),h7]
 have e2:runD (whS G h) D=(D.wD 1 (hdB G h)).fD:=by
  rw[whS,runD_ok he]
  show runD [.f] (D.wD 1 (hdB G h))=_
  rcases(D.wD 1 (hdB G h)).wE_two with h7 | h7
  ·rw[runD_ok h7];rfl
  ·rw[runD_no (by omega)];rfl
 exact⟨by rw[e1],S2,by rw[e2];exact d3,x2'.trans x3⟩

theorem writeHeader_any (dg : Nat) (S : Nat → Prop) (D : Dev) (G : Geo) (h : Hd) (w : World) (hD : Dv w S dg D) (hG : G.Ok) (bd : D.blk = G.blk) (nd : D.n = G.n) (hh : h.Ok G) (hT : Tab w) (h0 : ¬ S 0) :
    Calls Tryz.prog 71 #[.pointer (some ⟨dg, 0, none⟩), Hv h.fn] w fun e w' => e = .returned (.int .i64 (runE (whS G h) D)) ∧ ∃ S', Dv w' S' dg (runD (whS G h) D) ∧ Nx S w S' w' := by
  have K := hide (wh_chain dg S D G h w hD hG bd nd hh hT h0)
  have K1 : Hid (∀ u, Below w.heap.size w u → Calls Tryz.prog 121 #[.pointer (some ⟨dg, 0, none⟩)] u fun e w' => e = .returned (.int .i64 (G.blk : Int)) ∧ u = w') := fun u hu => by
    obtain ⟨m, h⟩ := hD.below hu
    have := block_dev dg u D.blk h.cells.1
    rw [bd] at this
    exact this
  have HK := hide (Bx.start w (Hc h.fn) 81)
  have hE := D.wE_two
  clear hD hG bd nd hh hT h0
  generalize runE (whS G h) D = rE at *
  generalize runD (whS G h) D = rD at *
  generalize D.wE = e0 at *
  generalize h.fn = H at *
  go_enter Tryz.func71, Tryz.ntmps71
  go_wp2_with fail
  have f0 := (unhide HK).1 0 _ rfl
  have f1 := (unhide HK).1 1 _ rfl
  have f2 := (unhide HK).1 2 _ rfl
  have HB := hide (unhide HK).drew.2.1
  clear HK
  go_cut [5] (fun c wx => ∃ g1, c = .slice (some ⟨g1, 0, none⟩) G.blk G.blk ∧ Hid (Calls Tryz.prog 124 #[.pointer (some ⟨dg, 0, none⟩), .int .i64 1, .slice (some ⟨g1, 0, none⟩) G.blk G.blk] wx fun e w2 => e = .returned (.int .i64 e0) ∧
        (e0 ≠ 0 → Hid (7 = rE ∧ ∃ S', Dv w2 S' dg rD ∧ Nx S w S' w2)) ∧
        (e0 = 0 → Hid (Calls Tryz.prog 107 #[.pointer (some ⟨dg, 0, none⟩)] w2 fun e w3 => e = .returned (.int .i64 rE) ∧ Hid (∃ S', Dv w3 S' dg rD ∧ Nx S w S' w3)))))
  case first =>
    go_region_with (first
      | (go_at_call 121; refine (unhide K1 _ (unhide HB)).mono ?_; rintro e w1 ⟨rfl, rfl⟩)
      | (go_at_call 123; refine (unhide K _ (unhide HB)).mono ?_; rintro e w1 ⟨g1, rfl, X⟩))
    all_goals
      go_wp2_with fail
      go_meet
      exact ⟨_, rfl, X⟩
  case rest =>
    clear K K1 f0 f1 f2 HB
    obtain ⟨g1, rfl, KW⟩ := hcut
    rcases hE with rfl | rfl
    · go_wp2_with fail
      go_at_call 124
      refine (unhide KW).mono ?_
      rintro e w2 ⟨rfl, _, KF⟩
      have KF2 := KF trivial
      clear KW KF
      go_wp2_with fail
      go_at_call 107
      refine (unhide KF2).mono ?_
      rintro e w3 ⟨rfl, X⟩
      clear KF2
      go_wp2_with fail
      go_ret
      exact ⟨rfl, unhide X⟩
    · go_wp2_with fail
      go_at_call 124
      refine (unhide KW).mono ?_
      rintro e w2 ⟨rfl, X, _⟩
      have X2 := X (by decide)
      clear KW X
      go_wp2_with fail
      go_ret
      have e4 := (unhide X2).1
      subst e4
      exact ⟨rfl, (unhide X2).2⟩

end Go.Proofs.YtokngjcfkkceiaaGreatDoor
