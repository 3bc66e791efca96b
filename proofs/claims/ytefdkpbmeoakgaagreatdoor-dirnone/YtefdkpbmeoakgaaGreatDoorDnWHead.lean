/- The contracts of ended, met, Room, Header, refuses, Need, writeHeader, settle and Format. -/
import Derived.Test.YtefdkpbmeoakgaaGreatDoorDnJ25
import Derived.Test.YtefdkpbmeoakgaaGreatDoorDnJ21
import Derived.Test.YtefdkpbmeoakgaaGreatDoorDnJ9
import Derived.BigRegion
import Derived.BigQuiet
import Derived.Test.YtefdkpbmeoakgaaGreatDoorDnJ19
import Derived.Test.YtefdkpbmeoakgaaGreatDoorDnJ21
import Derived.Test.YtefdkpbmeoakgaaGreatDoorDnJ21
namespace Go.Proofs.YtefdkpbmeoakgaaGreatDoor
set_option maxRecDepth 100000
set_option maxHeartbeats 8000000
open Go.RowKit Go.Shelf Go.Maps
set_option linter.unusedVariables false
theorem abI (g dg:Nat)(S:Nat->Prop)(P:Nat->Int)(G:Geo)(L:Lg)(m:aeD)(w:World)(h:LgM w S g dg P G L m) :
  Calls Tryz.prog 198 #[.pointer (some ⟨g,0,none⟩)] w fun e w'=>e=.returned (Hv L.h.fn)/\Below w.heap.size w w':=by
 obtain⟨_,_,c3,c4,c5,_⟩:=h.cells
 have hg:=h.lt g h.sg
 have hb:=(Below.refl w.heap.size w).alloc (Nat.le_refl _) (.cells #[.int .i64 0,.int .i64 0,.int .i64 0] 98)
 have d3:=(hb.cell (p:=⟨g,13,none⟩) hg).trans c3
 have d4:=(hb.cell (p:=⟨g,14,none⟩) hg).trans c4
 have d5:=(hb.cell (p:=⟨g,15,none⟩) hg).trans c5
 clear c3 c4 c5 h hb
 change Calls Tryz.prog 198 #[.pointer (some ⟨g,0,none⟩)] w fun e w'=>e=.returned (.agg #[.int .i64 (L.h.seq:Int),.int .i64 (L.h.tail:Int),.int .i64 (L.h.used:Int)])/\Below w.heap.size w w'
 generalize (L.h.seq:Int)=x at *
 generalize (L.h.tail:Int)=y at *
 generalize (L.h.used:Int)=z at *
 have HA:=hide (Bl.new w #[.int .i64 x,.int .i64 y,.int .i64 z] 98)
 have HB:=hide ((Below.refl _ w).alloc (Nat.le_refl _) (.cells #[.int .i64 x,.int .i64 y,.int .i64 z] 98))
 go_enter Tryz.func198,Tryz.ntmps198
 go_wp2
 have hA:=ah HA
 have hW:=ah HB
 generalize w.alloc (.cells #[.int .i64 x,.int .i64 y,.int .i64 z] 98)=wf at *
 refine bodyPost_ret (v:=.agg #[.int .i64 x,.int .i64 y,.int .i64 z]) ?_ rfl ⟨rfl,hW⟩
 simp[results,Tryz.results198,go_sem,hA.cell 0 _ rfl,hA.cell 1 _ rfl,hA.cell 2 _ rfl]
theorem mZ (P:Nat->Int)(G:Geo)(dg:Nat)(S:Nat->Prop)(D:Dev)(w:World)(hP:PG P G)(hD:Dv w S dg D)(hb:D.blk=G.blk)(hn:D.n=G.n):Calls Tryz.prog 41 #[.pointer (some ⟨dg,0,none⟩),Pv P] w fun e w'=>e=.returned (.int .i64 0)/\Below w.heap.size w w':=by
 have K:Hid (∀ u,Calls Tryz.prog 46 #[Pv P] u fun e w'=>e=.returned (.int .i64 0)/\Below u.heap.size u w'):=fun u=>by
  have:=check_any P u
  rwa [hP.chk] at this
 have K1:Hid (∀ u,Below w.heap.size w u->Calls Tryz.prog 68 #[.pointer (some ⟨dg,0,none⟩)] u fun e w'=>e=.returned (.int .i64 (P 0))/\u=w'):=fun u hu=>by
  obtain⟨m,h⟩:=hD.below hu
  have:=xW dg u D.blk h.cells.1
  rw[hb] at this
  rw[hP.p0]
  exact this
 have K2:Hid (∀ u,Below w.heap.size w u->Calls Tryz.prog 69 #[.pointer (some ⟨dg,0,none⟩)] u fun e w'=>e=.returned (.int .i64 (P 1))/\u=w'):=fun u hu=>by
  obtain⟨m,h⟩:=hD.below hu
  have:=sJ dg m.h D.n u h.cells.2.1
  rw[hn] at this
  rw[hP.p1]
  exact this
 have HK:=hide (Kp.start w P)
 clear hP hD hb hn
 go_enter Tryz.func41,Tryz.ntmps41
 go_wp2_with fail
 obtain⟨f0,f1,f2,f3,f4,f5,f6,f7,f8,f9,f10,f11⟩:=(ah HK).cells
 go_region_held3 (fun u=>Hid (Kp w P u)/\u.cell? ⟨w.heap.size,0,none⟩=some (.int .i64 (P 0))/\u.cell? ⟨w.heap.size,1,none⟩=some (.int .i64 (P 1))/\u.cell? ⟨w.heap.size,2,none⟩=some (.int .i64 (P 2))/\u.cell? ⟨w.heap.size,3,none⟩=some (.int .i64 (P 3))/\u.cell? ⟨w.heap.size,4,none⟩=some (.int .i64 (P 4))/\u.cell? ⟨w.heap.size,5,none⟩=some (.int .i64 (P 5))/\u.cell? ⟨w.heap.size,6,none⟩=some (.int .i64 (P 6))/\u.cell? ⟨w.heap.size,7,none⟩=some (.int .i64 (P 7))/\u.cell? ⟨w.heap.size,8,none⟩=some (.int .i64 (P 8))/\u.cell? ⟨w.heap.size,9,none⟩=some (.int .i64 (P 9))/\u.cell? ⟨w.heap.size,10,none⟩=some (.int .i64 (P 10))/\u.cell? ⟨w.heap.size,11,none⟩=some (.int .i64 (P 11)))
  (with_reducible (first | exact(ah HK).drew.js | exact(ah J1).js | exact(ah HK).js))
  (first
   | (go_at_call 46;refine(ah K _).mono ?_;rintro e w6 ⟨rfl,hb⟩;have J1:Hid (Kp w P w6):=Kp.call (ah (‹Hid (Kp w P _)/\_›).1) hb;clear hb)
   | (go_at_call 68;refine(ah K1 _ (ah (‹Hid (Kp w P _)/\_›).1).2).mono ?_;rintro e w6 ⟨rfl,rfl⟩)
   | (go_at_call 69;refine(ah K2 _ (ah (‹Hid (Kp w P _)/\_›).1).2).mono ?_;rintro e w6 ⟨rfl,rfl⟩))
 all_goals
  have jj:=ah (‹Hid (Kp w P _)/\_›).1
  go_wp2
  go_ret
  exact⟨rfl,jj.2⟩
theorem hdF {h:Hd}{G:Geo}(hG:G.Ok)(hh:h.Ok G):agK h.fn=true:=by
 have h1:=hh.seq
 have h2:=hh.tail
 have h3:=hh.used
 have h4:=hG.l2
 unfold agK
 rw[Bool.and_eq_true,dR,dR]
 refine⟨fun v hv=>?_,fun v hv=>?_⟩
 ·have:v=(h.seq:Int):=by simpa [Hd.fn] using hv
  omega
 ·have:v=(h.tail:Int)\/v=(h.used:Int):=by simpa [Hd.fn] using hv
  omega
theorem adQ {h:Hd}{G:Geo}(hG:G.Ok):(hdB G h).length=G.blk:=by
 have:=hG.blk
 exact xM (zs:=[]) (iW _) (by omega)
theorem ahQ {h:Hd}{G:Geo}:∀ z∈hdB G h,0<=z/\z<=255:=vG (lC _)
def whS (G:Geo) (h:Hd):List Stp:=[.w 1 (hdB G h),.f]
theorem aeM (dg:Nat)(S:Nat->Prop)(D:Dev)(G:Geo)(h:Hd)(w:World)(hD:Dv w S dg D)(hG:G.Ok)(bd:D.blk=G.blk)(nd:D.n=G.n)(hh:h.Ok G)(hT:Tab w)(h0:¬ S 1)(u:World)(hu:Below w.heap.size w u) :
  Calls Tryz.prog 70 #[Hv h.fn,.int .i64 (G.blk:Int)] u fun e w1=>∃ g1,e=.returned (.tuple #[.slice (some ⟨g1,0,none⟩) G.blk G.blk,.int .i64 0]) /\
   Hid (Calls Tryz.prog 71 #[.pointer (some ⟨dg,0,none⟩),.int .i64 1,.slice (some ⟨g1,0,none⟩) G.blk G.blk] w1 fun e w2=>e=.returned (.int .i64 D.wE) /\
    (D.wE≠0->Hid (7=vN (whS G h) D/\∃ S',Dv w2 S' dg (yc (whS G h) D)/\Nx S w S' w2)) /\
    (D.wE=0->Hid (Calls Tryz.prog 72 #[.pointer (some ⟨dg,0,none⟩)] w2 fun e w3=>e=.returned (.int .i64 (vN (whS G h) D))/\Hid (∃ S',Dv w3 S' dg (yc (whS G h) D)/\Nx S w S' w3)))):=by
 have hb:=hG.ibn
 refine(kD h.fn G.blk u hG.size (hdF hG hh) (hT.kept (hu.block 1 hT.lt))).mono ?_
 rintro e w1 ⟨g1,rfl,hg1,B1,b1⟩
 have B1':Block w1 g1 (hdB G h):=ah B1
 have hb1:Below w.heap.size w w1:=hu.trans (b1.mono hu.size)
 have hD1:=hD.below hb1
 have hgs:=hu.size
 refine⟨g1,rfl,?_⟩
 have hr:=B1'.row (adQ hG) (by have:=hG.blk;omega) ahQ
 have ho:Out S G.blk (some ⟨g1,0,none⟩):=fun _ x e hs=>by cases e;have:g1<w.heap.size:=hD.lt hs;omega
 have hW:=write_any dg 1 (some ⟨g1,0,none⟩) G.blk (hdB G h) S D w1 hD1 (by rw[nd];omega) (by rw[bd];exact hr) (by rw[bd];exact ho)
 rw[bd] at hW
 refine hW.mono ?_
 rintro e w2 ⟨rfl,S2,d2,x2⟩
 have x2':Nx S w S2 w2:=((Nx.refl S w).below' hb1).trans x2
 refine⟨rfl,fun he=>⟨by rw[whS,acV he],S2,by rw[whS,acW he];exact d2,x2'⟩,fun he=>?_⟩
 refine(flush_any dg S2 _ w2 d2).mono ?_
 rintro e w3 ⟨rfl,d3,x3⟩
 have e1:vN (whS G h) D=(D.wD 1 (hdB G h)).wE:=by
  rw[whS,o9 he]
  show vN [.f] (D.wD 1 (hdB G h))=_
  rcases(D.wD 1 (hdB G h)).ac4 with h7 | h7
  ·rw[o9 h7,h7];rfl
  ·rw[acV (by omega),h7]
 have e2:yc (whS G h) D=(D.wD 1 (hdB G h)).fD:=by
  rw[whS,oC he]
  show yc [.f] (D.wD 1 (hdB G h))=_
  rcases(D.wD 1 (hdB G h)).ac4 with h7 | h7
  ·rw[oC h7];rfl
  ·rw[acW (by omega)];rfl
 exact⟨by rw[e1],S2,by rw[e2];exact d3,x2'.trans x3⟩
theorem nT (dg : Nat) (S : Nat -> Prop) (D : Dev) (G : Geo) (h : Hd) (w : World) (hD : Dv w S dg D) (hG : G.Ok) (bd : D.blk = G.blk) (nd : D.n = G.n) (hh : h.Ok G) (hT : Tab w) (h0 : ¬ S 1) :
    Calls Tryz.prog 42 #[.pointer (some ⟨dg, 0, none⟩), Hv h.fn] w fun e w' => e = .returned (.int .i64 (vN (whS G h) D)) /\ ∃ S', Dv w' S' dg (yc (whS G h) D) /\ Nx S w S' w' := by
  have K := hide (aeM dg S D G h w hD hG bd nd hh hT h0)
  have K1 : Hid (∀ u, Below w.heap.size w u -> Calls Tryz.prog 68 #[.pointer (some ⟨dg, 0, none⟩)] u fun e w' => e = .returned (.int .i64 (G.blk : Int)) /\ u = w') := fun u hu => by
    obtain ⟨m, h⟩ := hD.below hu
    have := xW dg u D.blk h.cells.1
    rw [bd] at this
    exact this
  have HK := hide (Bx.start w (Hc h.fn) 98)
  have hE := D.ac4
  clear hD hG bd nd hh hT h0
  generalize vN (whS G h) D = rE at *
  generalize yc (whS G h) D = rD at *
  generalize D.wE = e0 at *
  generalize h.fn = H at *
  go_enter Tryz.func42, Tryz.ntmps42
  go_wp2_with fail
  have f0 := (ah HK).1 0 _ rfl
  have f1 := (ah HK).1 1 _ rfl
  have f2 := (ah HK).1 2 _ rfl
  have HB := hide (ah HK).drew.2.1
  clear HK
  go_cut [5] (fun c wx => ∃ g1, c = .slice (some ⟨g1, 0, none⟩) G.blk G.blk /\ Hid (Calls Tryz.prog 71 #[.pointer (some ⟨dg, 0, none⟩), .int .i64 1, .slice (some ⟨g1, 0, none⟩) G.blk G.blk] wx fun e w2 => e = .returned (.int .i64 e0) /\
        (e0 ≠ 0 -> Hid (7 = rE /\ ∃ S', Dv w2 S' dg rD /\ Nx S w S' w2)) /\
        (e0 = 0 -> Hid (Calls Tryz.prog 72 #[.pointer (some ⟨dg, 0, none⟩)] w2 fun e w3 => e = .returned (.int .i64 rE) /\ Hid (∃ S', Dv w3 S' dg rD /\ Nx S w S' w3)))))
  case first =>
    go_region_with (first
      | (go_at_call 68; refine (ah K1 _ (ah HB)).mono ?_; rintro e w1 ⟨rfl, rfl⟩)
      | (go_at_call 70; refine (ah K _ (ah HB)).mono ?_; rintro e w1 ⟨g1, rfl, X⟩))
    all_goals
      go_wp2_with fail
      go_meet
      exact ⟨_, rfl, X⟩
  case rest =>
    clear K K1 f0 f1 f2 HB
    obtain ⟨g1, rfl, KW⟩ := hcut
    rcases hE with rfl | rfl
    · go_wp2_with fail
      go_at_call 71
      refine (ah KW).mono ?_
      rintro e w2 ⟨rfl, _, KF⟩
      have KF2 := KF trivial
      clear KW KF
      go_wp2_with fail
      go_at_call 72
      refine (ah KF2).mono ?_
      rintro e w3 ⟨rfl, X⟩
      clear KF2
      go_wp2_with fail
      go_ret
      exact ⟨rfl, ah X⟩
    · go_wp2_with fail
      go_at_call 71
      refine (ah KW).mono ?_
      rintro e w2 ⟨rfl, X, _⟩
      have X2 := X (by decide)
      clear KW X
      go_wp2_with fail
      go_ret
      have e4 := (ah X2).1
      subst e4
      exact ⟨rfl, (ah X2).2⟩
end Go.Proofs.YtefdkpbmeoakgaaGreatDoor
