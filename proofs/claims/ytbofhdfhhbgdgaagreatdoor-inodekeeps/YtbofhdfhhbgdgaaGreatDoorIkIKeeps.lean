/- InodeKeeps' walk. -/
import Derived.Test.YtbofhdfhhbgdgaaGreatDoorIkJ50
import Derived.Test.YtbofhdfhhbgdgaaGreatDoorIkIWakes
import Derived.Test.YtbofhdfhhbgdgaaGreatDoorIkJ13
import Derived.BigQuiet
import Derived.Deep.DeepCutAuto
namespace Go.Proofs.YtbofhdfhhbgdgaaGreatDoor
set_option maxRecDepth 100000
set_option maxHeartbeats 8000000
open Go.RowKit Go.Shelf Go.Maps
set_option linter.unusedVariables false
theorem yJ (a0:Option Addr)(len0 cap0:Nat)(ns:List Int)(w:World)(hT:Tab w)(hI:alM w a0 len0 cap0 ns) :
  Calls Tryz.prog 5 #[.slice a0 len0 cap0] w fun e w'=>e=.returned (.bool true)/\Below w.heap.size w w':=by
 have h0:0<w.heap.size:=hT.lt
 have KW:=hide (abe w hT)
 have KS:Hid (∀ u,Calls Tryz.prog 10 #[] u fun e w'=>e=.returned (Pv aP)/\Below u.heap.size u w'):=fun u=>qQ u
 have KF:Hid (∀ u,Below w.heap.size w u->Calls Tryz.prog 11 #[Pv aP] u fun e w'=>∃ g a t,e=.returned (.tuple #[.pointer (some ⟨g,0,none⟩),.pointer (some ⟨a,0,none⟩),.pointer (some ⟨t,0,none⟩)])/\Hid (Calls Tryz.prog 12 #[.pointer (some ⟨g,0,none⟩)] w' fun e u1=>∃ o,e=.returned (.tuple #[.pointer (some ⟨o,0,none⟩),.int .i64 0])/\Hid (IK w g o t a [] u1))):=fun u hu=>by
  have hTu:Tab u:=hT.kept (hu.block 0 h0)
  refine(qF u hTu).mono ?_
  rintro e w' ⟨g,a,t,rfl,Y⟩
  refine⟨g,a,t,rfl,(yP ((ah Y).acF hu)).mono ?_⟩
  rintro e u1 ⟨o,rfl,Y1⟩
  exact⟨o,rfl,af2 (ah Y1)⟩
 have KO:Hid (∀ k,k<len0->∃ b off z,a0=some ⟨b,off,none⟩/\Hid (∀ u,Below w.heap.size w u->u.cell? ⟨b,off+k,none⟩=some (.int .i64 z))):=fun k hk=>by
  obtain⟨b2,off2,e2,hcell⟩:=hI.1.2 (by omega)
  exact⟨b2,off2,_,e2,fun u hu=>(hu.cell (p:=⟨b2,off2+k,none⟩) (hI.1.lt (by omega) e2)).trans (hcell k hk)⟩
 have KM:Hid (∀ g o tb a u z,IK w g o tb a [] u->Calls Tryz.prog 14 #[.pointer (some ⟨tb,0,none⟩),.pointer (some ⟨o,0,none⟩),.int .i64 2,.int .i64 z] u fun r u'=>∃ b q e,r=.returned (.tuple #[.int .i64 b,.bool q,.int .i64 e])/\Hid (IK w g o tb a [] u')):=fun g o tb a u z hv=>ah3 hv h0 (f:=0) (by omega) z
 have KT:Hid (∀ g o tb a u,IK w g o tb a [] u->_):=fun g o tb a u hv=>ah2 hv h0
 have hlen:=hI.2.1
 clear hT hI h0
 generalize aP=p at KS KF
 go_enter Tryz.func5,Tryz.ntmps5
 go_wp2_with fail
 go_at_call 9
 refine(ah KW).mono ?_
 rintro e w1 ⟨rfl,hb1⟩
 have HB1:=hide hb1
 clear KW hb1
 go_wp2_with fail
 go_at_call 10
 refine(ah KS _).mono ?_
 rintro e w2 ⟨rfl,hb2⟩
 have K2:=hide (ah KF w2 ((ah HB1).trans (hb2.mono (ah HB1).size)))
 clear KS HB1 hb2 KF
 go_wp2_with fail
 go_at_call 11
 refine(ah K2).mono ?_
 rintro e w4 ⟨g,a,t,rfl,K5⟩
 clear K2
 go_wp2_with fail
 go_at_call 12
 refine(ah K5).mono ?_
 rintro e w5 ⟨o,rfl,L⟩
 clear K5
 go_upto_region 6 with fail
 go_loopw [8] (fun iv wr=>∃ k:Nat,k<=6/\iv=.int .i64 (k:Int)/\Hid (IK w g o t a [] wr)) (fun iv _=>6 - (intOf iv).toNat)
 case atStart=>exact⟨0,by omega,rfl,L⟩
 case round =>
  obtain⟨k,hk,rfl,XK⟩:=hrel
  clear L
  by_cases hin:k<len0/\k<6
  ·obtain⟨hin1,hin2⟩:=hin
   have hi1:(k:Int)<(len0:Int):=by omega
   have hi2:(k:Int)<6:=by omega
   obtain⟨b2,off2,z,rfl,CZ⟩:=ah KO k hin1
   have cz:=ah CZ wr (ah XK).bel
   have K6:=hide (ah KM g o t a wr z (ah XK))
   clear XK KO CZ KT KM
   go_wp2_with fail
   go_at_call 14
   refine(ah K6).mono ?_
   rintro e w6 ⟨b,q,e,rfl,X6⟩
   clear K6
   go_wp2_with fail
   go_roundw
   case rel=>exact⟨k+1,by omega,by go_num,X6⟩
   case measure=>simp[intOf];omega
  ·have K7:=hide (ah KT g o t a wr (ah XK))
   clear XK KO KM KT
   go_upto_region 6 with fail
   go_cut [39] (fun cv wx=>cv=.bool false/\wr=wx)
   case first=>as_aux_lemma =>
    by_cases hl:k<len0
    ·have hi1:(k:Int)<(len0:Int):=by omega
     have hi2:¬ (k:Int)<6:=by omega
     clear K7 hin
     go_wp2_with fail
     go_meet
     refine⟨?_,rfl⟩
     simp
    ·have hi1:¬ (k:Int)<(len0:Int):=by omega
     clear K7 hin
     go_wp2_with fail
     go_meet
     refine⟨?_,rfl⟩
     simp
   obtain⟨rfl,rfl⟩:=hcut
   obtain⟨nD,nQ,hD,hQ,K8⟩:=ah K7
   clear K7
   go_wp2_with fail
   go_at_call 15
   refine(ah K8).mono ?_
   rintro e u1 ⟨a1,c1,b1,d1,rfl,K9⟩
   clear K8
   go_wp2_with fail
   go_at_call 15
   refine(ah K9).mono ?_
   rintro e u2 ⟨a2,c2,b2,d2,rfl,K10⟩
   clear K9
   obtain⟨xa,xc,u3,R3,K11⟩:=ah K10
   have R:=hide R3
   clear K10 R3
   go_wp2_with (at_builtin;refine wpList_append_run 22 rfl _ _ rfl _ _ _ rfl rfl (ah R) ?_;clear R)
   go_at_call 22
   refine(ah K11).mono ?_
   rintro e u4 ⟨rfl,K12⟩
   clear K11
   go_wp2_with fail
   go_at_call 22
   refine(ah K12).mono ?_
   rintro e u5 ⟨rfl,K13⟩
   have K14:=hide (ah K13 u5.heap.size rfl)
   clear K12 K13
   go_wp2_with fail
   go_at_call 23
   refine(ah K14).mono ?_
   rintro e u6 ⟨rfl,K15⟩
   clear K14
   go_wp2_with fail
   go_at_call 15
   refine(ah K15).mono ?_
   rintro e u7 ⟨a5,c5,b5,d5,rfl,K16⟩
   clear K15
   go_wp2_with fail
   go_at_call 22
   refine(ah K16).mono ?_
   rintro e u8 ⟨rfl,HZ⟩
   clear K16
   go_wp2_with fail
   go_ret
   exact⟨rfl,ah HZ⟩
end Go.Proofs.YtbofhdfhhbgdgaaGreatDoor
