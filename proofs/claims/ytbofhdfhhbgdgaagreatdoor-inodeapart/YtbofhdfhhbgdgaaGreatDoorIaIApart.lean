/- InodeApart's walk. -/
import Derived.Test.YtbofhdfhhbgdgaaGreatDoorIaJ50
import Derived.Test.YtbofhdfhhbgdgaaGreatDoorIaIWakes
import Derived.Test.YtbofhdfhhbgdgaaGreatDoorIaJ13
import Derived.BigQuiet
import Derived.Deep.DeepCutAuto
import Derived.Deep.CutBlock
import Derived.Deep.CutRange
namespace Go.Proofs.YtbofhdfhhbgdgaaGreatDoor
set_option maxRecDepth 100000
set_option maxHeartbeats 8000000
open Go.RowKit Go.Shelf Go.Maps
set_option linter.unusedVariables false
theorem iD {u mp}(B:Bl u mp (Pc aP) 25):u.cell? ⟨mp,1,none⟩=some (.int .i64 90)/\u.cell? ⟨mp,11,none⟩=some (.int .i64 37):=by
 have c1:=B.cell 1 (.int .i64 (aP 1)) rfl
 have c3:=B.cell 11 (.int .i64 (aP 11)) rfl
 rw[gQ] at c1 c3
 exact⟨c1,c3⟩
theorem A3.plan {w g o hv av ug E V' X A rest ps u}(h:A3 w g o hv av ug E V' X A rest ps u){tb a mp:Nat}(hr:∀ x∈rst tb a g mp,x∈rest):Bl u mp (Pc aP) 25 :=
 LG.row h (x:=(mp,plO)) (hr _ (by simp[rst]))
theorem akf {w u}{g o tb a mp:Nat}(L:Lp w aP aG aE g o (rst tb a g mp) 1 aV (fun _=>false) aV (fun _=>false) u):A1 w g o tb a mp u.heap.size (u.heap.size+1) (u.heap.size+1+1) 0 (((u.alloc (.cells #[.slice none 0 0,.slice none 0 0] 36)).alloc (.cells #[.slice none 0 0,.slice none 0 0] 36)).alloc (.cells (madeCells #[.int .i64 0] 90) 3)):=by
 have s1:(u.alloc (.cells #[.slice none 0 0,.slice none 0 0] 36)).heap.size=u.heap.size+1:=by simp
 have s2:((u.alloc (.cells #[.slice none 0 0,.slice none 0 0] 36)).alloc (.cells #[.slice none 0 0,.slice none 0 0] 36)).heap.size=u.heap.size+1+1:=by simp
 have L1:=L.new (.cells #[.slice none 0 0,.slice none 0 0] 36)
 have L2:=L1.new (.cells #[.slice none 0 0,.slice none 0 0] 36)
 have L3:=L2.new (.cells (madeCells #[.int .i64 0] 90) 3)
 rw[s1,s2] at L3
 have hb:=L.bel.size
 exact agL L3 (by omega) (by omega) (by omega) (fun y hy=>by have:=L.lt hy;omega) (by omega) (by omega) (by omega)
theorem yU (a0:Option Addr)(len0 cap0:Nat)(z0:List Int)(a1:Option Addr)(len1 cap1:Nat)(z1:List Int)(w:World)(hT:Tab w)(hI0:alq w a0 len0 cap0 z0)(hI1:alq w a1 len1 cap1 z1) :
  Calls Tryz.prog 3 #[.slice a0 len0 cap0,.slice a1 len1 cap1] w fun e w'=>e=.returned (.bool true)/\Below w.heap.size w w':=by
 have h0:0<w.heap.size:=hT.lt
 have KW:=hide (abx w hT)
 have KS:Hid (∀ u,Calls Tryz.prog 10 #[] u fun e w'=>e=.returned (Pv aP)/\Below u.heap.size u w'):=fun u=>qW u
 have KF:Hid (∀ u mp,Below w.heap.size w u->w.heap.size<=mp->Bl u mp (Pc aP) 25->Calls Tryz.prog 11 #[Pv aP] u fun e w'=>∃ g a t,e=.returned (.tuple #[.pointer (some ⟨g,0,none⟩),.pointer (some ⟨a,0,none⟩),.pointer (some ⟨t,0,none⟩)])/\Hid (Calls Tryz.prog 12 #[.pointer (some ⟨g,0,none⟩)] w' fun e u1=>∃ o,e=.returned (.tuple #[.pointer (some ⟨o,0,none⟩),.int .i64 0])/\u1.cell? ⟨mp,1,none⟩=some (.int .i64 90)/\(∀ ob,(u1.alloc ob).cell? ⟨mp,1,none⟩=some (.int .i64 90))/\(∀ ob ob2,((u1.alloc ob).alloc ob2).cell? ⟨mp,1,none⟩=some (.int .i64 90))/\Hid (A1 w g o t a mp u1.heap.size (u1.heap.size+1) (u1.heap.size+1+1) 0 (((u1.alloc (.cells #[.slice none 0 0,.slice none 0 0] 36)).alloc (.cells #[.slice none 0 0,.slice none 0 0] 36)).alloc (.cells (madeCells #[.int .i64 0] 90) 3))))):=fun u mp hu hmp hB=>by
  have hTu:Tab u:=hT.kept (hu.block 0 h0)
  refine(qJ u hTu).mono ?_
  rintro e w' ⟨g,a,t,rfl,Y⟩
  have l1:=((ah Y).old (k:=mp) hB).sub (rows':=rst t a g mp) (fun x hx=>by
   simp only[rst,plO,List.mem_cons,List.not_mem_nil,or_false] at hx ⊢
   rcases hx with h | h | h<;>simp[h])
  refine⟨g,a,t,rfl,(yZ (l1.acX hu)).mono ?_⟩
  rintro e u1 ⟨o,rfl,Y1⟩
  have B1:Bl u1 mp (Pc aP) 25:=(ah Y1).row (x:=(mp,plO)) (by simp[rst])
  exact⟨o,rfl,(iD B1).1,fun ob=>(iD (B1.alloc ob)).1,fun ob ob2=>(iD ((B1.alloc ob).alloc ob2)).1,akf (ah Y1)⟩
 have KO0:Hid (∀ k,k<len0->∃ b off z,a0=some ⟨b,off,none⟩/\Hid (∀ u,Below w.heap.size w u->u.cell? ⟨b,off+k,none⟩=some (.int .i64 z))):=fun k hk=>by
  obtain⟨b2,off2,e2,hcell⟩:=hI0.1.2 (by omega)
  exact⟨b2,off2,_,e2,fun u hu=>(hu.cell (p:=⟨b2,off2+k,none⟩) (hI0.1.lt (by omega) e2)).trans (hcell k hk)⟩
 have KO1:Hid (∀ k,k<len1->∃ b off z,a1=some ⟨b,off,none⟩/\Hid (∀ u,Below w.heap.size w u->u.cell? ⟨b,off+k,none⟩=some (.int .i64 z))):=fun k hk=>by
  obtain⟨b2,off2,e2,hcell⟩:=hI1.1.2 (by omega)
  exact⟨b2,off2,_,e2,fun u hu=>(hu.cell (p:=⟨b2,off2+k,none⟩) (hI1.1.lt (by omega) e2)).trans (hcell k hk)⟩
 have hlen0:=hI0.2.1
 have hlen1:=hI1.2.1
 have hmk:∀ w:World,(Instr.makeSlice 22 (.int .i64 90) (.int .i64 90)).run Tryz.prog w=.ok (.slice (some ⟨w.heap.size,0,none⟩) 90 90) (w.alloc (.cells (madeCells #[.int .i64 0] 90) 3)):=run_make_row' (P:=Tryz.prog) 22 3 (.int .i64 0) 8 Tryz.underlying22 info3 rfl .i64 .i64 90 (by omega) (by omega)
 clear hT hI0 hI1
 generalize hsp:aP=p at KS KF
 have HP:=hide hsp
 clear hsp
 go_enter Tryz.func3,Tryz.ntmps3
 go_wp2_with fail
 go_at_call 9
 refine(ah KW).mono ?_
 rintro e w1 ⟨rfl,hb1⟩
 have HB1:=hide hb1
 clear KW hb1
 go_wp2_with fail
 go_at_call 10
 refine(ah KS _).mono ?_
 rintro e w2 ⟨rfl,hb2⟩
 have HB2:=hide ((ah HB1).trans (hb2.mono (ah HB1).size))
 have KF2:=hide (ah KF (w2.alloc (.cells (Pc p) 25)) w2.heap.size ((ah HB2).alloc (ah HB2).size _) (ah HB2).size (Bl.new w2 (Pc p) 25))
 have bp:=Bl.new w2 (Pc p) 25
 clear KS HB1 hb2 KF HB2
 go_upto_region 4 with fail
 change Code.wp _ _ _ _ (w2.alloc (.cells (Pc p) 25))
 generalize w2.alloc (.cells (Pc p) 25)=w3 at *
 generalize w2.heap.size=mp at *
 have y0:=bp.cell 0 (.int .i64 (p 0)) rfl
 have y1:=bp.cell 1 (.int .i64 (p 1)) rfl
 have y2:=bp.cell 2 (.int .i64 (p 2)) rfl
 have y3:=bp.cell 3 (.int .i64 (p 3)) rfl
 have y4:=bp.cell 4 (.int .i64 (p 4)) rfl
 have y5:=bp.cell 5 (.int .i64 (p 5)) rfl
 have y6:=bp.cell 6 (.int .i64 (p 6)) rfl
 have y7:=bp.cell 7 (.int .i64 (p 7)) rfl
 have y8:=bp.cell 8 (.int .i64 (p 8)) rfl
 have y9:=bp.cell 9 (.int .i64 (p 9)) rfl
 have y10:=bp.cell 10 (.int .i64 (p 10)) rfl
 have y11:=bp.cell 11 (.int .i64 (p 11)) rfl
 clear bp
 go_wp2_with fail
 go_at_call 11
 refine(ah KF2).mono ?_
 rintro e w4 ⟨g,a,t,rfl,K5⟩
 clear KF2 y0 y1 y2 y3 y4 y5 y6 y7 y8 y9 y10 y11
 go_wp2_with fail
 go_at_call 12
 refine(ah K5).mono ?_
 rintro e w5 ⟨o,rfl,y1,y2,y3,L⟩
 clear K5 HP
 go_upto_block 0 with fail
 change Code.wp _ _ _ _ (((w5.alloc (.cells #[.slice none 0 0,.slice none 0 0] 36)).alloc (.cells #[.slice none 0 0,.slice none 0 0] 36)).alloc (.cells (madeCells #[.int .i64 0] 90) 3))
 generalize ((w5.alloc (.cells #[.slice none 0 0,.slice none 0 0] 36)).alloc (.cells #[.slice none 0 0,.slice none 0 0] 36)).alloc (.cells (madeCells #[.int .i64 0] 90) 3)=w6 at *
 generalize w5.heap.size+1+1=ug at *
 generalize w5.heap.size+1=av at *
 generalize w5.heap.size=hv at *
 clear y1 y2 y3 hmk
 go_cut [] (fun wx=>Hid (A1 w g o t a mp hv av ug 20 wx))
 case first=>as_aux_lemma =>
  go_upto_region 10 with fail
  go_loopw [14] (fun iv wr=>∃ k:Nat,k<=20/\iv=.int .i64 (k:Int)/\Hid (A1 w g o t a mp hv av ug k wr)) (fun iv _=>20 - (intOf iv).toNat)
  case atStart=>exact⟨0,by omega,rfl,L⟩
  case round =>
   obtain⟨k,hk,rfl,XK⟩:=hrel
   clear L
   have hsum:(len0:Int)+(len1:Int)<=35184372087808:=by omega
   by_cases hin:k<len0+len1/\k<20
   ·obtain⟨hin1,hin2⟩:=hin
    have hi1:(k:Int)<(len0:Int)+(len1:Int):=by omega
    have hi2:(k:Int)<20:=by omega
    go_upto_if 66 with fail
    go_cut [15,16] (fun iv nv wx=>∃ (f:Nat) (z:Int),f<2/\iv=.int .i64 (f:Int)/\nv=.int .i64 z/\wr=wx)
    case first=>as_aux_lemma =>
     by_cases hf:k<len0
     ·obtain⟨b2,off2,z,rfl,CZ⟩:=ah KO0 k hf
      have cz:=ah CZ wr (ah XK).bel
      have hf1:(k:Int)<(len0:Int):=by omega
      clear XK KO0 KO1 CZ
      go_wp2_with fail
      go_meet
      exact⟨0,z,by omega,rfl,rfl,rfl⟩
     ·obtain⟨j,hj⟩:∃ j:Nat,k=len0+j:=⟨k - len0,by omega⟩
      obtain⟨b2,off2,z,rfl,CZ⟩:=ah KO1 j (by omega)
      have cz:=ah CZ wr (ah XK).bel
      have hf1:¬ (k:Int)<(len0:Int):=by omega
      have hsub:(k:Int) - (len0:Int)=(j:Int):=by omega
      have hj1:(j:Int)<(len1:Int):=by omega
      have hj2:(0:Int)<=(j:Int):=by omega
      clear XK KO0 KO1 CZ hj
      go_wp2_with fail
      go_meet
      exact⟨1,z,by omega,rfl,rfl,rfl⟩
    obtain⟨f,z,hf,rfl,rfl,rfl⟩:=hcut
    have KK:=aiB (ah XK) h0 hf z
    have hf1:(f:Int)<2:=by omega
    clear XK KO0 KO1
    rcases KK with K1 | ⟨was,K1⟩ | ⟨b,hb1,hb2,K1⟩ | ⟨b,hb1,hb2,K1⟩
    ·go_wp2_with fail
     go_at_call 13
     refine(ah K1).mono ?_
     rintro e v1 ⟨rfl,K2⟩
     clear K1
     go_wp2_with fail
     go_at_call 14
     refine(ah K2).mono ?_
     rintro e v2 ⟨rfl,X2⟩
     clear K2
     go_wp2_with fail
     go_meet
     exact(ah X2).more (by omega)
    ·go_wp2_with fail
     go_at_call 13
     refine(ah K1).mono ?_
     rintro e v1 ⟨rfl,K2⟩
     clear K1
     go_wp2_with fail
     go_at_call 14
     refine(ah K2).mono ?_
     rintro e v2 ⟨rfl,X2⟩
     clear K2
     go_wp2_with fail
     go_meet
     exact(ah X2).more (by omega)
    ·go_wp2_with fail
     go_at_call 13
     refine(ah K1).mono ?_
     rintro e v1 ⟨rfl,K2⟩
     clear K1
     go_wp2_with fail
     go_at_call 14
     refine(ah K2).mono ?_
     rintro e v2 ⟨rfl,X2⟩
     clear K2
     obtain⟨q1,q11⟩:=iD (ah X2).plan
     have d1:((b:Int)==0)=false:=by simp;omega
     have d2:¬ (b:Int)<37:=by omega
     have d3:¬ (b:Int)>=90:=by omega
     have d4:((b:Int) != (b:Int))=false:=by simp
     go_wp2_with fail
     go_roundw
     case rel=>exact⟨k+1,by omega,by go_num,(ah X2).more (by omega)⟩
     case measure=>simp[intOf];omega
    ·go_wp2_with fail
     go_at_call 13
     refine(ah K1).mono ?_
     rintro e v1 ⟨rfl,K2⟩
     clear K1
     go_wp2_with fail
     go_at_call 14
     refine(ah K2).mono ?_
     rintro e v2 ⟨rfl,X2⟩
     clear K2
     obtain⟨q1,q11⟩:=iD (ah X2).plan
     have d2:¬ (b:Int)<37:=by omega
     have d3:¬ (b:Int)>=90:=by omega
     have d5:(b:Int)<90:=by omega
     obtain⟨da,n1,dc,a2,c2,u3,x1,hn1,R1,x2,x3,X3⟩:=agK (ah X2) h0 hf (by omega)
     clear X2
     go_upto_region 25 with (at_builtin;refine Lib.wpList_append_run _ rfl _ _ _ _ rfl _ _ rfl rfl _ _ (ah R1 _) ?_;clear R1)
     change Code.wp _ _ _ _ (u3.setCell ⟨hv,f,none⟩ (.slice a2 (n1+1) c2))
     generalize u3.setCell ⟨hv,f,none⟩ (.slice a2 (n1+1) c2)=v3 at *
     clear x1 x2 x3 q1 q11
     obtain⟨db,n2,dd,a4,c4,u4,x1,hn2,R1,x2,x3,X4⟩:=aeF (ah X3) h0 hf (by omega)
     clear X3
     go_upto_region 26 with (at_builtin;refine Lib.wpList_append_run _ rfl _ _ _ _ rfl _ _ rfl rfl _ _ (ah R1 _) ?_;clear R1)
     change Code.wp _ _ _ _ (u4.setCell ⟨av,f,none⟩ (.slice a4 (n2+1) c4))
     generalize u4.setCell ⟨av,f,none⟩ (.slice a4 (n2+1) c4)=v4 at *
     clear x1 x2 x3
     obtain⟨zz,x1,x2,hz1,hz2,X5⟩:=agJ (ah X4) h0 hb2 (by omega)
     clear X4
     go_wp2_with fail
     go_roundw
     case rel=>exact⟨k+1,by omega,by go_num,X5⟩
     case measure=>simp[intOf];omega
   ·have X9:=hide ((ah XK).more (m:=20) hk)
    clear XK KO0 KO1
    go_upto_region 10 with fail
    go_cut [60] (fun cv wx=>cv=.bool false/\wr=wx)
    case first=>as_aux_lemma =>
     by_cases hl:k<len0+len1
     ·have hi1:(k:Int)<(len0:Int)+(len1:Int):=by omega
      have hi2:¬ (k:Int)<20:=by omega
      clear X9 hin
      go_wp2_with fail
      go_meet
      refine⟨?_,rfl⟩
      simp
     ·have hi1:¬ (k:Int)<(len0:Int)+(len1:Int):=by omega
      clear X9 hin
      go_wp2_with fail
      go_meet
      refine⟨?_,rfl⟩
      simp
    obtain⟨rfl,rfl⟩:=hcut
    go_wp2_with fail
    go_meet
    exact X9
 rename_i wq
 obtain⟨E,V',X,β,A,hF,hL,hn,Z0⟩:=agI (ah hcut)
 clear hcut L KO0 KO1
 have HF:=hide hF
 have HL:=hide hL
 have HN:=hide hn
 clear hF hL hn
 go_upto_region 28 with fail
 go_loopw [22] (fun iv wr=>∃ i:Nat,i<=2/\iv=.int .i64 (i:Int)/\Hid (A3 w g o hv av ug E V' X A (rst t a g mp) (psI V' X i) wr)) (fun iv _=>2 - (intOf iv).toNat)
 case atStart=>exact⟨0,by omega,rfl,Z0⟩
 case round =>
  obtain⟨i,hi,rfl,XI⟩:=hrel
  clear Z0
  by_cases hi2:i<2
  ·have hiI:(i:Int)<2:=by omega
   go_upto_region 31 with fail
   go_loopw [23] (fun kv wr=>∃ k:Nat,k<=(A i).length/\kv=.int .i64 (k:Int)/\Hid (A3 w g o hv av ug E V' X A (rst t a g mp) (psI V' X i) wr)) (fun kv _=>(A i).length - (intOf kv).toNat)
   case atStart=>exact⟨0,by omega,rfl,XI⟩
   case round =>
    obtain⟨k,hk,rfl,XK⟩:=hrel
    clear XI
    have hAl:=ah HN i hi2
    by_cases hk2:k<(A i).length
    ·obtain⟨dc,q,m,b,c1,c2,K1⟩:=akd (ah XK) (ah HF) (ah HL) h0 hi2 hk2
     generalize (A i).length=nA at *
     have hkI:(k:Int)<(nA:Int):=by omega
     clear XK
     go_wp2_with fail
     go_at_call 13
     refine(ah K1).mono ?_
     rintro e v1 ⟨rfl,Y⟩
     obtain⟨dc2,q2,c3,c4,X1⟩:=ah Y
     have d4:(b != b)=false:=by simp
     clear K1 Y c1 c2
     go_wp2_with fail
     go_roundw
     case rel=>exact⟨k+1,by omega,by go_num,X1⟩
     case measure=>simp[intOf];omega
    ·obtain⟨da,dc,c1,_⟩:=ake (ah XK) hi2
     have hkI:¬ (k:Int)<((A i).length:Int):=by omega
     have K1:=hide (aeE (tb:=t) (a:=a) (mp:=mp) (ah XK) (ah HF) h0 hi2)
     have hct:(nzL ((sW V' (X i)).1)).length=(A i).length:=(ah HL).count (ah HF).t hi2
     obtain⟨hD,hQ⟩:=acM V' (X i)
     have HC:=hide (show nzL ((sW V' (X i)).1.take (sW V' (X i)).1.length)=nzL (sW V' (X i)).1 by rw[List.take_length])
     clear XK
     go_wp2_with fail
     go_at_call 15
     refine(ah K1).mono ?_
     rintro e v1 ⟨da1,dc1,pa,pc,rest',rfl,X1,HR,HO⟩
     clear K1 c1
     go_upto_region 41 with fail
     go_loopw [29,30] (fun nv kv wr=>∃ k:Nat,k<=(sW V' (X i)).1.length/\nv=.int .i64 ((nzL ((sW V' (X i)).1.take k)).length:Int)/\kv=.int .i64 (k:Int)/\Hid (A3 w g o hv av ug E V' X A rest' (psI V' X i) wr)) (fun _ kv _=>(sW V' (X i)).1.length - (intOf kv).toNat)
     case atStart=>exact⟨0,by omega,rfl,rfl,X1⟩
     case round =>
      obtain⟨k,hk,rfl,rfl,XK⟩:=hrel
      clear X1
      by_cases hk3:k<(sW V' (X i)).1.length
      ·obtain⟨q,e,_,c2,_⟩:=(ah HO _ _ (ah XK)).1.cell hk3
       have hnz:=ahP (sW V' (X i)).1 hk3
       have hnl:(nzL ((sW V' (X i)).1.take k)).length<=k:=by
        unfold nzL
        exact Nat.le_trans (List.length_filter_le _ _) (by rw[List.length_take];omega)
       subst e
       generalize (sW V' (X i)).1.length=nD at *
       generalize (sW V' (X i)).1[k]?.getD 0=zz at *
       have hkI:(k:Int)<(nD:Int):=by omega
       by_cases hz:zz=0
       ·rw[if_pos hz] at hnz
        have d1:(zz != 0)=false:=by simp[hz]
        clear HC HO HR HL HF HN
        go_wp2_with fail
        go_roundw
        case rel=>exact⟨k+1,by omega,by rw[hnz];rfl,by go_num,XK⟩
        case measure=>simp[intOf];omega
       ·rw[if_neg hz] at hnz
        have d1:(zz != 0)=true:=by simp[hz]
        generalize hNN:(nzL ((sW V' (X i)).1.take k)).length=nn at *
        clear HC HO HR HL HF HN
        go_wp2_with fail
        go_roundw
        case rel=>exact⟨k+1,by omega,by rw[hnz];go_num,by go_num,XK⟩
        case measure=>simp[intOf];omega
      ·obtain rfl:k=(sW V' (X i)).1.length:=by omega
       obtain⟨da2,dc2,c3,_⟩:=aeD (ah XK) hi2
       rw[ah HC,hct]
       have d4:(((A i).length:Int) != ((A i).length:Int))=false:=by simp
       have XP:Hid (A3 w g o hv av ug E V' X A rest' (psI V' X i++(sW V' (X i)).2.take 0) wr):=by rw[List.take_zero,List.append_nil];exact ah XK
       generalize (A i).length=nA at *
       clear XK HC
       generalize (sW V' (X i)).1.length=nD at *
       go_upto_region 48 with fail
       go_loopw [31] (fun kv wr=>∃ k:Nat,k<=(sW V' (X i)).2.length/\kv=.int .i64 (k:Int)/\Hid (A3 w g o hv av ug E V' X A rest' (psI V' X i++(sW V' (X i)).2.take k) wr)) (fun kv _=>(sW V' (X i)).2.length - (intOf kv).toNat)
       case atStart=>exact⟨0,by omega,rfl,XP⟩
       case round =>
        obtain⟨k,hk4,rfl,XK⟩:=hrel
        clear XP c3
        by_cases hk5:k<(sW V' (X i)).2.length
        ·have hkI:(k:Int)<((sW V' (X i)).2.length:Int):=by omega
         go_upto_region 50 with fail
         go_cut [248] from 227 to 257 (fun cv wx=>cv=.bool false/\∃ nq,wr.drewN nq=wx)
         case first=>as_aux_lemma =>
          obtain⟨q,pn,zz,e,c2,hp1,hp2,_⟩:=aho (n:=20) hi2 (ah XK) (ah HF) (ah HN) h0 (ah HO _ _ (ah XK)).2 hk5
          obtain⟨q1,q11⟩:=iD ((ah XK).plan (ah HR))
          subst e
          have d2:¬ (pn:Int)<37:=by omega
          have d3:¬ (pn:Int)>=90:=by omega
          clear XK HO HR HL HF HN
          generalize (sW V' (X i)).2.length=nQ at *
          go_quiet (fail)
          go_wp2_with fail
          go_meet
          exact⟨rfl,_,rfl⟩
         obtain⟨rfl,nq,rfl⟩:=hcut
         have XQ:=hide (LG.later (ah XK) (below_drewN (Below.refl _ _) nq))
         clear XK
         generalize wr.drewN nq=w10 at *
         obtain⟨q,pn,zz,e,c2,hp1,hp2,c5,c6,hz1,hz2,X2⟩:=aho (n:=20) hi2 (ah XQ) (ah HF) (ah HN) h0 (ah HO _ _ (ah XQ)).2 hk5
         subst e
         have d5:(pn:Int)<90:=by omega
         clear XQ HO HR HL HF HN
         go_wp2_with fail
         go_roundw
         case rel=>exact⟨k+1,by omega,by go_num,X2⟩
         case measure=>simp[intOf];omega
        ·obtain rfl:k=(sW V' (X i)).2.length:=by omega
         have XE:Hid (A3 w g o hv av ug E V' X A (rst t a g mp) (psI V' X (i+1)) wr):=by
          have x:=LG.sub (ah XK) (ah HR)
          rw[List.take_length,af7 V' X hi2] at x
          exact x
         clear XK HO HR HL HF HN hk4 hk5
         go_wp2_with fail
         go_roundw
         case rel=>exact⟨i+1,by omega,by go_num,XE⟩
         case measure=>simp[intOf];omega
  ·obtain rfl:i=2:=by omega
   go_upto_region 54 with fail
   go_loopw [32] (fun bv wr=>∃ b:Nat,b<=90/\bv=.int .i64 (b:Int)/\Hid (A3 w g o hv av ug E V' X A (rst t a g mp) (psI V' X 2) wr)) (fun bv _=>90 - (intOf bv).toNat)
   case atStart=>exact⟨0,by omega,rfl,XI⟩
   case round =>
    obtain⟨b,hb,rfl,XB⟩:=hrel
    clear XI
    obtain⟨q1,q11⟩:=iD ((ah XB).plan (tb:=t) (a:=a) (mp:=mp) (fun x hx=>hx))
    by_cases hb2:b<90
    ·obtain⟨zz,c1,hz⟩:=aiA (ah XB) (ah HF) (ah HL) h0 hb2
     have hbI:(b:Int)<90:=by omega
     have d1:¬ zz > 1:=by omega
     clear HF HL HN
     go_wp2_with fail
     go_roundw
     case rel=>exact⟨b+1,by omega,by go_num,XB⟩
     case measure=>simp[intOf];omega
    ·have hbI:¬ (b:Int)<90:=by omega
     have Z:=hide (LG.bel (ah XB))
     clear XB HF HL HN
     go_wp2_with fail
     go_ret
     exact⟨rfl,ah Z⟩
end Go.Proofs.YtbofhdfhhbgdgaaGreatDoor
