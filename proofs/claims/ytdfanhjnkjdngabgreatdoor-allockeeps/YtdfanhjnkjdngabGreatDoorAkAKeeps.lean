/- AllocKeeps: a block that was freed is given to nobody, till a Commit behind the freeing. -/
import Derived.Test.YtdfanhjnkjdngabGreatDoorAkJ48
import Derived.Test.YtdfanhjnkjdngabGreatDoorAkAOpenI
import Derived.BigQuiet
import Derived.Deep.DeepCutAuto
namespace Go.Proofs.YtdfanhjnkjdngabGreatDoor
set_option maxRecDepth 100000
set_option maxHeartbeats 8000000
open Go.RowKit Go.Shelf Go.Maps
set_option linter.unusedVariables false

theorem akeeps_walk (a0:Option Addr) (len0 cap0:Nat) (ns:List Int) (st:Bool) (w:World) (hT:Tab w) (hI:IArg w a0 len0 cap0 ns) :
  Calls Tryz.prog 5 #[.slice a0 len0 cap0,.bool st] w fun e w'=>e=.returned (.bool true)∧Below w.heap.size w w':=by
 have h0:=hT.lt
 have K1:=hide (awakes_any w hT)
 have KS:Hid (∀ u,Calls Tryz.prog 7 #[] u fun e w'=>e=.returned (Pv aP)∧Hid (Below u.heap.size u w')):=fun u=>asmall_any u
 have KF:Hid (∀ u,Below w.heap.size w u→∀ gp,u.heap[gp]?=some plA→Calls Tryz.prog 8 #[Pv aP] u fun e w'=>∃ g a,e=.returned (.tuple #[.pointer (some ⟨g,0,none⟩),.pointer (some ⟨a,0,none⟩)])∧Hid (Ao w g a [(gp,plA)] 1 (bt 0) (fun j=>decide (j < 2)) (fun _=>false) w')):=fun u hu gp hp=>by
  refine (a_start w u hu hT).mono ?_
  rintro e w' ⟨g,a,rfl,Y⟩
  exact ⟨g,a,rfl,((unhide Y).old hp).rebase hu⟩
 have PP:Hid (∀ u:World,(u.alloc (.cells (Pc aP) 24)).heap[u.heap.size]?=some plA):=fun u=>World.alloc_heap_new _ _
 have KO:Hid (∀ k,k < len0→∃ b off z,a0=some ⟨b,off,none⟩∧Hid (∀ u,Below w.heap.size w u→u.cell? ⟨b,off + k,none⟩=some (.int .i64 z))):=fun k hk=>by
  obtain ⟨b2,off2,e2,hcell⟩:=hI.1.2 (by omega)
  exact ⟨b2,off2,_,e2,fun u hu=>(hu.cell (p:=⟨b2,off2 + k,none⟩) (hI.1.lt (by omega) e2)).trans (hcell k hk)⟩
 have hlen:=hI.2.1
 have hmk:∀ w:World,(Instr.makeSlice 47 (.int .i64 40) (.int .i64 40)).run Tryz.prog w=.ok (.slice (some ⟨w.heap.size,0,none⟩) 40 40) (w.alloc (.cells (madeCells #[.bool false] 40) 4)):=run_make_row' (P:=Tryz.prog) 47 4 (.bool false) 1 Tryz.underlying47 info4k rfl .i64 .i64 40 (by omega) (by omega)
 clear hT hI
 generalize hsp:aP=p at KS KF PP
 clear hsp
 go_enter Tryz.func5,Tryz.ntmps5
 go_wp2_with fail
 go_at_call 6
 refine (unhide K1).mono ?_
 rintro e w1 ⟨rfl,x1⟩
 have Z1:=hide x1
 clear K1 x1
 have KS1:=hide (unhide KS w1)
 clear KS
 go_wp2_with fail
 go_at_call 7
 refine (unhide KS1).mono ?_
 rintro e w2 ⟨rfl,hb2⟩
 have HK:=hide (Kp.start w2 p)
 have Z2:Hid (Below w.heap.size w (w2.alloc (.cells (Pc p) 24))):=by
  have b1:=(unhide Z1).trans ((unhide hb2).mono (unhide Z1).size)
  exact b1.alloc b1.size _
 have P2:=hide (unhide PP w2)
 clear KS1 hb2 Z1 PP
 go_upto_region 4 with fail
 change Code.wp _ _ _ _ (w2.alloc (.cells (Pc p) 24))
 obtain ⟨f0,f1,f2,f3,f4,f5,f6,f7,f8,f9,f10,f11⟩:=(unhide HK).cells
 clear HK
 generalize w2.alloc (.cells (Pc p) 24)=w3 at *
 generalize w2.heap.size=gp at *
 have K4:=hide (unhide KF w3 (unhide Z2) gp (unhide P2))
 clear KF Z2 P2
 go_wp2_with fail
 go_at_call 8
 refine (unhide K4).mono ?_
 rintro e w4 ⟨g,a,rfl,X4⟩
 have K5:=hide (a_begin (unhide X4))
 clear K4 X4 f0 f1 f2 f3 f4 f5 f6 f7 f8 f9 f10 f11
 go_wp2_with fail
 go_at_call 9
 refine (unhide K5).mono ?_
 rintro e w5 ⟨o,rfl,X5⟩
 clear K5
 go_upto_region 7 with fail
 go_loopw [10] (fun iv wr=>∃ k:Nat,k ≤ 10∧iv=.int .i64 (k:Int)∧Hid (Ap w g a o [(gp,plA)] 1 (bt 0) (fun j=>decide (j < 2)) (fun _=>false) (bt k) (fun j=>decide (j < 2)) (fun _=>false) wr)) (fun iv _=>10 - (intOf iv).toNat)
 case atStart=>exact ⟨0,by omega,rfl,X5⟩
 case round =>
  obtain ⟨k,hk,rfl,XK⟩:=hrel
  clear X5
  by_cases hk2:k < 10
  ·have hkI:(k:Int) < 10:=by omega
   have K6:=hide (t_take k (by omega) (unhide XK) h0)
   clear XK hmk KO
   go_wp2_with fail
   go_at_call 12
   refine (unhide K6).mono ?_
   rintro e w6 ⟨rfl,X6⟩
   obtain ⟨q1,q2,q11⟩:=plA_cells ((unhide X6).row (x:=(gp,plA)) (by simp))
   clear K6
   go_wp2_with fail
   go_roundw
   case rel=>exact ⟨k + 1,by omega,by go_num,X6⟩
   case measure=>simp [intOf]; omega
  ·obtain rfl:k=10:=by omega
   have K6:=hide (a_end (unhide XK))
   clear XK hk hk2
   go_wp2_with fail
   go_at_call 13
   refine (unhide K6).mono ?_
   rintro e w6 ⟨rfl,X6⟩
   have K7:=hide (a_settle (unhide X6) (by omega))
   clear K6 X6
   go_wp2_with fail
   go_at_call 19
   refine (unhide K7).mono ?_
   rintro e w7 ⟨rfl,X7⟩
   obtain ⟨q1,q2,q11⟩:=plA_cells ((unhide X7).row (x:=(gp,plA)) (by simp))
   have hgf:w.heap.size ≤ w7.heap.size∧∀ x ∈ (a,alO g aP) :: [(gp,plA)],x.1 ≠ w7.heap.size:=by
    obtain ⟨V,l,_⟩:=unhide X7
    exact ⟨l.bel.size,fun x hx e=>by have:=(Array.getElem?_eq_some_iff.1 (l.row hx)).1; omega⟩
   have HG:=hide hgf
   have X8:=hide ((unhide X7).push (u':=w7.alloc (.cells (madeCells #[.bool false] 40) 4)) ((Below.refl _ _).alloc (Nat.le_refl _) _) (Nat.le_refl _) (World.alloc_heap_new _ _))
   clear K7 X7 hgf
   go_upto_region 17 with fail
   generalize w7.heap.size=gf at *
   generalize w7.alloc (.cells (madeCells #[.bool false] 40) 4)=w8 at *
   rw [boA_none] at X8
   have K9:=hide (a_begin (unhide X8))
   clear hmk q1 q2 q11 X8
   go_wp2_with fail
   go_at_call 9
   refine (unhide K9).mono ?_
   rintro e w9 ⟨o,rfl,X9⟩
   clear K9
   go_upto_region 20 with fail
   go_loopw [16,17] (fun nv iv wr=>∃ (k c:Nat) (φ:Nat→Bool),k ≤ 20∧c ≤ k∧nv=.int .i64 (c:Int)∧iv=.int .i64 (k:Int)∧Hid (c=nf φ∧(∀ j,24 ≤ j→φ j=false)∧Ap w g a o [(gf,boO φ),(gp,plA)] 10 (bt 10) (fun j=>decide (j < 2)) (fun _=>false) (bk φ 10) (fun j=>decide (j < 2)) φ wr)) (fun _ iv _=>20 - (intOf iv).toNat)
   case atStart=>exact ⟨0,0,(fun _=>false),by omega,by omega,rfl,rfl,rfl,fun _ _=>rfl,by rw [bk_none]; exact unhide X9⟩
   case round =>
    obtain ⟨k,c,φ,hk,hc,rfl,rfl,XK⟩:=hrel
    clear X9
    by_cases hin:k < len0∧k < 20
    ·obtain ⟨hin1,hin2⟩:=hin
     have hi1:(k:Int) < (len0:Int):=by omega
     have hi2:(k:Int) < 20:=by omega
     obtain ⟨q1,q2,q11⟩:=plA_cells ((unhide XK).2.2.row (x:=(gp,plA)) (by simp))
     go_upto_region 22 with fail
     go_cut [18] (fun cv wx=>∃ zb:Nat,zb < 8∧cv=.int .i64 (16 + (zb:Int))∧∃ nq,wr.drewN nq=wx)
     case first=>as_aux_lemma =>
      obtain ⟨b2,off2,z,rfl,CZ⟩:=unhide KO k hin1
      have cz:=unhide CZ wr (unhide XK).2.2.bel
      have hz:(z % 8).toNat < 8:=by omega
      have ha7:bits .and .i64 z 7=(((z % 8).toNat:Nat):Int):=by rw [kand7]; omega
      generalize (z % 8).toNat=zb at *
      have hzI:(zb:Int) < 8:=by omega
      clear XK KO CZ HG
      go_quiet (fail)
      go_wp2_with fail
      go_meet
      exact ⟨zb,hz,rfl,_,rfl⟩
     obtain ⟨zb,hz,rfl,nq,rfl⟩:=hcut
     have XQ:Hid (c=nf φ∧(∀ j,24 ≤ j→φ j=false)∧Ap w g a o [(gf,boO φ),(gp,plA)] 10 (bt 10) (fun j=>decide (j < 2)) (fun _=>false) (bk φ 10) (fun j=>decide (j < 2)) φ (wr.drewN nq)):=⟨(unhide XK).1,(unhide XK).2.1,(unhide XK).2.2.later (below_drewN (Below.refl _ _) nq)⟩
     clear XK q1 q2 q11 KO
     generalize wr.drewN nq=w10 at *
     generalize hbI:(16:Int) + (zb:Int)=bI at *
     obtain ⟨bn,rfl⟩:∃ bn:Nat,bI=(bn:Int):=⟨16 + zb,by omega⟩
     have hbn1:16 ≤ bn:=by omega
     have hbn2:bn < 24:=by omega
     have hbn3:bn < 40:=by omega
     have hbnI:(bn:Int) < 40:=by omega
     clear hbI hz hi1 hi2
     have HN:=hide (unhide XQ).1
     have HF:=hide (unhide XQ).2.1
     by_cases hf:φ bn=false
     ·have K11:=hide (k_free bn hbn1 hbn2 (unhide XQ).2.2 hf)
      clear XQ
      go_wp2_with fail
      go_at_call 16
      refine (unhide K11).mono ?_
      rintro e w11 ⟨rfl,X11⟩
      have hrow:=(unhide X11).row (x:=(gf,boO φ)) (by simp)
      obtain ⟨cb,fb⟩:=boO_cell hrow hbn3
      rw [hf] at cb
      have X12:=hide ((unhide X11).set (unhide HG).1 h0 (unhide HG).2 bn (.bool true) (boO_set hrow hbn3))
      have HNF:=hide (nf_upd hf hbn1 hbn2)
      have HF2:=hide (updB_far (unhide HF) hbn2)
      clear K11 X11 hrow HF
      go_wp2_with fail
      go_roundw
      case rel=>exact ⟨k + 1,c + 1,updB φ bn true,by omega,by omega,by go_num,by go_num,by rw [unhide HNF,unhide HN],unhide HF2,unhide X12⟩
      case measure=>simp [intOf]; omega
     ·have hf':φ bn=true:=by simpa using hf
      have K11:=hide (k_again bn hbn1 hbn2 (unhide XQ).2.2 hf')
      clear XQ hf
      go_wp2_with fail
      go_at_call 16
      refine (unhide K11).mono ?_
      rintro e w11 ⟨rfl,X11⟩
      obtain ⟨cb,fb⟩:=boO_cell ((unhide X11).row (x:=(gf,boO φ)) (by simp)) hbn3
      rw [hf'] at cb
      clear K11
      go_wp2_with fail
      go_roundw
      case rel=>exact ⟨k + 1,c,φ,by omega,by omega,by go_num,by go_num,unhide HN,unhide HF,unhide X11⟩
      case measure=>simp [intOf]; omega
    ·have HN:=hide (unhide XK).1
     have HF:=hide (unhide XK).2.1
     have K10:=hide (a_end (unhide XK).2.2)
     have hcI:(c:Int) ≤ 20:=by omega
     clear XK KO
     go_upto_region 20 with fail
     go_cut [85] (fun cv wx=>cv=.bool false∧wr=wx)
     case first=>as_aux_lemma =>
      by_cases hl:k < len0
      ·have hi1:(k:Int) < (len0:Int):=by omega
       have hi2:¬ (k:Int) < 20:=by omega
       clear K10 HF hin HN
       go_wp2_with fail
       go_meet
       refine ⟨?_,rfl⟩
       simp
      ·have hi1:¬ (k:Int) < (len0:Int):=by omega
       clear K10 HF hin HN
       go_wp2_with fail
       go_meet
       refine ⟨?_,rfl⟩
       simp
     obtain ⟨rfl,rfl⟩:=hcut
     go_wp2_with fail
     go_at_call 13
     refine (unhide K10).mono ?_
     rintro e w10 ⟨rfl,X10⟩
     have K11:=hide (a_begin (unhide X10))
     clear K10 X10
     go_wp2_with fail
     go_at_call 9
     refine (unhide K11).mono ?_
     rintro e w11 ⟨o,rfl,X11⟩
     clear K11
     go_upto_region 32 with fail
     go_loopw [20] (fun iv wr=>∃ j:Nat,j ≤ 14∧iv=.int .i64 (j:Int)∧Hid (Ap w g a o [(gf,boO φ),(gp,plA)] 10 (bk φ 10) (fun j=>decide (j < 2)) φ (bk φ (10 + j)) (fun j=>decide (j < 2)) φ wr)) (fun iv _=>14 - (intOf iv).toNat)
     case atStart=>exact ⟨0,by omega,rfl,X11⟩
     case round =>
      obtain ⟨j,hj,rfl,XJ⟩:=hrel
      clear X11
      obtain ⟨q1,q2,q11⟩:=plA_cells ((unhide XJ).row (x:=(gp,plA)) (by simp))
      by_cases hj2:j < 14
      ·have hjI:(j:Int) < 14:=by omega
       obtain ⟨bn,hbn⟩:∃ bn,bn=26 + j:=⟨_,rfl⟩
       have k12:=k_take (10 + j) (by omega) (by omega) (unhide HF) (unhide XJ) h0
       rw [show (16:Int) + ((10 + j:Nat):Int)=(bn:Int) by omega] at k12
       have K12:=hide k12
       have hbn3:bn < 40:=by omega
       have hbnI:(bn:Int) < 40:=by omega
       have hf:=unhide HF bn (by omega)
       clear XJ k12 hbn
       go_wp2_with fail
       go_at_call 12
       refine (unhide K12).mono ?_
       rintro e w12 ⟨rfl,X12⟩
       obtain ⟨cb,fb⟩:=boO_cell ((unhide X12).row (x:=(gf,boO φ)) (by simp)) hbn3
       rw [hf] at cb
       clear K12 q1 q2 q11
       go_wp2_with fail
       go_roundw
       case rel=>exact ⟨j + 1,by omega,by go_num,X12⟩
       case measure=>simp [intOf]; omega
      ·obtain rfl:j=14:=by omega
       have K12:=hide (t_none (unhide XJ) (fbk_bk (k:=10 + 14) (by omega) (by omega) (unhide HF)) h0)
       clear XJ hj hj2
       go_wp2_with fail
       go_at_call 12
       refine (unhide K12).mono ?_
       rintro e w12 ⟨rfl,X12⟩
       have K13:=hide (a_abort (unhide X12))
       clear K12 X12 q1 q2 q11
       go_wp2_with fail
       go_at_call 14
       refine (unhide K13).mono ?_
       rintro e w13 ⟨rfl,X13⟩
       clear K13
       go_upto_region 41 with fail
       cases st with
       | true =>
        have K14:=hide (a_settle (unhide X13) (by omega))
        clear X13
        go_wp2_with fail
        go_at_call 19
        refine (unhide K14).mono ?_
        rintro e w14 ⟨rfl,X14⟩
        have K15:=hide (a_begin (unhide X14))
        clear K14 X14
        go_wp2_with fail
        go_at_call 9
        refine (unhide K15).mono ?_
        rintro e w15 ⟨o3,rfl,X15⟩
        have K16:=hide (a_free (unhide X15) h0)
        rw [nbk_bk,← unhide HN] at K16
        clear K15 X15
        go_wp2_with fail
        go_at_call 10
        refine (unhide K16).mono ?_
        rintro e w16 ⟨⟨x,y,rfl,r1,r2⟩,X16⟩
        have o1:=ord_eq r1 (rd_of_int (14 + (c:Int)) (by omega)) (by omega)
        obtain ⟨q1,q2,q11⟩:=plA_cells ((unhide X16).row (x:=(gp,plA)) (by simp))
        have Z:=hide (unhide X16).bel
        clear K16 X16 r1 r2 HF HG
        go_wp2_with fail
        go_ret
        exact ⟨rfl,unhide Z⟩
       | false =>
        have K14:=hide (a_commit (unhide X13) (by omega))
        clear X13
        go_wp2_with fail
        go_at_call 20
        refine (unhide K14).mono ?_
        rintro e w14 ⟨rfl,X14⟩
        have K15:=hide (a_begin (unhide X14))
        clear K14 X14
        go_wp2_with fail
        go_at_call 9
        refine (unhide K15).mono ?_
        rintro e w15 ⟨o3,rfl,X15⟩
        have K16:=hide (a_free (unhide X15) h0)
        rw [nbk_bk,← unhide HN] at K16
        clear K15 X15
        go_wp2_with fail
        go_at_call 10
        refine (unhide K16).mono ?_
        rintro e w16 ⟨⟨x,y,rfl,r1,r2⟩,X16⟩
        have o1:=ord_eq r1 (rd_of_int (14 + (c:Int)) (by omega)) (by omega)
        obtain ⟨q1,q2,q11⟩:=plA_cells ((unhide X16).row (x:=(gp,plA)) (by simp))
        have Z:=hide (unhide X16).bel
        clear K16 X16 r1 r2 HF HG
        go_wp2_with fail
        go_ret
        exact ⟨rfl,unhide Z⟩

end Go.Proofs.YtdfanhjnkjdngabGreatDoor
