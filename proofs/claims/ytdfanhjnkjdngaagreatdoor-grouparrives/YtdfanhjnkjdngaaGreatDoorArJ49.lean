/- Joined: OReads, OArrives. -/
import Derived.Test.YtdfanhjnkjdngaaGreatDoorArJ47
import Derived.Test.YtdfanhjnkjdngaaGreatDoorArOOpenO
import Derived.Deep.Cut
import Derived.Deep.DeepCutAuto
import Derived.Test.YtdfanhjnkjdngaaGreatDoorArJ48
/- GroupReads' walk. -/
namespace Go.Proofs.YtdfanhjnkjdngaaGreatDoor
set_option maxRecDepth 100000
set_option maxHeartbeats 8000000
open Go.RowKit Go.Shelf Go.Maps
set_option linter.unusedVariables false

def plO:Obj:=.cells (Pc sP) 25

def opO (kd n x:Int) (pa:Option Addr) (pl pc:Nat):Obj:=.cells #[.int .i64 kd,.int .i64 n,.int .u8 x,.slice pa pl pc] 71

theorem opO_cells {u:World} {g:Nat} {kd n x:Int} {pa:Option Addr} {pl pc:Nat} (h:u.heap[g]?=some (opO kd n x pa pl pc)):u.cell? ⟨g,0,none⟩=some (.int .i64 kd)∧u.cell? ⟨g,1,none⟩=some (.int .i64 n)∧u.cell? ⟨g,2,none⟩=some (.int .u8 x)∧u.cell? ⟨g,3,none⟩=some (.slice pa pl pc):=by
 have B:Bl u g #[.int .i64 kd,.int .i64 n,.int .u8 x,.slice pa pl pc] 71:=h
 exact ⟨B.cell 0 _ rfl,B.cell 1 _ rfl,B.cell 2 _ rfl,B.cell 3 _ rfl⟩

theorem plO_cells {u:World} {g:Nat} (h:u.heap[g]?=some plO):u.cell? ⟨g,1,none⟩=some (.int .i64 60)∧u.cell? ⟨g,11,none⟩=some (.int .i64 16):=by
 have B:Bl u g (Pc sP) 25:=h
 have e:∀ k,sP k=planOf 64 60 6 9 k:=fun k=>by unfold sP; rw [makeP_ok sP_make]
 have c1:=B.cell 1 (.int .i64 (sP 1)) rfl
 have c2:=B.cell 11 (.int .i64 (sP 11)) rfl
 rw [e] at c1 c2
 exact ⟨c1,c2⟩

end Go.Proofs.YtdfanhjnkjdngaaGreatDoor

/- GroupArrives' walk (written by tools/gen_oarr.py). -/
namespace Go.Proofs.YtdfanhjnkjdngaaGreatDoor
set_option maxRecDepth 100000
set_option maxHeartbeats 8000000
open Go.RowKit Go.Shelf Go.Maps
set_option linter.unusedVariables false

theorem rand15 (x:Int):bits .and .i64 x 15=x % 16:=kand_mask x 4 (by omega)

theorem garr_walk (a0:Option Addr) (len0 cap0:Nat) (out:Bool) (a2:Option Addr) (len2 cap2:Nat) (z2:List Int) (a3:Option Addr) (len3 cap3:Nat) (z3:List Int) (w:World) (hT:Tab w) (h0s:OpsAt w a0 len0) (h2:IArg w a2 len2 cap2 z2) (h3:IArg w a3 len3 cap3 z3) :
  Calls Tryz.prog 6 #[.slice a0 len0 cap0,.bool out,.slice a2 len2 cap2,.slice a3 len3 cap3] w fun e w'=>e=.returned (.bool true)∧Below w.heap.size w w':=by
 have K1:=hide (gwakes_any w hT)
 have KS:Hid (∀ u,Calls Tryz.prog 35 #[] u fun e w'=>e=.returned (Pv sP)∧Hid (Below u.heap.size u w')):=fun u=>gsmall_any u
 have KF:Hid (∀ u,Below w.heap.size w u→∀ gp,u.heap[gp]?=some plO→Calls Tryz.prog 36 #[Pv sP,.int .i64 3,.slice a3 len3 cap3] u fun e w'=>∃ dg g,e=.returned (.tuple #[.pointer (some ⟨dg,0,none⟩),.pointer (some ⟨g,0,none⟩)])∧w'.cell? ⟨gp,1,none⟩=some (.int .i64 60)∧Hid (ASt w g dg out [(gp,plO)] 1 (fun _=>0) w'.heap.size 60 none 0 0 [] (w'.alloc (.cells (madeCells #[.int .u8 0] 60) 5)))):=fun u hu gp hp=>by
  refine (gfresh_any u (hT.kept (hu.block 0 hT.lt)) 3 (by omega) a3 len3 cap3 z3 (h3.1.later hu) h3.2.1 h3.2.2.2).mono ?_
  rintro e w' ⟨dg,g,rfl,Y⟩
  have hlt:gp < u.heap.size:=(Array.getElem?_eq_some_iff.1 hp).1
  exact ⟨dg,g,rfl,(plO_cells (((unhide Y).bel.block gp hlt).trans hp)).1,b_start out hT.lt hu hp (unhide Y) (by omega)⟩
 have KO:Hid (∀ k,k < len0→∃ b off kd n x pa pl pc,a0=some ⟨b,off,none⟩∧0 ≤ x∧x ≤ 255∧pl ≤ pc∧pc ≤ 9223372036854775807∧Hid (∀ u,Below w.heap.size w u→u.cell? ⟨b,off + k * 4,none⟩=some (.int .i64 kd)∧u.cell? ⟨b,off + k * 4 + 1,none⟩=some (.int .i64 n)∧u.cell? ⟨b,off + k * 4 + 2,none⟩=some (.int .u8 x)∧u.cell? ⟨b,off + k * 4 + 3,none⟩=some (.slice pa pl pc)) ∧
   Hid (∀ j,j < pl→∃ b2 off2 z,pa=some ⟨b2,off2,none⟩∧Hid (∀ u,Below w.heap.size w u→u.cell? ⟨b2,off2 + j,none⟩=some (.int .i64 z)))):=by
  intro k hk
  obtain ⟨b,off,e,hbl,ho⟩:=h0s.2 (by omega)
  obtain ⟨o,ho⟩:=ho k hk
  refine ⟨b,off,o.kind,o.n,o.x,o.pa,o.pl,o.pc,e,ho.xb.1,ho.xb.2,ho.pb.1,ho.pb.2,fun u hu=>⟨(hu.cell (p:=⟨b,off + k * 4,none⟩) hbl).trans ho.c0,(hu.cell (p:=⟨b,off + k * 4 + 1,none⟩) hbl).trans ho.c1,(hu.cell (p:=⟨b,off + k * 4 + 2,none⟩) hbl).trans ho.c2,(hu.cell (p:=⟨b,off + k * 4 + 3,none⟩) hbl).trans ho.c3⟩,fun j hj=>?_⟩
  obtain ⟨b2,off2,e2,hcell⟩:=ho.ints.2 (by omega)
  exact ⟨b2,off2,_,e2,fun u hu=>(hu.cell (p:=⟨b2,off2 + j,none⟩) (ho.ints.lt (by omega) e2)).trans (hcell j hj)⟩
 have KCr:Hid (∀ lg dg gp H gn u,FS w lg dg [(gp,plO)] H gn 60 u→Calls Tryz.prog 21 #[.pointer (some ⟨dg,0,none⟩),.slice a2 len2 cap2] u fun e u'=>e=.returned (.int .i64 0)∧Hid (FS w lg dg [(gp,plO)] H gn 60 u')):=fun lg dg gp H gn u h=>f_crash h h2.1 h2.2.2.1
 have KOp:Hid (∀ lg dg gp H gn u,FS w lg dg [(gp,plO)] H gn 60 u→Calls Tryz.prog 23 #[.pointer (some ⟨dg,0,none⟩),Pv sP] u fun e u'=>∃ gl,e=.returned (.tuple #[.pointer (some ⟨gl,0,none⟩),.int .i64 0])∧Hid (FS w gl dg [(gp,plO)] H gn 60 u')):=fun lg dg gp H gn u h=>f_open h
 have PC:Hid (∀ gp (u:World),u.heap[gp]?=some plO→u.cell? ⟨gp,0,none⟩=some (.int .i64 (sP 0))∧u.cell? ⟨gp,1,none⟩=some (.int .i64 (sP 1))∧u.cell? ⟨gp,2,none⟩=some (.int .i64 (sP 2))∧u.cell? ⟨gp,3,none⟩=some (.int .i64 (sP 3))∧u.cell? ⟨gp,4,none⟩=some (.int .i64 (sP 4))∧u.cell? ⟨gp,5,none⟩=some (.int .i64 (sP 5))∧u.cell? ⟨gp,6,none⟩=some (.int .i64 (sP 6))∧u.cell? ⟨gp,7,none⟩=some (.int .i64 (sP 7))∧u.cell? ⟨gp,8,none⟩=some (.int .i64 (sP 8))∧u.cell? ⟨gp,9,none⟩=some (.int .i64 (sP 9))∧u.cell? ⟨gp,10,none⟩=some (.int .i64 (sP 10))∧u.cell? ⟨gp,11,none⟩=some (.int .i64 (sP 11))):=fun gp u h=>by
  have B:Bl u gp (Pc sP) 25:=h
  exact ⟨B.cell 0 _ rfl,B.cell 1 _ rfl,B.cell 2 _ rfl,B.cell 3 _ rfl,B.cell 4 _ rfl,B.cell 5 _ rfl,B.cell 6 _ rfl,B.cell 7 _ rfl,B.cell 8 _ rfl,B.cell 9 _ rfl,B.cell 10 _ rfl,B.cell 11 _ rfl⟩
 have hl2:=h0s.1
 have h0:=hT.lt
 have hmk:∀ w:World,(Instr.makeSlice 50 (.int .i64 60) (.int .i64 60)).run Tryz.prog w=.ok (.slice (some ⟨w.heap.size,0,none⟩) 60 60) (w.alloc (.cells (madeCells #[.int .u8 0] 60) 5)):=run_make_row' (P:=Tryz.prog) 50 5 (.int .u8 0) 1 Tryz.underlying50 info5 rfl .i64 .i64 60 (by omega) (by omega)
 have PP:Hid (∀ u:World,(u.alloc (.cells (Pc sP) 25)).heap[u.heap.size]?=some plO):=fun u=>World.alloc_heap_new _ _
 clear h0s h2 h3 hT
 generalize hsp:sP=p at *
 clear hsp
 go_enter Tryz.func6,Tryz.ntmps6
 go_wp2_with fail
 go_at_call 34
 refine (unhide K1).mono ?_
 rintro e w1 ⟨rfl,x1⟩
 have Z1:=hide x1
 clear K1 x1
 have KS1:=hide (unhide KS w1)
 clear KS
 go_wp2_with fail
 go_at_call 35
 refine (unhide KS1).mono ?_
 rintro e w2 ⟨rfl,hb2⟩
 have HK:=hide (Kp.start w2 p)
 have Z2:=hide ((unhide Z1).trans ((unhide hb2).mono (unhide Z1).size))
 have Z3:=hide ((unhide Z2).trans ((unhide HK).2.mono (unhide Z2).size))
 have KF1:=hide (unhide KF _ (unhide Z3) _ (unhide PP w2))
 clear KS1 KF hb2 Z1 Z2 PP
 go_upto_region 4 with fail
 change Code.wp _ _ _ _ (w2.alloc (.cells (Pc p) 25))
 generalize w2.alloc (.cells (Pc p) 25)=w3 at *
 obtain ⟨f0,f1,f2,f3,f4,f5,f6,f7,f8,f9,f10,f11⟩:=(unhide HK).cells
 generalize w2.heap.size=gp at *
 go_wp2_with fail
 go_at_call 36
 refine (unhide KF1).mono ?_
 rintro e y0 ⟨dg,g,rfl,q1,X0⟩
 clear KF1 HK Z3 f0 f1 f2 f3 f4 f5 f6 f7 f8 f9 f10 f11
 go_upto_region 8 with fail
 generalize y0.heap.size=gn at *
 generalize y0.alloc (.cells (madeCells #[.int .u8 0] 60) 5)=v0 at *
 clear hmk q1
 go_loopw [13,14] (fun dv i wr=>∃ (k dl dc:Nat) (da:Option Addr) (ds:List Int) (H:Nat→Int),k ≤ 20∧i=.int .i64 (k:Int)∧dv=.slice da dl dc∧dl ≤ 4 * k∧Hid (ASt w g dg out [(gp,plO)] (1 + 9 * k) H gn 60 da dl dc ds wr)) (fun _ i _=>20 - (intOf i).toNat)
 case atStart=>exact ⟨0,0,0,none,[],_,by omega,rfl,rfl,by omega,X0⟩
 case round =>
  obtain ⟨k,dl,dc,da,ds,H,hk,rfl,rfl,hdl,XR⟩:=hrel
  clear X0
  by_cases hlt:k < len0
  ·by_cases h20:k < 20
   ·obtain ⟨b,off,kd,n,x,pa,pl,pc,rfl,hx0,hx1,hpl,hpc,CO,CL⟩:=unhide KO k hlt
    obtain ⟨o0,o1,o2,o3⟩:=unhide CO wr (unhide XR).bel
    have XS:=hide ((unhide XR).add (opO kd n x pa pl pc))
    clear KO CO XR KOp KCr PC
    go_upto_region 11 with fail
    change Code.wp _ _ _ _ (wr.alloc (opO kd n x pa pl pc))
    generalize wr.alloc (opO kd n x pa pl pc)=w5 at *
    generalize wr.heap.size=gs at *
    clear o0 o1 o2 o3
    have K5:=hide (b_begin (unhide XS))
    clear XS
    go_wp2_with fail
    go_at_call 38
    refine (unhide K5).mono ?_
    rintro e y6 ⟨o,rfl,XP⟩
    clear K5
    go_upto_region 15 with fail
    go_loopw [13,17,18] (fun dv ee i wr=>∃ (m kk dl dc:Nat) (da:Option Addr) (ds:List Int) (H2:Nat→Int),m ≤ 4∧kk ≤ m∧i=.int .i64 (m:Int)∧ee=.int .i64 0∧dv=.slice da dl dc∧dl ≤ 4 * k + m∧Hid (APt w g dg o out [(gs,opO kd n x pa pl pc),(gp,plO)] (1 + 9 * k) H gn 60 H2 kk da dl dc ds wr)) (fun _ _ i _=>4 - (intOf i).toNat)
    case atStart=>exact ⟨0,0,dl,dc,da,ds,H,by omega,by omega,rfl,rfl,rfl,by omega,XP⟩
    case round =>
     clear XP
     obtain ⟨m,kk,dl,dc,da,ds,H2,hm4,hkk,rfl,rfl,rfl,hdl,XQ⟩:=hrel
     obtain ⟨s0,s1,s2,s3⟩:=opO_cells ((unhide XQ).row (List.mem_cons_self ..))
     obtain ⟨q1,q11⟩:=plO_cells ((unhide XQ).row (List.mem_cons_of_mem _ (List.mem_cons_self ..)))
     by_cases hmp:m < pl
     ·by_cases hm:m < 4
      ·go_upto_region 17 with fail
       go_cut [19] (fun c wx=>∃ zb:Nat,zb < 16∧c=.int .i64 (16 + 2 * (zb:Int))∧∃ nq,wr.drewN nq=wx)
       case first=>as_aux_lemma =>
        obtain ⟨b2,off2,z,rfl,CZ⟩:=unhide CL m hmp
        have cz:=unhide CZ wr (unhide XQ).bel
        have hz:(z % 16).toNat < 16:=by omega
        have ha15:bits .and .i64 z 15=(((z % 16).toNat:Nat):Int):=by rw [rand15]; omega
        generalize (z % 16).toNat=zb at *
        clear XQ CL CZ
        go_quiet (fail)
        go_wp2_with fail
        go_meet
        exact ⟨zb,hz,rfl,_,rfl⟩
       obtain ⟨zb,hz,rfl,nq,rfl⟩:=hcut
       have XQ1:=hide ((unhide XQ).later (below_drewN (Below.refl _ _) nq))
       clear XQ s0 s1 s2 s3 q1 q11 CL
       generalize wr.drewN nq=w6 at *
       generalize hbI:(16:Int) + 2 * (zb:Int)=bI at *
       obtain ⟨bn,rfl⟩:∃ bn:Nat,bI=(bn:Int):=⟨16 + 2 * zb,by omega⟩
       have hbn:16 ≤ bn∧bn < 59∧bn % 2=0:=by omega
       have hbn2:bn < 60:=by omega
       have hbn3:bn + 1 < 60:=by omega
       clear hbI hz
       obtain ⟨s0,s1,s2,s3⟩:=opO_cells ((unhide XQ1).row (List.mem_cons_self ..))
       go_upto_if 85 with fail
       go_cut [17] (fun c wx=>c=.int .i64 0∧Hid (∃ (kk':Nat) (H2':Nat→Int),kk' ≤ m + 1∧APt w g dg o out [(gs,opO kd n x pa pl pc),(gp,plO)] (1 + 9 * k) H gn 60 H2' kk' da dl dc ds wx))
       case first=>as_aux_lemma =>
        cases out with
        | false =>
         have K7:=hide (b_write (unhide XQ1) (b:=bn) (by omega) (by simp [ev]; omega) (v:=(x + (m:Int)) % 256) (by omega))
         clear XQ1
         go_wp2_with fail
         go_at_call 44
         refine (unhide K7).mono ?_
         rintro e y8 ⟨q,rfl,K8⟩
         clear K7
         go_wp2_with fail
         go_at_call 43
         refine (unhide K8).mono ?_
         rintro e y9 ⟨rfl,⟨v1,cv⟩,fv,RW,X9⟩
         clear K8 s0 s1 s2 s3
         obtain ⟨s0,s1,s2,s3⟩:=opO_cells (unhide RW _ (List.mem_cons_self ..))
         clear RW
         go_wp2_with fail
         go_meet
         exact ⟨rfl,kk + 1,_,by omega,unhide X9⟩
        | true =>
         go_wp2_with fail
         go_meet
         exact ⟨rfl,kk,H2,by omega,unhide XQ1⟩
       obtain ⟨rfl,X9⟩:=hcut
       obtain ⟨kk2,H4,hkk2,x9⟩:=unhide X9
       clear XQ1 s0 s1 s2 s3
       obtain ⟨s0,s1,s2,s3⟩:=opO_cells (x9.row (List.mem_cons_self ..))
       have x10:=b_data x9 (b:=bn + 1) (by omega) (by simp [ev]; omega) (v:=(x + (m:Int)) % 256) (by omega) (show dl ≤ 10000 by omega)
       rw [show ((bn + 1:Nat):Int)=(bn:Int) + 1 by omega] at x10
       have K7:=hide x10
       clear X9 x9 x10
       go_wp2_with fail
       go_at_call 44
       refine (unhide K7).mono ?_
       rintro e y8 ⟨q,rfl,K8⟩
       clear K7
       go_wp2_with fail
       go_at_call 45
       refine (unhide K8).mono ?_
       rintro e y9 ⟨rfl,⟨v1,cv⟩,fv,RW,X10⟩
       clear K8 s0 s1 s2 s3
       obtain ⟨s0,s1,s2,s3⟩:=opO_cells (unhide RW _ (List.mem_cons_self ..))
       obtain ⟨a',c',y11,R1,X11⟩:=unhide X10
       clear RW X10
       go_upto_region 23 with fail
       generalize y9.setCell ⟨gn,bn + 1,none⟩ (.int .u8 ((x + (m:Int)) % 256))=y10 at *
       clear s0 s1 s2 s3 cv fv
       go_wp2_with (at_builtin; refine wpList_append_run 40 rfl _ _ rfl _ _ _ rfl rfl (unhide R1) ?_; clear R1)
       go_roundw
       case rel=>exact ⟨m + 1,kk2,_,_,_,_,_,by omega,by omega,by go_num,rfl,rfl,by omega,X11⟩
       case measure=>simp [intOf]; omega
      ·have nm:¬ (m:Int) < 4:=by omega
       have K7:=hide (b_end (unhide XQ) (show kk ≤ 4 by omega) (show 1 + 9 * k ≤ 4000 by omega))
       clear XQ
       go_wp2_with fail
       go_at_call 46
       refine (unhide K7).mono ?_
       rintro e y8 ⟨rfl,X8⟩
       clear K7
       have X9:=hide ((unhide X8).drop (show 1 + 9 * k + 9 ≤ 1 + 9 * (k + 1) by omega))
       clear X8
       go_wp2_with fail
       go_roundw
       case rel=>exact ⟨k + 1,_,_,_,_,_,by omega,by go_num,rfl,by omega,X9⟩
       case measure=>simp [intOf]; omega
     ·have nm:¬ (m:Int) < (pl:Int):=by omega
      have K7:=hide (b_end (unhide XQ) (show kk ≤ 4 by omega) (show 1 + 9 * k ≤ 4000 by omega))
      clear XQ
      go_wp2_with fail
      go_at_call 46
      refine (unhide K7).mono ?_
      rintro e y8 ⟨rfl,X8⟩
      clear K7
      have X9:=hide ((unhide X8).drop (show 1 + 9 * k + 9 ≤ 1 + 9 * (k + 1) by omega))
      clear X8
      go_wp2_with fail
      go_roundw
      case rel=>exact ⟨k + 1,_,_,_,_,_,by omega,by go_num,rfl,by omega,X9⟩
      case measure=>simp [intOf]; omega
   ·have n20:¬ (k:Int) < 20:=by omega
    go_upto_if 137 with fail
    go_cut [21] (fun c wx=>c=.int .i64 0∧Hid (∃ lg,FS w lg dg [(gp,plO)] H gn 60 wx))
    case first=>as_aux_lemma =>
     cases out with
     | false =>
      have K7:=hide (f_commit (unhide XR) (by omega))
      clear XR KO KOp KCr PC
      go_wp2_with fail
      go_at_call 47
      refine (unhide K7).mono ?_
      rintro e y8 ⟨rfl,X8⟩
      clear K7
      go_wp2_with fail
      go_meet
      exact ⟨rfl,X8⟩
     | true =>
      have K7:=hide (f_out (unhide XR) (by omega))
      clear XR KO KOp KCr PC
      go_wp2_with fail
      go_at_call 51
      refine (unhide K7).mono ?_
      rintro e y8 ⟨rfl,X8⟩
      clear K7
      go_wp2_with fail
      go_meet
      exact ⟨rfl,X8⟩
    obtain ⟨rfl,X9⟩:=hcut
    obtain ⟨lg,x9⟩:=unhide X9
    have K7:=hide (unhide KCr lg dg gp H gn _ x9)
    clear X9 x9 XR KO KCr
    go_wp2_with fail
    go_at_call 21
    refine (unhide K7).mono ?_
    rintro e y8 ⟨rfl,X8⟩
    clear K7
    have K8:=hide (unhide KOp lg dg gp H gn _ (unhide X8))
    obtain ⟨f0,f1,f2,f3,f4,f5,f6,f7,f8,f9,f10,f11⟩:=unhide PC gp y8 ((unhide X8).row (List.mem_cons_self ..))
    clear X8 KOp PC
    go_wp2_with fail
    go_at_call 23
    refine (unhide K8).mono ?_
    rintro e y9 ⟨gl,rfl,X9⟩
    clear K8 f0 f1 f2 f3 f4 f5 f6 f7 f8 f9 f10 f11
    have K9:=hide (f_apply (unhide X9))
    clear X9
    go_wp2_with fail
    go_at_call 17
    refine (unhide K9).mono ?_
    rintro e y10 ⟨rfl,X10⟩
    clear K9
    obtain ⟨q1,q11⟩:=plO_cells ((unhide X10).row (List.mem_cons_self ..))
    go_upto_region 41 with fail
    go_loopw [23] (fun b wr=>∃ j:Nat,16 ≤ j∧j ≤ 48∧b=.int .i64 (j:Int)∧Hid (FN w gl dg [(gp,plO)] H gn 60 wr)) (fun b _=>48 - (intOf b).toNat)
    case atStart=>exact ⟨16,by omega,by omega,rfl,X10⟩
    case round =>
     obtain ⟨j,j16,j48,rfl,XJ⟩:=hrel
     clear X10 q1 q11
     obtain ⟨q1,q11⟩:=plO_cells ((unhide XJ).row (List.mem_cons_self ..))
     by_cases hj:j < 48
     ·have K7:=hide (f_read (unhide XJ) j16 (show j < 60 by omega))
      have hj60:j < 60:=by omega
      clear XJ
      generalize H j=hv at *
      go_wp2_with fail
      go_at_call 49
      refine (unhide K7).mono ?_
      rintro e z1 ⟨ra,rfl,cv,K8⟩
      clear K7
      go_wp2_with fail
      go_at_call 44
      refine (unhide K8).mono ?_
      rintro e z2 ⟨rq,rfl,K9⟩
      clear K8 cv
      go_wp2_with fail
      go_at_call 50
      refine (unhide K9).mono ?_
      rintro e z3 ⟨rfl,X12⟩
      clear K9
      go_wp2_with fail
      go_roundw
      case rel=>exact ⟨j + 1,by omega,by omega,by go_num,X12⟩
      case measure=>simp [intOf]; omega
     ·have nj:¬ (j:Int) < 48:=by omega
      have XB:=hide (unhide XJ).bel
      clear XJ
      go_wp2_with fail
      go_ret
      exact ⟨rfl,unhide XB⟩
  ·have nl:¬ (k:Int) < (len0:Int):=by omega
   go_upto_if 137 with fail
   go_cut [21] (fun c wx=>c=.int .i64 0∧Hid (∃ lg,FS w lg dg [(gp,plO)] H gn 60 wx))
   case first=>as_aux_lemma =>
    cases out with
    | false =>
     have K7:=hide (f_commit (unhide XR) (by omega))
     clear XR KO KOp KCr PC
     go_wp2_with fail
     go_at_call 47
     refine (unhide K7).mono ?_
     rintro e y8 ⟨rfl,X8⟩
     clear K7
     go_wp2_with fail
     go_meet
     exact ⟨rfl,X8⟩
    | true =>
     have K7:=hide (f_out (unhide XR) (by omega))
     clear XR KO KOp KCr PC
     go_wp2_with fail
     go_at_call 51
     refine (unhide K7).mono ?_
     rintro e y8 ⟨rfl,X8⟩
     clear K7
     go_wp2_with fail
     go_meet
     exact ⟨rfl,X8⟩
   obtain ⟨rfl,X9⟩:=hcut
   obtain ⟨lg,x9⟩:=unhide X9
   have K7:=hide (unhide KCr lg dg gp H gn _ x9)
   clear X9 x9 XR KO KCr
   go_wp2_with fail
   go_at_call 21
   refine (unhide K7).mono ?_
   rintro e y8 ⟨rfl,X8⟩
   clear K7
   have K8:=hide (unhide KOp lg dg gp H gn _ (unhide X8))
   obtain ⟨f0,f1,f2,f3,f4,f5,f6,f7,f8,f9,f10,f11⟩:=unhide PC gp y8 ((unhide X8).row (List.mem_cons_self ..))
   clear X8 KOp PC
   go_wp2_with fail
   go_at_call 23
   refine (unhide K8).mono ?_
   rintro e y9 ⟨gl,rfl,X9⟩
   clear K8 f0 f1 f2 f3 f4 f5 f6 f7 f8 f9 f10 f11
   have K9:=hide (f_apply (unhide X9))
   clear X9
   go_wp2_with fail
   go_at_call 17
   refine (unhide K9).mono ?_
   rintro e y10 ⟨rfl,X10⟩
   clear K9
   obtain ⟨q1,q11⟩:=plO_cells ((unhide X10).row (List.mem_cons_self ..))
   go_upto_region 41 with fail
   go_loopw [23] (fun b wr=>∃ j:Nat,16 ≤ j∧j ≤ 48∧b=.int .i64 (j:Int)∧Hid (FN w gl dg [(gp,plO)] H gn 60 wr)) (fun b _=>48 - (intOf b).toNat)
   case atStart=>exact ⟨16,by omega,by omega,rfl,X10⟩
   case round =>
    obtain ⟨j,j16,j48,rfl,XJ⟩:=hrel
    clear X10 q1 q11
    obtain ⟨q1,q11⟩:=plO_cells ((unhide XJ).row (List.mem_cons_self ..))
    by_cases hj:j < 48
    ·have K7:=hide (f_read (unhide XJ) j16 (show j < 60 by omega))
     have hj60:j < 60:=by omega
     clear XJ
     generalize H j=hv at *
     go_wp2_with fail
     go_at_call 49
     refine (unhide K7).mono ?_
     rintro e z1 ⟨ra,rfl,cv,K8⟩
     clear K7
     go_wp2_with fail
     go_at_call 44
     refine (unhide K8).mono ?_
     rintro e z2 ⟨rq,rfl,K9⟩
     clear K8 cv
     go_wp2_with fail
     go_at_call 50
     refine (unhide K9).mono ?_
     rintro e z3 ⟨rfl,X12⟩
     clear K9
     go_wp2_with fail
     go_roundw
     case rel=>exact ⟨j + 1,by omega,by omega,by go_num,X12⟩
     case measure=>simp [intOf]; omega
    ·have nj:¬ (j:Int) < 48:=by omega
     have XB:=hide (unhide XJ).bel
     clear XJ
     go_wp2_with fail
     go_ret
     exact ⟨rfl,unhide XB⟩

end Go.Proofs.YtdfanhjnkjdngaaGreatDoor

