/- Joined: AFresh, ANew, ABad, ABits, ALayB, AWakes, ABt, ANilM, ANil. -/
import Derived.Test.YtdfanhjnkjdngabGreatDoorAnJ48
import Derived.Test.YtdfanhjnkjdngabGreatDoorAnJ47
import Derived.Test.YtdfanhjnkjdngabGreatDoorAnJ42
import Derived.Test.YtdfanhjnkjdngabGreatDoorAnJ44
import Derived.Test.YtdfanhjnkjdngabGreatDoorAnJ1
import Derived.Deep.DeepCutAuto
/- The law's plan, its device and its group; the blocks that it logs. -/
namespace Go.Proofs.YtdfanhjnkjdngabGreatDoor
set_option maxRecDepth 100000
set_option maxHeartbeats 8000000
open Go.RowKit Go.Shelf Go.Maps
set_option linter.unusedVariables false

theorem aihas_none (w:World):IHas w none 0 []:=⟨rfl,fun h=>absurd h (by omega)⟩

theorem Lo.rebase {w:World} {P:Nat→Int} {G:Geo} {E:Nat→Bool} {g:Nat} {rows:List (Nat × Obj)} {i:Nat} {V:Nat→List Int} {F:Nat→Bool} {u v:World} (h:Lo u P G E g rows i V F v) (hb:Below w.heap.size w u):Lo w P G E g rows i V F v:=by
 obtain ⟨cg,lg,dg,X,C,L,D,S,h,r⟩:=h
 exact ⟨cg,lg,dg,X,C,L,D,S,⟨⟨h.hl.gv,fun k hk=>Nat.le_trans hb.size (h.hl.ge k hk),hb.trans (h.hl.bel.mono hb.size),Nat.le_refl _,h.hl.ro⟩,h.gs,h.sq,h.vl,h.fl,h.vb,h.eb,h.eu⟩,r⟩

theorem Lo.old {w:World} {P:Nat→Int} {G:Geo} {E:Nat→Bool} {g:Nat} {rows:List (Nat × Obj)} {i:Nat} {V:Nat→List Int} {F:Nat→Bool} {u:World} {k:Nat} {ob:Obj} (h:Lo w P G E g rows i V F u) (hk:w.heap[k]?=some ob):Lo w P G E g ((k,ob) :: rows) i V F u:=by
 obtain ⟨cg,lg,dg,X,C,L,D,S,h,r⟩:=h
 have hl:=(Array.getElem?_eq_some_iff.1 hk).1
 exact ⟨cg,lg,dg,X,C,L,D,S,h.add ((h.hl.bel.block k hl).trans hk) (fun hs=>by have:=h.hl.ge k hs; omega),r⟩

def aP:Nat→Int:=makeP 64 40 6 9

def aG:Geo:=⟨64,40,9⟩

theorem aG_ok:aG.Ok:=⟨.inl rfl,by decide,by decide,by decide,by decide⟩

theorem aP_make:makeE 64 40 6 9=0:=by decide

theorem aPG:PG aP aG:=by
 have e:∀ k,aP k=planOf 64 40 6 9 k:=fun k=>by unfold aP; rw [makeP_ok aP_make]
 refine ⟨?_,?_,?_,?_,?_,?_,aG_ok⟩
 ·have e0:aP 0=64:=by rw [e]; rfl
  have e1:aP 1=40:=by rw [e]; rfl
  have e2:aP 2=6:=by rw [e]; rfl
  have e3:aP 3=9:=by rw [e]; rfl
  refine checkE_ok (by rw [e0,e1,e2,e3]; exact aP_make) (fun k hk=>by rw [e0,e1,e2,e3]; rfl)
 ·rw [e]; rfl
 ·rw [e]; rfl
 ·rw [e]; rfl
 ·rw [e]; rfl
 ·rw [e]; rfl

def aD:Dev:=runD (whS aG hd1) (Dev.new 64 40)

theorem aD_run:runE (whS aG hd1) (Dev.new 64 40)=0:=by
 unfold whS
 rw [runE_ok (by decide)]
 show runE [.f] ((Dev.new 64 40).wD 1 (hdB aG hd1))=0
 have:((Dev.new 64 40).wD 1 (hdB aG hd1)).wE=0:=by
  unfold Dev.wD
  rw [if_neg (by decide),if_pos (by show ([]:List (List Int)).length < 400; decide)]
  rfl
 rw [runE_ok this]
 rfl

theorem aD_is:aD=((Dev.new 64 40).burn.add 1 (hdB aG hd1)).burn.flush:=by
 unfold aD whS
 rw [runD_ok (by decide)]
 show runD [.f] ((Dev.new 64 40).wD 1 (hdB aG hd1))=_
 have e1:(Dev.new 64 40).wD 1 (hdB aG hd1)=(Dev.new 64 40).burn.add 1 (hdB aG hd1):=by
  unfold Dev.wD
  rw [if_neg (by decide),if_pos (by show ([]:List (List Int)).length < 400; decide)]
 rw [e1]
 have e2:((Dev.new 64 40).burn.add 1 (hdB aG hd1)).wE=0:=rfl
 rw [runD_ok e2]
 show ((Dev.new 64 40).burn.add 1 (hdB aG hd1)).fD=_
 unfold Dev.fD
 rw [if_neg]
 rintro (h | h)
 ·exact absurd h (by decide)
 ·exact absurd h (by decide)

theorem aD_rd:aD.rd 1=hdB aG hd1:=by
 rw [aD_is]
 rfl

theorem aD_live:aD.dead=false∧aD.blk=64∧aD.n=40∧aD.f=-1∧(∀ i,i < 40→aD.Y i=[]):=by
 rw [aD_is]
 refine ⟨rfl,rfl,rfl,rfl,fun i hi=>?_⟩
 show (if i < 40 then [] else _)=[]
 rw [if_pos hi]

theorem aD_parse:parse aG aD.rd=some sL:=by
 obtain ⟨h1,h2⟩:=hd_back aG_ok (hd1_ok aG_ok)
 rw [parse_ok (by rw [aD_rd,h2]; exact ⟨h1,by decide,by decide⟩),aD_rd,h2]
 have:goP aG aD.rd ((hd1.seq:Nat):Int) hd1.tail (hd1.tail + hd1.used) 600 hd1.tail ((hd1.seq:Nat):Int) (fun _=>none)=some (fun _=>none):=by
  rw [goP,if_pos (show hd1.tail=hd1.tail + hd1.used from rfl)]
  simp
 rw [this]
 rfl

theorem new_aE:newE 64 40=0:=by decide

theorem asmall_any (w:World):Calls Tryz.prog 7 #[] w fun e w'=>e=.returned (Pv aP)∧Below w.heap.size w w':=by
 have K:Hid (∀ u,Calls Tryz.prog 21 #[.int .i64 64,.int .i64 40,.int .i64 6,.int .i64 9] u fun e w'=>e=.returned (.tuple #[Pv aP,.int .i64 0])∧Below u.heap.size u w'):=fun u=>by
  have:=refMake_any 64 40 6 9 u
  rw [aP_make] at this
  exact this
 have HZ:=hide (Bl.new w #[.int .i64 0,.int .i64 0,.int .i64 0,.int .i64 0,.int .i64 0,.int .i64 0,.int .i64 0,.int .i64 0,.int .i64 0,.int .i64 0,.int .i64 0,.int .i64 0] 24)
 have HB:=hide ((Below.refl w.heap.size w).alloc (Nat.le_refl _) (.cells #[.int .i64 0,.int .i64 0,.int .i64 0,.int .i64 0,.int .i64 0,.int .i64 0,.int .i64 0,.int .i64 0,.int .i64 0,.int .i64 0,.int .i64 0,.int .i64 0] 24))
 generalize aP=p at *
 go_enter Tryz.func7,Tryz.ntmps7
 go_wp2_with fail
 go_at_call 21
 refine (unhide K _).mono ?_
 rintro e w1 ⟨rfl,hb⟩
 have HZ2:=hide (((unhide HZ).call hb).alloc (.cells (Pc p) 24))
 have HB2:=hide (((unhide HB).trans (hb.mono (unhide HB).size)).alloc ((unhide HB).trans (hb.mono (unhide HB).size)).size (.cells (Pc p) 24))
 have HN:=hide (Bl.new w1 (Pc p) 24)
 clear HZ HB hb K
 go_upto_region 2 with fail
 change Code.wp _ _ _ _ (w1.alloc (.cells (Pc p) 24))
 generalize w1.alloc (.cells (Pc p) 24)=w2 at *
 generalize w1.heap.size=g1 at *
 have z0:=(unhide HZ2).cell 0 (.int .i64 0) rfl
 have z1:=(unhide HZ2).cell 1 (.int .i64 0) rfl
 have z2:=(unhide HZ2).cell 2 (.int .i64 0) rfl
 have z3:=(unhide HZ2).cell 3 (.int .i64 0) rfl
 have z4:=(unhide HZ2).cell 4 (.int .i64 0) rfl
 have z5:=(unhide HZ2).cell 5 (.int .i64 0) rfl
 have z6:=(unhide HZ2).cell 6 (.int .i64 0) rfl
 have z7:=(unhide HZ2).cell 7 (.int .i64 0) rfl
 have z8:=(unhide HZ2).cell 8 (.int .i64 0) rfl
 have z9:=(unhide HZ2).cell 9 (.int .i64 0) rfl
 have z10:=(unhide HZ2).cell 10 (.int .i64 0) rfl
 have z11:=(unhide HZ2).cell 11 (.int .i64 0) rfl
 have n0:=(unhide HN).cell 0 (.int .i64 (p 0)) rfl
 have n1:=(unhide HN).cell 1 (.int .i64 (p 1)) rfl
 have n2:=(unhide HN).cell 2 (.int .i64 (p 2)) rfl
 have n3:=(unhide HN).cell 3 (.int .i64 (p 3)) rfl
 have n4:=(unhide HN).cell 4 (.int .i64 (p 4)) rfl
 have n5:=(unhide HN).cell 5 (.int .i64 (p 5)) rfl
 have n6:=(unhide HN).cell 6 (.int .i64 (p 6)) rfl
 have n7:=(unhide HN).cell 7 (.int .i64 (p 7)) rfl
 have n8:=(unhide HN).cell 8 (.int .i64 (p 8)) rfl
 have n9:=(unhide HN).cell 9 (.int .i64 (p 9)) rfl
 have n10:=(unhide HN).cell 10 (.int .i64 (p 10)) rfl
 have n11:=(unhide HN).cell 11 (.int .i64 (p 11)) rfl
 have fz:=(unhide HZ2).free
 go_wp2_with fail
 have hW:Below w.heap.size w (setAll w2 w.heap.size 0 [.int .i64 (p 0),.int .i64 (p 1),.int .i64 (p 2),.int .i64 (p 3),.int .i64 (p 4),.int .i64 (p 5),.int .i64 (p 6),.int .i64 (p 7),.int .i64 (p 8),.int .i64 (p 9),.int .i64 (p 10),.int .i64 (p 11)]):=below_setAll (Nat.le_refl _) _ _ _ _ (unhide HB2)
 have hA:=setAll_whole [.int .i64 (p 0),.int .i64 (p 1),.int .i64 (p 2),.int .i64 (p 3),.int .i64 (p 4),.int .i64 (p 5),.int .i64 (p 6),.int .i64 (p 7),.int .i64 (p 8),.int .i64 (p 9),.int .i64 (p 10),.int .i64 (p 11)] _ _ (unhide HZ2) rfl
 change bodyPost _ _ _ _ _ (setAll w2 w.heap.size 0 [.int .i64 (p 0),.int .i64 (p 1),.int .i64 (p 2),.int .i64 (p 3),.int .i64 (p 4),.int .i64 (p 5),.int .i64 (p 6),.int .i64 (p 7),.int .i64 (p 8),.int .i64 (p 9),.int .i64 (p 10),.int .i64 (p 11)])
 generalize setAll w2 w.heap.size 0 [.int .i64 (p 0),.int .i64 (p 1),.int .i64 (p 2),.int .i64 (p 3),.int .i64 (p 4),.int .i64 (p 5),.int .i64 (p 6),.int .i64 (p 7),.int .i64 (p 8),.int .i64 (p 9),.int .i64 (p 10),.int .i64 (p 11)]=wf at *
 refine bodyPost_ret (v:=Pv p) ?_ rfl ⟨rfl,hW⟩
 simp [results,Tryz.results7,go_sem,hA.cell 0 _ rfl,hA.cell 1 _ rfl,hA.cell 2 _ rfl,hA.cell 3 _ rfl,hA.cell 4 _ rfl,hA.cell 5 _ rfl,hA.cell 6 _ rfl,hA.cell 7 _ rfl,hA.cell 8 _ rfl,hA.cell 9 _ rfl,hA.cell 10 _ rfl,hA.cell 11 _ rfl]

theorem aP_at (k:Nat):aP k=planOf 64 40 6 9 k:=by unfold aP; rw [makeP_ok aP_make]

theorem aP_da:(aG.ib:Int) ≤ aP 11∧aP 11 ≤ (aG.n:Int):=by
 rw [aP_at]
 decide

theorem aL_seen:Seen (gmem 0) aG sL:=.inr (.inl (by show 0 < 1; omega))

theorem aL_su:Su aG sL aD:=by
 refine ⟨⟨aD_live.2.2.2.1,aD_live.1⟩,rfl,aD_live.2.2.1,⟨[],?_⟩,fun b z h=>by cases h⟩
 exact ⟨aD_rd,hd1_ok aG_ok,Nat.zero_le _,trivial,rfl,rfl⟩

def aE (j:Nat):Bool:=j == 11 || j == 12

theorem aE_at {j:Nat}:aE j=true ↔ j=11 ∨ j=12:=by simp [aE]

theorem aA:Ab aP aG aE 12 16 6:=by
 refine ⟨by rw [aP_at]; rfl,by rw [aP_at]; rfl,by rw [aP_at]; rfl,rfl,rfl,fun j h1 h2=>?_,by decide,by decide,by decide,by decide,by decide⟩
 cases e:aE j with
 | false=>rfl
 | true=>have:=aE_at.1 e; omega

theorem afresh_chain (w u:World) (hT:Tab w) (hu:Below w.heap.size w u) :
  Calls Tryz.prog 22 #[.int .i64 (aP 0),.int .i64 (aP 1)] u fun e w1=>∃ dg,e=.returned (.tuple #[.pointer (some ⟨dg,0,none⟩),.int .i64 0])∧Below u.heap.size u w1∧Hid (
   Calls Tryz.prog 23 #[.pointer (some ⟨dg,0,none⟩),Pv aP] w1 fun e w2=>e=.returned (.int .i64 0)∧Below u.heap.size u w2∧Hid (
    Calls Tryz.prog 24 #[.pointer (some ⟨dg,0,none⟩),Pv aP] w2 fun e w3=>∃ lg,e=.returned (.tuple #[.pointer (some ⟨lg,0,none⟩),.int .i64 0])∧Below u.heap.size u w3∧Hid (
     Calls Tryz.prog 25 #[.pointer (some ⟨dg,0,none⟩),.int .i64 8,.slice none 0 0] w3 fun e w4=>∃ cg,e=.returned (.tuple #[.pointer (some ⟨cg,0,none⟩),.int .i64 0])∧Below u.heap.size u w4∧Hid (
      Calls Tryz.prog 26 #[.pointer (some ⟨dg,0,none⟩),.pointer (some ⟨lg,0,none⟩),.pointer (some ⟨cg,0,none⟩),Pv aP] w4 fun e w5=>∃ g,e=.returned (.tuple #[.pointer (some ⟨g,0,none⟩),.int .i64 0])∧Below u.heap.size u w5∧Hid (Lo w aP aG aE g [] 1 (fun _=>fl 0) (fun _=>false) w5))))):=by
 have e0:aP 0=((64:Nat):Int):=aPG.p0
 have e1:aP 1=((40:Nat):Int):=aPG.p1
 rw [e0,e1]
 refine (new_ok 64 40 u new_aE).mono ?_
 rintro e w1 ⟨dg,S,rfl,hD,hS,hb1⟩
 refine ⟨dg,rfl,hb1,?_⟩
 have hus:=hu.size
 have hT0:=hT.lt
 have bw1:Below w.heap.size w w1:=hu.trans (hb1.mono hus)
 have h0:¬ S 0:=fun h=>by have:=hS 0 h; omega
 have hf:=format_any aP aG dg S (Dev.new 64 40) w1 aPG hD rfl rfl (hT.kept (bw1.block 0 hT0)) h0
 rw [aD_run] at hf
 refine hf.mono ?_
 rintro e w2 ⟨rfl,S2,d2,n2⟩
 have ge2:∀ k,S2 k→u.heap.size ≤ k:=n2.base hS hb1.size
 have bu2:Below u.heap.size u w2:=hb1.trans (n2.below hS hb1.size)
 refine ⟨rfl,bu2,?_⟩
 have bw3:Below w.heap.size w w2:=hu.trans (bu2.mono hus)
 have h02:¬ S2 0:=fun h=>by have:=ge2 0 h; omega
 refine (open_any aP aG dg S2 aD w2 aPG (show Dv w2 S2 dg aD from d2) aD_live.2.1 aD_live.2.2.1 (hT.kept (bw3.block 0 hT0)) h02).mono ?_
 intro e w3 X
 obtain ⟨S3,n3,(⟨hx,_⟩ | ⟨_,hx,_⟩ | ⟨_,L,lg,hp,he,hl⟩)⟩:=unhide X
 ·rw [aD_live.1] at hx; cases hx
 ·rw [aD_parse] at hx; cases hx
 ·rw [aD_parse] at hp
  cases hp
  have ge3:∀ k,S3 k→u.heap.size ≤ k:=n3.base ge2 bu2.size
  have bu3:Below u.heap.size u w3:=bu2.trans (n3.below ge2 bu2.size)
  obtain ⟨Sl,Sd,ml,lv⟩:=hl
  refine ⟨lg,he,bu3,(cnew_ok dg Sd aD 8 none 0 0 [] w3 lv.dd (by omega) (aihas_none w3) (by omega) (fun _=>⟨rfl,rfl⟩)).mono ?_⟩
  rintro e w4 ⟨cg,rfl,Y4⟩
  obtain ⟨S4,k4,g4,b4⟩:=unhide Y4
  obtain ⟨S5,t5,x5⟩:=tri_of lv k4 g4 b4
  have h4:Below u.heap.size u w4:=bu3.trans (b4.mono bu3.size)
  refine ⟨cg,rfl,h4,(gnew_ok t5 aL_seen aP_da).mono ?_⟩
  rintro e w5 ⟨g,rfl,Y5⟩
  obtain ⟨S6,g6,x6,_⟩:=unhide Y5
  have ge5:∀ k,S5 k→u.heap.size ≤ k:=x5.base ge3 bu3.size
  have bu5:=h4.trans (x6.below ge5 h4.size)
  refine ⟨g,rfl,bu5,cg,lg,dg,_,_,_,_,S6,⟨⟨g6,fun k hk=>Nat.le_trans hus (x6.base ge5 h4.size k hk),hu.trans (bu5.mono hus),Nat.le_refl _,fun x hx=>by simp at hx⟩,⟨aL_su,fun b l _ e=>(by cases e),?_,by show 1 ≤ 8; omega,fun b l e=>(by cases e),fun b z e=>(by cases e),fun b z e=>(by cases e),?_⟩,Nat.le_refl _,fun j hj hj2=>?_,fun j _=>rfl,fun j hj=>⟨by rw [fl_len]; rfl,fun z hz=>?_⟩,fun j hj=>?_,?_⟩,rfl⟩
  ·have:cnt ((Cac.new 8 []).wants fHeld) aD.n ≤ cnt (fun _=>false) aD.n:=cnt_mono (fun b _ hw=>by cases hw)
   have h0:cnt (fun _=>false) aD.n=0:=by rw [aD_live.2.2.1]; decide
   show cnt ((Cac.new 8 []).wants fHeld) aD.n ≤ 8
   omega
  ·show aG.uses (pendL aG (fun _=>none)).length ≤ aG.lg
   decide
  ·show aD.rd j=fl 0
   have:=aE_at.1 hj
   rw [show aD.rd=rdS (whS aG hd1) (Dev.new 64 40).rd from run_rd _ _ aD_run]
   show (if j=1 then _ else (Dev.new 64 40).rd j)=_
   rw [if_neg (by omega)]
   rfl
  ·have:z=0:=List.eq_of_mem_replicate hz
   omega
  ·have:=aE_at.1 hj
   show 11 ≤ j∧j < 40
   omega
  ·decide

end Go.Proofs.YtdfanhjnkjdngabGreatDoor

/- New, Format, and the law's fresh. -/
namespace Go.Proofs.YtdfanhjnkjdngabGreatDoor
set_option maxRecDepth 100000
set_option maxHeartbeats 8000000
open Go.RowKit Go.Shelf Go.Maps
set_option linter.unusedVariables false

theorem anew_ok (P:Nat→Int) (g:Nat) (u:World) (hc:checkE P=0) :
  Calls Tryz.prog 17 #[.pointer (some ⟨g,0,none⟩),Pv P] u fun e u'=>∃ a,e=.returned (.tuple #[.pointer (some ⟨a,0,none⟩),.int .i64 0])∧Hid (Below u.heap.size u u'∧u.heap.size ≤ a∧u'.heap[a]?=some (alO g P)):=by
 have HK:=hide (Kp.start u P)
 have K1:Hid (∀ w,Calls Tryz.prog 47 #[Pv P] w fun e w'=>e=.returned (.int .i64 0)∧Below w.heap.size w w'):=fun w=>by
  have:=check_any P w
  rwa [hc] at this
 have KL:Hid (∀ w1,Below u.heap.size u w1→Below u.heap.size u (w1.alloc (.cells #[.pointer (some ⟨g,0,none⟩),.int .i64 (P 0),.int .i64 (P 1),.int .i64 (P 2),.int .i64 (P 3),.int .i64 (P 4),.int .i64 (P 5),.int .i64 (P 6),.int .i64 (P 7),.int .i64 (P 8),.int .i64 (P 9),.int .i64 (P 10),.int .i64 (P 11)] 78))∧u.heap.size ≤ w1.heap.size∧(w1.alloc (.cells #[.pointer (some ⟨g,0,none⟩),.int .i64 (P 0),.int .i64 (P 1),.int .i64 (P 2),.int .i64 (P 3),.int .i64 (P 4),.int .i64 (P 5),.int .i64 (P 6),.int .i64 (P 7),.int .i64 (P 8),.int .i64 (P 9),.int .i64 (P 10),.int .i64 (P 11)] 78)).heap[w1.heap.size]?=some (alO g P)):=fun w1 hb =>
  ⟨hb.alloc hb.size _,hb.size,World.alloc_heap_new w1 _⟩
 clear hc
 obtain ⟨f0,f1,f2,f3,f4,f5,f6,f7,f8,f9,f10,f11⟩:=(unhide HK).cells
 go_enter Tryz.func17,Tryz.ntmps17
 go_wp2_with fail
 go_at_call 47
 refine (unhide K1 _).mono ?_
 rintro e w1 ⟨rfl,hb⟩
 replace HK:=hide ((unhide HK).call hb)
 clear f0 f1 f2 f3 f4 f5 f6 f7 f8 f9 f10 f11 K1 hb
 obtain ⟨f0,f1,f2,f3,f4,f5,f6,f7,f8,f9,f10,f11⟩:=(unhide HK).cells
 have Z:=hide (unhide KL w1 (unhide HK).2)
 clear KL HK
 go_wp2_with fail
 go_ret2
 exact ⟨_,rfl,unhide Z⟩

theorem al_format {w:World} {P:Nat→Int} {G:Geo} {E:Nat→Bool} {g o:Nat} {rows:List (Nat × Obj)} {i:Nat} {V:Nat→List Int} {F:Nat→Bool} {V':Nat→List Int} {K:Nat→Bool} {u:World} {bb da ni:Nat} (h:Lp w P G E g o rows i V F V' K u) (hA:Ab P G E bb da ni) (hrc:∀ x ∈ rows,x.2.isCells=true) (h0:0 < w.heap.size) (hp6:P 6=1) (hp8:P 8=1) (hda:0 < da∧da ≤ 8 * G.blk) :
  Calls Tryz.prog 18 #[.pointer (some ⟨o,0,none⟩),Pv P] u fun e u'=>e=.returned (.int .i64 0)∧Hid (Lp w P G E g o rows i V F (fun j=>if j=bb then blay G.blk (upTo da) else if j=G.ib then blay G.blk (upTo 2) else V' j) K u'):=by
 have hpg:=h.ok
 have hbk:=hpg.ok.blk
 have hp0:=hpg.p0
 have hp5:=hpg.p5
 have hi4:G.ib ≤ 4096:=by have:=hpg.ok.n1; have:=hpg.ok.n2; unfold Geo.ib; omega
 have H0:=hide (h.new (.cells (Pc P) 24 (0,0)))
 have hrc2:∀ x ∈ (u.heap.size,Obj.cells (Pc P) 24 (0,0)) :: rows,x.2.isCells=true:=fun x hx=>by
  rcases List.mem_cons.1 hx with e | e
  ·subst e; rfl
  ·exact hrc x e
 have K1:Hid (∀ w,Calls Tryz.prog 47 #[Pv P] w fun e w'=>e=.returned (.int .i64 0)∧Below w.heap.size w w'):=fun w=>by
  have:=check_any P w
  rwa [hpg.chk] at this
 have K2:Hid (∀ v V2,Lp w P G E g o ((u.heap.size,.cells (Pc P) 24 (0,0)) :: rows) i V F V2 K v→Calls Tryz.prog 48 #[.pointer (some ⟨o,0,none⟩),.int .i64 (P 0),.int .i64 (P 5),.int .i64 (P 6),.int .i64 2] v fun e u'=>e=.returned (.int .i64 0)∧Hid (Lp w P G E g o ((u.heap.size,.cells (Pc P) 24 (0,0)) :: rows) i V F (fun j=>if j=G.ib then blay G.blk (upTo 2) else V2 j) K u')):=fun v V2 hv=>by
  rw [hp0,hp5,hp6]
  exact lay_ok hv hA.ei 2 (by omega) hrc2 h0 hi4
 have K3:Hid (∀ v V2,Lp w P G E g o ((u.heap.size,.cells (Pc P) 24 (0,0)) :: rows) i V F V2 K v→Calls Tryz.prog 48 #[.pointer (some ⟨o,0,none⟩),.int .i64 (P 0),.int .i64 (P 7),.int .i64 (P 8),.int .i64 (P 11)] v fun e u'=>e=.returned (.int .i64 0)∧Hid (Lp w P G E g o rows i V F (fun j=>if j=bb then blay G.blk (upTo da) else V2 j) K u')):=fun v V2 hv=>by
  rw [hp0,hA.p7,hp8,hA.p11]
  refine (lay_ok hv hA.eb da hda hrc2 h0 hA.b4).mono ?_
  rintro e u' ⟨rfl,Y⟩
  exact ⟨rfl,(unhide Y).pop⟩
 have HB:Hid (∀ v V2,Lp w P G E g o ((u.heap.size,.cells (Pc P) 24 (0,0)) :: rows) i V F V2 K v→Bl v u.heap.size (Pc P) 24):=fun v V2 hv=>hv.row (x:=(u.heap.size,.cells (Pc P) 24 (0,0))) (by simp)
 clear h hA hrc h0 hp6 hp8 hda hpg hbk hp0 hp5 hi4 hrc2
 go_enter Tryz.func18,Tryz.ntmps18
 go_upto_region 1 with fail
 change Code.wp _ _ _ _ (u.alloc (.cells (Pc P) 24))
 generalize u.alloc (.cells (Pc P) 24)=w0 at *
 generalize u.heap.size=mb at *
 have bl:=unhide HB _ _ (unhide H0)
 have x0:=bl.cell 0 (.int .i64 (P 0)) rfl
 have x1:=bl.cell 1 (.int .i64 (P 1)) rfl
 have x2:=bl.cell 2 (.int .i64 (P 2)) rfl
 have x3:=bl.cell 3 (.int .i64 (P 3)) rfl
 have x4:=bl.cell 4 (.int .i64 (P 4)) rfl
 have x5:=bl.cell 5 (.int .i64 (P 5)) rfl
 have x6:=bl.cell 6 (.int .i64 (P 6)) rfl
 have x7:=bl.cell 7 (.int .i64 (P 7)) rfl
 have x8:=bl.cell 8 (.int .i64 (P 8)) rfl
 have x9:=bl.cell 9 (.int .i64 (P 9)) rfl
 have x10:=bl.cell 10 (.int .i64 (P 10)) rfl
 have x11:=bl.cell 11 (.int .i64 (P 11)) rfl
 clear bl
 go_wp2_with fail
 go_at_call 47
 refine (unhide K1 _).mono ?_
 rintro e w1 ⟨rfl,hb1⟩
 have H1:=hide ((unhide H0).later hb1)
 clear H0 hb1 K1 x0 x1 x2 x3 x4 x5 x6 x7 x8 x9 x10 x11
 have bl:=unhide HB _ _ (unhide H1)
 have x0:=bl.cell 0 (.int .i64 (P 0)) rfl
 have x5:=bl.cell 5 (.int .i64 (P 5)) rfl
 have x6:=bl.cell 6 (.int .i64 (P 6)) rfl
 clear bl
 go_wp2_with fail
 go_at_call 48
 refine (unhide K2 _ _ (unhide H1)).mono ?_
 rintro e w2 ⟨rfl,Z2⟩
 clear H1 x0 x5 x6 K2
 have bl:=unhide HB _ _ (unhide Z2)
 have x0:=bl.cell 0 (.int .i64 (P 0)) rfl
 have x7:=bl.cell 7 (.int .i64 (P 7)) rfl
 have x8:=bl.cell 8 (.int .i64 (P 8)) rfl
 have x11:=bl.cell 11 (.int .i64 (P 11)) rfl
 clear bl
 go_wp2_with fail
 go_at_call 48
 refine (unhide K3 _ _ (unhide Z2)).mono ?_
 rintro e w3 ⟨rfl,Z3⟩
 clear Z2 K3
 go_wp2_with fail
 go_ret
 exact ⟨rfl,Z3⟩

def aV (j:Nat):List Int:=if j=12 then blay 64 (upTo 16) else if j=11 then blay 64 (upTo 2) else fl 0

theorem afresh_any (w:World) (hT:Tab w):Calls Tryz.prog 8 #[Pv aP] w fun e w'=>∃ g a,e=.returned (.tuple #[.pointer (some ⟨g,0,none⟩),.pointer (some ⟨a,0,none⟩)])∧Hid (Lo w aP aG aE g [(a,alO g aP)] 1 aV (fun _=>false) w'):=by
 have hT0:=hT.lt
 have B0:Below w.heap.size w (w.alloc (.cells (Pc aP) 24)):=(Below.refl _ _).alloc (Nat.le_refl _) _
 have K:=hide (afresh_chain (w.alloc (.cells (Pc aP) 24)) (w.alloc (.cells (Pc aP) 24)) (hT.kept (B0.block 0 hT0)) (Below.refl _ _))
 have HK:=hide (Kp.start w aP)
 have BX:=hide (Bl.new w (Pc aP) 24)
 have KN:Hid (∀ g v,Lo (w.alloc (.cells (Pc aP) 24)) aP aG aE g [] 1 (fun _=>fl 0) (fun _=>false) v→Calls Tryz.prog 17 #[.pointer (some ⟨g,0,none⟩),Pv aP] v fun e u'=>∃ a,e=.returned (.tuple #[.pointer (some ⟨a,0,none⟩),.int .i64 0])∧Hid (Lo (w.alloc (.cells (Pc aP) 24)) aP aG aE g [(a,alO g aP),(w.heap.size,.cells (Pc aP) 24 (0,0))] 1 (fun _=>fl 0) (fun _=>false) u')):=fun g v hv=>by
  refine (anew_ok aP g v aPG.chk).mono ?_
  rintro e u' ⟨a,rfl,Y⟩
  obtain ⟨b1,a1,a2⟩:=unhide Y
  exact ⟨a,rfl,(hv.old (unhide BX)).push b1 a1 a2⟩
 have KF:Hid (∀ g a o v,Lp (w.alloc (.cells (Pc aP) 24)) aP aG aE g o [(a,alO g aP),(w.heap.size,.cells (Pc aP) 24 (0,0))] 1 (fun _=>fl 0) (fun _=>false) (fun _=>fl 0) (fun _=>false) v→Calls Tryz.prog 18 #[.pointer (some ⟨o,0,none⟩),Pv aP] v fun e u'=>e=.returned (.int .i64 0) ∧
   Hid (Calls Tryz.prog 13 #[.pointer (some ⟨o,0,none⟩)] u' fun e u2=>e=.returned (.int .i64 0)∧Hid (Lo w aP aG aE g [(a,alO g aP)] 1 aV (fun _=>false) u2))):=fun g a o v hv=>by
  refine (al_format hv aA (fun x hx=>by
   simp only [List.mem_cons,List.not_mem_nil,or_false] at hx
   rcases hx with rfl | rfl <;> rfl) (by simp) (by rw [aP_at]; rfl) (by rw [aP_at]; rfl) (by decide)).mono ?_
  rintro e u' ⟨rfl,Y⟩
  refine ⟨rfl,(h_end (unhide Y)).mono ?_⟩
  rintro e u2 ⟨rfl,Y2⟩
  exact ⟨rfl,((unhide Y2).lo.rebase B0).sub (fun x hx=>by simp at hx; simp [hx])⟩
 have KC:Hid (∀ g a v,Lo (w.alloc (.cells (Pc aP) 24)) aP aG aE g [(a,alO g aP),(w.heap.size,.cells (Pc aP) 24 (0,0))] 1 (fun _=>fl 0) (fun _=>false) v→Bl v w.heap.size (Pc aP) 24):=fun g a v hv=>hv.row (x:=(w.heap.size,.cells (Pc aP) 24 (0,0))) (by simp)
 have KD:Hid (∀ g a o v,Lp (w.alloc (.cells (Pc aP) 24)) aP aG aE g o [(a,alO g aP),(w.heap.size,.cells (Pc aP) 24 (0,0))] 1 (fun _=>fl 0) (fun _=>false) (fun _=>fl 0) (fun _=>false) v→Bl v w.heap.size (Pc aP) 24):=fun g a o v hv=>hv.row (x:=(w.heap.size,.cells (Pc aP) 24 (0,0))) (by simp)
 clear hT hT0 B0 BX
 generalize hp:aP=p at *
 clear hp
 go_enter Tryz.func8,Tryz.ntmps8
 go_wp2_with fail
 go_at_call 22
 refine (unhide K).mono ?_
 rintro e w1 ⟨dg,rfl,hb1,K2⟩
 have HK1:=hide ((unhide HK).call hb1)
 clear K hb1
 obtain ⟨f0,f1,f2,f3,f4,f5,f6,f7,f8,f9,f10,f11⟩:=(unhide HK1).cells
 go_wp2_with fail
 go_at_call 23
 refine (unhide K2).mono ?_
 rintro e w2 ⟨rfl,hb2,K3⟩
 have HK2:=hide ((unhide HK).call hb2)
 clear K2 hb2 HK1 f0 f1 f2 f3 f4 f5 f6 f7 f8 f9 f10 f11
 obtain ⟨f0,f1,f2,f3,f4,f5,f6,f7,f8,f9,f10,f11⟩:=(unhide HK2).cells
 go_wp2_with fail
 go_at_call 24
 refine (unhide K3).mono ?_
 rintro e w3 ⟨lg,rfl,hb3,K4⟩
 have HK3:=hide ((unhide HK).call hb3)
 clear K3 hb3 HK2 f0 f1 f2 f3 f4 f5 f6 f7 f8 f9 f10 f11
 go_wp2_with fail
 go_at_call 25
 refine (unhide K4).mono ?_
 rintro e w4 ⟨cg,rfl,hb4,K5⟩
 have HK4:=hide ((unhide HK).call hb4)
 clear K4 hb4 HK3
 obtain ⟨f0,f1,f2,f3,f4,f5,f6,f7,f8,f9,f10,f11⟩:=(unhide HK4).cells
 go_wp2_with fail
 go_at_call 26
 refine (unhide K5).mono ?_
 rintro e w5 ⟨g,rfl,hb5,Z5⟩
 have HK5:=hide ((unhide HK).call hb5)
 clear K5 hb5 HK HK4 f0 f1 f2 f3 f4 f5 f6 f7 f8 f9 f10 f11
 obtain ⟨f0,f1,f2,f3,f4,f5,f6,f7,f8,f9,f10,f11⟩:=(unhide HK5).cells
 have K6:=hide (unhide KN g w5 (unhide Z5))
 clear KN Z5
 go_wp2_with fail
 go_at_call 17
 refine (unhide K6).mono ?_
 rintro e w6 ⟨a,rfl,Z6⟩
 have K7:=hide (h_begin (unhide Z6))
 clear K6 HK5 f0 f1 f2 f3 f4 f5 f6 f7 f8 f9 f10 f11 KC Z6
 go_wp2_with fail
 go_at_call 9
 refine (unhide K7).mono ?_
 rintro e w7 ⟨o,rfl,Z7⟩
 have bl:=unhide KD g a o w7 (unhide Z7)
 have x0:=bl.cell 0 (.int .i64 (p 0)) rfl
 have x1:=bl.cell 1 (.int .i64 (p 1)) rfl
 have x2:=bl.cell 2 (.int .i64 (p 2)) rfl
 have x3:=bl.cell 3 (.int .i64 (p 3)) rfl
 have x4:=bl.cell 4 (.int .i64 (p 4)) rfl
 have x5:=bl.cell 5 (.int .i64 (p 5)) rfl
 have x6:=bl.cell 6 (.int .i64 (p 6)) rfl
 have x7:=bl.cell 7 (.int .i64 (p 7)) rfl
 have x8:=bl.cell 8 (.int .i64 (p 8)) rfl
 have x9:=bl.cell 9 (.int .i64 (p 9)) rfl
 have x10:=bl.cell 10 (.int .i64 (p 10)) rfl
 have x11:=bl.cell 11 (.int .i64 (p 11)) rfl
 have K8:=hide (unhide KF g a o w7 (unhide Z7))
 clear K7 KD KF Z7 bl
 go_wp2_with fail
 go_at_call 18
 refine (unhide K8).mono ?_
 rintro e w8 ⟨rfl,K9⟩
 clear K8 x0 x1 x2 x3 x4 x5 x6 x7 x8 x9 x10 x11
 go_wp2_with fail
 go_at_call 13
 refine (unhide K9).mono ?_
 rintro e w9 ⟨rfl,Z9⟩
 clear K9
 go_wp2_with fail
 go_ret2
 exact ⟨g,a,rfl,Z9⟩

end Go.Proofs.YtdfanhjnkjdngabGreatDoor

/- What an Alloc answers where the operation answers an error; no Alloc; New and Format that are refused. -/
namespace Go.Proofs.YtdfanhjnkjdngabGreatDoor
set_option maxRecDepth 100000
set_option maxHeartbeats 8000000
open Go.RowKit Go.Shelf Go.Maps
set_option linter.unusedVariables false

theorem free_bad (b ei f t er:Int) (q:Option Addr) (kf mf:Value) (u:World) (hlt:f < t) (h0:0 ≤ f) (hfe:f < ei) (hb:0 ≤ b∧b ≤ 4096) (hei:ei ≤ 65536) (hne:er ≠ 0) (ht:t ≤ ei)
  (KR:Hid (∀ v,Below u.heap.size u v→Calls Tryz.prog 74 #[.pointer q,.int .i64 b] v fun e w'=>e=.returned (.tuple #[.slice none 0 0,.int .i64 er])∧v=w')) :
  Calls Tryz.prog 58 #[Bv b ei f t,.pointer q,kf,mf] u fun e u'=>e=.returned (.int .i64 er)∧Below u.heap.size u u':=by
 have B0:Below u.heap.size u (u.alloc (.cells (Bc b ei f t) 73)):=(Below.refl _ _).alloc (Nat.le_refl _) _
 have BX:=hide (Bl.new u (Bc b ei f t) 73)
 have HB:=hide B0
 have KB:Hid (∀ v,Calls Tryz.prog 75 #[Bv b ei f t,.int .i64 f] v fun e w'=>e=.returned (.int .i64 b)∧Below v.heap.size v w'):=fun v=>bblock_any b ei f t f v h0 hfe hb hei
 have hm2:f.tmod ei=f:=Int.tmod_eq_of_lt h0 hfe
 have hn0:ei ≠ 0:=by omega
 have hq0:0 < ei∧ei ≤ 65536:=by omega
 have htm:min (0 + ei) t=t:=by omega
 have htm2:min ei t=t:=by omega
 have hne':(er == 0)=false:=by simpa using hne
 have hne2:(er != 0)=true:=by simpa using hne
 have x0:=(unhide BX).cell 0 (.int .i64 b) rfl
 have x1:=(unhide BX).cell 1 (.int .i64 ei) rfl
 have x2:=(unhide BX).cell 2 (.int .i64 f) rfl
 have x3:=(unhide BX).cell 3 (.int .i64 t) rfl
 clear BX B0 hb
 go_enter Tryz.func58,Tryz.ntmps58
 go_wp2
 go_step3
 change Code.wp _ _ _ _ (u.alloc (.cells (Bc b ei f t) 73))
 generalize u.alloc (.cells (Bc b ei f t) 73)=w0 at *
 go_wp2_with fail
 go_step3
 go_wp2_with fail
 go_at_call 75
 refine (unhide KB _).mono ?_
 rintro e w1 ⟨rfl,b1⟩
 have Z1:Hid (Below u.heap.size u w1):=(unhide HB).trans (b1.mono (unhide HB).size)
 have KR1:=hide (unhide KR w1 (unhide Z1))
 clear KB KR b1 HB x0 x1 x2 x3
 go_wp2_with fail
 go_at_call 74
 refine (unhide KR1).mono ?_
 rintro e w2 ⟨rfl,rfl⟩
 clear KR1
 go_wp2_with fail
 rw [Exit.noGoto_ret]
 go_ret
 exact ⟨rfl,unhide Z1⟩

theorem take_bad (b ei f t er:Int) (q:Option Addr) (kf:Value) (u:World) (hlt:f < t) (h0:0 ≤ f) (hfe:f < ei) (hb:0 ≤ b∧b ≤ 4096) (hei:ei ≤ 65536) (hne:er ≠ 0) (ht:t ≤ ei)
  (KR:Hid (∀ v,Below u.heap.size u v→Calls Tryz.prog 74 #[.pointer q,.int .i64 b] v fun e w'=>e=.returned (.tuple #[.slice none 0 0,.int .i64 er])∧v=w')) :
  Calls Tryz.prog 33 #[Bv b ei f t,.pointer q,kf] u fun e u'=>e=.returned (.tuple #[.int .i64 0,.int .i64 er])∧Below u.heap.size u u':=by
 have B0:Below u.heap.size u (u.alloc (.cells (Bc b ei f t) 73)):=(Below.refl _ _).alloc (Nat.le_refl _) _
 have B1:Below u.heap.size u ((u.alloc (.cells (Bc b ei f t) 73)).alloc (.cells #[.int .i64 t] 3)):=B0.alloc B0.size _
 have hz0:(u.alloc (.cells (Bc b ei f t) 73)).heap.size=u.heap.size + 1:=by simp
 have HB:=hide B1
 have BX:Hid (Bl ((u.alloc (.cells (Bc b ei f t) 73)).alloc (.cells #[.int .i64 t] 3)) u.heap.size (Bc b ei f t) 73):=by
  have:=((Below.refl (u.heap.size + 1) (u.alloc (.cells (Bc b ei f t) 73))).alloc (by omega) (.cells #[.int .i64 t] 3 (0,0))).block u.heap.size (by omega)
  exact this.trans (Bl.new u (Bc b ei f t) 73)
 have KF:Hid (∀ mf v,Below u.heap.size u v→Calls Tryz.prog 58 #[Bv b ei f t,.pointer q,kf,mf] v fun e u'=>e=.returned (.int .i64 er)∧Below v.heap.size v u'):=fun mf v hv=>free_bad b ei f t er q kf mf v hlt h0 hfe hb hei hne ht (fun v' hv'=>unhide KR v' (hv.trans (hv'.mono hv.size)))
 have hne':(er == 0)=false:=by simpa using hne
 have hne2:(er != 0)=true:=by simpa using hne
 clear KR hlt h0 hfe hb hei ht hz0 B0 B1
 go_enter Tryz.func33,Tryz.ntmps33
 go_upto_region 2 with fail
 change Code.wp _ _ _ _ ((u.alloc (.cells (Bc b ei f t) 73)).alloc (.cells #[.int .i64 t] 3))
 generalize (u.alloc (.cells (Bc b ei f t) 73)).alloc (.cells #[.int .i64 t] 3)=w1 at *
 have x0:=(unhide BX).cell 0 (.int .i64 b) rfl
 have x1:=(unhide BX).cell 1 (.int .i64 ei) rfl
 have x2:=(unhide BX).cell 2 (.int .i64 f) rfl
 have x3:=(unhide BX).cell 3 (.int .i64 t) rfl
 have KF1:=hide (fun mf=>unhide KF mf w1 (unhide HB))
 clear KF BX
 go_wp2_with fail
 go_at_call 58
 refine (unhide KF1 _).mono ?_
 rintro e w2 ⟨rfl,b2⟩
 have Z:=hide ((unhide HB).trans (b2.mono (unhide HB).size))
 clear KF1 HB b2 x0 x1 x2 x3
 go_wp2_with fail
 go_ret2
 exact ⟨rfl,unhide Z⟩

end Go.Proofs.YtdfanhjnkjdngabGreatDoor

/- The law's group, its Alloc and the bits of its bitmaps. -/
namespace Go.Proofs.YtdfanhjnkjdngabGreatDoor
set_option maxRecDepth 100000
set_option maxHeartbeats 8000000
open Go.RowKit Go.Shelf Go.Maps
set_option linter.unusedVariables false

def BO (zs:List Int) (β:Nat→Bool):Prop:=∀ j,j < 512→bitAt zs j=β j

def updB (β:Nat→Bool) (x:Nat) (on:Bool):Nat→Bool:=fun j=>if j=x then on else β j

theorem BO.set {zs:List Int} {β:Nat→Bool} (h:BO zs β) (hl:zs.length=64) (hb:∀ z ∈ zs,0 ≤ z∧z ≤ 255) {x:Nat} (hx:x < 512) (on:Bool):BO (setB zs x on) (updB β x on):=fun j hj=>by
 unfold updB
 by_cases e:j=x
 ·rw [if_pos e,e]
  exact bitAt_setB_same hb x (by omega) on
 ·rw [if_neg e,bitAt_setB_other hb x j (by omega) e]
  exact h j hj

theorem skp_congr {p q:Nat→Bool}:∀ {n f:Nat},(∀ j,f ≤ j→j < f + n→p j=q j)→skp p f n=skp q f n
 | 0,f,_=>rfl
 | n + 1,f,h=>by
  unfold skp
  rw [h f (Nat.le_refl _) (by omega),skp_congr (n:=n) (f:=f + 1) (fun j a b=>h j (by omega) (by omega))]

def fbk (β K:Nat→Bool):Nat:=skp (fun j=>!β j && !K j) 16 24

def fin6 (ι:Nat→Bool):Nat:=skp (fun j=>!ι j) 0 6

def nbk (β K:Nat→Bool):Nat:=cnF (fun j=>!β j && !K j) 16 24

def nin (ι:Nat→Bool):Nat:=cnF (fun j=>!ι j) 0 6

theorem BO.fbk {zs:List Int} {β K:Nat→Bool} (h:BO zs β):lstF zs K 16 40=Go.Proofs.YtdfanhjnkjdngabGreatDoor.fbk β K :=
 skp_congr (fun j h1 h2=>by unfold cand; rw [h j (by omega)])

theorem BO.fin6 {zs:List Int} {β:Nat→Bool} (h:BO zs β):lstF zs (fun _=>false) 0 6=Go.Proofs.YtdfanhjnkjdngabGreatDoor.fin6 β :=
 skp_congr (fun j h1 h2=>by unfold cand; rw [h j (by omega)]; simp)

theorem BO.nbk {zs:List Int} {β K:Nat→Bool} (h:BO zs β):numF zs K 16 40=Go.Proofs.YtdfanhjnkjdngabGreatDoor.nbk β K :=
 cnF_congr (fun j h1 h2=>by unfold cand; rw [h j (by omega)])

theorem BO.nin {zs:List Int} {β:Nat→Bool} (h:BO zs β):numF zs (fun _=>false) 0 6=Go.Proofs.YtdfanhjnkjdngabGreatDoor.nin β :=
 cnF_congr (fun j h1 h2=>by unfold cand; rw [h j (by omega)]; simp)

def Ao (w:World) (g a:Nat) (rows:List (Nat × Obj)) (i:Nat) (β ι F:Nat→Bool) (u:World):Prop:=∃ V,Lo w aP aG aE g ((a,alO g aP) :: rows) i V F u∧BO (V 12) β∧BO (V 11) ι

def Ap (w:World) (g a o:Nat) (rows:List (Nat × Obj)) (i:Nat) (β ι F β' ι' K:Nat→Bool) (u:World):Prop:=∃ V V',Lp w aP aG aE g o ((a,alO g aP) :: rows) i V F V' K u∧BO (V 12) β∧BO (V 11) ι∧BO (V' 12) β'∧BO (V' 11) ι'

theorem Ap.later {w:World} {g a o:Nat} {rows:List (Nat × Obj)} {i:Nat} {β ι F β' ι' K:Nat→Bool} {u u':World} (h:Ap w g a o rows i β ι F β' ι' K u) (hb:Below u.heap.size u u'):Ap w g a o rows i β ι F β' ι' K u':=by
 obtain ⟨V,V',l,r⟩:=h
 exact ⟨V,V',l.later hb,r⟩

theorem Ap.bel {w:World} {g a o:Nat} {rows:List (Nat × Obj)} {i:Nat} {β ι F β' ι' K:Nat→Bool} {u:World} (h:Ap w g a o rows i β ι F β' ι' K u):Below w.heap.size w u:=by
 obtain ⟨V,V',l,r⟩:=h
 exact l.bel

theorem Ap.row {w:World} {g a o:Nat} {rows:List (Nat × Obj)} {i:Nat} {β ι F β' ι' K:Nat→Bool} {u:World} (h:Ap w g a o rows i β ι F β' ι' K u) {x:Nat × Obj} (hx:x ∈ rows):u.heap[x.1]?=some x.2:=by
 obtain ⟨V,V',l,r⟩:=h
 exact l.row (List.mem_cons_of_mem _ hx)

theorem Ao.old {w:World} {g a:Nat} {rows:List (Nat × Obj)} {i:Nat} {β ι F:Nat→Bool} {u:World} {k:Nat} {ob:Obj} (h:Ao w g a rows i β ι F u) (hk:w.heap[k]?=some ob):Ao w g a ((k,ob) :: rows) i β ι F u:=by
 obtain ⟨V,l,r⟩:=h
 exact ⟨V,(l.old hk).sub mem_swap,r⟩

theorem a_start (w u:World) (hw:Below w.heap.size w u) (hT:Tab w):Calls Tryz.prog 8 #[Pv aP] u fun e w'=>∃ g a,e=.returned (.tuple #[.pointer (some ⟨g,0,none⟩),.pointer (some ⟨a,0,none⟩)])∧Hid (Ao u g a [] 1 (fun j=>decide (j < 16)) (fun j=>decide (j < 2)) (fun _=>false) w'):=by
 refine (afresh_any u (hT.kept (hw.block 0 hT.lt))).mono ?_
 rintro e w' ⟨g,a,rfl,Y⟩
 refine ⟨g,a,rfl,aV,unhide Y,fun j hj=>?_,fun j hj=>?_⟩
 ·exact blay_bit 64 16 (by omega) j
 ·exact blay_bit 64 2 (by omega) j

theorem Ao.rebase {w:World} {g a:Nat} {rows:List (Nat × Obj)} {i:Nat} {β ι F:Nat→Bool} {u v:World} (h:Ao u g a rows i β ι F v) (hb:Below w.heap.size w u):Ao w g a rows i β ι F v:=by
 obtain ⟨V,l,r⟩:=h
 exact ⟨V,l.rebase hb,r⟩

theorem a_begin {w:World} {g a:Nat} {rows:List (Nat × Obj)} {i:Nat} {β ι F:Nat→Bool} {u:World} (h:Ao w g a rows i β ι F u) :
  Calls Tryz.prog 9 #[.pointer (some ⟨g,0,none⟩)] u fun e u1=>∃ o,e=.returned (.tuple #[.pointer (some ⟨o,0,none⟩),.int .i64 0])∧Hid (Ap w g a o rows i β ι F β ι F u1):=by
 obtain ⟨V,l,r1,r2⟩:=h
 refine (h_begin l).mono ?_
 rintro e u1 ⟨o,rfl,Y⟩
 exact ⟨o,rfl,V,V,unhide Y,r1,r2,r1,r2⟩

theorem a_block {w:World} {g a o:Nat} {rows:List (Nat × Obj)} {i:Nat} {β ι F β' ι' K:Nat→Bool} {u:World} (h:Ap w g a o rows i β ι F β' ι' K u) (h0:0 < w.heap.size) :
  Calls Tryz.prog 12 #[.pointer (some ⟨a,0,none⟩),.pointer (some ⟨o,0,none⟩)] u fun e u'=>e=.returned (.tuple #[.int .i64 (if fbk β' K=40 then 0 else ((fbk β' K:Nat):Int)),.int .i64 (if fbk β' K=40 then 10 else 0)])∧Hid (Ap w g a o rows i β ι F (if fbk β' K=40 then β' else updB β' (fbk β' K) true) ι' K u'):=by
 obtain ⟨V,V',l,r1,r2,r3,r4⟩:=h
 have hv:=l.vb (j:=12) rfl
 have hr:=lstF_is (V' 12) K (f:=16) (t:=40) (by omega)
 have e1:lstF (V' 12) K 16 40=fbk β' K:=r3.fbk
 have:=al_block (a:=a) l aA (by simp) h0
 refine this.mono ?_
 rintro e u' ⟨rfl,Y⟩
 refine ⟨?_,V,_,unhide Y,r1,r2,?_,?_⟩
 ·show Ending.returned (.tuple #[.int .i64 (tkN (V' 12) K 16 40),.int .i64 (tkE (V' 12) K 16 40)])=_
  unfold tkN tkE
  rw [e1]
 ·show BO (if 12=12 then tkZ (V' 12) K 16 40 else V' 12) _
  rw [if_pos rfl]
  unfold tkZ
  rw [e1]
  by_cases hx:fbk β' K=40
  ·rw [if_pos hx,if_pos hx]; exact r3
  ·rw [if_neg hx,if_neg hx]
   exact r3.set hv.1 hv.2 (by rw [← e1]; omega) true
 ·show BO (if 11=12 then tkZ (V' 12) K 16 40 else V' 11) _
  rw [if_neg (by omega)]
  exact r4

theorem a_inode {w:World} {g a o:Nat} {rows:List (Nat × Obj)} {i:Nat} {β ι F β' ι' K:Nat→Bool} {u:World} (h:Ap w g a o rows i β ι F β' ι' K u) (h0:0 < w.heap.size) :
  Calls Tryz.prog 11 #[.pointer (some ⟨a,0,none⟩),.pointer (some ⟨o,0,none⟩)] u fun e u'=>e=.returned (.tuple #[.int .i64 (if fin6 ι'=6 then 0 else ((fin6 ι':Nat):Int)),.int .i64 (if fin6 ι'=6 then 10 else 0)])∧Hid (Ap w g a o rows i β ι F β' (if fin6 ι'=6 then ι' else updB ι' (fin6 ι') true) K u'):=by
 obtain ⟨V,V',l,r1,r2,r3,r4⟩:=h
 have hv:=l.vb (j:=11) rfl
 have hr:=lstF_is (V' 11) (fun _=>false) (f:=0) (t:=6) (by omega)
 have e1:lstF (V' 11) (fun _=>false) 0 6=fin6 ι':=r4.fin6
 have:=al_inode (a:=a) l aA (by simp) h0
 refine this.mono ?_
 rintro e u' ⟨rfl,Y⟩
 refine ⟨?_,V,_,unhide Y,r1,r2,?_,?_⟩
 ·show Ending.returned (.tuple #[.int .i64 (tkN (V' 11) (fun _=>false) 0 6),.int .i64 (tkE (V' 11) (fun _=>false) 0 6)])=_
  unfold tkN tkE
  rw [e1]
 ·show BO (if 12=aG.ib then tkZ (V' aG.ib) (fun _=>false) 0 6 else V' 12) _
  rw [if_neg (by decide)]
  exact r3
 ·show BO (if 11=aG.ib then tkZ (V' aG.ib) (fun _=>false) 0 6 else V' 11) _
  rw [if_pos (by decide)]
  show BO (tkZ (V' 11) (fun _=>false) 0 6) _
  unfold tkZ
  rw [e1]
  by_cases hx:fin6 ι'=6
  ·rw [if_pos hx,if_pos hx]; exact r4
  ·rw [if_neg hx,if_neg hx]
   exact r4.set hv.1 hv.2 (by rw [← e1]; omega) true

theorem a_free {w:World} {g a o:Nat} {rows:List (Nat × Obj)} {i:Nat} {β ι F β' ι' K:Nat→Bool} {u:World} (h:Ap w g a o rows i β ι F β' ι' K u) (h0:0 < w.heap.size) :
  Calls Tryz.prog 10 #[.pointer (some ⟨a,0,none⟩),.pointer (some ⟨o,0,none⟩)] u fun e u'=>AnsA e 0 ((nbk β' K:Nat):Int) ((nin ι':Nat):Int)∧Hid (Ap w g a o rows i β ι F β' ι' K u'):=by
 obtain ⟨V,V',l,r1,r2,r3,r4⟩:=h
 have:=al_free (a:=a) l aA (by simp) h0
 rw [show aG.n=40 from rfl,r3.nbk,show aG.ib=11 from rfl,r4.nin] at this
 refine this.mono ?_
 rintro e u' ⟨r,Y⟩
 exact ⟨r,V,V',unhide Y,r1,r2,r3,r4⟩

end Go.Proofs.YtdfanhjnkjdngabGreatDoor

/- lay and Format where the operation's Write answers an error. -/
namespace Go.Proofs.YtdfanhjnkjdngabGreatDoor
set_option maxRecDepth 100000
set_option maxHeartbeats 8000000
open Go.RowKit Go.Shelf Go.Maps
set_option linter.unusedVariables false
attribute [local go_sem] Oper.semAt_some

theorem lay_bad (o blk b n:Nat) (er:Int) (u:World) (hbk:64 ≤ blk∧blk ≤ 4096) (hn:0 < n∧n ≤ 8 * blk) (hb4:b ≤ 4096) (hne:er ≠ 0)
  (KW:Hid (∀ v x,Below u.heap.size u v→Calls Tryz.prog 78 #[.pointer (some ⟨o,0,none⟩),.int .i64 (b:Int),x] v fun e w'=>e=.returned (.int .i64 er)∧v=w')) :
  Calls Tryz.prog 48 #[.pointer (some ⟨o,0,none⟩),.int .i64 (blk:Int),.int .i64 (b:Int),.int .i64 1,.int .i64 (n:Int)] u fun e u'=>e=.returned (.int .i64 er)∧Below u.heap.size u u':=by
 have hmk:=run_make_row' (P:=Tryz.prog) 37 3 (.int .i64 0) 8 Tryz.underlying37 info3a rfl .i64 .i64 n (by omega) (by omega)
 have e8:8 * blk * 1=8 * blk:=by omega
 obtain ⟨N8,hN8⟩:∃ N8:Nat,N8=8 * blk:=⟨_,rfl⟩
 have KM:Hid (∀ v,IHas v (some ⟨u.heap.size + 1 + 1 + 1,0,none⟩) n (upTo n)→Calls Tryz.prog 80 #[.int .i64 (N8:Int),.slice (some ⟨u.heap.size + 1 + 1 + 1,0,none⟩) n n] v fun e w'=>e=.returned (.tuple #[.slice (some ⟨v.heap.size,0,none⟩) blk blk,.int .i64 0])∧Hid (Block w' v.heap.size (blay blk (upTo n)))∧Hid (Below v.heap.size v w')):=fun v hv=>by
  have hL:(N8 + 7) / 8=blk:=by omega
  refine (bmake_good (some ⟨u.heap.size + 1 + 1 + 1,0,none⟩) n n N8 (upTo n) v hv (by omega) (by omega)).mono ?_
  rw [hL]
  rintro e w' ⟨h1 | h1,hbw⟩
  ·exact absurd (upTo_in n N8 (by omega)) h1.2
  ·exact ⟨h1.1,h1.2.2,hbw⟩
 have hm1:(8:Int) * (blk:Int)=(N8:Int):=by omega
 have hm2:(N8:Int) * 1=(N8:Int):=by omega
 have hbb:0 < (blk:Int)∧(blk:Int) ≤ 4096:=by omega
 have hn8:(N8:Int) ≤ 65536∧0 < (N8:Int):=by omega
 have hnn:0 < (n:Int)∧(n:Int) ≤ 65536:=by omega
 have HN:=hide hN8
 have S0:Hid (NBl ((((u.alloc (.cells #[.pointer (some ⟨o,0,none⟩)] 30)).alloc (.cells #[.int .i64 (b:Int)] 3)).alloc (.cells #[.int .i64 0] 31)).alloc (.cells (madeCells #[.int .i64 0] n) 3)) (u.heap.size + 1 + 1 + 1) (nrow n 0)):=by
  have e1:(((u.alloc (.cells #[.pointer (some ⟨o,0,none⟩)] 30)).alloc (.cells #[.int .i64 (b:Int)] 3)).alloc (.cells #[.int .i64 0] 31)).heap.size=u.heap.size + 1 + 1 + 1:=by simp
  have:=World.alloc_heap_new (((u.alloc (.cells #[.pointer (some ⟨o,0,none⟩)] 30)).alloc (.cells #[.int .i64 (b:Int)] 3)).alloc (.cells #[.int .i64 0] 31)) (.cells (madeCells #[.int .i64 0] n) 3)
  rw [e1] at this
  show _=_
  rw [this,← Array.toArray_toList (xs:=madeCells #[.int .i64 0] n),toList_madeCells_one]
  simp [nrow,upTo]
 have S1:Hid (Below u.heap.size u ((((u.alloc (.cells #[.pointer (some ⟨o,0,none⟩)] 30)).alloc (.cells #[.int .i64 (b:Int)] 3)).alloc (.cells #[.int .i64 0] 31)).alloc (.cells (madeCells #[.int .i64 0] n) 3))) :=
  ((((Below.refl _ _).alloc (Nat.le_refl _) _).alloc (by simp) _).alloc (by simp; omega) _).alloc (by simp; omega) _
 have S2:Hid (LyB u.heap.size (u.heap.size + 1) (u.heap.size + 1 + 1) o b ((((u.alloc (.cells #[.pointer (some ⟨o,0,none⟩)] 30)).alloc (.cells #[.int .i64 (b:Int)] 3)).alloc (.cells #[.int .i64 0] 31)).alloc (.cells (madeCells #[.int .i64 0] n) 3))):=by
  have b0:=Bl.new u #[.pointer (some ⟨o,0,none⟩)] 30
  have b1:=Bl.new (u.alloc (.cells #[.pointer (some ⟨o,0,none⟩)] 30)) #[.int .i64 (b:Int)] 3
  have b2:=Bl.new ((u.alloc (.cells #[.pointer (some ⟨o,0,none⟩)] 30)).alloc (.cells #[.int .i64 (b:Int)] 3)) #[.int .i64 0] 31
  rw [show (u.alloc (.cells #[.pointer (some ⟨o,0,none⟩)] 30)).heap.size=u.heap.size + 1 by simp] at b1
  rw [show ((u.alloc (.cells #[.pointer (some ⟨o,0,none⟩)] 30)).alloc (.cells #[.int .i64 (b:Int)] 3)).heap.size=u.heap.size + 1 + 1 by simp] at b2
  exact ⟨((b0.alloc _).alloc _).alloc _,(b1.alloc _).alloc _,b2.alloc _⟩
 have hne':(er == 0)=false:=by simpa using hne
 have hne2:(er != 0)=true:=by simpa using hne
 clear hN8 e8
 refine (callsIn_wide (n:=3)).1 ?_
 refine callsIn_of_wp_marks Tryz.func48 rfl trivial ?_ rfl
 simp only [Tryz.ntmps48,List.size_toArray,List.length_cons,List.length_nil,Nat.reduceAdd,Nat.reduceSub,Array.replicate_succ,Array.replicate_zero,List.push_toArray,List.append_toArray,List.nil_append,List.cons_append]
 gi_wp2
 generalize ((((u.alloc (.cells #[.pointer (some ⟨o,0,none⟩)] 30)).alloc (.cells #[.int .i64 (b:Int)] 3)).alloc (.cells #[.int .i64 0] 31)).alloc (.cells (madeCells #[.int .i64 0] n) 3))=w0 at *
 have hq3:Hid (u.heap.size + 1 + 1 < u.heap.size + 1 + 1 + 1∧u.heap.size + 1 + 1 + 1=u.heap.size + 3):=⟨by omega,by omega⟩
 generalize hm3:u.heap.size + 1 + 1 + 1=m3 at *
 generalize hm2':u.heap.size + 1 + 1=m2 at *
 generalize hm1':u.heap.size + 1=m1 at *
 have HM:Hid (u.heap.size + 1=m1∧u.heap.size + 2=m2∧u.heap.size + 3=m3):=⟨by omega,by omega,by omega⟩
 generalize hm0:u.heap.size=m0 at *
 have HM0:=hide hm0
 clear hm3 hm2' hm1' hm0 hmk hq3
 gi_loopw [21] (fun v wr=>∃ k:Nat,k ≤ n∧v=.int .i64 (k:Int)∧Hid (NBl wr m3 (nrow n k))∧Hid (Below m0 u wr)∧Hid (LyB m0 m1 m2 o b wr)) (fun v _=>n - (intOf v).toNat)
 case atStart=>exact ⟨0,Nat.zero_le _,rfl,S0,S1,S2⟩
 case round =>
  obtain ⟨k,hk,rfl,R0,R1,R2⟩:=hrel
  clear S0 S1 S2
  by_cases hlt:k < n
  ·have c1:=(unhide R0).cell (j:=k) (by rw [nrow_len hk]; exact hlt)
   have f1:wr.frozen? ⟨m3,k,none⟩=false:=Bl.free (unhide R0) k
   have R0':=(unhide R0).set k (k:Int)
   rw [nrow_set hlt] at R0'
   have R0'':=hide R0'
   have R1':=hide ((unhide R1).setCell (p:=⟨m3,k,none⟩) (by show m0 ≤ m3; have:=unhide HM; have:=unhide HM0; omega) (.int .i64 (k:Int)))
   have R2':=hide ((unhide R2).set (k:=m3) (j:=k) (.int .i64 (k:Int)) (by have:=unhide HM; have:=unhide HM0; omega) (by have:=unhide HM; omega) (by have:=unhide HM; omega))
   generalize (nrow n k)[k]?.getD 0=z at *
   clear R0 R1 R2 R0' KM
   gi_wp2
   go_roundw
   case rel=>exact ⟨k + 1,by omega,by go_num,R0'',R1',R2'⟩
   case measure=>simp [intOf]; omega
  ·have ekn:n=k:=by omega
   have I0:Hid (IHas wr (some ⟨m3,0,none⟩) n (upTo n)):=by
    have:=(unhide R0).ihas
    rw [← ekn,nrow_full,upTo_len] at this
    exact this
   have KM':=hide (unhide KM wr (unhide I0))
   have hkn:(k:Int)=(n:Int):=by omega
   rw [hkn]
   have hq1:Hid (m3 < wr.heap.size):=(Array.getElem?_eq_some_iff.1 (unhide R0)).1
   clear KM I0 R0 hlt ekn hkn hk
   gi_wp2_with (refine ⟨trivial,?_⟩; gi_at_call 80; refine (callsIn_wide.2 (unhide KM')).mono ?_; rintro e w1 ⟨rfl,B1,b1⟩; clear KM')
   have hq2:Hid (wr.heap.size < w1.heap.size):=(Array.getElem?_eq_some_iff.1 (unhide B1)).1
   have R1':=hide ((unhide R1).trans ((unhide b1).mono (by have:=unhide hq1; have:=unhide HM; have:=unhide HM0; omega)))
   have R2':=hide ((unhide R2).call (unhide b1))
   clear R1 R2 b1
   generalize hq:wr.heap.size=q at *
   clear hq
   refine ⟨trivial,?_⟩
   refine (chunk_in _ _ trivial rfl _ _ _ _ (by omega) _).mono ?_
   rintro e w2 ⟨rfl,ew2⟩
   have hz2:w2.heap.size=w1.heap.size + 2:=by rw [ew2]; simp
   have b12:Below w1.heap.size w1 w2:=by rw [ew2]; exact ((Below.refl _ _).alloc (Nat.le_refl _) _).alloc (by simp) _
   have BS:Bl w2 w1.heap.size #[.slice (some ⟨q,0,none⟩) blk blk] 81:=by rw [ew2]; exact (Bl.new w1 _ _).alloc _
   have BN:Bl w2 (w1.heap.size + 1) #[.int .i64 (blk:Int)] 3:=by
    have:=Bl.new (w1.alloc (.cells #[.slice (some ⟨q,0,none⟩) blk blk] 81)) #[.int .i64 (blk:Int)] 3
    rw [World.size_alloc] at this
    rw [ew2]; exact this
   have BD:Bl w2 q ((blay blk (upTo n)).map (Value.int .u8)).toArray 5:=Bl.call (u:=w1) (unhide B1) b12
   have LB:=(unhide R2').call b12
   have hb2:Below m0 u w2:=(unhide R1').trans (b12.mono (by have:=unhide hq1; have:=unhide hq2; have:=unhide HM; have:=unhide HM0; omega))
   clear ew2 B1 R1' R2' b12
   have hq4:q < w1.heap.size:=unhide hq2
   generalize w1.heap.size=Bs at *
   have hm0q:=unhide hq1
   have hms:=unhide HM
   have hmu:=unhide HM0
   have hR:ChR Bs (Bs + 1) q 0 blk blk w2:=⟨BS.cell 0 _ rfl,BN.cell 0 _ rfl⟩
   have hzs:(blay blk (upTo n)).length=blk:=blay_length _ _
   have hzb:∀ z ∈ blay blk (upTo n),0 ≤ z∧z ≤ 255:=blay_byts _ _
   have KW2:Hid (∀ v x,Below w2.heap.size w2 v→Calls Tryz.prog 78 #[.pointer (some ⟨o,0,none⟩),.int .i64 (b:Int),x] v fun e w'=>e=.returned (.int .i64 er)∧v=w'):=fun v x hv=>unhide KW v x (hb2.trans (hv.mono (by omega)))
   have HS:Hid (m2 < w2.heap.size∧m0 ≤ w2.heap.size∧m0 ≤ m2∧Bs + 1 < w2.heap.size∧m1 < w2.heap.size∧m0 < w2.heap.size):=⟨by omega,by omega,by omega,by omega,by omega,by omega⟩
   have HL:=hide (And.intro LB hb2)
   have HC:=hide (And.intro BS BN)
   clear BS BN BD LB KW
   generalize hzz:blay blk (upTo n)=zs at *
   have HZZ:=hide hzz
   clear hzz
   gi_wp2
   refine wpIn_rangeFunc_ownG rfl (by omega) (gf:=119) (lb:=#[.pointer (some ⟨Bs,0,none⟩),.pointer (some ⟨Bs + 1,0,none⟩)]) rfl trivial (enters_of Tryz.func119 (by kernel_rfl) rfl)
    (chunk_stops Fence.wide 2 trivial rfl (by omega) Bs (Bs + 1) q 0 blk blk (by omega) (Nat.le_refl _) w2 (by omega) (by omega)
     (fun A B=>B.heap[Bs]?=A.heap[Bs]?∧B.heap[Bs + 1]?=A.heap[Bs + 1]?)
     (fun A B hk hr=>⟨(World.cell?_of_block hk.1).trans hr.1,(World.cell?_of_block hk.2).trans hr.2⟩) hR)
    (fun h k=>⟨k.1.trans h.1,k.2.trans h.2⟩) (fun W l o o' hl h1 h2 h3=>⟨World.putObj_heap_other (by omega),World.putObj_heap_other (by omega)⟩) (Below.refl _ _) (fun _=>rfl)
    (fun s W=>s=[]∧Below w2.heap.size w2 W) (fun c _ W=>c=.ret∧Below m0 u W∧Bl W m2 #[.int .i64 er] 31) (fun s W W' row hs hg hr=>⟨hs.1,hs.2.grown hg hs.2.size (fun k e=>(hr k e).1)⟩)
    (fun c s W W' row hs hg hr=>⟨hs.1,hs.2.1.grown hg (by have:=hs.2.1.size; omega) (fun k e=>by have:=(hr k e).1; have:=unhide HS; omega),(hg.block m2 (Array.getElem?_eq_some_iff.1 hs.2.2).1 (fun e=>by have:=(hr m2 e.symm).1; have:=unhide HS; omega)).trans hs.2.2⟩) ⟨rfl,Below.refl _ _⟩
    (fun _=>{ tmps:=#[.pointer (some ⟨o,0,none⟩),.int .i64 (blk:Int),.int .i64 (b:Int),.int .i64 1,.int .i64 (n:Int),.pointer (some ⟨m0,0,none⟩),undef,.pointer (some ⟨m1,0,none⟩),undef,undef,.pointer (some ⟨m2,0,none⟩),.slice (some ⟨m3,0,none⟩) n n,u12,.slice (some ⟨q,0,none⟩) blk blk,.int .i64 0,.slice (some ⟨q,0,none⟩) blk blk,undef,.int .i64 (n:Int),.slice (some ⟨m3,0,none⟩) n n,.slice (some ⟨m3,0,none⟩) n n,.int .i64 (n:Int),.int .i64 (n:Int),.bool false,u23,u24,u25,u26,u27,u28,.tuple #[.slice (some ⟨q,0,none⟩) blk blk,.int .i64 0],.int .i64 (blk:Int),.int .i64 (N8:Int),.int .i64 1,.int .i64 (N8:Int),.slice (some ⟨m3,0,none⟩) n n,.tuple #[.slice (some ⟨q,0,none⟩) blk blk,.int .i64 0],.slice (some ⟨q,0,none⟩) blk blk,.int .i64 0,.int .i64 0,.bool false,undef,.slice (some ⟨q,0,none⟩) blk blk,.int .i64 (blk:Int),.func (.func 119) #[] #[.pointer (some ⟨Bs,0,none⟩),.pointer (some ⟨Bs + 1,0,none⟩)],.slice (some ⟨q,0,none⟩) blk blk,undef,undef,undef,undef,undef,undef,undef,undef,undef],defers:=[] }) ?assign ?body ?done ?stop
   case assign =>
    intro l x W K hK
    gi_wp2
    exact hK
   case body =>
    intro l pre x W hI hlt
    have hW:=hI.2
    have c0:Bl W m0 #[.pointer (some ⟨o,0,none⟩)] 30:=(unhide HL).1.b0.call hW
    have c1:Bl W m1 #[.int .i64 (b:Int)] 3:=(unhide HL).1.b1.call hW
    have c2:Bl W m2 #[.int .i64 0] 31:=(unhide HL).1.b2.call hW
    have y0:=c0.cell 0 (.pointer (some ⟨o,0,none⟩)) rfl
    have y1:=c1.cell 0 (.int .i64 (b:Int)) rfl
    have y2:=c2.cell 0 (.int .i64 0) rfl
    have y3:=c2.free 0
    have KW3:=hide (fun x=>unhide KW2 W x hW)
    have X2:Hid (Below m0 u (W.setCell ⟨m2,0,none⟩ (.int .i64 er))∧Bl (W.setCell ⟨m2,0,none⟩ (.int .i64 er)) m2 #[.int .i64 er] 31):=by
     have hs:=unhide HS
     exact ⟨((unhide HL).2.trans (hW.mono (by omega))).setCell (p:=⟨m2,0,none⟩) (by show m0 ≤ m2; omega) _,Bl.set c2 0 (.int .i64 er)⟩
    clear hI hlt hW c0 c1 c2 hR KW2 HL
    gi_wp2_with (refine ⟨trivial,?_⟩; gi_at_call 78; refine (CallsIn.inRound l (callsIn_wide.2 (unhide KW3 _))).mono ?_; rintro e W1 ⟨rfl,rfl⟩; clear KW3 y0 y1)
    exact ⟨(KeepsOthers.setCell _ _ _).from _,rfl,unhide X2⟩
   case done =>
    intro D ys W hD hS hI hK
    subst hS
    exact absurd hI.1 (by simp)
   case stop =>
    intro D c pre W hD _ h hK
    obtain ⟨rfl,hW,h2⟩:=h
    have hmD:D ≠ m2:=by have:=unhide HS; omega
    have HKD:=hide hK
    have HW:=hide (And.intro hW h2)
    clear hW h2 hK hR KW2 HL
    gi_wp2
    refine ⟨by simp,.inl ⟨_,_,rfl,run_takeDeferred (unhide HKD),?_⟩⟩
    have hg:=grownBy_putObj' W D (.deferred none)
    refine ⟨.int .i64 er,?_,rfl,?_⟩
    ·have y4:Bl (W.putObj D (.deferred none)) m2 #[.int .i64 er] 31:=(hg.block m2 (Array.getElem?_eq_some_iff.1 (unhide HW).2).1 (fun e=>hmD (by cases e; rfl))).trans (unhide HW).2
     have y5:=y4.cell 0 (.int .i64 er) rfl
     simp [results,Tryz.results48,go_sem,y5]
    ·have hs:=unhide HS
     have hmu2:=unhide HM0
     rw [hmu2]
     exact (unhide HW).1.grown hg (by have:=(unhide HW).1.size; have hz:=(unhide HM); omega) (fun k e=>by cases e; omega)

end Go.Proofs.YtdfanhjnkjdngabGreatDoor

/- The law's fixed run. -/
namespace Go.Proofs.YtdfanhjnkjdngabGreatDoor
set_option maxRecDepth 100000
set_option maxHeartbeats 8000000
open Go.RowKit Go.Shelf Go.Maps
set_option linter.unusedVariables false

theorem rd_3:Rd 4613937818241073152 3:=⟨false,3,51,by decide +kernel,rfl⟩

theorem rd_23:Rd 4627167142146473984 23:=⟨false,23,48,by decide +kernel,rfl⟩

theorem ord_eq {x y:Nat} {a b:Int} (hx:Rd x a) (hy:Rd y b) (h:a=b):FloatKind.f64.format.order x y=some .eq:=by
 have:=rd_order hx hy
 show Ieee.double.order x y=_
 rw [this,h]
 simp [compare,compareOfLessAndEq]

theorem awakes_any (w:World) (hT:Tab w):Calls Tryz.prog 6 #[] w fun e w'=>e=.returned (.bool true)∧Below w.heap.size w w':=by
 have h0:0 < w.heap.size:=hT.lt
 have K1:=hide (asmall_any w)
 have K2:Hid (∀ u,Below w.heap.size w u→Calls Tryz.prog 8 #[Pv aP] u fun e w'=>∃ g a,e=.returned (.tuple #[.pointer (some ⟨g,0,none⟩),.pointer (some ⟨a,0,none⟩)]) ∧
   Hid (Calls Tryz.prog 9 #[.pointer (some ⟨g,0,none⟩)] w' fun e u1=>∃ o,e=.returned (.tuple #[.pointer (some ⟨o,0,none⟩),.int .i64 0]) ∧
    Hid (Calls Tryz.prog 12 #[.pointer (some ⟨a,0,none⟩),.pointer (some ⟨o,0,none⟩)] u1 fun e u2=>e=.returned (.tuple #[.int .i64 16,.int .i64 0]) ∧
     Hid (Calls Tryz.prog 11 #[.pointer (some ⟨a,0,none⟩),.pointer (some ⟨o,0,none⟩)] u2 fun e u3=>e=.returned (.tuple #[.int .i64 2,.int .i64 0]) ∧
      Hid (Calls Tryz.prog 10 #[.pointer (some ⟨a,0,none⟩),.pointer (some ⟨o,0,none⟩)] u3 fun e u4=>AnsA e 0 23 3∧Hid (Below w.heap.size w u4)))))):=fun u hu=>by
  refine (a_start w u hu hT).mono ?_
  rintro e w' ⟨g,a,rfl,Y⟩
  refine ⟨g,a,rfl,(a_begin ((unhide Y).rebase hu)).mono ?_⟩
  rintro e u1 ⟨o,rfl,Y1⟩
  refine ⟨o,rfl,?_⟩
  have hB:=a_block (unhide Y1) h0
  rw [show fbk (fun j=>decide (j < 16)) (fun _=>false)=16 by decide] at hB
  refine hB.mono ?_
  rintro e u2 ⟨rfl,Y2⟩
  refine ⟨rfl,?_⟩
  have hI:=a_inode (unhide Y2) h0
  rw [show fin6 (fun j=>decide (j < 2))=2 by decide] at hI
  refine hI.mono ?_
  rintro e u3 ⟨rfl,Y3⟩
  refine ⟨rfl,?_⟩
  have hF:=a_free (unhide Y3) h0
  refine hF.mono ?_
  rintro e u4 ⟨r,Y4⟩
  exact ⟨r,(unhide Y4).bel⟩
 clear hT h0
 go_enter Tryz.func6,Tryz.ntmps6
 go_wp2_with fail
 go_at_call 7
 refine (unhide K1).mono ?_
 rintro e w1 ⟨rfl,hb1⟩
 have K3:=hide (unhide K2 w1 hb1)
 clear K1 K2 hb1
 go_wp2_with fail
 go_at_call 8
 refine (unhide K3).mono ?_
 rintro e w2 ⟨g,a,rfl,K4⟩
 clear K3
 go_wp2_with fail
 go_at_call 9
 refine (unhide K4).mono ?_
 rintro e w3 ⟨o,rfl,K5⟩
 clear K4
 go_wp2_with fail
 go_at_call 12
 refine (unhide K5).mono ?_
 rintro e w4 ⟨rfl,K6⟩
 clear K5
 go_wp2_with fail
 go_at_call 11
 refine (unhide K6).mono ?_
 rintro e w5 ⟨rfl,K7⟩
 clear K6
 go_wp2_with fail
 go_at_call 10
 refine (unhide K7).mono ?_
 rintro e w6 ⟨⟨x,y,rfl,r1,r2⟩,Z⟩
 have o1:=ord_eq r1 rd_23 rfl
 have o2:=ord_eq r2 rd_3 rfl
 clear K7 r1 r2
 go_wp2_with fail
 go_ret
 exact ⟨rfl,unhide Z⟩

end Go.Proofs.YtdfanhjnkjdngabGreatDoor

/- The law's plan in memory; blocks that are taken in their order. -/
namespace Go.Proofs.YtdfanhjnkjdngabGreatDoor
set_option maxRecDepth 100000
set_option maxHeartbeats 8000000
open Go.RowKit Go.Shelf Go.Maps
set_option linter.unusedVariables false

def plA:Obj:=.cells (Pc aP) 24 (0,0)

theorem plA_cells {u:World} {k:Nat} (h:u.heap[k]?=some plA):u.cell? ⟨k,1,none⟩=some (.int .i64 40)∧u.cell? ⟨k,2,none⟩=some (.int .i64 6)∧u.cell? ⟨k,11,none⟩=some (.int .i64 16):=by
 have B:Bl u k (Pc aP) 24:=h
 have c1:=B.cell 1 (.int .i64 (aP 1)) rfl
 have c2:=B.cell 2 (.int .i64 (aP 2)) rfl
 have c3:=B.cell 11 (.int .i64 (aP 11)) rfl
 rw [aP_at] at c1 c2 c3
 exact ⟨c1,c2,c3⟩

def bt (k:Nat):Nat→Bool:=fun j=>decide (j < 16 + k)

def km (k:Nat):Nat→Bool:=fun j=>decide (16 + k ≤ j∧j < 40)

end Go.Proofs.YtdfanhjnkjdngabGreatDoor

/- AllocNil: calls that are refused. -/
namespace Go.Proofs.YtdfanhjnkjdngabGreatDoor
set_option maxRecDepth 100000
set_option maxHeartbeats 8000000
open Go.RowKit Go.Shelf Go.Maps
set_option linter.unusedVariables false

theorem nil_block (q:Value) (u:World):Calls Tryz.prog 12 #[.pointer none,q] u fun e w'=>e=.returned (.tuple #[.int .i64 0,.int .i64 1])∧u=w':=by
 go_enter Tryz.func12,Tryz.ntmps12
 go_wp2_with fail
 go_ret2
 exact ⟨rfl,rfl⟩

theorem nil_inode (q:Value) (u:World):Calls Tryz.prog 11 #[.pointer none,q] u fun e w'=>e=.returned (.tuple #[.int .i64 0,.int .i64 1])∧u=w':=by
 go_enter Tryz.func11,Tryz.ntmps11
 go_wp2_with fail
 go_ret2
 exact ⟨rfl,rfl⟩

theorem nil_free (q:Value) (u:World):Calls Tryz.prog 10 #[.pointer none,q] u fun e w'=>e=.returned (.tuple #[.complex .f64 0 0,.int .i64 1])∧u=w':=by
 go_enter Tryz.func10,Tryz.ntmps10
 go_wp2_with fail
 go_ret2
 exact ⟨rfl,rfl⟩

theorem nil_freeBlock (q b:Value) (u:World):Calls Tryz.prog 16 #[.pointer none,q,b] u fun e w'=>e=.returned (.int .i64 1)∧u=w':=by
 go_enter Tryz.func16,Tryz.ntmps16
 go_wp2_with fail
 go_ret
 exact ⟨rfl,rfl⟩

theorem nil_freeInode (q b:Value) (u:World):Calls Tryz.prog 15 #[.pointer none,q,b] u fun e w'=>e=.returned (.int .i64 1)∧u=w':=by
 go_enter Tryz.func15,Tryz.ntmps15
 go_wp2_with fail
 go_ret
 exact ⟨rfl,rfl⟩

theorem anew_nil (P:Nat→Int) (u:World):Calls Tryz.prog 17 #[.pointer none,Pv P] u fun e u'=>e=.returned (.tuple #[.pointer none,.int .i64 1])∧Below u.heap.size u u':=by
 have Z:Hid (Below u.heap.size u (u.alloc (.cells (Pc P) 24))):=(Below.refl _ _).alloc (Nat.le_refl _) _
 go_enter Tryz.func17,Tryz.ntmps17
 go_wp2_with fail
 go_ret2
 exact ⟨rfl,unhide Z⟩

theorem anew_form (P:Nat→Int) (g:Nat) (u:World) (hc:checkE P=4) :
  Calls Tryz.prog 17 #[.pointer (some ⟨g,0,none⟩),Pv P] u fun e u'=>e=.returned (.tuple #[.pointer none,.int .i64 4])∧Below u.heap.size u u':=by
 have HK:=hide (Kp.start u P)
 have K1:Hid (∀ w,Calls Tryz.prog 47 #[Pv P] w fun e w'=>e=.returned (.int .i64 4)∧Below w.heap.size w w'):=fun w=>by
  have:=check_any P w
  rwa [hc] at this
 clear hc
 obtain ⟨f0,f1,f2,f3,f4,f5,f6,f7,f8,f9,f10,f11⟩:=(unhide HK).cells
 go_enter Tryz.func17,Tryz.ntmps17
 go_wp2_with fail
 go_at_call 47
 refine (unhide K1 _).mono ?_
 rintro e w1 ⟨rfl,hb⟩
 replace HK:=hide ((unhide HK).call hb)
 clear f0 f1 f2 f3 f4 f5 f6 f7 f8 f9 f10 f11 K1 hb
 go_wp2_with fail
 go_ret2
 exact ⟨rfl,(unhide HK).2⟩

theorem format_form (P:Nat→Int) (q:Value) (u:World) (hc:checkE P=4) :
  Calls Tryz.prog 18 #[q,Pv P] u fun e u'=>e=.returned (.int .i64 4)∧Below u.heap.size u u':=by
 have HK:=hide (Kp.start u P)
 have K1:Hid (∀ w,Calls Tryz.prog 47 #[Pv P] w fun e w'=>e=.returned (.int .i64 4)∧Below w.heap.size w w'):=fun w=>by
  have:=check_any P w
  rwa [hc] at this
 clear hc
 obtain ⟨f0,f1,f2,f3,f4,f5,f6,f7,f8,f9,f10,f11⟩:=(unhide HK).cells
 go_enter Tryz.func18,Tryz.ntmps18
 go_wp2_with fail
 go_at_call 47
 refine (unhide K1 _).mono ?_
 rintro e w1 ⟨rfl,hb⟩
 replace HK:=hide ((unhide HK).call hb)
 clear f0 f1 f2 f3 f4 f5 f6 f7 f8 f9 f10 f11 K1 hb
 go_wp2_with fail
 go_ret
 exact ⟨rfl,(unhide HK).2⟩

theorem format_bad (P:Nat→Int) (o blk b:Nat) (er:Int) (u:World) (hc:checkE P=0) (hp0:P 0=(blk:Int)) (hp5:P 5=(b:Int)) (hp6:P 6=1) (hbk:64 ≤ blk∧blk ≤ 4096) (hb4:b ≤ 4096) (hne:er ≠ 0)
  (KW:Hid (∀ v x,Below u.heap.size u v→Calls Tryz.prog 78 #[.pointer (some ⟨o,0,none⟩),.int .i64 (b:Int),x] v fun e w'=>e=.returned (.int .i64 er)∧v=w')) :
  Calls Tryz.prog 18 #[.pointer (some ⟨o,0,none⟩),Pv P] u fun e u'=>e=.returned (.int .i64 er)∧Below u.heap.size u u':=by
 have HK:=hide (Kp.start u P)
 have K1:Hid (∀ w,Calls Tryz.prog 47 #[Pv P] w fun e w'=>e=.returned (.int .i64 0)∧Below w.heap.size w w'):=fun w=>by
  have:=check_any P w
  rwa [hc] at this
 have K2:Hid (∀ v,Below u.heap.size u v→Calls Tryz.prog 48 #[.pointer (some ⟨o,0,none⟩),.int .i64 (P 0),.int .i64 (P 5),.int .i64 (P 6),.int .i64 2] v fun e u'=>e=.returned (.int .i64 er)∧Below v.heap.size v u'):=fun v hv=>by
  rw [hp0,hp5,hp6]
  exact lay_bad o blk b 2 er v hbk (by omega) hb4 hne (fun v' x hv'=>unhide KW v' x (hv.trans (hv'.mono hv.size)))
 have hne':(er == 0)=false:=by simpa using hne
 have hne2:(er != 0)=true:=by simpa using hne
 clear hc hp0 hp5 hp6 hbk hb4 KW
 obtain ⟨f0,f1,f2,f3,f4,f5,f6,f7,f8,f9,f10,f11⟩:=(unhide HK).cells
 go_enter Tryz.func18,Tryz.ntmps18
 go_wp2_with fail
 go_at_call 47
 refine (unhide K1 _).mono ?_
 rintro e w1 ⟨rfl,hb⟩
 replace HK:=hide ((unhide HK).call hb)
 clear f0 f1 f2 f3 f4 f5 f6 f7 f8 f9 f10 f11 K1 hb
 obtain ⟨f0,f1,f2,f3,f4,f5,f6,f7,f8,f9,f10,f11⟩:=(unhide HK).cells
 have K3:=hide (unhide K2 w1 (unhide HK).2)
 clear K2
 go_wp2_with fail
 go_at_call 48
 refine (unhide K3).mono ?_
 rintro e w2 ⟨rfl,hb⟩
 have Z:=hide ((unhide HK).2.trans (hb.mono (unhide HK).2.size))
 clear K3 HK hb f0 f1 f2 f3 f4 f5 f6 f7 f8 f9 f10 f11
 go_wp2_with fail
 go_ret
 exact ⟨rfl,unhide Z⟩

theorem al_block_bad {g a:Nat} {u:World} {q:Option Addr} (er:Int) (hne:er ≠ 0) (hal0:u.heap[a]?=some (alO g aP))
  (KR:Hid (∀ v,Below u.heap.size u v→Calls Tryz.prog 74 #[.pointer q,.int .i64 12] v fun e w'=>e=.returned (.tuple #[.slice none 0 0,.int .i64 er])∧v=w')) :
  Calls Tryz.prog 12 #[.pointer (some ⟨a,0,none⟩),.pointer q] u fun e u'=>e=.returned (.tuple #[.int .i64 0,.int .i64 er])∧Hid (Below u.heap.size u u'):=by
 have hal:Bl u a (alA g aP) 78:=hal0
 have c0:=hal.cell 0 (.pointer (some ⟨g,0,none⟩)) rfl
 have p0:aP 0=64:=by rw [aP_at]; rfl
 have p1:aP 1=40:=by rw [aP_at]; rfl
 have p7:aP 7=12:=by rw [aP_at]; rfl
 have p11:aP 11=16:=by rw [aP_at]; rfl
 have KA:Hid (∀ v,Below u.heap.size u v→Calls Tryz.prog 27 #[.pointer (some ⟨a,0,none⟩)] v fun e w'=>e=.returned (Bv 12 512 16 40)∧Hid (Below u.heap.size u w')∧w'.cell? ⟨a,0,none⟩=some (.pointer (some ⟨g,0,none⟩))):=fun v hv=>by
  have hal2:Bl v a (alA g aP) 78:=hal.call hv
  have:=ablocks_any (u:=v) (a:=a) (g:=g) (P:=aP) hal2 (by omega)
  rw [p0,p1,p7,p11] at this
  refine this.mono ?_
  rintro e w' ⟨rfl,b1⟩
  have b2:=hv.trans (b1.mono hv.size)
  exact ⟨rfl,b2,(hal.call b2).cell 0 (.pointer (some ⟨g,0,none⟩)) rfl⟩
 have KT:Hid (∀ v kf,Below u.heap.size u v→Calls Tryz.prog 33 #[Bv 12 512 16 40,.pointer q,kf] v fun e u'=>e=.returned (.tuple #[.int .i64 0,.int .i64 er])∧Hid (Below u.heap.size u u')):=fun v kf hv=>by
  refine (take_bad 12 512 16 40 er q kf v (by omega) (by omega) (by omega) (by omega) (by omega) hne (by omega) (fun v' hv'=>unhide KR v' (hv.trans (hv'.mono hv.size)))).mono ?_
  rintro e u' ⟨rfl,b1⟩
  exact ⟨rfl,hv.trans (b1.mono hv.size)⟩
 clear hal hal0 p0 p1 p7 p11 KR
 go_enter Tryz.func12,Tryz.ntmps12
 go_upto_region 3 with fail
 go_region_with (first
  | (go_at_call 27; refine (unhide KA _ (by first | exact Below.refl _ _ | exact (Below.refl _ _).drew)).mono ?_; rintro e w1 ⟨rfl,hb1,c1⟩; clear KA)
  | (go_at_call 33; refine (unhide KT _ _ (by first | exact unhide hb1 | exact (unhide hb1).drew)).mono ?_; rintro e w2 ⟨rfl,Z⟩; clear KT))
 all_goals (go_wp2_with fail; go_ret2; first | exact ⟨rfl,Z⟩ | exact ⟨rfl,hide ((unhide Z).drew)⟩)

theorem check_zero:checkE (fun _=>0)=4:=checkE_bad (by rw [makeE_bad (badB_iff.1 (by decide))]; omega)

def Av (w:World) (g a o:Nat) (rows:List (Nat × Obj)) (u:World):Prop:=∃ i V F,Lv0 w aP aG aE g o ((a,alO g aP) :: rows) i V F u

theorem Av.later {w:World} {g a o:Nat} {rows:List (Nat × Obj)} {u u':World} (h:Av w g a o rows u) (hb:Below u.heap.size u u'):Av w g a o rows u':=by
 obtain ⟨i,V,F,l⟩:=h
 exact ⟨i,V,F,l.later hb⟩

theorem Av.row {w:World} {g a o:Nat} {rows:List (Nat × Obj)} {u:World} (h:Av w g a o rows u) {x:Nat × Obj} (hx:x ∈ (a,alO g aP) :: rows):u.heap[x.1]?=some x.2:=by
 obtain ⟨i,V,F,l⟩:=h
 exact l.lo.row hx

theorem Av.bel {w:World} {g a o:Nat} {rows:List (Nat × Obj)} {u:World} (h:Av w g a o rows u):Below w.heap.size w u:=by
 obtain ⟨i,V,F,l⟩:=h
 exact l.lo.bel

theorem v_read {w:World} {g a o:Nat} {rows:List (Nat × Obj)} {u:World} (h:Av w g a o rows u) (b:Value):Calls Tryz.prog 74 #[.pointer (some ⟨o,0,none⟩),b] u fun e w'=>e=.returned (.tuple #[.slice none 0 0,.int .i64 22])∧u=w':=by
 obtain ⟨i,V,F,cg,lg,dg,X,C,L,D,S,l,_,ov⟩:=h
 exact oread_over l.hl.gv ov b

theorem v_write {w:World} {g a o:Nat} {rows:List (Nat × Obj)} {u:World} (h:Av w g a o rows u) (b x:Value):Calls Tryz.prog 78 #[.pointer (some ⟨o,0,none⟩),b,x] u fun e w'=>e=.returned (.int .i64 22)∧u=w':=by
 obtain ⟨i,V,F,cg,lg,dg,X,C,L,D,S,l,_,ov⟩:=h
 exact owrite_over l.hl.gv ov b x

theorem v_block {w:World} {g a o:Nat} {rows:List (Nat × Obj)} {u:World} (h:Av w g a o rows u):Calls Tryz.prog 12 #[.pointer (some ⟨a,0,none⟩),.pointer (some ⟨o,0,none⟩)] u fun e u'=>e=.returned (.tuple #[.int .i64 0,.int .i64 22])∧Hid (Av w g a o rows u'):=by
 refine (al_block_bad 22 (by omega) (h.row (List.mem_cons_self ..)) (fun v hv=>v_read (h.later hv) _)).mono ?_
 rintro e u' ⟨rfl,b⟩
 exact ⟨rfl,h.later (unhide b)⟩

theorem v_format {w:World} {g a o:Nat} {rows:List (Nat × Obj)} {u:World} (h:Av w g a o rows u):Calls Tryz.prog 18 #[.pointer (some ⟨o,0,none⟩),Pv aP] u fun e u'=>e=.returned (.int .i64 22)∧Hid (Av w g a o rows u'):=by
 have hpg:PG aP aG:=by
  obtain ⟨i,V,F,cg,lg,dg,X,C,L,D,S,l,_,ov⟩:=h
  obtain ⟨Sg,Sc,Sl,Sd,m,mk,ml,az⟩:=l.hl.gv
  exact az.gr.pg
 refine (format_bad aP o 64 11 22 u hpg.chk (by rw [aP_at]; rfl) (by rw [aP_at]; rfl) (by rw [aP_at]; rfl) (by omega) (by omega) (by omega) (fun v x hv=>v_write (h.later hv) _ x)).mono ?_
 rintro e u' ⟨rfl,b⟩
 exact ⟨rfl,h.later b⟩

theorem v_abort {w:World} {g a o:Nat} {rows:List (Nat × Obj)} {i:Nat} {β ι F β' ι' K:Nat→Bool} {u:World} (h:Ap w g a o rows i β ι F β' ι' K u) :
  Calls Tryz.prog 14 #[.pointer (some ⟨o,0,none⟩)] u fun e u1=>e=.returned (.int .i64 0)∧Hid (Av w g a o rows u1):=by
 obtain ⟨V,V',l,r1,r2,_⟩:=h
 refine (h_abort l).mono ?_
 rintro e u1 ⟨rfl,Y⟩
 exact ⟨rfl,_,V,F,unhide Y⟩

theorem v_nilop {w:World} {g a o:Nat} {rows:List (Nat × Obj)} {i:Nat} {β ι F β' ι' K:Nat→Bool} {u:World} (h:Ap w g a o rows i β ι F β' ι' K u) :
  Calls Tryz.prog 12 #[.pointer (some ⟨a,0,none⟩),.pointer none] u fun e u'=>e=.returned (.tuple #[.int .i64 0,.int .i64 1])∧Hid (Ap w g a o rows i β ι F β' ι' K u'):=by
 have hr:u.heap[a]?=some (alO g aP):=by
  obtain ⟨V,V',l,_⟩:=h
  exact l.row (x:=(a,alO g aP)) (List.mem_cons_self ..)
 refine (al_block_bad 1 (by omega) hr (fun v hv=>oread_nil _ v)).mono ?_
 rintro e u' ⟨rfl,b⟩
 exact ⟨rfl,h.later (unhide b)⟩

theorem v_rangeB {w:World} {g a o:Nat} {rows:List (Nat × Obj)} {i:Nat} {β ι F β' ι' K:Nat→Bool} {u:World} (h:Ap w g a o rows i β ι F β' ι' K u) (b:Int) (hb:b < 16 ∨ 40 ≤ b) :
  Calls Tryz.prog 16 #[.pointer (some ⟨a,0,none⟩),.pointer (some ⟨o,0,none⟩),.int .i64 b] u fun e u'=>e=.returned (.int .i64 2)∧Hid (Ap w g a o rows i β ι F β' ι' K u'):=by
 have h':=h
 obtain ⟨V,V',l,_⟩:=h'
 refine (al_freeBlock_range (a:=a) l aA (List.mem_cons_self ..) _ b hb).mono ?_
 rintro e u' ⟨rfl,rfl⟩
 exact ⟨rfl,h⟩

theorem v_rangeI {w:World} {g a o:Nat} {rows:List (Nat × Obj)} {i:Nat} {β ι F β' ι' K:Nat→Bool} {u:World} (h:Ap w g a o rows i β ι F β' ι' K u) (b:Int) (hb:b < 2 ∨ 6 ≤ b) :
  Calls Tryz.prog 15 #[.pointer (some ⟨a,0,none⟩),.pointer (some ⟨o,0,none⟩),.int .i64 b] u fun e u'=>e=.returned (.int .i64 2)∧Hid (Ap w g a o rows i β ι F β' ι' K u'):=by
 have h':=h
 obtain ⟨V,V',l,_⟩:=h'
 refine (al_freeInode_range (a:=a) l aA (List.mem_cons_self ..) _ b hb).mono ?_
 rintro e u' ⟨rfl,rfl⟩
 exact ⟨rfl,h⟩

end Go.Proofs.YtdfanhjnkjdngabGreatDoor

/- AllocNil: nil objects, things that are no blocks or inodes, operations that are over. -/
namespace Go.Proofs.YtdfanhjnkjdngabGreatDoor
set_option maxRecDepth 100000
set_option maxHeartbeats 8000000
open Go.RowKit Go.Shelf Go.Maps
set_option linter.unusedVariables false

theorem plA_all {u:World} {k:Nat} (h:u.heap[k]?=some plA):u.cell? ⟨k,0,none⟩=some (.int .i64 (aP 0))∧u.cell? ⟨k,1,none⟩=some (.int .i64 (aP 1))∧u.cell? ⟨k,2,none⟩=some (.int .i64 (aP 2))∧u.cell? ⟨k,3,none⟩=some (.int .i64 (aP 3))∧u.cell? ⟨k,4,none⟩=some (.int .i64 (aP 4))∧u.cell? ⟨k,5,none⟩=some (.int .i64 (aP 5))∧u.cell? ⟨k,6,none⟩=some (.int .i64 (aP 6))∧u.cell? ⟨k,7,none⟩=some (.int .i64 (aP 7))∧u.cell? ⟨k,8,none⟩=some (.int .i64 (aP 8))∧u.cell? ⟨k,9,none⟩=some (.int .i64 (aP 9))∧u.cell? ⟨k,10,none⟩=some (.int .i64 (aP 10))∧u.cell? ⟨k,11,none⟩=some (.int .i64 (aP 11)):=by
 have B:Bl u k (Pc aP) 24:=h
 exact ⟨B.cell 0 _ rfl,B.cell 1 _ rfl,B.cell 2 _ rfl,B.cell 3 _ rfl,B.cell 4 _ rfl,B.cell 5 _ rfl,B.cell 6 _ rfl,B.cell 7 _ rfl,B.cell 8 _ rfl,B.cell 9 _ rfl,B.cell 10 _ rfl,B.cell 11 _ rfl⟩

theorem anil_walk (w:World) (hT:Tab w) :
  Calls Tryz.prog 4 #[] w fun e w'=>e=.returned (.bool true)∧Below w.heap.size w w':=by
 have h0:=hT.lt
 have K1:=hide (awakes_any w hT)
 have KS:Hid (∀ u,Calls Tryz.prog 7 #[] u fun e w'=>e=.returned (Pv aP)∧Hid (Below u.heap.size u w')):=fun u=>asmall_any u
 have KF:Hid (∀ u,Below w.heap.size w u→∀ gp,u.heap[gp]?=some plA→Calls Tryz.prog 8 #[Pv aP] u fun e w'=>∃ g a,e=.returned (.tuple #[.pointer (some ⟨g,0,none⟩),.pointer (some ⟨a,0,none⟩)])∧Hid (Ao w g a [(gp,plA)] 1 (bt 0) (fun j=>decide (j < 2)) (fun _=>false) w')):=fun u hu gp hp=>by
  refine (a_start w u hu hT).mono ?_
  rintro e w' ⟨g,a,rfl,Y⟩
  exact ⟨g,a,rfl,((unhide Y).old hp).rebase hu⟩
 have PP:Hid (∀ u:World,(u.alloc (.cells (Pc aP) 24)).heap[u.heap.size]?=some plA):=fun u=>World.alloc_heap_new _ _
 have KN:Hid (∀ u,Calls Tryz.prog 17 #[.pointer none,Pv aP] u fun e u'=>e=.returned (.tuple #[.pointer none,.int .i64 1])∧Below u.heap.size u u'):=fun u=>anew_nil aP u
 have KZ:Hid (∀ g u,Calls Tryz.prog 17 #[.pointer (some ⟨g,0,none⟩),Pv (fun _=>0)] u fun e u'=>e=.returned (.tuple #[.pointer none,.int .i64 4])∧Below u.heap.size u u'):=fun g u=>anew_form _ g u check_zero
 have KY:Hid (∀ q u,Calls Tryz.prog 18 #[q,Pv (fun _=>0)] u fun e u'=>e=.returned (.int .i64 4)∧Below u.heap.size u u'):=fun q u=>format_form _ q u check_zero
 have PC:Hid (∀ gp (u:World),u.heap[gp]?=some plA→u.cell? ⟨gp,0,none⟩=some (.int .i64 (aP 0))∧u.cell? ⟨gp,1,none⟩=some (.int .i64 (aP 1))∧u.cell? ⟨gp,2,none⟩=some (.int .i64 (aP 2))∧u.cell? ⟨gp,3,none⟩=some (.int .i64 (aP 3))∧u.cell? ⟨gp,4,none⟩=some (.int .i64 (aP 4))∧u.cell? ⟨gp,5,none⟩=some (.int .i64 (aP 5))∧u.cell? ⟨gp,6,none⟩=some (.int .i64 (aP 6))∧u.cell? ⟨gp,7,none⟩=some (.int .i64 (aP 7))∧u.cell? ⟨gp,8,none⟩=some (.int .i64 (aP 8))∧u.cell? ⟨gp,9,none⟩=some (.int .i64 (aP 9))∧u.cell? ⟨gp,10,none⟩=some (.int .i64 (aP 10))∧u.cell? ⟨gp,11,none⟩=some (.int .i64 (aP 11))):=fun gp u h=>plA_all h
 have KV:Hid (∀ g a o gp u,Av w g a o [(gp,plA)] u→Calls Tryz.prog 18 #[.pointer (some ⟨o,0,none⟩),Pv aP] u fun e u'=>e=.returned (.int .i64 22)∧Hid (Av w g a o [(gp,plA)] u')):=fun g a o gp u h=>v_format h
 clear hT
 generalize hsp:aP=p at KS KF PP KN PC KV
 clear hsp
 go_enter Tryz.func4,Tryz.ntmps4
 go_wp2_with fail
 go_at_call 6
 refine (unhide K1).mono ?_
 rintro e w1 ⟨rfl,x1⟩
 have Z1:=hide x1
 clear K1 x1
 have KS1:=hide (unhide KS w1)
 clear KS
 go_wp2_with fail
 go_at_call 7
 refine (unhide KS1).mono ?_
 rintro e w2 ⟨rfl,hb2⟩
 have HK:=hide (Kp.start w2 p)
 have Z2:Hid (Below w.heap.size w (w2.alloc (.cells (Pc p) 24))):=by
  have b1:=(unhide Z1).trans ((unhide hb2).mono (unhide Z1).size)
  exact b1.alloc b1.size _
 have P2:=hide (unhide PP w2)
 clear KS1 hb2 Z1 PP
 go_upto_region 5 with fail
 change Code.wp _ _ _ _ (w2.alloc (.cells (Pc p) 24))
 obtain ⟨f0,f1,f2,f3,f4,f5,f6,f7,f8,f9,f10,f11⟩:=(unhide HK).cells
 clear HK
 generalize w2.alloc (.cells (Pc p) 24)=w3 at *
 generalize w2.heap.size=gp at *
 have K4:=hide (unhide KF w3 (unhide Z2) gp (unhide P2))
 clear KF Z2 P2
 go_wp2_with fail
 go_at_call 8
 refine (unhide K4).mono ?_
 rintro e w4 ⟨g,a,rfl,X4⟩
 have K5:=hide (a_begin (unhide X4))
 clear K4 X4 f0 f1 f2 f3 f4 f5 f6 f7 f8 f9 f10 f11
 go_wp2_with fail
 go_at_call 9
 refine (unhide K5).mono ?_
 rintro e w5 ⟨o,rfl,X5⟩
 clear K5
 go_wp2_with fail
 go_at_call 12
 refine (nil_block _ _).mono ?_
 rintro e w6 ⟨rfl,rfl⟩
 go_wp2_with fail
 go_at_call 16
 refine (nil_freeBlock _ _ _).mono ?_
 rintro e w6 ⟨rfl,rfl⟩
 go_wp2_with fail
 go_at_call 11
 refine (nil_inode _ _).mono ?_
 rintro e w6 ⟨rfl,rfl⟩
 go_wp2_with fail
 go_at_call 15
 refine (nil_freeInode _ _ _).mono ?_
 rintro e w6 ⟨rfl,rfl⟩
 go_wp2_with fail
 go_at_call 10
 refine (nil_free _ _).mono ?_
 rintro e w6 ⟨rfl,rfl⟩
 obtain ⟨f0,f1,f2,f3,f4,f5,f6,f7,f8,f9,f10,f11⟩:=unhide PC gp w5 ((unhide X5).row (x:=(gp,plA)) (by simp))
 have K6:=hide (unhide KN w5)
 clear KN
 go_wp2_with fail
 go_at_call 17
 refine (unhide K6).mono ?_
 rintro e w6 ⟨rfl,b6⟩
 have X6:=hide ((unhide X5).later b6)
 have K7:=hide (unhide KZ g w6)
 clear K6 KZ X5 b6 f0 f1 f2 f3 f4 f5 f6 f7 f8 f9 f10 f11
 go_wp2_with fail
 go_at_call 17
 refine (unhide K7).mono ?_
 rintro e w7 ⟨rfl,b7⟩
 have X7:=hide ((unhide X6).later b7)
 clear K7 X6 b7
 obtain ⟨q1,q2,q11⟩:=plA_cells ((unhide X7).row (x:=(gp,plA)) (by simp))
 have K8:=hide (v_rangeB (unhide X7) 15 (by omega))
 clear X7
 go_wp2_with fail
 go_at_call 16
 refine (unhide K8).mono ?_
 rintro e w8 ⟨rfl,X8⟩
 clear K8 q1 q2 q11
 obtain ⟨q1,q2,q11⟩:=plA_cells ((unhide X8).row (x:=(gp,plA)) (by simp))
 have K9:=hide (v_rangeB (unhide X8) 40 (by omega))
 clear X8
 go_wp2_with fail
 go_at_call 16
 refine (unhide K9).mono ?_
 rintro e w9 ⟨rfl,X9⟩
 clear K9 q1 q2 q11
 have K10:=hide (v_rangeI (unhide X9) 1 (by omega))
 clear X9
 go_wp2_with fail
 go_at_call 15
 refine (unhide K10).mono ?_
 rintro e w10 ⟨rfl,X10⟩
 clear K10
 obtain ⟨q1,q2,q11⟩:=plA_cells ((unhide X10).row (x:=(gp,plA)) (by simp))
 have K11:=hide (v_rangeI (unhide X10) 6 (by omega))
 clear X10
 go_wp2_with fail
 go_at_call 15
 refine (unhide K11).mono ?_
 rintro e w11 ⟨rfl,X11⟩
 clear K11 q1 q2 q11
 have K12:=hide (v_nilop (unhide X11))
 clear X11
 go_wp2_with fail
 go_at_call 12
 refine (unhide K12).mono ?_
 rintro e w12 ⟨rfl,X12⟩
 have K13:=hide (v_abort (unhide X12))
 clear K12 X12
 go_wp2_with fail
 go_at_call 14
 refine (unhide K13).mono ?_
 rintro e w13 ⟨rfl,X13⟩
 have K14:=hide (v_block (unhide X13))
 clear K13 X13
 go_wp2_with fail
 go_at_call 12
 refine (unhide K14).mono ?_
 rintro e w14 ⟨rfl,X14⟩
 obtain ⟨f0,f1,f2,f3,f4,f5,f6,f7,f8,f9,f10,f11⟩:=unhide PC gp w14 ((unhide X14).row (x:=(gp,plA)) (by simp))
 have K15:=hide (unhide KV g a o gp w14 (unhide X14))
 clear K14 X14 KV PC
 go_wp2_with fail
 go_at_call 18
 refine (unhide K15).mono ?_
 rintro e w15 ⟨rfl,X15⟩
 have K16:=hide (unhide KY (.pointer (some ⟨o,0,none⟩)) w15)
 clear K15 KY f0 f1 f2 f3 f4 f5 f6 f7 f8 f9 f10 f11
 go_wp2_with fail
 go_at_call 18
 refine (unhide K16).mono ?_
 rintro e w16 ⟨rfl,b16⟩
 have Z:=hide ((unhide X15).later b16).bel
 clear K16 X15 b16
 go_wp2_with fail
 go_ret
 exact ⟨rfl,unhide Z⟩

end Go.Proofs.YtdfanhjnkjdngabGreatDoor

