/- Joined: AFresh, ANew, ABits, AWakes, ABt, AKeepM. -/
import Derived.Test.YtdfanhjnkjdngabGreatDoorAkJ47
import Derived.Test.YtdfanhjnkjdngabGreatDoorAkJ46
import Derived.Test.YtdfanhjnkjdngabGreatDoorAkJ41
import Derived.Test.YtdfanhjnkjdngabGreatDoorAkJ43
import Derived.Test.YtdfanhjnkjdngabGreatDoorAkJ1
import Derived.Test.YtdfanhjnkjdngabGreatDoorAkJ36
/- The law's plan, its device and its group; the blocks that it logs. -/
namespace Go.Proofs.YtdfanhjnkjdngabGreatDoor
set_option maxRecDepth 100000
set_option maxHeartbeats 8000000
open Go.RowKit Go.Shelf Go.Maps
set_option linter.unusedVariables false

theorem aihas_none (w:World):IHas w none 0 []:=⟨rfl,fun h=>absurd h (by omega)⟩

theorem Lo.rebase {w:World} {P:Nat→Int} {G:Geo} {E:Nat→Bool} {g:Nat} {rows:List (Nat × Obj)} {i:Nat} {V:Nat→List Int} {F:Nat→Bool} {u v:World} (h:Lo u P G E g rows i V F v) (hb:Below w.heap.size w u):Lo w P G E g rows i V F v:=by
 obtain ⟨cg,lg,dg,X,C,L,D,S,h,r⟩:=h
 exact ⟨cg,lg,dg,X,C,L,D,S,⟨⟨h.hl.gv,fun k hk=>Nat.le_trans hb.size (h.hl.ge k hk),hb.trans (h.hl.bel.mono hb.size),Nat.le_refl _,h.hl.ro⟩,h.gs,h.sq,h.vl,h.fl,h.vb,h.eb,h.eu⟩,r⟩

theorem Lo.old {w:World} {P:Nat→Int} {G:Geo} {E:Nat→Bool} {g:Nat} {rows:List (Nat × Obj)} {i:Nat} {V:Nat→List Int} {F:Nat→Bool} {u:World} {k:Nat} {ob:Obj} (h:Lo w P G E g rows i V F u) (hk:w.heap[k]?=some ob):Lo w P G E g ((k,ob) :: rows) i V F u:=by
 obtain ⟨cg,lg,dg,X,C,L,D,S,h,r⟩:=h
 have hl:=(Array.getElem?_eq_some_iff.1 hk).1
 exact ⟨cg,lg,dg,X,C,L,D,S,h.add ((h.hl.bel.block k hl).trans hk) (fun hs=>by have:=h.hl.ge k hs; omega),r⟩

def aP:Nat→Int:=makeP 64 40 6 9

def aG:Geo:=⟨64,40,9⟩

theorem aG_ok:aG.Ok:=⟨.inl rfl,by decide,by decide,by decide,by decide⟩

theorem aP_make:makeE 64 40 6 9=0:=by decide

theorem aPG:PG aP aG:=by
 have e:∀ k,aP k=planOf 64 40 6 9 k:=fun k=>by unfold aP; rw [makeP_ok aP_make]
 refine ⟨?_,?_,?_,?_,?_,?_,aG_ok⟩
 ·have e0:aP 0=64:=by rw [e]; rfl
  have e1:aP 1=40:=by rw [e]; rfl
  have e2:aP 2=6:=by rw [e]; rfl
  have e3:aP 3=9:=by rw [e]; rfl
  refine checkE_ok (by rw [e0,e1,e2,e3]; exact aP_make) (fun k hk=>by rw [e0,e1,e2,e3]; rfl)
 ·rw [e]; rfl
 ·rw [e]; rfl
 ·rw [e]; rfl
 ·rw [e]; rfl
 ·rw [e]; rfl

def aD:Dev:=runD (whS aG hd1) (Dev.new 64 40)

theorem aD_run:runE (whS aG hd1) (Dev.new 64 40)=0:=by
 unfold whS
 rw [runE_ok (by decide)]
 show runE [.f] ((Dev.new 64 40).wD 1 (hdB aG hd1))=0
 have:((Dev.new 64 40).wD 1 (hdB aG hd1)).wE=0:=by
  unfold Dev.wD
  rw [if_neg (by decide),if_pos (by show ([]:List (List Int)).length < 400; decide)]
  rfl
 rw [runE_ok this]
 rfl

theorem aD_is:aD=((Dev.new 64 40).burn.add 1 (hdB aG hd1)).burn.flush:=by
 unfold aD whS
 rw [runD_ok (by decide)]
 show runD [.f] ((Dev.new 64 40).wD 1 (hdB aG hd1))=_
 have e1:(Dev.new 64 40).wD 1 (hdB aG hd1)=(Dev.new 64 40).burn.add 1 (hdB aG hd1):=by
  unfold Dev.wD
  rw [if_neg (by decide),if_pos (by show ([]:List (List Int)).length < 400; decide)]
 rw [e1]
 have e2:((Dev.new 64 40).burn.add 1 (hdB aG hd1)).wE=0:=rfl
 rw [runD_ok e2]
 show ((Dev.new 64 40).burn.add 1 (hdB aG hd1)).fD=_
 unfold Dev.fD
 rw [if_neg]
 rintro (h | h)
 ·exact absurd h (by decide)
 ·exact absurd h (by decide)

theorem aD_rd:aD.rd 1=hdB aG hd1:=by
 rw [aD_is]
 rfl

theorem aD_live:aD.dead=false∧aD.blk=64∧aD.n=40∧aD.f=-1∧(∀ i,i < 40→aD.Y i=[]):=by
 rw [aD_is]
 refine ⟨rfl,rfl,rfl,rfl,fun i hi=>?_⟩
 show (if i < 40 then [] else _)=[]
 rw [if_pos hi]

theorem aD_parse:parse aG aD.rd=some sL:=by
 obtain ⟨h1,h2⟩:=hd_back aG_ok (hd1_ok aG_ok)
 rw [parse_ok (by rw [aD_rd,h2]; exact ⟨h1,by decide,by decide⟩),aD_rd,h2]
 have:goP aG aD.rd ((hd1.seq:Nat):Int) hd1.tail (hd1.tail + hd1.used) 600 hd1.tail ((hd1.seq:Nat):Int) (fun _=>none)=some (fun _=>none):=by
  rw [goP,if_pos (show hd1.tail=hd1.tail + hd1.used from rfl)]
  simp
 rw [this]
 rfl

theorem new_aE:newE 64 40=0:=by decide

theorem asmall_any (w:World):Calls Tryz.prog 7 #[] w fun e w'=>e=.returned (Pv aP)∧Below w.heap.size w w':=by
 have K:Hid (∀ u,Calls Tryz.prog 21 #[.int .i64 64,.int .i64 40,.int .i64 6,.int .i64 9] u fun e w'=>e=.returned (.tuple #[Pv aP,.int .i64 0])∧Below u.heap.size u w'):=fun u=>by
  have:=refMake_any 64 40 6 9 u
  rw [aP_make] at this
  exact this
 have HZ:=hide (Bl.new w #[.int .i64 0,.int .i64 0,.int .i64 0,.int .i64 0,.int .i64 0,.int .i64 0,.int .i64 0,.int .i64 0,.int .i64 0,.int .i64 0,.int .i64 0,.int .i64 0] 24)
 have HB:=hide ((Below.refl w.heap.size w).alloc (Nat.le_refl _) (.cells #[.int .i64 0,.int .i64 0,.int .i64 0,.int .i64 0,.int .i64 0,.int .i64 0,.int .i64 0,.int .i64 0,.int .i64 0,.int .i64 0,.int .i64 0,.int .i64 0] 24))
 generalize aP=p at *
 go_enter Tryz.func7,Tryz.ntmps7
 go_wp2_with fail
 go_at_call 21
 refine (unhide K _).mono ?_
 rintro e w1 ⟨rfl,hb⟩
 have HZ2:=hide (((unhide HZ).call hb).alloc (.cells (Pc p) 24))
 have HB2:=hide (((unhide HB).trans (hb.mono (unhide HB).size)).alloc ((unhide HB).trans (hb.mono (unhide HB).size)).size (.cells (Pc p) 24))
 have HN:=hide (Bl.new w1 (Pc p) 24)
 clear HZ HB hb K
 go_upto_region 2 with fail
 change Code.wp _ _ _ _ (w1.alloc (.cells (Pc p) 24))
 generalize w1.alloc (.cells (Pc p) 24)=w2 at *
 generalize w1.heap.size=g1 at *
 have z0:=(unhide HZ2).cell 0 (.int .i64 0) rfl
 have z1:=(unhide HZ2).cell 1 (.int .i64 0) rfl
 have z2:=(unhide HZ2).cell 2 (.int .i64 0) rfl
 have z3:=(unhide HZ2).cell 3 (.int .i64 0) rfl
 have z4:=(unhide HZ2).cell 4 (.int .i64 0) rfl
 have z5:=(unhide HZ2).cell 5 (.int .i64 0) rfl
 have z6:=(unhide HZ2).cell 6 (.int .i64 0) rfl
 have z7:=(unhide HZ2).cell 7 (.int .i64 0) rfl
 have z8:=(unhide HZ2).cell 8 (.int .i64 0) rfl
 have z9:=(unhide HZ2).cell 9 (.int .i64 0) rfl
 have z10:=(unhide HZ2).cell 10 (.int .i64 0) rfl
 have z11:=(unhide HZ2).cell 11 (.int .i64 0) rfl
 have n0:=(unhide HN).cell 0 (.int .i64 (p 0)) rfl
 have n1:=(unhide HN).cell 1 (.int .i64 (p 1)) rfl
 have n2:=(unhide HN).cell 2 (.int .i64 (p 2)) rfl
 have n3:=(unhide HN).cell 3 (.int .i64 (p 3)) rfl
 have n4:=(unhide HN).cell 4 (.int .i64 (p 4)) rfl
 have n5:=(unhide HN).cell 5 (.int .i64 (p 5)) rfl
 have n6:=(unhide HN).cell 6 (.int .i64 (p 6)) rfl
 have n7:=(unhide HN).cell 7 (.int .i64 (p 7)) rfl
 have n8:=(unhide HN).cell 8 (.int .i64 (p 8)) rfl
 have n9:=(unhide HN).cell 9 (.int .i64 (p 9)) rfl
 have n10:=(unhide HN).cell 10 (.int .i64 (p 10)) rfl
 have n11:=(unhide HN).cell 11 (.int .i64 (p 11)) rfl
 have fz:=(unhide HZ2).free
 go_wp2_with fail
 have hW:Below w.heap.size w (setAll w2 w.heap.size 0 [.int .i64 (p 0),.int .i64 (p 1),.int .i64 (p 2),.int .i64 (p 3),.int .i64 (p 4),.int .i64 (p 5),.int .i64 (p 6),.int .i64 (p 7),.int .i64 (p 8),.int .i64 (p 9),.int .i64 (p 10),.int .i64 (p 11)]):=below_setAll (Nat.le_refl _) _ _ _ _ (unhide HB2)
 have hA:=setAll_whole [.int .i64 (p 0),.int .i64 (p 1),.int .i64 (p 2),.int .i64 (p 3),.int .i64 (p 4),.int .i64 (p 5),.int .i64 (p 6),.int .i64 (p 7),.int .i64 (p 8),.int .i64 (p 9),.int .i64 (p 10),.int .i64 (p 11)] _ _ (unhide HZ2) rfl
 change bodyPost _ _ _ _ _ (setAll w2 w.heap.size 0 [.int .i64 (p 0),.int .i64 (p 1),.int .i64 (p 2),.int .i64 (p 3),.int .i64 (p 4),.int .i64 (p 5),.int .i64 (p 6),.int .i64 (p 7),.int .i64 (p 8),.int .i64 (p 9),.int .i64 (p 10),.int .i64 (p 11)])
 generalize setAll w2 w.heap.size 0 [.int .i64 (p 0),.int .i64 (p 1),.int .i64 (p 2),.int .i64 (p 3),.int .i64 (p 4),.int .i64 (p 5),.int .i64 (p 6),.int .i64 (p 7),.int .i64 (p 8),.int .i64 (p 9),.int .i64 (p 10),.int .i64 (p 11)]=wf at *
 refine bodyPost_ret (v:=Pv p) ?_ rfl ⟨rfl,hW⟩
 simp [results,Tryz.results7,go_sem,hA.cell 0 _ rfl,hA.cell 1 _ rfl,hA.cell 2 _ rfl,hA.cell 3 _ rfl,hA.cell 4 _ rfl,hA.cell 5 _ rfl,hA.cell 6 _ rfl,hA.cell 7 _ rfl,hA.cell 8 _ rfl,hA.cell 9 _ rfl,hA.cell 10 _ rfl,hA.cell 11 _ rfl]

theorem aP_at (k:Nat):aP k=planOf 64 40 6 9 k:=by unfold aP; rw [makeP_ok aP_make]

theorem aP_da:(aG.ib:Int) ≤ aP 11∧aP 11 ≤ (aG.n:Int):=by
 rw [aP_at]
 decide

theorem aL_seen:Seen (gmem 0) aG sL:=.inr (.inl (by show 0 < 1; omega))

theorem aL_su:Su aG sL aD:=by
 refine ⟨⟨aD_live.2.2.2.1,aD_live.1⟩,rfl,aD_live.2.2.1,⟨[],?_⟩,fun b z h=>by cases h⟩
 exact ⟨aD_rd,hd1_ok aG_ok,Nat.zero_le _,trivial,rfl,rfl⟩

def aE (j:Nat):Bool:=j == 11 || j == 12

theorem aE_at {j:Nat}:aE j=true ↔ j=11 ∨ j=12:=by simp [aE]

theorem aA:Ab aP aG aE 12 16 6:=by
 refine ⟨by rw [aP_at]; rfl,by rw [aP_at]; rfl,by rw [aP_at]; rfl,rfl,rfl,fun j h1 h2=>?_,by decide,by decide,by decide,by decide,by decide⟩
 cases e:aE j with
 | false=>rfl
 | true=>have:=aE_at.1 e; omega

theorem afresh_chain (w u:World) (hT:Tab w) (hu:Below w.heap.size w u) :
  Calls Tryz.prog 22 #[.int .i64 (aP 0),.int .i64 (aP 1)] u fun e w1=>∃ dg,e=.returned (.tuple #[.pointer (some ⟨dg,0,none⟩),.int .i64 0])∧Below u.heap.size u w1∧Hid (
   Calls Tryz.prog 23 #[.pointer (some ⟨dg,0,none⟩),Pv aP] w1 fun e w2=>e=.returned (.int .i64 0)∧Below u.heap.size u w2∧Hid (
    Calls Tryz.prog 24 #[.pointer (some ⟨dg,0,none⟩),Pv aP] w2 fun e w3=>∃ lg,e=.returned (.tuple #[.pointer (some ⟨lg,0,none⟩),.int .i64 0])∧Below u.heap.size u w3∧Hid (
     Calls Tryz.prog 25 #[.pointer (some ⟨dg,0,none⟩),.int .i64 8,.slice none 0 0] w3 fun e w4=>∃ cg,e=.returned (.tuple #[.pointer (some ⟨cg,0,none⟩),.int .i64 0])∧Below u.heap.size u w4∧Hid (
      Calls Tryz.prog 26 #[.pointer (some ⟨dg,0,none⟩),.pointer (some ⟨lg,0,none⟩),.pointer (some ⟨cg,0,none⟩),Pv aP] w4 fun e w5=>∃ g,e=.returned (.tuple #[.pointer (some ⟨g,0,none⟩),.int .i64 0])∧Below u.heap.size u w5∧Hid (Lo w aP aG aE g [] 1 (fun _=>fl 0) (fun _=>false) w5))))):=by
 have e0:aP 0=((64:Nat):Int):=aPG.p0
 have e1:aP 1=((40:Nat):Int):=aPG.p1
 rw [e0,e1]
 refine (new_ok 64 40 u new_aE).mono ?_
 rintro e w1 ⟨dg,S,rfl,hD,hS,hb1⟩
 refine ⟨dg,rfl,hb1,?_⟩
 have hus:=hu.size
 have hT0:=hT.lt
 have bw1:Below w.heap.size w w1:=hu.trans (hb1.mono hus)
 have h0:¬ S 0:=fun h=>by have:=hS 0 h; omega
 have hf:=format_any aP aG dg S (Dev.new 64 40) w1 aPG hD rfl rfl (hT.kept (bw1.block 0 hT0)) h0
 rw [aD_run] at hf
 refine hf.mono ?_
 rintro e w2 ⟨rfl,S2,d2,n2⟩
 have ge2:∀ k,S2 k→u.heap.size ≤ k:=n2.base hS hb1.size
 have bu2:Below u.heap.size u w2:=hb1.trans (n2.below hS hb1.size)
 refine ⟨rfl,bu2,?_⟩
 have bw3:Below w.heap.size w w2:=hu.trans (bu2.mono hus)
 have h02:¬ S2 0:=fun h=>by have:=ge2 0 h; omega
 refine (open_any aP aG dg S2 aD w2 aPG (show Dv w2 S2 dg aD from d2) aD_live.2.1 aD_live.2.2.1 (hT.kept (bw3.block 0 hT0)) h02).mono ?_
 intro e w3 X
 obtain ⟨S3,n3,(⟨hx,_⟩ | ⟨_,hx,_⟩ | ⟨_,L,lg,hp,he,hl⟩)⟩:=unhide X
 ·rw [aD_live.1] at hx; cases hx
 ·rw [aD_parse] at hx; cases hx
 ·rw [aD_parse] at hp
  cases hp
  have ge3:∀ k,S3 k→u.heap.size ≤ k:=n3.base ge2 bu2.size
  have bu3:Below u.heap.size u w3:=bu2.trans (n3.below ge2 bu2.size)
  obtain ⟨Sl,Sd,ml,lv⟩:=hl
  refine ⟨lg,he,bu3,(cnew_ok dg Sd aD 8 none 0 0 [] w3 lv.dd (by omega) (aihas_none w3) (by omega) (fun _=>⟨rfl,rfl⟩)).mono ?_⟩
  rintro e w4 ⟨cg,rfl,Y4⟩
  obtain ⟨S4,k4,g4,b4⟩:=unhide Y4
  obtain ⟨S5,t5,x5⟩:=tri_of lv k4 g4 b4
  have h4:Below u.heap.size u w4:=bu3.trans (b4.mono bu3.size)
  refine ⟨cg,rfl,h4,(gnew_ok t5 aL_seen aP_da).mono ?_⟩
  rintro e w5 ⟨g,rfl,Y5⟩
  obtain ⟨S6,g6,x6,_⟩:=unhide Y5
  have ge5:∀ k,S5 k→u.heap.size ≤ k:=x5.base ge3 bu3.size
  have bu5:=h4.trans (x6.below ge5 h4.size)
  refine ⟨g,rfl,bu5,cg,lg,dg,_,_,_,_,S6,⟨⟨g6,fun k hk=>Nat.le_trans hus (x6.base ge5 h4.size k hk),hu.trans (bu5.mono hus),Nat.le_refl _,fun x hx=>by simp at hx⟩,⟨aL_su,fun b l _ e=>(by cases e),?_,by show 1 ≤ 8; omega,fun b l e=>(by cases e),fun b z e=>(by cases e),fun b z e=>(by cases e),?_⟩,Nat.le_refl _,fun j hj hj2=>?_,fun j _=>rfl,fun j hj=>⟨by rw [fl_len]; rfl,fun z hz=>?_⟩,fun j hj=>?_,?_⟩,rfl⟩
  ·have:cnt ((Cac.new 8 []).wants fHeld) aD.n ≤ cnt (fun _=>false) aD.n:=cnt_mono (fun b _ hw=>by cases hw)
   have h0:cnt (fun _=>false) aD.n=0:=by rw [aD_live.2.2.1]; decide
   show cnt ((Cac.new 8 []).wants fHeld) aD.n ≤ 8
   omega
  ·show aG.uses (pendL aG (fun _=>none)).length ≤ aG.lg
   decide
  ·show aD.rd j=fl 0
   have:=aE_at.1 hj
   rw [show aD.rd=rdS (whS aG hd1) (Dev.new 64 40).rd from run_rd _ _ aD_run]
   show (if j=1 then _ else (Dev.new 64 40).rd j)=_
   rw [if_neg (by omega)]
   rfl
  ·have:z=0:=List.eq_of_mem_replicate hz
   omega
  ·have:=aE_at.1 hj
   show 11 ≤ j∧j < 40
   omega
  ·decide

end Go.Proofs.YtdfanhjnkjdngabGreatDoor

/- New, Format, and the law's fresh. -/
namespace Go.Proofs.YtdfanhjnkjdngabGreatDoor
set_option maxRecDepth 100000
set_option maxHeartbeats 8000000
open Go.RowKit Go.Shelf Go.Maps
set_option linter.unusedVariables false

theorem anew_ok (P:Nat→Int) (g:Nat) (u:World) (hc:checkE P=0) :
  Calls Tryz.prog 17 #[.pointer (some ⟨g,0,none⟩),Pv P] u fun e u'=>∃ a,e=.returned (.tuple #[.pointer (some ⟨a,0,none⟩),.int .i64 0])∧Hid (Below u.heap.size u u'∧u.heap.size ≤ a∧u'.heap[a]?=some (alO g P)):=by
 have HK:=hide (Kp.start u P)
 have K1:Hid (∀ w,Calls Tryz.prog 47 #[Pv P] w fun e w'=>e=.returned (.int .i64 0)∧Below w.heap.size w w'):=fun w=>by
  have:=check_any P w
  rwa [hc] at this
 have KL:Hid (∀ w1,Below u.heap.size u w1→Below u.heap.size u (w1.alloc (.cells #[.pointer (some ⟨g,0,none⟩),.int .i64 (P 0),.int .i64 (P 1),.int .i64 (P 2),.int .i64 (P 3),.int .i64 (P 4),.int .i64 (P 5),.int .i64 (P 6),.int .i64 (P 7),.int .i64 (P 8),.int .i64 (P 9),.int .i64 (P 10),.int .i64 (P 11)] 78))∧u.heap.size ≤ w1.heap.size∧(w1.alloc (.cells #[.pointer (some ⟨g,0,none⟩),.int .i64 (P 0),.int .i64 (P 1),.int .i64 (P 2),.int .i64 (P 3),.int .i64 (P 4),.int .i64 (P 5),.int .i64 (P 6),.int .i64 (P 7),.int .i64 (P 8),.int .i64 (P 9),.int .i64 (P 10),.int .i64 (P 11)] 78)).heap[w1.heap.size]?=some (alO g P)):=fun w1 hb =>
  ⟨hb.alloc hb.size _,hb.size,World.alloc_heap_new w1 _⟩
 clear hc
 obtain ⟨f0,f1,f2,f3,f4,f5,f6,f7,f8,f9,f10,f11⟩:=(unhide HK).cells
 go_enter Tryz.func17,Tryz.ntmps17
 go_wp2_with fail
 go_at_call 47
 refine (unhide K1 _).mono ?_
 rintro e w1 ⟨rfl,hb⟩
 replace HK:=hide ((unhide HK).call hb)
 clear f0 f1 f2 f3 f4 f5 f6 f7 f8 f9 f10 f11 K1 hb
 obtain ⟨f0,f1,f2,f3,f4,f5,f6,f7,f8,f9,f10,f11⟩:=(unhide HK).cells
 have Z:=hide (unhide KL w1 (unhide HK).2)
 clear KL HK
 go_wp2_with fail
 go_ret2
 exact ⟨_,rfl,unhide Z⟩

theorem al_format {w:World} {P:Nat→Int} {G:Geo} {E:Nat→Bool} {g o:Nat} {rows:List (Nat × Obj)} {i:Nat} {V:Nat→List Int} {F:Nat→Bool} {V':Nat→List Int} {K:Nat→Bool} {u:World} {bb da ni:Nat} (h:Lp w P G E g o rows i V F V' K u) (hA:Ab P G E bb da ni) (hrc:∀ x ∈ rows,x.2.isCells=true) (h0:0 < w.heap.size) (hp6:P 6=1) (hp8:P 8=1) (hda:0 < da∧da ≤ 8 * G.blk) :
  Calls Tryz.prog 18 #[.pointer (some ⟨o,0,none⟩),Pv P] u fun e u'=>e=.returned (.int .i64 0)∧Hid (Lp w P G E g o rows i V F (fun j=>if j=bb then blay G.blk (upTo da) else if j=G.ib then blay G.blk (upTo 2) else V' j) K u'):=by
 have hpg:=h.ok
 have hbk:=hpg.ok.blk
 have hp0:=hpg.p0
 have hp5:=hpg.p5
 have hi4:G.ib ≤ 4096:=by have:=hpg.ok.n1; have:=hpg.ok.n2; unfold Geo.ib; omega
 have H0:=hide (h.new (.cells (Pc P) 24 (0,0)))
 have hrc2:∀ x ∈ (u.heap.size,Obj.cells (Pc P) 24 (0,0)) :: rows,x.2.isCells=true:=fun x hx=>by
  rcases List.mem_cons.1 hx with e | e
  ·subst e; rfl
  ·exact hrc x e
 have K1:Hid (∀ w,Calls Tryz.prog 47 #[Pv P] w fun e w'=>e=.returned (.int .i64 0)∧Below w.heap.size w w'):=fun w=>by
  have:=check_any P w
  rwa [hpg.chk] at this
 have K2:Hid (∀ v V2,Lp w P G E g o ((u.heap.size,.cells (Pc P) 24 (0,0)) :: rows) i V F V2 K v→Calls Tryz.prog 48 #[.pointer (some ⟨o,0,none⟩),.int .i64 (P 0),.int .i64 (P 5),.int .i64 (P 6),.int .i64 2] v fun e u'=>e=.returned (.int .i64 0)∧Hid (Lp w P G E g o ((u.heap.size,.cells (Pc P) 24 (0,0)) :: rows) i V F (fun j=>if j=G.ib then blay G.blk (upTo 2) else V2 j) K u')):=fun v V2 hv=>by
  rw [hp0,hp5,hp6]
  exact lay_ok hv hA.ei 2 (by omega) hrc2 h0 hi4
 have K3:Hid (∀ v V2,Lp w P G E g o ((u.heap.size,.cells (Pc P) 24 (0,0)) :: rows) i V F V2 K v→Calls Tryz.prog 48 #[.pointer (some ⟨o,0,none⟩),.int .i64 (P 0),.int .i64 (P 7),.int .i64 (P 8),.int .i64 (P 11)] v fun e u'=>e=.returned (.int .i64 0)∧Hid (Lp w P G E g o rows i V F (fun j=>if j=bb then blay G.blk (upTo da) else V2 j) K u')):=fun v V2 hv=>by
  rw [hp0,hA.p7,hp8,hA.p11]
  refine (lay_ok hv hA.eb da hda hrc2 h0 hA.b4).mono ?_
  rintro e u' ⟨rfl,Y⟩
  exact ⟨rfl,(unhide Y).pop⟩
 have HB:Hid (∀ v V2,Lp w P G E g o ((u.heap.size,.cells (Pc P) 24 (0,0)) :: rows) i V F V2 K v→Bl v u.heap.size (Pc P) 24):=fun v V2 hv=>hv.row (x:=(u.heap.size,.cells (Pc P) 24 (0,0))) (by simp)
 clear h hA hrc h0 hp6 hp8 hda hpg hbk hp0 hp5 hi4 hrc2
 go_enter Tryz.func18,Tryz.ntmps18
 go_upto_region 1 with fail
 change Code.wp _ _ _ _ (u.alloc (.cells (Pc P) 24))
 generalize u.alloc (.cells (Pc P) 24)=w0 at *
 generalize u.heap.size=mb at *
 have bl:=unhide HB _ _ (unhide H0)
 have x0:=bl.cell 0 (.int .i64 (P 0)) rfl
 have x1:=bl.cell 1 (.int .i64 (P 1)) rfl
 have x2:=bl.cell 2 (.int .i64 (P 2)) rfl
 have x3:=bl.cell 3 (.int .i64 (P 3)) rfl
 have x4:=bl.cell 4 (.int .i64 (P 4)) rfl
 have x5:=bl.cell 5 (.int .i64 (P 5)) rfl
 have x6:=bl.cell 6 (.int .i64 (P 6)) rfl
 have x7:=bl.cell 7 (.int .i64 (P 7)) rfl
 have x8:=bl.cell 8 (.int .i64 (P 8)) rfl
 have x9:=bl.cell 9 (.int .i64 (P 9)) rfl
 have x10:=bl.cell 10 (.int .i64 (P 10)) rfl
 have x11:=bl.cell 11 (.int .i64 (P 11)) rfl
 clear bl
 go_wp2_with fail
 go_at_call 47
 refine (unhide K1 _).mono ?_
 rintro e w1 ⟨rfl,hb1⟩
 have H1:=hide ((unhide H0).later hb1)
 clear H0 hb1 K1 x0 x1 x2 x3 x4 x5 x6 x7 x8 x9 x10 x11
 have bl:=unhide HB _ _ (unhide H1)
 have x0:=bl.cell 0 (.int .i64 (P 0)) rfl
 have x5:=bl.cell 5 (.int .i64 (P 5)) rfl
 have x6:=bl.cell 6 (.int .i64 (P 6)) rfl
 clear bl
 go_wp2_with fail
 go_at_call 48
 refine (unhide K2 _ _ (unhide H1)).mono ?_
 rintro e w2 ⟨rfl,Z2⟩
 clear H1 x0 x5 x6 K2
 have bl:=unhide HB _ _ (unhide Z2)
 have x0:=bl.cell 0 (.int .i64 (P 0)) rfl
 have x7:=bl.cell 7 (.int .i64 (P 7)) rfl
 have x8:=bl.cell 8 (.int .i64 (P 8)) rfl
 have x11:=bl.cell 11 (.int .i64 (P 11)) rfl
 clear bl
 go_wp2_with fail
 go_at_call 48
 refine (unhide K3 _ _ (unhide Z2)).mono ?_
 rintro e w3 ⟨rfl,Z3⟩
 clear Z2 K3
 go_wp2_with fail
 go_ret
 exact ⟨rfl,Z3⟩

def aV (j:Nat):List Int:=if j=12 then blay 64 (upTo 16) else if j=11 then blay 64 (upTo 2) else fl 0

theorem afresh_any (w:World) (hT:Tab w):Calls Tryz.prog 8 #[Pv aP] w fun e w'=>∃ g a,e=.returned (.tuple #[.pointer (some ⟨g,0,none⟩),.pointer (some ⟨a,0,none⟩)])∧Hid (Lo w aP aG aE g [(a,alO g aP)] 1 aV (fun _=>false) w'):=by
 have hT0:=hT.lt
 have B0:Below w.heap.size w (w.alloc (.cells (Pc aP) 24)):=(Below.refl _ _).alloc (Nat.le_refl _) _
 have K:=hide (afresh_chain (w.alloc (.cells (Pc aP) 24)) (w.alloc (.cells (Pc aP) 24)) (hT.kept (B0.block 0 hT0)) (Below.refl _ _))
 have HK:=hide (Kp.start w aP)
 have BX:=hide (Bl.new w (Pc aP) 24)
 have KN:Hid (∀ g v,Lo (w.alloc (.cells (Pc aP) 24)) aP aG aE g [] 1 (fun _=>fl 0) (fun _=>false) v→Calls Tryz.prog 17 #[.pointer (some ⟨g,0,none⟩),Pv aP] v fun e u'=>∃ a,e=.returned (.tuple #[.pointer (some ⟨a,0,none⟩),.int .i64 0])∧Hid (Lo (w.alloc (.cells (Pc aP) 24)) aP aG aE g [(a,alO g aP),(w.heap.size,.cells (Pc aP) 24 (0,0))] 1 (fun _=>fl 0) (fun _=>false) u')):=fun g v hv=>by
  refine (anew_ok aP g v aPG.chk).mono ?_
  rintro e u' ⟨a,rfl,Y⟩
  obtain ⟨b1,a1,a2⟩:=unhide Y
  exact ⟨a,rfl,(hv.old (unhide BX)).push b1 a1 a2⟩
 have KF:Hid (∀ g a o v,Lp (w.alloc (.cells (Pc aP) 24)) aP aG aE g o [(a,alO g aP),(w.heap.size,.cells (Pc aP) 24 (0,0))] 1 (fun _=>fl 0) (fun _=>false) (fun _=>fl 0) (fun _=>false) v→Calls Tryz.prog 18 #[.pointer (some ⟨o,0,none⟩),Pv aP] v fun e u'=>e=.returned (.int .i64 0) ∧
   Hid (Calls Tryz.prog 13 #[.pointer (some ⟨o,0,none⟩)] u' fun e u2=>e=.returned (.int .i64 0)∧Hid (Lo w aP aG aE g [(a,alO g aP)] 1 aV (fun _=>false) u2))):=fun g a o v hv=>by
  refine (al_format hv aA (fun x hx=>by
   simp only [List.mem_cons,List.not_mem_nil,or_false] at hx
   rcases hx with rfl | rfl <;> rfl) (by simp) (by rw [aP_at]; rfl) (by rw [aP_at]; rfl) (by decide)).mono ?_
  rintro e u' ⟨rfl,Y⟩
  refine ⟨rfl,(h_end (unhide Y)).mono ?_⟩
  rintro e u2 ⟨rfl,Y2⟩
  exact ⟨rfl,((unhide Y2).lo.rebase B0).sub (fun x hx=>by simp at hx; simp [hx])⟩
 have KC:Hid (∀ g a v,Lo (w.alloc (.cells (Pc aP) 24)) aP aG aE g [(a,alO g aP),(w.heap.size,.cells (Pc aP) 24 (0,0))] 1 (fun _=>fl 0) (fun _=>false) v→Bl v w.heap.size (Pc aP) 24):=fun g a v hv=>hv.row (x:=(w.heap.size,.cells (Pc aP) 24 (0,0))) (by simp)
 have KD:Hid (∀ g a o v,Lp (w.alloc (.cells (Pc aP) 24)) aP aG aE g o [(a,alO g aP),(w.heap.size,.cells (Pc aP) 24 (0,0))] 1 (fun _=>fl 0) (fun _=>false) (fun _=>fl 0) (fun _=>false) v→Bl v w.heap.size (Pc aP) 24):=fun g a o v hv=>hv.row (x:=(w.heap.size,.cells (Pc aP) 24 (0,0))) (by simp)
 clear hT hT0 B0 BX
 generalize hp:aP=p at *
 clear hp
 go_enter Tryz.func8,Tryz.ntmps8
 go_wp2_with fail
 go_at_call 22
 refine (unhide K).mono ?_
 rintro e w1 ⟨dg,rfl,hb1,K2⟩
 have HK1:=hide ((unhide HK).call hb1)
 clear K hb1
 obtain ⟨f0,f1,f2,f3,f4,f5,f6,f7,f8,f9,f10,f11⟩:=(unhide HK1).cells
 go_wp2_with fail
 go_at_call 23
 refine (unhide K2).mono ?_
 rintro e w2 ⟨rfl,hb2,K3⟩
 have HK2:=hide ((unhide HK).call hb2)
 clear K2 hb2 HK1 f0 f1 f2 f3 f4 f5 f6 f7 f8 f9 f10 f11
 obtain ⟨f0,f1,f2,f3,f4,f5,f6,f7,f8,f9,f10,f11⟩:=(unhide HK2).cells
 go_wp2_with fail
 go_at_call 24
 refine (unhide K3).mono ?_
 rintro e w3 ⟨lg,rfl,hb3,K4⟩
 have HK3:=hide ((unhide HK).call hb3)
 clear K3 hb3 HK2 f0 f1 f2 f3 f4 f5 f6 f7 f8 f9 f10 f11
 go_wp2_with fail
 go_at_call 25
 refine (unhide K4).mono ?_
 rintro e w4 ⟨cg,rfl,hb4,K5⟩
 have HK4:=hide ((unhide HK).call hb4)
 clear K4 hb4 HK3
 obtain ⟨f0,f1,f2,f3,f4,f5,f6,f7,f8,f9,f10,f11⟩:=(unhide HK4).cells
 go_wp2_with fail
 go_at_call 26
 refine (unhide K5).mono ?_
 rintro e w5 ⟨g,rfl,hb5,Z5⟩
 have HK5:=hide ((unhide HK).call hb5)
 clear K5 hb5 HK HK4 f0 f1 f2 f3 f4 f5 f6 f7 f8 f9 f10 f11
 obtain ⟨f0,f1,f2,f3,f4,f5,f6,f7,f8,f9,f10,f11⟩:=(unhide HK5).cells
 have K6:=hide (unhide KN g w5 (unhide Z5))
 clear KN Z5
 go_wp2_with fail
 go_at_call 17
 refine (unhide K6).mono ?_
 rintro e w6 ⟨a,rfl,Z6⟩
 have K7:=hide (h_begin (unhide Z6))
 clear K6 HK5 f0 f1 f2 f3 f4 f5 f6 f7 f8 f9 f10 f11 KC Z6
 go_wp2_with fail
 go_at_call 9
 refine (unhide K7).mono ?_
 rintro e w7 ⟨o,rfl,Z7⟩
 have bl:=unhide KD g a o w7 (unhide Z7)
 have x0:=bl.cell 0 (.int .i64 (p 0)) rfl
 have x1:=bl.cell 1 (.int .i64 (p 1)) rfl
 have x2:=bl.cell 2 (.int .i64 (p 2)) rfl
 have x3:=bl.cell 3 (.int .i64 (p 3)) rfl
 have x4:=bl.cell 4 (.int .i64 (p 4)) rfl
 have x5:=bl.cell 5 (.int .i64 (p 5)) rfl
 have x6:=bl.cell 6 (.int .i64 (p 6)) rfl
 have x7:=bl.cell 7 (.int .i64 (p 7)) rfl
 have x8:=bl.cell 8 (.int .i64 (p 8)) rfl
 have x9:=bl.cell 9 (.int .i64 (p 9)) rfl
 have x10:=bl.cell 10 (.int .i64 (p 10)) rfl
 have x11:=bl.cell 11 (.int .i64 (p 11)) rfl
 have K8:=hide (unhide KF g a o w7 (unhide Z7))
 clear K7 KD KF Z7 bl
 go_wp2_with fail
 go_at_call 18
 refine (unhide K8).mono ?_
 rintro e w8 ⟨rfl,K9⟩
 clear K8 x0 x1 x2 x3 x4 x5 x6 x7 x8 x9 x10 x11
 go_wp2_with fail
 go_at_call 13
 refine (unhide K9).mono ?_
 rintro e w9 ⟨rfl,Z9⟩
 clear K9
 go_wp2_with fail
 go_ret2
 exact ⟨g,a,rfl,Z9⟩

end Go.Proofs.YtdfanhjnkjdngabGreatDoor

/- The law's group, its Alloc and the bits of its bitmaps. -/
namespace Go.Proofs.YtdfanhjnkjdngabGreatDoor
set_option maxRecDepth 100000
set_option maxHeartbeats 8000000
open Go.RowKit Go.Shelf Go.Maps
set_option linter.unusedVariables false

def BO (zs:List Int) (β:Nat→Bool):Prop:=∀ j,j < 512→bitAt zs j=β j

def updB (β:Nat→Bool) (x:Nat) (on:Bool):Nat→Bool:=fun j=>if j=x then on else β j

theorem BO.set {zs:List Int} {β:Nat→Bool} (h:BO zs β) (hl:zs.length=64) (hb:∀ z ∈ zs,0 ≤ z∧z ≤ 255) {x:Nat} (hx:x < 512) (on:Bool):BO (setB zs x on) (updB β x on):=fun j hj=>by
 unfold updB
 by_cases e:j=x
 ·rw [if_pos e,e]
  exact bitAt_setB_same hb x (by omega) on
 ·rw [if_neg e,bitAt_setB_other hb x j (by omega) e]
  exact h j hj

theorem skp_congr {p q:Nat→Bool}:∀ {n f:Nat},(∀ j,f ≤ j→j < f + n→p j=q j)→skp p f n=skp q f n
 | 0,f,_=>rfl
 | n + 1,f,h=>by
  unfold skp
  rw [h f (Nat.le_refl _) (by omega),skp_congr (n:=n) (f:=f + 1) (fun j a b=>h j (by omega) (by omega))]

def fbk (β K:Nat→Bool):Nat:=skp (fun j=>!β j && !K j) 16 24

def fin6 (ι:Nat→Bool):Nat:=skp (fun j=>!ι j) 0 6

def nbk (β K:Nat→Bool):Nat:=cnF (fun j=>!β j && !K j) 16 24

def nin (ι:Nat→Bool):Nat:=cnF (fun j=>!ι j) 0 6

theorem BO.fbk {zs:List Int} {β K:Nat→Bool} (h:BO zs β):lstF zs K 16 40=Go.Proofs.YtdfanhjnkjdngabGreatDoor.fbk β K :=
 skp_congr (fun j h1 h2=>by unfold cand; rw [h j (by omega)])

theorem BO.fin6 {zs:List Int} {β:Nat→Bool} (h:BO zs β):lstF zs (fun _=>false) 0 6=Go.Proofs.YtdfanhjnkjdngabGreatDoor.fin6 β :=
 skp_congr (fun j h1 h2=>by unfold cand; rw [h j (by omega)]; simp)

theorem BO.nbk {zs:List Int} {β K:Nat→Bool} (h:BO zs β):numF zs K 16 40=Go.Proofs.YtdfanhjnkjdngabGreatDoor.nbk β K :=
 cnF_congr (fun j h1 h2=>by unfold cand; rw [h j (by omega)])

theorem BO.nin {zs:List Int} {β:Nat→Bool} (h:BO zs β):numF zs (fun _=>false) 0 6=Go.Proofs.YtdfanhjnkjdngabGreatDoor.nin β :=
 cnF_congr (fun j h1 h2=>by unfold cand; rw [h j (by omega)]; simp)

def Ao (w:World) (g a:Nat) (rows:List (Nat × Obj)) (i:Nat) (β ι F:Nat→Bool) (u:World):Prop:=∃ V,Lo w aP aG aE g ((a,alO g aP) :: rows) i V F u∧BO (V 12) β∧BO (V 11) ι

def Ap (w:World) (g a o:Nat) (rows:List (Nat × Obj)) (i:Nat) (β ι F β' ι' K:Nat→Bool) (u:World):Prop:=∃ V V',Lp w aP aG aE g o ((a,alO g aP) :: rows) i V F V' K u∧BO (V 12) β∧BO (V 11) ι∧BO (V' 12) β'∧BO (V' 11) ι'

theorem Ap.later {w:World} {g a o:Nat} {rows:List (Nat × Obj)} {i:Nat} {β ι F β' ι' K:Nat→Bool} {u u':World} (h:Ap w g a o rows i β ι F β' ι' K u) (hb:Below u.heap.size u u'):Ap w g a o rows i β ι F β' ι' K u':=by
 obtain ⟨V,V',l,r⟩:=h
 exact ⟨V,V',l.later hb,r⟩

theorem Ap.bel {w:World} {g a o:Nat} {rows:List (Nat × Obj)} {i:Nat} {β ι F β' ι' K:Nat→Bool} {u:World} (h:Ap w g a o rows i β ι F β' ι' K u):Below w.heap.size w u:=by
 obtain ⟨V,V',l,r⟩:=h
 exact l.bel

theorem Ao.row {w:World} {g a:Nat} {rows:List (Nat × Obj)} {i:Nat} {β ι F:Nat→Bool} {u:World} (h:Ao w g a rows i β ι F u) {x:Nat × Obj} (hx:x ∈ rows):u.heap[x.1]?=some x.2:=by
 obtain ⟨V,l,r⟩:=h
 exact l.row (List.mem_cons_of_mem _ hx)

theorem Ap.row {w:World} {g a o:Nat} {rows:List (Nat × Obj)} {i:Nat} {β ι F β' ι' K:Nat→Bool} {u:World} (h:Ap w g a o rows i β ι F β' ι' K u) {x:Nat × Obj} (hx:x ∈ rows):u.heap[x.1]?=some x.2:=by
 obtain ⟨V,V',l,r⟩:=h
 exact l.row (List.mem_cons_of_mem _ hx)

theorem Ao.old {w:World} {g a:Nat} {rows:List (Nat × Obj)} {i:Nat} {β ι F:Nat→Bool} {u:World} {k:Nat} {ob:Obj} (h:Ao w g a rows i β ι F u) (hk:w.heap[k]?=some ob):Ao w g a ((k,ob) :: rows) i β ι F u:=by
 obtain ⟨V,l,r⟩:=h
 exact ⟨V,(l.old hk).sub mem_swap,r⟩

theorem Ao.push {w:World} {g a:Nat} {rows:List (Nat × Obj)} {i:Nat} {β ι F:Nat→Bool} {u u':World} {k:Nat} {ob:Obj} (h:Ao w g a rows i β ι F u) (hb:Below u.heap.size u u') (hk:u.heap.size ≤ k) (ho:u'.heap[k]?=some ob):Ao w g a ((k,ob) :: rows) i β ι F u':=by
 obtain ⟨V,l,r⟩:=h
 exact ⟨V,(l.push hb hk ho).sub mem_swap,r⟩

theorem a_start (w u:World) (hw:Below w.heap.size w u) (hT:Tab w):Calls Tryz.prog 8 #[Pv aP] u fun e w'=>∃ g a,e=.returned (.tuple #[.pointer (some ⟨g,0,none⟩),.pointer (some ⟨a,0,none⟩)])∧Hid (Ao u g a [] 1 (fun j=>decide (j < 16)) (fun j=>decide (j < 2)) (fun _=>false) w'):=by
 refine (afresh_any u (hT.kept (hw.block 0 hT.lt))).mono ?_
 rintro e w' ⟨g,a,rfl,Y⟩
 refine ⟨g,a,rfl,aV,unhide Y,fun j hj=>?_,fun j hj=>?_⟩
 ·exact blay_bit 64 16 (by omega) j
 ·exact blay_bit 64 2 (by omega) j

theorem Ao.rebase {w:World} {g a:Nat} {rows:List (Nat × Obj)} {i:Nat} {β ι F:Nat→Bool} {u v:World} (h:Ao u g a rows i β ι F v) (hb:Below w.heap.size w u):Ao w g a rows i β ι F v:=by
 obtain ⟨V,l,r⟩:=h
 exact ⟨V,l.rebase hb,r⟩

theorem a_begin {w:World} {g a:Nat} {rows:List (Nat × Obj)} {i:Nat} {β ι F:Nat→Bool} {u:World} (h:Ao w g a rows i β ι F u) :
  Calls Tryz.prog 9 #[.pointer (some ⟨g,0,none⟩)] u fun e u1=>∃ o,e=.returned (.tuple #[.pointer (some ⟨o,0,none⟩),.int .i64 0])∧Hid (Ap w g a o rows i β ι F β ι F u1):=by
 obtain ⟨V,l,r1,r2⟩:=h
 refine (h_begin l).mono ?_
 rintro e u1 ⟨o,rfl,Y⟩
 exact ⟨o,rfl,V,V,unhide Y,r1,r2,r1,r2⟩

theorem a_abort {w:World} {g a o:Nat} {rows:List (Nat × Obj)} {i:Nat} {β ι F β' ι' K:Nat→Bool} {u:World} (h:Ap w g a o rows i β ι F β' ι' K u) :
  Calls Tryz.prog 14 #[.pointer (some ⟨o,0,none⟩)] u fun e u1=>e=.returned (.int .i64 0)∧Hid (Ao w g a rows i β ι F u1):=by
 obtain ⟨V,V',l,r1,r2,_⟩:=h
 refine (h_abort l).mono ?_
 rintro e u1 ⟨rfl,Y⟩
 exact ⟨rfl,V,(unhide Y).lo,r1,r2⟩

theorem a_end {w:World} {g a o:Nat} {rows:List (Nat × Obj)} {i:Nat} {β ι F β' ι' K:Nat→Bool} {u:World} (h:Ap w g a o rows i β ι F β' ι' K u) :
  Calls Tryz.prog 13 #[.pointer (some ⟨o,0,none⟩)] u fun e u1=>e=.returned (.int .i64 0)∧Hid (Ao w g a rows i β' ι' K u1):=by
 obtain ⟨V,V',l,_,_,r1,r2⟩:=h
 refine (h_end l).mono ?_
 rintro e u1 ⟨rfl,Y⟩
 exact ⟨rfl,V',(unhide Y).lo,r1,r2⟩

theorem a_commit {w:World} {g a:Nat} {rows:List (Nat × Obj)} {i:Nat} {β ι F:Nat→Bool} {u:World} (h:Ao w g a rows i β ι F u) (hi:i ≤ 4000) :
  Calls Tryz.prog 20 #[.pointer (some ⟨g,0,none⟩)] u fun e u1=>e=.returned (.int .i64 0)∧Hid (Ao w g a rows (i + 9) β ι (fun _=>false) u1):=by
 obtain ⟨V,l,r⟩:=h
 refine (h_commit l (by omega)).mono ?_
 rintro e u1 ⟨rfl,Y⟩
 exact ⟨rfl,V,unhide Y,r⟩

theorem a_settle {w:World} {g a:Nat} {rows:List (Nat × Obj)} {i:Nat} {β ι F:Nat→Bool} {u:World} (h:Ao w g a rows i β ι F u) (hi:i ≤ 4000) :
  Calls Tryz.prog 19 #[.pointer (some ⟨g,0,none⟩)] u fun e u1=>e=.returned (.int .i64 0)∧Hid (Ao w g a rows (i + 9) β ι (fun _=>false) u1):=by
 obtain ⟨V,l,r⟩:=h
 refine (h_settle l (by omega)).mono ?_
 rintro e u1 ⟨rfl,Y⟩
 exact ⟨rfl,V,unhide Y,r⟩

theorem a_block {w:World} {g a o:Nat} {rows:List (Nat × Obj)} {i:Nat} {β ι F β' ι' K:Nat→Bool} {u:World} (h:Ap w g a o rows i β ι F β' ι' K u) (h0:0 < w.heap.size) :
  Calls Tryz.prog 12 #[.pointer (some ⟨a,0,none⟩),.pointer (some ⟨o,0,none⟩)] u fun e u'=>e=.returned (.tuple #[.int .i64 (if fbk β' K=40 then 0 else ((fbk β' K:Nat):Int)),.int .i64 (if fbk β' K=40 then 10 else 0)])∧Hid (Ap w g a o rows i β ι F (if fbk β' K=40 then β' else updB β' (fbk β' K) true) ι' K u'):=by
 obtain ⟨V,V',l,r1,r2,r3,r4⟩:=h
 have hv:=l.vb (j:=12) rfl
 have hr:=lstF_is (V' 12) K (f:=16) (t:=40) (by omega)
 have e1:lstF (V' 12) K 16 40=fbk β' K:=r3.fbk
 have:=al_block (a:=a) l aA (by simp) h0
 refine this.mono ?_
 rintro e u' ⟨rfl,Y⟩
 refine ⟨?_,V,_,unhide Y,r1,r2,?_,?_⟩
 ·show Ending.returned (.tuple #[.int .i64 (tkN (V' 12) K 16 40),.int .i64 (tkE (V' 12) K 16 40)])=_
  unfold tkN tkE
  rw [e1]
 ·show BO (if 12=12 then tkZ (V' 12) K 16 40 else V' 12) _
  rw [if_pos rfl]
  unfold tkZ
  rw [e1]
  by_cases hx:fbk β' K=40
  ·rw [if_pos hx,if_pos hx]; exact r3
  ·rw [if_neg hx,if_neg hx]
   exact r3.set hv.1 hv.2 (by rw [← e1]; omega) true
 ·show BO (if 11=12 then tkZ (V' 12) K 16 40 else V' 11) _
  rw [if_neg (by omega)]
  exact r4

theorem a_inode {w:World} {g a o:Nat} {rows:List (Nat × Obj)} {i:Nat} {β ι F β' ι' K:Nat→Bool} {u:World} (h:Ap w g a o rows i β ι F β' ι' K u) (h0:0 < w.heap.size) :
  Calls Tryz.prog 11 #[.pointer (some ⟨a,0,none⟩),.pointer (some ⟨o,0,none⟩)] u fun e u'=>e=.returned (.tuple #[.int .i64 (if fin6 ι'=6 then 0 else ((fin6 ι':Nat):Int)),.int .i64 (if fin6 ι'=6 then 10 else 0)])∧Hid (Ap w g a o rows i β ι F β' (if fin6 ι'=6 then ι' else updB ι' (fin6 ι') true) K u'):=by
 obtain ⟨V,V',l,r1,r2,r3,r4⟩:=h
 have hv:=l.vb (j:=11) rfl
 have hr:=lstF_is (V' 11) (fun _=>false) (f:=0) (t:=6) (by omega)
 have e1:lstF (V' 11) (fun _=>false) 0 6=fin6 ι':=r4.fin6
 have:=al_inode (a:=a) l aA (by simp) h0
 refine this.mono ?_
 rintro e u' ⟨rfl,Y⟩
 refine ⟨?_,V,_,unhide Y,r1,r2,?_,?_⟩
 ·show Ending.returned (.tuple #[.int .i64 (tkN (V' 11) (fun _=>false) 0 6),.int .i64 (tkE (V' 11) (fun _=>false) 0 6)])=_
  unfold tkN tkE
  rw [e1]
 ·show BO (if 12=aG.ib then tkZ (V' aG.ib) (fun _=>false) 0 6 else V' 12) _
  rw [if_neg (by decide)]
  exact r3
 ·show BO (if 11=aG.ib then tkZ (V' aG.ib) (fun _=>false) 0 6 else V' 11) _
  rw [if_pos (by decide)]
  show BO (tkZ (V' 11) (fun _=>false) 0 6) _
  unfold tkZ
  rw [e1]
  by_cases hx:fin6 ι'=6
  ·rw [if_pos hx,if_pos hx]; exact r4
  ·rw [if_neg hx,if_neg hx]
   exact r4.set hv.1 hv.2 (by rw [← e1]; omega) true

theorem a_freeB {w:World} {g a o:Nat} {rows:List (Nat × Obj)} {i:Nat} {β ι F β' ι' K:Nat→Bool} {u:World} (h:Ap w g a o rows i β ι F β' ι' K u) (b:Nat) (hb1:16 ≤ b) (hb2:b < 40) :
  Calls Tryz.prog 16 #[.pointer (some ⟨a,0,none⟩),.pointer (some ⟨o,0,none⟩),.int .i64 (b:Int)] u fun e u'=>e=.returned (.int .i64 (if β' b=false then 11 else 0))∧Hid (Ap w g a o rows i β ι F (if β' b=false then β' else updB β' b false) ι' (if β' b=false then K else updB K b true) u'):=by
 obtain ⟨V,V',l,r1,r2,r3,r4⟩:=h
 have hv:=l.vb (j:=12) rfl
 have:=al_freeBlock (a:=a) l aA (by simp) b hb1 hb2
 rw [r3 b (by omega)] at this
 refine this.mono ?_
 rintro e u' ⟨rfl,Y⟩
 refine ⟨rfl,V,_,unhide Y,r1,r2,?_,?_⟩
 ·by_cases hx:β' b=false
  ·rw [if_pos hx,if_pos hx]; exact r3
  ·rw [if_neg hx,if_neg hx]
   exact r3.set hv.1 hv.2 (by omega) false
 ·by_cases hx:β' b=false
  ·rw [if_pos hx]; exact r4
  ·rw [if_neg hx]; exact r4

theorem a_free {w:World} {g a o:Nat} {rows:List (Nat × Obj)} {i:Nat} {β ι F β' ι' K:Nat→Bool} {u:World} (h:Ap w g a o rows i β ι F β' ι' K u) (h0:0 < w.heap.size) :
  Calls Tryz.prog 10 #[.pointer (some ⟨a,0,none⟩),.pointer (some ⟨o,0,none⟩)] u fun e u'=>AnsA e 0 ((nbk β' K:Nat):Int) ((nin ι':Nat):Int)∧Hid (Ap w g a o rows i β ι F β' ι' K u'):=by
 obtain ⟨V,V',l,r1,r2,r3,r4⟩:=h
 have:=al_free (a:=a) l aA (by simp) h0
 rw [show aG.n=40 from rfl,r3.nbk,show aG.ib=11 from rfl,r4.nin] at this
 refine this.mono ?_
 rintro e u' ⟨r,Y⟩
 exact ⟨r,V,V',unhide Y,r1,r2,r3,r4⟩

end Go.Proofs.YtdfanhjnkjdngabGreatDoor

/- The law's fixed run. -/
namespace Go.Proofs.YtdfanhjnkjdngabGreatDoor
set_option maxRecDepth 100000
set_option maxHeartbeats 8000000
open Go.RowKit Go.Shelf Go.Maps
set_option linter.unusedVariables false

theorem rd_3:Rd 4613937818241073152 3:=⟨false,3,51,by decide +kernel,rfl⟩

theorem rd_23:Rd 4627167142146473984 23:=⟨false,23,48,by decide +kernel,rfl⟩

theorem ord_eq {x y:Nat} {a b:Int} (hx:Rd x a) (hy:Rd y b) (h:a=b):FloatKind.f64.format.order x y=some .eq:=by
 have:=rd_order hx hy
 show Ieee.double.order x y=_
 rw [this,h]
 simp [compare,compareOfLessAndEq]

theorem awakes_any (w:World) (hT:Tab w):Calls Tryz.prog 6 #[] w fun e w'=>e=.returned (.bool true)∧Below w.heap.size w w':=by
 have h0:0 < w.heap.size:=hT.lt
 have K1:=hide (asmall_any w)
 have K2:Hid (∀ u,Below w.heap.size w u→Calls Tryz.prog 8 #[Pv aP] u fun e w'=>∃ g a,e=.returned (.tuple #[.pointer (some ⟨g,0,none⟩),.pointer (some ⟨a,0,none⟩)]) ∧
   Hid (Calls Tryz.prog 9 #[.pointer (some ⟨g,0,none⟩)] w' fun e u1=>∃ o,e=.returned (.tuple #[.pointer (some ⟨o,0,none⟩),.int .i64 0]) ∧
    Hid (Calls Tryz.prog 12 #[.pointer (some ⟨a,0,none⟩),.pointer (some ⟨o,0,none⟩)] u1 fun e u2=>e=.returned (.tuple #[.int .i64 16,.int .i64 0]) ∧
     Hid (Calls Tryz.prog 11 #[.pointer (some ⟨a,0,none⟩),.pointer (some ⟨o,0,none⟩)] u2 fun e u3=>e=.returned (.tuple #[.int .i64 2,.int .i64 0]) ∧
      Hid (Calls Tryz.prog 10 #[.pointer (some ⟨a,0,none⟩),.pointer (some ⟨o,0,none⟩)] u3 fun e u4=>AnsA e 0 23 3∧Hid (Below w.heap.size w u4)))))):=fun u hu=>by
  refine (a_start w u hu hT).mono ?_
  rintro e w' ⟨g,a,rfl,Y⟩
  refine ⟨g,a,rfl,(a_begin ((unhide Y).rebase hu)).mono ?_⟩
  rintro e u1 ⟨o,rfl,Y1⟩
  refine ⟨o,rfl,?_⟩
  have hB:=a_block (unhide Y1) h0
  rw [show fbk (fun j=>decide (j < 16)) (fun _=>false)=16 by decide] at hB
  refine hB.mono ?_
  rintro e u2 ⟨rfl,Y2⟩
  refine ⟨rfl,?_⟩
  have hI:=a_inode (unhide Y2) h0
  rw [show fin6 (fun j=>decide (j < 2))=2 by decide] at hI
  refine hI.mono ?_
  rintro e u3 ⟨rfl,Y3⟩
  refine ⟨rfl,?_⟩
  have hF:=a_free (unhide Y3) h0
  refine hF.mono ?_
  rintro e u4 ⟨r,Y4⟩
  exact ⟨r,(unhide Y4).bel⟩
 clear hT h0
 go_enter Tryz.func6,Tryz.ntmps6
 go_wp2_with fail
 go_at_call 7
 refine (unhide K1).mono ?_
 rintro e w1 ⟨rfl,hb1⟩
 have K3:=hide (unhide K2 w1 hb1)
 clear K1 K2 hb1
 go_wp2_with fail
 go_at_call 8
 refine (unhide K3).mono ?_
 rintro e w2 ⟨g,a,rfl,K4⟩
 clear K3
 go_wp2_with fail
 go_at_call 9
 refine (unhide K4).mono ?_
 rintro e w3 ⟨o,rfl,K5⟩
 clear K4
 go_wp2_with fail
 go_at_call 12
 refine (unhide K5).mono ?_
 rintro e w4 ⟨rfl,K6⟩
 clear K5
 go_wp2_with fail
 go_at_call 11
 refine (unhide K6).mono ?_
 rintro e w5 ⟨rfl,K7⟩
 clear K6
 go_wp2_with fail
 go_at_call 10
 refine (unhide K7).mono ?_
 rintro e w6 ⟨⟨x,y,rfl,r1,r2⟩,Z⟩
 have o1:=ord_eq r1 rd_23 rfl
 have o2:=ord_eq r2 rd_3 rfl
 clear K7 r1 r2
 go_wp2_with fail
 go_ret
 exact ⟨rfl,unhide Z⟩

end Go.Proofs.YtdfanhjnkjdngabGreatDoor

/- The law's plan in memory; blocks that are taken in their order. -/
namespace Go.Proofs.YtdfanhjnkjdngabGreatDoor
set_option maxRecDepth 100000
set_option maxHeartbeats 8000000
open Go.RowKit Go.Shelf Go.Maps
set_option linter.unusedVariables false

def plA:Obj:=.cells (Pc aP) 24 (0,0)

theorem plA_cells {u:World} {k:Nat} (h:u.heap[k]?=some plA):u.cell? ⟨k,1,none⟩=some (.int .i64 40)∧u.cell? ⟨k,2,none⟩=some (.int .i64 6)∧u.cell? ⟨k,11,none⟩=some (.int .i64 16):=by
 have B:Bl u k (Pc aP) 24:=h
 have c1:=B.cell 1 (.int .i64 (aP 1)) rfl
 have c2:=B.cell 2 (.int .i64 (aP 2)) rfl
 have c3:=B.cell 11 (.int .i64 (aP 11)) rfl
 rw [aP_at] at c1 c2 c3
 exact ⟨c1,c2,c3⟩

def bt (k:Nat):Nat→Bool:=fun j=>decide (j < 16 + k)

def km (k:Nat):Nat→Bool:=fun j=>decide (16 + k ≤ j∧j < 40)

theorem bt_take (k:Nat):updB (bt k) (16 + k) true=bt (k + 1):=by
 funext j
 unfold updB bt
 by_cases e:j=16 + k
 ·rw [if_pos e]; symm; exact decide_eq_true (by omega)
 ·rw [if_neg e]
  apply decide_eq_decide.2
  omega

theorem fbk_bt (k:Nat) (hk:k ≤ 24):fbk (bt k) (fun _=>false)=16 + k:=by
 refine skp_eq (by omega) (by omega) (fun q h1 h2=>?_) ?_
 ·simp [bt]; omega
 ·by_cases e:k=24
  ·left; omega
  ·right; simp [bt]

theorem t_take {w:World} {g a o:Nat} {rows:List (Nat × Obj)} {i:Nat} {β ι F:Nat→Bool} {u:World} {ι':Nat→Bool} (k:Nat) (hk:k < 24) (h:Ap w g a o rows i β ι F (bt k) ι' (fun _=>false) u) (h0:0 < w.heap.size) :
  Calls Tryz.prog 12 #[.pointer (some ⟨a,0,none⟩),.pointer (some ⟨o,0,none⟩)] u fun e u'=>e=.returned (.tuple #[.int .i64 (16 + (k:Int)),.int .i64 0])∧Hid (Ap w g a o rows i β ι F (bt (k + 1)) ι' (fun _=>false) u'):=by
 have:=a_block h h0
 rw [fbk_bt k (by omega),if_neg (by omega),if_neg (by omega),if_neg (by omega),bt_take] at this
 refine this.mono ?_
 rintro e u' ⟨rfl,Y⟩
 exact ⟨by push_cast; rfl,Y⟩

theorem t_none {w:World} {g a o:Nat} {rows:List (Nat × Obj)} {i:Nat} {β ι F:Nat→Bool} {u:World} {β' ι' K:Nat→Bool} (h:Ap w g a o rows i β ι F β' ι' K u) (hn:fbk β' K=40) (h0:0 < w.heap.size) :
  Calls Tryz.prog 12 #[.pointer (some ⟨a,0,none⟩),.pointer (some ⟨o,0,none⟩)] u fun e u'=>e=.returned (.tuple #[.int .i64 0,.int .i64 10])∧Hid (Ap w g a o rows i β ι F β' ι' K u'):=by
 have:=a_block h h0
 rw [hn,if_pos rfl,if_pos rfl,if_pos rfl] at this
 exact this

end Go.Proofs.YtdfanhjnkjdngabGreatDoor

/- AllocKeeps: blocks that are freed are kept. -/
namespace Go.Proofs.YtdfanhjnkjdngabGreatDoor
set_option maxRecDepth 100000
set_option maxHeartbeats 8000000
open Go.RowKit Go.Shelf Go.Maps
set_option linter.unusedVariables false

theorem info4k:(Tryz.prog.info? 4).map (fun i=>(i.zero,i.size,i.bytes))=some (some (.bool false),1,1):=by kernel_rfl

def boA (φ:Nat→Bool):Array Value:=((List.range 40).map (fun j=>Value.bool (φ j))).toArray

def boO (φ:Nat→Bool):Obj:=.cells (boA φ) 4 (0,0)

theorem boA_none:madeCells #[.bool false] 40=boA (fun _=>false):=by
 rw [← Array.toArray_toList (xs:=madeCells #[.bool false] 40),toList_madeCells_one]
 rfl

theorem boA_set (φ:Nat→Bool) {b:Nat} (hb:b < 40):(boA φ).setIfInBounds b (.bool true)=boA (updB φ b true):=by
 unfold boA
 rw [List.setIfInBounds_toArray]
 congr 1
 apply List.ext_getElem?
 intro j
 rw [List.getElem?_set,List.getElem?_map,List.getElem?_map]
 by_cases e:b=j
 ·subst e
  rw [if_pos rfl,List.getElem?_range hb]
  simp [updB,hb]
 ·rw [if_neg e]
  by_cases h:j < 40
  ·rw [List.getElem?_range h]
   have e':¬ j=b:=fun x=>e x.symm
   simp [updB,e']
  ·rw [List.getElem?_eq_none (by simp; omega)]
   rfl

theorem boO_cell {u:World} {k:Nat} {φ:Nat→Bool} (h:u.heap[k]?=some (boO φ)) {j:Nat} (hj:j < 40):u.cell? ⟨k,j,none⟩=some (.bool (φ j))∧u.frozen? ⟨k,j,none⟩=false:=by
 have B:Bl u k (boA φ) 4:=h
 refine ⟨B.cell j (.bool (φ j)) ?_,by simp [World.frozen?,h,boO]⟩
 unfold boA
 rw [List.getElem?_toArray,List.getElem?_map,List.getElem?_range hj]
 rfl

theorem boO_set {u:World} {k:Nat} {φ:Nat→Bool} (h:u.heap[k]?=some (boO φ)) {b:Nat} (hb:b < 40):(u.setCell ⟨k,b,none⟩ (.bool true)).heap[k]?=some (boO (updB φ b true)):=by
 unfold boO at h ⊢
 rw [setCell_eq_setRow u k b _ 4 (0,0) _ h,← boA_set φ hb]
 exact setRow_heap u k _ _ 4 _ h

theorem Ap.set {w:World} {g a o:Nat} {rows:List (Nat × Obj)} {i:Nat} {β ι F β' ι' K:Nat→Bool} {u:World} {k:Nat} {ob ob':Obj} (h:Ap w g a o ((k,ob) :: rows) i β ι F β' ι' K u) (hk:w.heap.size ≤ k) (h0:0 < w.heap.size) (hn:∀ x ∈ (a,alO g aP) :: rows,x.1 ≠ k) (j:Nat) (v:Value) (ho:(u.setCell ⟨k,j,none⟩ v).heap[k]?=some ob'):Ap w g a o ((k,ob') :: rows) i β ι F β' ι' K (u.setCell ⟨k,j,none⟩ v):=by
 obtain ⟨V,V',l,r⟩:=h
 exact ⟨V,V',((l.sub mem_swap).set hk h0 hn j v ho).sub mem_swap,r⟩

def bk (φ:Nat→Bool) (k:Nat):Nat→Bool:=fun j=>decide (j < 16 + k) && !φ j

theorem bk_none (k:Nat):bk (fun _=>false) k=bt k:=by
 funext j
 simp [bk,bt]

theorem bk_free (φ:Nat→Bool) (b:Nat):updB (bk φ 10) b false=bk (updB φ b true) 10:=by
 funext j
 unfold updB bk
 by_cases e:j=b
 ·simp [e]
 ·simp [e]

theorem bk_take {φ:Nat→Bool} {k:Nat} (h:φ (16 + k)=false):updB (bk φ k) (16 + k) true=bk φ (k + 1):=by
 funext j
 unfold updB bk
 by_cases e:j=16 + k
 ·rw [if_pos e,e,h]
  simp
 ·rw [if_neg e]
  congr 1
  apply decide_eq_decide.2
  omega

theorem fbk_bk {φ:Nat→Bool} {k:Nat} (h1:8 ≤ k) (h2:k ≤ 24) (h:∀ j,24 ≤ j→φ j=false):fbk (bk φ k) φ=16 + k:=by
 refine skp_eq (by omega) (by omega) (fun q a b=>?_) ?_
 ·unfold bk
  rw [decide_eq_true (by omega)]
  cases φ q <;> rfl
 ·by_cases e:k=24
  ·left; omega
  ·right
   unfold bk
   rw [decide_eq_false (by omega),h _ (by omega)]
   rfl

theorem cnF_split (p:Nat→Bool) (f a b:Nat):cnF p f (a + b)=cnF p f a + cnF p (f + a) b:=by
 induction b with
 | zero=>simp [cnF]
 | succ b ih =>
  rw [← Nat.add_assoc]
  simp only [cnF]
  rw [ih,Nat.add_assoc f a b]
  omega

def nf (φ:Nat→Bool):Nat:=cnF φ 16 10

theorem nbk_bk (φ:Nat→Bool):nbk (bk φ 10) (fun _=>false)=14 + nf φ:=by
 unfold nbk nf
 rw [show (24:Nat)=10 + 14 from rfl,cnF_split,Nat.add_comm 14]
 congr 1
 refine cnF_congr (fun j a b=>?_)
 unfold bk
 rw [decide_eq_true (by omega)]
 cases φ j <;> rfl

theorem cnF_upd {φ:Nat→Bool} {b:Nat} (h:φ b=false) {f:Nat} (hf:f ≤ b):∀ {n:Nat},b < f + n→cnF (updB φ b true) f n=cnF φ f n + 1
 | 0,hn=>by omega
 | n + 1,hn=>by
  simp only [cnF]
  by_cases e:b=f + n
  ·have:cnF (updB φ b true) f n=cnF φ f n:=cnF_congr (fun j a c=>by unfold updB; rw [if_neg (by omega)])
   rw [this,← e,h]
   simp [updB]
  ·rw [cnF_upd h hf (by omega)]
   have:updB φ b true (f + n)=φ (f + n):=by unfold updB; rw [if_neg (by omega)]
   rw [this]
   omega

theorem nf_upd {φ:Nat→Bool} {b:Nat} (h:φ b=false) (h1:16 ≤ b) (h2:b < 24):nf (updB φ b true)=nf φ + 1:=cnF_upd h h1 (by omega)

theorem k_take {w:World} {g a o:Nat} {rows:List (Nat × Obj)} {i:Nat} {β ι F:Nat→Bool} {u:World} {ι' φ:Nat→Bool} (k:Nat) (h1:8 ≤ k) (hk:k < 24) (hφ:∀ j,24 ≤ j→φ j=false) (h:Ap w g a o rows i β ι F (bk φ k) ι' φ u) (h0:0 < w.heap.size) :
  Calls Tryz.prog 12 #[.pointer (some ⟨a,0,none⟩),.pointer (some ⟨o,0,none⟩)] u fun e u'=>e=.returned (.tuple #[.int .i64 (16 + (k:Int)),.int .i64 0])∧Hid (Ap w g a o rows i β ι F (bk φ (k + 1)) ι' φ u'):=by
 have:=a_block h h0
 rw [fbk_bk h1 (by omega) hφ,if_neg (by omega),if_neg (by omega),if_neg (by omega),bk_take (hφ _ (by omega))] at this
 refine this.mono ?_
 rintro e u' ⟨rfl,Y⟩
 exact ⟨by push_cast; rfl,Y⟩

theorem k_free {w:World} {g a o:Nat} {rows:List (Nat × Obj)} {i:Nat} {β ι F:Nat→Bool} {u:World} {ι' φ:Nat→Bool} (b:Nat) (h1:16 ≤ b) (h2:b < 24) (h:Ap w g a o rows i β ι F (bk φ 10) ι' φ u) (hb:φ b=false) :
  Calls Tryz.prog 16 #[.pointer (some ⟨a,0,none⟩),.pointer (some ⟨o,0,none⟩),.int .i64 (b:Int)] u fun e u'=>e=.returned (.int .i64 0)∧Hid (Ap w g a o rows i β ι F (bk (updB φ b true) 10) ι' (updB φ b true) u'):=by
 have:=a_freeB h b (by omega) (by omega)
 have e:bk φ 10 b=true:=by unfold bk; rw [hb,decide_eq_true (by omega)]; rfl
 rw [e,if_neg (by simp),if_neg (by simp),if_neg (by simp),bk_free] at this
 exact this

theorem k_again {w:World} {g a o:Nat} {rows:List (Nat × Obj)} {i:Nat} {β ι F:Nat→Bool} {u:World} {ι' φ:Nat→Bool} (b:Nat) (h1:16 ≤ b) (h2:b < 24) (h:Ap w g a o rows i β ι F (bk φ 10) ι' φ u) (hb:φ b=true) :
  Calls Tryz.prog 16 #[.pointer (some ⟨a,0,none⟩),.pointer (some ⟨o,0,none⟩),.int .i64 (b:Int)] u fun e u'=>e=.returned (.int .i64 11)∧Hid (Ap w g a o rows i β ι F (bk φ 10) ι' φ u'):=by
 have:=a_freeB h b (by omega) (by omega)
 have e:bk φ 10 b=false:=by unfold bk; rw [hb]; simp
 rw [e,if_pos rfl,if_pos rfl,if_pos rfl] at this
 exact this

theorem updB_far {φ:Nat→Bool} (h:∀ j,24 ≤ j→φ j=false) {b:Nat} (hb:b < 24):∀ j,24 ≤ j→updB φ b true j=false:=fun j hj=>by
 unfold updB
 rw [if_neg (by omega)]
 exact h j hj

end Go.Proofs.YtdfanhjnkjdngabGreatDoor

