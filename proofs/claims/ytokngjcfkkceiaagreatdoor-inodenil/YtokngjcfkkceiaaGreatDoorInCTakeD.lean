/- Contract of codec.takeDesc. -/
import Derived.Test.YtokngjcfkkceiaaGreatDoorInJ25
import Derived.Test.YtokngjcfkkceiaaGreatDoorInJ22
import Derived.Test.YtokngjcfkkceiaaGreatDoorInJ1
import Derived.Deep.RegionHeld3
namespace Go.Proofs.YtokngjcfkkceiaaGreatDoor
set_option maxRecDepth 100000
set_option maxHeartbeats 8000000
open Go.RowKit Go.Shelf
set_option linter.unusedVariables false

def takeL (zs:List Int) (n:Nat):List Int:=(List.range n).map (fun (i:Nat)=>getVal zs (10+2*(i:Int)) 2)

theorem takeL_length (zs:List Int)(n:Nat):(takeL zs n).length=n:=by simp[takeL]

theorem takeL_succ (zs:List Int)(n:Nat):takeL zs (n+1)=takeL zs n++[getVal zs (10+2*(n:Int)) 2]:=by simp[takeL,List.range_succ]

def rowK (zs:List Int) (N k:Nat):Array Value:=((takeL zs k++List.replicate (N - k) 0).map (Value.int .i64)).toArray

theorem rowK_zero (zs:List Int)(N:Nat):rowK zs N 0=madeCells #[.int .i64 0] N:=by
 have h:(rowK zs N 0).toList=(madeCells #[.int .i64 0] N).toList:=by
  rw[toList_madeCells_one]
  simp[rowK,takeL]
 exact Array.toList_inj.1 h

theorem rowK_set (zs:List Int)(N k:Nat)(hk:k<N):(rowK zs N k).setIfInBounds k (.int .i64 (getVal zs (10+2*(k:Int)) 2))=rowK zs N (k+1):=by
 apply Array.toList_inj.1
 rw[Array.toList_setIfInBounds]
 simp only[rowK]
 obtain⟨m,hm⟩:∃ m,N - k=m+1:=⟨N - k - 1,by omega⟩
 have hm':N - (k+1)=m:=by omega
 rw[hm,hm',takeL_succ,List.replicate_succ,List.map_append,List.map_append,List.map_cons,List.map_append,List.set_append_right _ _ (by simp[takeL_length])]
 simp[takeL_length]

theorem rowK_cell (zs:List Int)(N k:Nat)(hk:k<N):(rowK zs N k)[k]?=some (.int .i64 0):=by
 obtain⟨m,hm⟩:∃ m,N - k=m+1:=⟨N - k - 1,by omega⟩
 unfold rowK
 rw[hm,List.replicate_succ]
 simp[takeL_length]

def DJ (w:World) (g3 gr N k:Nat) (q:Int) (zs:List Int) (u:World):Prop:=Below w.heap.size w u∧Bl u w.heap.size #[.int .i64 0,.slice none 0 0] 258∧Bl u g3 #[.int .i64 q,.slice (some ⟨gr,0,none⟩) N N] 258∧Bl u gr (rowK zs N k) 3

theorem DJ.call {w u u':World}{g3 gr N k:Nat}{q:Int}{zs:List Int}(h:DJ w g3 gr N k q zs u)(hb:Below u.heap.size u u'):DJ w g3 gr N k q zs u':=⟨bchain h.1 hb (Nat.le_refl _),h.2.1.call hb,h.2.2.1.call hb,h.2.2.2.call hb⟩
theorem DJ.drew {w u:World}{g3 gr N k:Nat}{q:Int}{zs:List Int}(h:DJ w g3 gr N k q zs u):DJ w g3 gr N k q zs u.drew:=⟨h.1.drew,h.2.1.drew,h.2.2.1.drew,h.2.2.2.drew⟩
theorem DJ.bel {w u:World}{g3 gr N k:Nat}{q:Int}{zs:List Int}(h:DJ w g3 gr N k q zs u):Below w.heap.size w u:=h.1
theorem DJ.fld {w u:World}{g3 gr N k:Nat}{q:Int}{zs:List Int}(h:DJ w g3 gr N k q zs u):u.cell? ⟨g3,1,none⟩=some (.slice (some ⟨gr,0,none⟩) N N):=h.2.2.1.cell 1 _ rfl
theorem DJ.elt {w u:World}{g3 gr N k:Nat}{q:Int}{zs:List Int}(h:DJ w g3 gr N k q zs u)(hk:k<N):u.cell? ⟨gr,k,none⟩=some (.int .i64 0):=h.2.2.2.cell k _ (rowK_cell zs N k hk)
theorem DJ.fr {w u:World}{g3 gr N k:Nat}{q:Int}{zs:List Int}(h:DJ w g3 gr N k q zs u):∀ i,u.frozen? ⟨gr,i,none⟩=false:=h.2.2.2.free

theorem DJ.set {w u:World}{g3 gr N k:Nat}{q:Int}{zs:List Int}(h:DJ w g3 gr N k q zs u)(hk:k<N)(h1:w.heap.size<gr)(h2:gr<g3):DJ w g3 gr N (k+1) q zs (u.setCell ⟨gr,k,none⟩ (.int .i64 (getVal zs (10+2*(k:Int)) 2))):=by
 refine⟨h.1.setCell (Nat.le_of_lt h1) _,h.2.1.other _ _ (Nat.ne_of_lt h1),h.2.2.1.other _ _ (Nat.ne_of_gt h2),?_⟩
 have:=h.2.2.2.set k (.int .i64 (getVal zs (10+2*(k:Int)) 2))
 rwa [rowK_set zs N k hk] at this

theorem row_ihas {u:World}{gr:Nat}{zs:List Int}{N:Nat}(h:Bl u gr (rowK zs N N) 3):IHas u (some ⟨gr,0,none⟩) N (takeL zs N):=by
 refine⟨takeL_length zs N,fun _=>⟨gr,0,rfl,fun j hj=>?_⟩⟩
 have hjl:j<(takeL zs N).length:=by rw[takeL_length];exact hj
 rw[Nat.zero_add]
 refine h.cell j _ ?_
 simp[rowK,List.getElem?_eq_getElem hjl]

theorem takeDesc_a (a:Option Addr)(len cap:Nat)(zs:List Int)(w:World)(hr:Row w.heap.size w a len cap zs)(N:Nat)(hc:(len:Int) / 2<getVal zs 8 2)(hN:(len:Int) / 2=(N:Int))(hN2:N≤65535) :
  Calls Tryz.prog 217 #[.slice a len cap] w fun e w'=>∃ gr,e=.returned (.agg #[.int .i64 (getVal zs 4 4),.slice (some ⟨gr,0,none⟩) N N])∧w.heap.size≤gr∧Hid (Bl w' gr (rowK zs N N) 3)∧Below w.heap.size w w':=by
 have KG:Hid (∀ (at' n:Int) (u:World),at'≤200000→Below w.heap.size w u→Calls Tryz.prog 149 #[.slice a len cap,.int .i64 at',.int .i64 n] u fun e w'=>e=.returned (.int .i64 (getVal zs at' n))∧Below u.heap.size u w') :=
  fun at' n u h1 hb=>get_drop a len cap zs at' n u (hr.below hb hb.size) (by omega)
 have hl:=hr.2.2.1.1
 have hmk:=run_make_row' (P:=Tryz.prog) 22 3 (.int .i64 0) 8 Tryz.underlying22 info3 rfl .i64 .i64 N (by omega) (by omega)
 have HZ:=hide (Bl.new w #[.int .i64 0,.slice none 0 0] 258)
 have HB:=hide ((Below.refl _ w).alloc (Nat.le_refl _) (.cells #[.int .i64 0,.slice none 0 0] 258))
 have hv:=hN
 have hmk':∀ w:World,(Instr.makeSlice 22 (.int .i64 ((len:Int) / 2)) (.int .i64 ((len:Int) / 2))).run Tryz.prog w=.ok (.slice (some ⟨w.heap.size,0,none⟩) N N) (w.alloc (.cells (madeCells #[.int .i64 0] N) 3)):=fun w=>by rw[hv];exact hmk w
 clear hv
 clear hr hN hmk
 go_enter Tryz.func217,Tryz.ntmps217
 go_wp2_with fail
 go_at_call 149
 refine(unhide KG _ _ _ (by omega) HB.out).mono ?_
 rintro e w1 ⟨rfl,hb⟩
 replace HB:=hide (bchain HB.out hb (Nat.le_refl _))
 replace HZ:=hide (HZ.out.call hb)
 clear hb
 go_wp2_with fail
 go_at_call 149
 refine(unhide KG _ _ _ (by omega) HB.out).mono ?_
 rintro e w2 ⟨rfl,hb⟩
 replace HB:=hide (bchain HB.out hb (Nat.le_refl _))
 replace HZ:=hide (HZ.out.call hb)
 clear hb
 have hg1:Hid (w.heap.size<w2.heap.size):=HZ.out.lt
 have e1:(w2.alloc (.cells (madeCells #[.int .i64 0] N) 3)).heap.size=w2.heap.size+1:=by simp
 have J:Hid (DJ w (w2.heap.size+1) w2.heap.size N 0 (getVal zs 4 4) zs ((w2.alloc (.cells (madeCells #[.int .i64 0] N) 3)).alloc (.cells #[.int .i64 (getVal zs 4 4),.slice (some ⟨w2.heap.size,0,none⟩) N N] 258))):=by
  refine⟨(HB.out.alloc HB.out.size _).alloc (HB.out.alloc HB.out.size _).size _,(HZ.out.alloc _).alloc _,?_,?_⟩
  ·have:=Bl.new (w2.alloc (.cells (madeCells #[.int .i64 0] N) 3)) #[.int .i64 (getVal zs 4 4),.slice (some ⟨w2.heap.size,0,none⟩) N N] 258
   rwa [e1] at this
  ·rw[rowK_zero]
   exact(Bl.new w2 _ 3).alloc _
 clear e1
 go_upto_region 2 with fail
 change Code.wp _ _ _ _ ((w2.alloc (.cells (madeCells #[.int .i64 0] N) 3)).alloc (.cells #[.int .i64 (getVal zs 4 4),.slice (some ⟨w2.heap.size,0,none⟩) N N] 258))
 generalize (w2.alloc (.cells (madeCells #[.int .i64 0] N) 3)).alloc (.cells #[.int .i64 (getVal zs 4 4),.slice (some ⟨w2.heap.size,0,none⟩) N N] 258)=W at *
 have hg2:Hid (w2.heap.size<w2.heap.size+1):=Nat.lt_succ_self _
 generalize w2.heap.size+1=g3 at *
 generalize w2.heap.size=gr at *
 clear HB HZ hmk'
 have f1:=J.out.fld
 generalize hq:getVal zs 4 4=q at *
 have HQ:=hide hq
 clear hq
 go_upto_region 3 with fail
 clear f1
 go_loopw [18] (fun i wr=>∃ k:Nat,k≤N∧i=.int .i64 (k:Int)∧Hid (DJ w g3 gr N k q zs wr)) (fun i _=>N - (intOf i).toNat)
 case atStart=>exact⟨0,Nat.zero_le _,rfl,J⟩
 case round =>
  obtain⟨k,hk,rfl,hJ⟩:=hrel
  clear J
  by_cases hlt:k<N
  ·have KS:Hid (∀ u,DJ w g3 gr N k q zs u→DJ w g3 gr N (k+1) q zs (u.setCell ⟨gr,k,none⟩ (.int .i64 (getVal zs (10+2*(k:Int)) 2)))):=fun u h=>h.set hlt hg1.out hg2.out
   have J0:=hide hJ.out.drew
   have KB:Hid (∀ u k',DJ w g3 gr N k' q zs u→Hid (Below w.heap.size w u)∧u.cell? ⟨g3,1,none⟩=some (.slice (some ⟨gr,0,none⟩) N N)):=fun u k' h=>⟨h.bel,h.fld⟩
   have hw1:IntKind.i64.wrap (2*(k:Int))=2*(k:Int):=by rw[IntKind.wrap_i64];omega
   have hw2:IntKind.i64.wrap (10+2*(k:Int))=10+2*(k:Int):=by rw[IntKind.wrap_i64];omega
   clear hJ
   go_upto_region 5 with fail
   go_region_held3 (fun u=>Hid (Below w.heap.size w u)∧u.cell? ⟨g3,1,none⟩=some (.slice (some ⟨gr,0,none⟩) N N))
    (with_reducible (first | exact unhide KB _ _ (unhide J0) | exact unhide KB _ _ (unhide J3) | exact unhide KB _ _ (unhide KS _ (unhide J3))))
    ((go_at_call 149;refine(unhide KG _ _ _ (by omega) (unhide (‹Hid (Below w.heap.size w _)∧_›).1)).mono ?_;rintro e w3 ⟨rfl,hb⟩;have J3:Hid (DJ w g3 gr N k q zs w3):=DJ.call (unhide J0) hb;have x1:=DJ.elt (unhide J3) hlt;have x2:=DJ.fr (unhide J3);clear hb))
   all_goals
    have J4:=hide (unhide KS _ (unhide J3))
    clear J0 J3 KB KS KG
    go_wp2_with fail
    exact⟨⟨k+1,by omega,by go_num,J4⟩,by simp[intOf];omega⟩
  ·obtain rfl:k=N:=by omega
   have HZ:=hide hJ.out.2.1
   have HV:=hide hJ.out.2.2.1
   have HB:=hide hJ.out.1
   have v0:=HV.out.cell 0 _ rfl
   have v1:=HV.out.cell 1 _ rfl
   have z0:=HZ.out.cell 0 _ rfl
   have z1:=HZ.out.cell 1 _ rfl
   have hz:=HZ.out.free
   clear KG
   go_wp2_with fail
   have hW:Below w.heap.size w (setAll wr w.heap.size 0 [.int .i64 q,.slice (some ⟨gr,0,none⟩) k k]):=below_setAll (Nat.le_refl _) _ _ _ _ HB.out
   have hA:Bl (setAll wr w.heap.size 0 [.int .i64 q,.slice (some ⟨gr,0,none⟩) k k]) w.heap.size #[.int .i64 q,.slice (some ⟨gr,0,none⟩) k k] 258:=setAll_whole [.int .i64 q,.slice (some ⟨gr,0,none⟩) k k] _ _ HZ.out rfl
   have hRow:Hid (Bl (setAll wr w.heap.size 0 [.int .i64 q,.slice (some ⟨gr,0,none⟩) k k]) gr (rowK zs k k) 3):=(hJ.out.2.2.2.other _ _ (Nat.ne_of_gt hg1.out)).other _ _ (Nat.ne_of_gt hg1.out)
   change bodyPost _ _ _ _ _ (setAll wr w.heap.size 0 [.int .i64 q,.slice (some ⟨gr,0,none⟩) k k])
   generalize setAll wr w.heap.size 0 [.int .i64 q,.slice (some ⟨gr,0,none⟩) k k]=wf at *
   refine bodyPost_ret (v:=.agg #[.int .i64 q,.slice (some ⟨gr,0,none⟩) k k]) ?_ rfl ⟨gr,by first | rfl | rw[HQ.out],Nat.le_of_lt hg1.out,hRow,hW⟩
   simp[results,Tryz.results217,go_sem,hA.cell 0 _ rfl,hA.cell 1 _ rfl]

theorem takeDesc_b (a:Option Addr)(len cap:Nat)(zs:List Int)(w:World)(hr:Row w.heap.size w a len cap zs)(N:Nat)(hc:getVal zs 8 2≤(len:Int) / 2)(hN:getVal zs 8 2=(N:Int))(hN2:N≤65535) :
  Calls Tryz.prog 217 #[.slice a len cap] w fun e w'=>∃ gr,e=.returned (.agg #[.int .i64 (getVal zs 4 4),.slice (some ⟨gr,0,none⟩) N N])∧w.heap.size≤gr∧Hid (Bl w' gr (rowK zs N N) 3)∧Below w.heap.size w w':=by
 have KG:Hid (∀ (at' n:Int) (u:World),at'≤200000→Below w.heap.size w u→Calls Tryz.prog 149 #[.slice a len cap,.int .i64 at',.int .i64 n] u fun e w'=>e=.returned (.int .i64 (getVal zs at' n))∧Below u.heap.size u w') :=
  fun at' n u h1 hb=>get_drop a len cap zs at' n u (hr.below hb hb.size) (by omega)
 have hl:=hr.2.2.1.1
 have hmk:=run_make_row' (P:=Tryz.prog) 22 3 (.int .i64 0) 8 Tryz.underlying22 info3 rfl .i64 .i64 N (by omega) (by omega)
 have HZ:=hide (Bl.new w #[.int .i64 0,.slice none 0 0] 258)
 have HB:=hide ((Below.refl _ w).alloc (Nat.le_refl _) (.cells #[.int .i64 0,.slice none 0 0] 258))
 have hv:=hN
 have hmk':∀ w:World,(Instr.makeSlice 22 (.int .i64 (getVal zs 8 2)) (.int .i64 (getVal zs 8 2))).run Tryz.prog w=.ok (.slice (some ⟨w.heap.size,0,none⟩) N N) (w.alloc (.cells (madeCells #[.int .i64 0] N) 3)):=fun w=>by rw[hv];exact hmk w
 clear hv
 clear hr hN hmk
 go_enter Tryz.func217,Tryz.ntmps217
 go_wp2_with fail
 go_at_call 149
 refine(unhide KG _ _ _ (by omega) HB.out).mono ?_
 rintro e w1 ⟨rfl,hb⟩
 replace HB:=hide (bchain HB.out hb (Nat.le_refl _))
 replace HZ:=hide (HZ.out.call hb)
 clear hb
 go_wp2_with fail
 go_at_call 149
 refine(unhide KG _ _ _ (by omega) HB.out).mono ?_
 rintro e w2 ⟨rfl,hb⟩
 replace HB:=hide (bchain HB.out hb (Nat.le_refl _))
 replace HZ:=hide (HZ.out.call hb)
 clear hb
 have hg1:Hid (w.heap.size<w2.heap.size):=HZ.out.lt
 have e1:(w2.alloc (.cells (madeCells #[.int .i64 0] N) 3)).heap.size=w2.heap.size+1:=by simp
 have J:Hid (DJ w (w2.heap.size+1) w2.heap.size N 0 (getVal zs 4 4) zs ((w2.alloc (.cells (madeCells #[.int .i64 0] N) 3)).alloc (.cells #[.int .i64 (getVal zs 4 4),.slice (some ⟨w2.heap.size,0,none⟩) N N] 258))):=by
  refine⟨(HB.out.alloc HB.out.size _).alloc (HB.out.alloc HB.out.size _).size _,(HZ.out.alloc _).alloc _,?_,?_⟩
  ·have:=Bl.new (w2.alloc (.cells (madeCells #[.int .i64 0] N) 3)) #[.int .i64 (getVal zs 4 4),.slice (some ⟨w2.heap.size,0,none⟩) N N] 258
   rwa [e1] at this
  ·rw[rowK_zero]
   exact(Bl.new w2 _ 3).alloc _
 clear e1
 go_upto_region 2 with fail
 change Code.wp _ _ _ _ ((w2.alloc (.cells (madeCells #[.int .i64 0] N) 3)).alloc (.cells #[.int .i64 (getVal zs 4 4),.slice (some ⟨w2.heap.size,0,none⟩) N N] 258))
 generalize (w2.alloc (.cells (madeCells #[.int .i64 0] N) 3)).alloc (.cells #[.int .i64 (getVal zs 4 4),.slice (some ⟨w2.heap.size,0,none⟩) N N] 258)=W at *
 have hg2:Hid (w2.heap.size<w2.heap.size+1):=Nat.lt_succ_self _
 generalize w2.heap.size+1=g3 at *
 generalize w2.heap.size=gr at *
 clear HB HZ hmk'
 have f1:=J.out.fld
 generalize hq:getVal zs 4 4=q at *
 have HQ:=hide hq
 clear hq
 go_upto_region 3 with fail
 clear f1
 go_loopw [18] (fun i wr=>∃ k:Nat,k≤N∧i=.int .i64 (k:Int)∧Hid (DJ w g3 gr N k q zs wr)) (fun i _=>N - (intOf i).toNat)
 case atStart=>exact⟨0,Nat.zero_le _,rfl,J⟩
 case round =>
  obtain⟨k,hk,rfl,hJ⟩:=hrel
  clear J
  by_cases hlt:k<N
  ·have KS:Hid (∀ u,DJ w g3 gr N k q zs u→DJ w g3 gr N (k+1) q zs (u.setCell ⟨gr,k,none⟩ (.int .i64 (getVal zs (10+2*(k:Int)) 2)))):=fun u h=>h.set hlt hg1.out hg2.out
   have J0:=hide hJ.out.drew
   have KB:Hid (∀ u k',DJ w g3 gr N k' q zs u→Hid (Below w.heap.size w u)∧u.cell? ⟨g3,1,none⟩=some (.slice (some ⟨gr,0,none⟩) N N)):=fun u k' h=>⟨h.bel,h.fld⟩
   have hw1:IntKind.i64.wrap (2*(k:Int))=2*(k:Int):=by rw[IntKind.wrap_i64];omega
   have hw2:IntKind.i64.wrap (10+2*(k:Int))=10+2*(k:Int):=by rw[IntKind.wrap_i64];omega
   clear hJ
   go_upto_region 5 with fail
   go_region_held3 (fun u=>Hid (Below w.heap.size w u)∧u.cell? ⟨g3,1,none⟩=some (.slice (some ⟨gr,0,none⟩) N N))
    (with_reducible (first | exact unhide KB _ _ (unhide J0) | exact unhide KB _ _ (unhide J3) | exact unhide KB _ _ (unhide KS _ (unhide J3))))
    ((go_at_call 149;refine(unhide KG _ _ _ (by omega) (unhide (‹Hid (Below w.heap.size w _)∧_›).1)).mono ?_;rintro e w3 ⟨rfl,hb⟩;have J3:Hid (DJ w g3 gr N k q zs w3):=DJ.call (unhide J0) hb;have x1:=DJ.elt (unhide J3) hlt;have x2:=DJ.fr (unhide J3);clear hb))
   all_goals
    have J4:=hide (unhide KS _ (unhide J3))
    clear J0 J3 KB KS KG
    go_wp2_with fail
    exact⟨⟨k+1,by omega,by go_num,J4⟩,by simp[intOf];omega⟩
  ·obtain rfl:k=N:=by omega
   have HZ:=hide hJ.out.2.1
   have HV:=hide hJ.out.2.2.1
   have HB:=hide hJ.out.1
   have v0:=HV.out.cell 0 _ rfl
   have v1:=HV.out.cell 1 _ rfl
   have z0:=HZ.out.cell 0 _ rfl
   have z1:=HZ.out.cell 1 _ rfl
   have hz:=HZ.out.free
   clear KG
   go_wp2_with fail
   have hW:Below w.heap.size w (setAll wr w.heap.size 0 [.int .i64 q,.slice (some ⟨gr,0,none⟩) k k]):=below_setAll (Nat.le_refl _) _ _ _ _ HB.out
   have hA:Bl (setAll wr w.heap.size 0 [.int .i64 q,.slice (some ⟨gr,0,none⟩) k k]) w.heap.size #[.int .i64 q,.slice (some ⟨gr,0,none⟩) k k] 258:=setAll_whole [.int .i64 q,.slice (some ⟨gr,0,none⟩) k k] _ _ HZ.out rfl
   have hRow:Hid (Bl (setAll wr w.heap.size 0 [.int .i64 q,.slice (some ⟨gr,0,none⟩) k k]) gr (rowK zs k k) 3):=(hJ.out.2.2.2.other _ _ (Nat.ne_of_gt hg1.out)).other _ _ (Nat.ne_of_gt hg1.out)
   change bodyPost _ _ _ _ _ (setAll wr w.heap.size 0 [.int .i64 q,.slice (some ⟨gr,0,none⟩) k k])
   generalize setAll wr w.heap.size 0 [.int .i64 q,.slice (some ⟨gr,0,none⟩) k k]=wf at *
   refine bodyPost_ret (v:=.agg #[.int .i64 q,.slice (some ⟨gr,0,none⟩) k k]) ?_ rfl ⟨gr,by first | rfl | rw[HQ.out],Nat.le_of_lt hg1.out,hRow,hW⟩
   simp[results,Tryz.results217,go_sem,hA.cell 0 _ rfl,hA.cell 1 _ rfl]

end Go.Proofs.YtokngjcfkkceiaaGreatDoor
