/- skerryref16.Above: every two texts. -/
import Derived.Test.YtknmgefpjdfenaaGreatSfVRJoin
import Derived.Test.YtknmgefpjdfenaaGreatSfVCmp
namespace Go.Proofs.YtknmgefpjdfenaaGreat
set_option maxRecDepth 100000
set_option maxHeartbeats 8000000
open Go.RowKit Go.Shelf
set_option linter.unusedVariables false

theorem rabove_yes {a b:List UInt8} {xs ys:List (List UInt8)} (w:World) (ha:spl a=some xs) (hb:spl b=some ys) :
  Calls Tryz.prog 76 #[.string (St a),.string (St b)] w fun e w'=>e=.returned (.tuple #[.bool (abo xs ys),.int .i64 0])∧Below w.heap.size w w':=by
 have h16:=((okN_iff ys).1 (spl_some hb).1).1
 have h16':=((okN_iff xs).1 (spl_some ha).1).1
 have K:=hide (rsplit_yes w ha)
 have K2:Hid (∀ u,Calls Tryz.prog 71 #[.string (St b)] u fun e w'=>∃ a c,e=.returned (.tuple #[.slice a ys.length c,.int .i64 0])∧OwnS u.heap.size w' a ys.length c ys∧Below u.heap.size u w'):=fun u=>rsplit_yes u hb
 unfold abo
 clear ha hb
 generalize St a=sa at *
 generalize St b=sb at *
 by_cases hle:xs.length ≤ ys.length
 ·have HE:Hid (∀ k,k < xs.length→xs[k]?.getD [] ≠ ys[k]?.getD []→(decide (xs.length ≤ ys.length) && decide (xs=ys.take xs.length))=false):=by
   intro k hk hne
   simp only [Bool.and_eq_false_iff,decide_eq_false_iff_not]
   right
   intro e
   apply hne
   conv=>lhs; rw [e]
   rw [List.getElem?_take_of_lt hk]
  have HT:Hid ((∀ k,k < xs.length→xs[k]?.getD []=ys[k]?.getD [])→(decide (xs.length ≤ ys.length) && decide (xs=ys.take xs.length))=true):=by
   intro h
   simp only [Bool.and_eq_true,decide_eq_true_eq]
   refine ⟨hle,getD_ext (by simp; omega) (fun j hj=>?_)⟩
   rw [List.getElem?_take_of_lt hj]
   exact h j hj
  generalize (decide (xs.length ≤ ys.length) && decide (xs=ys.take xs.length))=q at *
  have hxn:=hide (Eq.refl xs.length)
  generalize hN:xs.length=n at *
  generalize hM:ys.length=m at *
  have d1:decide ((n:Int) > (m:Int))=false:=by simp; omega
  go_enter Tryz.func76,Tryz.ntmps76
  go_wp2_with fail
  refine (unhide K).mono ?_
  rintro e w1 ⟨x,c,rfl,ho,hb⟩
  have HB:=hide hb
  have HO:=hide ho
  clear K hb ho
  go_wp2_with fail
  refine (unhide K2 _).mono ?_
  rintro e w2 ⟨y,c2,rfl,ho,hb⟩
  have H1:=hide (HO.out.below hb (Nat.le_refl _)).has
  have H2:=hide ho.has
  have HB:=hide (HB.out.trans (hb.mono HB.out.size))
  clear K2 hb ho HO
  go_wp2_with fail
  rw [show decide (m < n)=false by simp; omega]
  clear d1
  go_loopw [10] (fun iv wr=>∃ i:Nat,i ≤ n∧iv=.int .i64 (i:Int)∧Hid ((∃ t,wr=w2.drewN t)∧∀ j,j < i→xs[j]?.getD []=ys[j]?.getD [])) (fun iv _=>n - (intOf iv).toNat)
  case atStart=>exact ⟨0,Nat.zero_le _,rfl,⟨0,rfl⟩,fun j hj=>by omega⟩
  case round =>
   obtain ⟨i,hi,rfl,hI⟩:=hrel
   have HW:Hid (Below w.heap.size w wr):=by
    obtain ⟨⟨t,rfl⟩,_⟩:=hI.out
    exact ⟨HB.out.os,HB.out.tape,HB.out.output,HB.out.size,HB.out.block⟩
   by_cases hlt:i < n
   ·have hlt':(i:Int) < (n:Int):=by omega
    have hlt2':(i:Int) < (m:Int):=by omega
    obtain ⟨b1,o1,rfl,_,hc1⟩:=H1.out.2 (by omega)
    obtain ⟨b2,o2,rfl,_,hc2⟩:=H2.out.2 (by omega)
    have e1:wr.cell? ⟨b1,o1 + i,none⟩=some (.string (St (xs[i]?.getD []))):=by obtain ⟨⟨t,rfl⟩,_⟩:=hI.out; exact hc1 i hlt
    have e2:wr.cell? ⟨b2,o2 + i,none⟩=some (.string (St (ys[i]?.getD []))):=by obtain ⟨⟨t,rfl⟩,_⟩:=hI.out; exact hc2 i (by omega)
    have HF:=hide (HE.out i hlt)
    have HS:Hid (xs[i]?.getD []=ys[i]?.getD []→∀ j,j < i + 1→xs[j]?.getD []=ys[j]?.getD []):=by
     intro h j hj
     by_cases e:j=i
     ·subst e; exact h
     ·exact hI.out.2 j (by omega)
    have HX:=hide hI.out.1
    have e3:=St_toList (xs[i]?.getD [])
    have e4:=St_toList (ys[i]?.getD [])
    clear hI hc1 hc2 H1 H2 HE HT
    generalize xs[i]?.getD []=xx at *
    generalize ys[i]?.getD []=yy at *
    by_cases hxy:xx=yy
    ·have d3:((St xx).toList == (St yy).toList)=true:=by rw [e3,e4,hxy]; simp
     have HS':=hide (HS.out hxy)
     clear HS HF hxy e3 e4
     generalize St xx=sx at *
     generalize St yy=sy at *
     go_wp2_with fail
     go_quiet (fail)
     go_wp2_with fail
     go_roundw
     case rel =>
      refine ⟨i + 1,by omega,by go_num,?_,HS'.out⟩
      obtain ⟨t,rfl⟩:=HX.out
      exact ⟨_,World.drewN_drewN _ _ _⟩
     case measure=>simp [intOf]; omega
    ·have d3:((St xx).toList == (St yy).toList)=false:=by rw [e3,e4]; simpa using hxy
     have HQ:=hide (HF.out hxy)
     clear HS HF hxy e3 e4
     generalize St xx=sx at *
     generalize St yy=sy at *
     go_wp2_with fail
     go_quiet (fail)
     go_wp2_with fail
     go_ret2
     refine ⟨by rw [HQ.out]; rfl,HW.out.os,HW.out.tape,HW.out.output,HW.out.size,HW.out.block⟩
   ·have d5:decide ((i:Int) < (n:Int))=false:=by simp; omega
    obtain rfl:i=n:=by omega
    have HQ:=hide (HT.out hI.out.2)
    clear H1 H2 HE HT hI
    go_wp2_with fail
    go_ret2
    exact ⟨by rw [HQ.out]; rfl,HW.out⟩
 ·have e:(decide (xs.length ≤ ys.length) && decide (xs=ys.take xs.length))=false:=by simp [hle]
  rw [e]
  clear e
  generalize hN:xs.length=n at *
  generalize hM:ys.length=m at *
  have d1:decide ((n:Int) > (m:Int))=true:=by simp; omega
  go_enter Tryz.func76,Tryz.ntmps76
  go_wp2_with fail
  refine (unhide K).mono ?_
  rintro e w1 ⟨x,c,rfl,ho,hb⟩
  have HB:=hide hb
  clear K hb ho
  go_wp2_with fail
  refine (unhide K2 _).mono ?_
  rintro e w2 ⟨y,c2,rfl,ho,hb⟩
  have HB:=hide (HB.out.trans (hb.mono HB.out.size))
  clear K2 hb ho
  go_wp2_with fail
  go_ret2
  exact ⟨rfl,HB.out⟩

end Go.Proofs.YtknmgefpjdfenaaGreat
