/- Joined: SReadR, SWriteR, SWriteO, STrunc, SNew. -/
import Derived.Test.YtknmgefpjdfenaaGreatSfJ35
import Derived.Test.YtknmgefpjdfenaaGreatSfJ28
/- The reference's Read. -/
namespace Go.Proofs.YtknmgefpjdfenaaGreat
set_option maxRecDepth 100000
set_option maxHeartbeats 8000000
open Go.RowKit Go.Shelf Go.Maps
set_option linter.unusedVariables false

def daR (s:RTr) (i:Nat):List Int:=match s.th[i]? with | some t=>t.d | none=>[]

theorem daR_of {s:RTr} {i:Nat} {t:RT} (h:s.th[i]?=some t):daR s i=t.d:=by unfold daR; rw [h]

def rdR (s:RTr) (f at0 n:Int):Int × List Int:=if ofR s f=0 then (18,[]) else if at0 < 0 ∨ n < 0 then (1,[]) else if n > 4096 then (5,[]) else (0,((daR s (ofR s f)).drop at0.toNat).take n.toNat)

theorem rread18_any {w:World} {S:Nat→Prop} {g:Nat} {s:RTr} (h:SM w S g s) (f at0 n:Int) (hl:s.th.length ≤ 1800000000000) (hof:ofR s f ≠ 0→∃ t,s.th[ofR s f]?=some t∧t.d.length ≤ 1800000000000) :
  Calls Tryz.prog 39 #[.pointer (some ⟨g,0,none⟩),.int .i64 f,.int .i64 at0,.int .i64 n] w fun e w'=>∃ a c,e=.returned (.tuple #[.slice a (rdR s f at0 n).2.length c,.int .i64 (rdR s f at0 n).1])∧Own w.heap.size w' a (rdR s f at0 n).2.length c (rdR s f at0 n).2∧Below w.heap.size w w':=by
 have K:=hide (rof_any h f)
 unfold rdR
 have HN:Hid (Own w.heap.size w none 0 0 []∧Below w.heap.size w w):=⟨Own.nil _ _,Below.refl _ _⟩
 by_cases h0:ofR s f=0
 ·rw [if_pos h0]
  rw [h0] at K
  clear h h0 hof
  go_enter Tryz.func39,Tryz.ntmps39
  go_wp2_with fail
  refine (unhide K).mono ?_
  rintro e w1 ⟨rfl,rfl⟩
  clear K
  go_wp2_with fail
  go_ret2
  exact ⟨_,_,rfl,HN.out⟩
 ·rw [if_neg h0]
  have d0:((ofR s f:Int) == 0)=false:=by simp; omega
  obtain ⟨t,ht,htl⟩:=hof h0
  rw [daR_of ht]
  have hi1:ofR s f < s.th.length:=(List.getElem?_eq_some_iff.1 ht).1
  obtain ⟨rb,era,_,_,t1,_,_⟩:=h.row.cell ht
  have g1:=h.cells.2.1
  rw [era] at g1
  have hD:=h.dat _ t ht
  generalize ofR s f=i at *
  have hi0:(0:Int) ≤ (i:Int):=by omega
  have hi2:(i:Int) < (s.th.length:Int):=by omega
  by_cases ha:at0 < 0
  ·rw [if_pos (.inl ha)]
   have d1:decide (at0 < 0)=true:=by simpa using ha
   clear h h0 hof ha ht hD
   generalize (i:Int)=iv at *
   go_enter Tryz.func39,Tryz.ntmps39
   go_wp2_with fail
   refine (unhide K).mono ?_
   rintro e w1 ⟨rfl,rfl⟩
   clear K
   go_wp2_with fail
   go_ret2
   exact ⟨_,_,rfl,HN.out⟩
  ·have d1:decide (at0 < 0)=false:=by simpa using ha
   by_cases hn:n < 0
   ·rw [if_pos (.inr hn)]
    have d2:decide (n < 0)=true:=by simpa using hn
    clear h h0 hof ha ht hD hn
    generalize (i:Int)=iv at *
    go_enter Tryz.func39,Tryz.ntmps39
    go_wp2_with fail
    refine (unhide K).mono ?_
    rintro e w1 ⟨rfl,rfl⟩
    clear K
    go_wp2_with fail
    go_ret2
    exact ⟨_,_,rfl,HN.out⟩
   ·rw [if_neg (by omega)]
    have d2:decide (n < 0)=false:=by simpa using hn
    by_cases h4:n > 4096
    ·rw [if_pos h4]
     have d3:decide (n > 4096)=true:=by simpa using h4
     clear h h0 hof ha ht hD hn h4
     generalize (i:Int)=iv at *
     go_enter Tryz.func39,Tryz.ntmps39
     go_wp2_with fail
     refine (unhide K).mono ?_
     rintro e w1 ⟨rfl,rfl⟩
     clear K
     go_wp2_with fail
     go_ret2
     exact ⟨_,_,rfl,HN.out⟩
    ·rw [if_neg h4]
     obtain ⟨A,rfl⟩:∃ A:Nat,at0=(A:Int):=⟨at0.toNat,by omega⟩
     obtain ⟨N,rfl⟩:∃ N:Nat,n=(N:Int):=⟨n.toNat,by omega⟩
     have d3:decide ((N:Int) > 4096)=false:=by simpa using h4
     have hN:N ≤ 4096:=by omega
     simp only [Int.toNat_natCast]
     have hD':Hid (Own 0 w t.da t.d.length t.dc t.d):=hD
     clear h h0 hof ha ht hD hn h4
     have HL:Hid (t.d.length=t.d.length):=rfl
     generalize hdl:t.d.length=dl at *
     have HDL:=hide hdl
     clear hdl HL
     generalize t.da=da at *
     generalize t.dc=dc at *
     go_enter Tryz.func39,Tryz.ntmps39
     go_wp2_with fail
     refine (unhide K).mono ?_
     rintro e w1 ⟨rfl,rfl⟩
     clear K
     go_wp2_with fail
     have H0:Hid (Own w1.heap.size w1 none 0 0 ((t.d.drop A).take 0)∧Below w1.heap.size w1 w1∧0 ≤ N∧(0 < 0→A + 0 ≤ dl)):=⟨by rw [List.take_zero]; exact HN.out.1,HN.out.2,Nat.zero_le _,fun q=>by omega⟩
     go_loopw [12,13] (fun ov kv wr=>∃ (k c:Nat) (a:Option Addr),ov=.slice a k c∧kv=.int .i64 (k:Int)∧Hid (Own w1.heap.size wr a k c ((t.d.drop A).take k)∧Below w1.heap.size w1 wr∧k ≤ N∧(0 < k→A + k ≤ dl))) (fun _ kv _=>N - (intOf kv).toNat)
     case atStart=>exact ⟨0,0,none,rfl,rfl,H0⟩
     case round =>
      obtain ⟨k,c,a,rfl,rfl,hJ⟩:=hrel
      obtain ⟨hkN,hkd⟩:=hJ.out.2.2
      clear H0
      have hkl:k ≤ dl:=by
       by_cases q:0 < k
       ·have:=hkd q; omega
       ·omega
      have hw1:IntKind.i64.wrap ((dl:Int) - (k:Int))=(dl:Int) - (k:Int):=by rw [IntKind.wrap_i64]; omega
      have hk0:(0:Int) ≤ (k:Int):=by omega
      by_cases hk:k < N
      ·have l1:(k:Int) < (N:Int):=by omega
       have d4:decide ((k:Int) < (N:Int))=true:=by simpa using l1
       by_cases hm:A + k < dl
       ·have d5:decide ((A:Int) < (dl:Int) - (k:Int))=true:=by simp; omega
        have hw2:IntKind.i64.wrap ((A:Int) + (k:Int))=((A + k:Nat):Int):=by rw [IntKind.wrap_i64]; omega
        have l2:(0:Int) ≤ ((A + k:Nat):Int):=by omega
        have l3:((A + k:Nat):Int) < (dl:Int):=by omega
        obtain ⟨b,rfl,_,hc,_⟩:=hD'.out.cell (j:=A + k) hm
        have hc':=(hJ.out.2.1.cell (p:=⟨b,A + k,none⟩) (cell_block_lt hc)).trans hc
        obtain ⟨a',c',w',r,o,bb⟩:=own_one hJ.out.1 hJ.out.2.1.size (t.d[A + k]?.getD 0) (by omega)
        have R:=hide r
        have HJ:Hid (Own w1.heap.size w' a' (k + 1) c' ((t.d.drop A).take (k + 1))∧Below w1.heap.size w1 w'∧k + 1 ≤ N∧(0 < k + 1→A + (k + 1) ≤ dl)):=by
         refine ⟨?_,hJ.out.2.1.trans bb,by omega,fun _=>by omega⟩
         have e:(t.d.drop A).take (k + 1)=(t.d.drop A).take k ++ [t.d[A + k]?.getD 0]:=by
          rw [List.take_add_one,List.getElem?_drop,List.getElem?_eq_getElem (by have:=HDL.out; omega)]
          rfl
         rw [e]
         exact o
        clear r o bb hJ hc hkd
        generalize t.d[A + k]?.getD 0=z at *
        go_wp2_with (at_builtin; refine wpList_append_run 34 rfl _ _ rfl _ _ _ rfl rfl (unhide R) ?_; clear R)
        go_roundw
        case rel=>exact ⟨k + 1,c',a',rfl,by go_num,HJ⟩
        case measure=>simp [intOf]; omega
       ·have d5:decide ((A:Int) < (dl:Int) - (k:Int))=false:=by simp; omega
        have HE:Hid ((t.d.drop A).take N=(t.d.drop A).take k):=by
         unfold Hid
         have:=HDL.out
         rw [List.take_of_length_le (by rw [List.length_drop]; omega),List.take_of_length_le (by rw [List.length_drop]; omega)]
        clear hkd
        go_wp2_with fail
        go_ret2
        rw [HE.out]
        have hl2:=hJ.out.1.1
        exact ⟨a,c,by rw [hl2]; rfl,by rw [hl2]; exact hJ.out.1,hJ.out.2.1⟩
      ·obtain rfl:k=N:=by omega
       have d4:decide ((k:Int) < (k:Int))=false:=by simp
       clear hkd
       go_wp2_with fail
       go_ret2
       have hl2:=hJ.out.1.1
       exact ⟨a,c,by rw [hl2]; rfl,by rw [hl2]; exact hJ.out.1,hJ.out.2.1⟩

end Go.Proofs.YtknmgefpjdfenaaGreat

/- The reference's Write. -/
namespace Go.Proofs.YtknmgefpjdfenaaGreat
set_option maxRecDepth 100000
set_option maxHeartbeats 8000000
open Go.RowKit Go.Shelf Go.Maps
set_option linter.unusedVariables false

theorem put_nil (D:List Int) (A:Nat):put D A []=D:=by unfold put; simp

theorem put_more {D ys:List Int} {A k:Nat} (hA:A + ys.length ≤ D.length) (hk:k < ys.length):put D A (ys.take (k + 1))=(put D A (ys.take k)).set (A + k) (ys[k]?.getD 0):=by
 have e0:(ys.take k).length=k:=by rw [List.length_take]; omega
 have e1:(ys.take (k + 1)).length=k + 1:=by rw [List.length_take]; omega
 have e2:D.drop (A + k)=D[A + k]'(by omega) :: D.drop (A + k + 1):=List.drop_eq_getElem_cons (by omega)
 have e3:(D.take A ++ ys.take k).length=A + k:=by rw [List.length_append,List.length_take,e0]; omega
 have e4:ys.take (k + 1)=ys.take k ++ [ys[k]?.getD 0]:=by
  rw [List.take_add_one,List.getElem?_eq_getElem hk]
  rfl
 unfold put
 rw [e0,e1,e2,List.set_append_right _ _ (by omega),e3,Nat.sub_self,List.set_cons_zero,e4]
 generalize ys[k]?.getD 0=z
 generalize ys.take k=y
 simp [Nat.add_assoc]

theorem put_len {D ys:List Int} {A:Nat} (hA:A + ys.length ≤ D.length):(put D A ys).length=D.length:=by
 unfold put
 simp
 omega

def wrE (s:RTr) (f at0:Int) (m:Nat):Int:=if ofR s f=0 then 18 else if at0 < 0 then 1 else if m > 4096 ∨ at0 > s.most - m then 5 else 0

def RTr.put (s:RTr) (i:Nat) (t:RT):RTr:={ s with th:=s.th.set i t }

theorem rwrite18_no {w:World} {S:Nat→Prop} {g:Nat} {s:RTr} (h:SM w S g s) (f at0:Int) {a:Option Addr} {m c:Nat} (hm9:m ≤ 9223372036854775807) (hmo:1 ≤ s.most∧s.most ≤ 524288) (hE:wrE s f at0 m ≠ 0 ∨ m=0) :
  Calls Tryz.prog 42 #[.pointer (some ⟨g,0,none⟩),.int .i64 f,.int .i64 at0,.slice a m c] w fun e w'=>e=.returned (.int .i64 (wrE s f at0 m))∧w'=w:=by
 have K:=hide (rof_any h f)
 unfold wrE at *
 have g0:=h.cells.1
 by_cases h0:ofR s f=0
 ·rw [if_pos h0]
  rw [h0] at K
  clear h h0 hE hmo
  go_enter Tryz.func42,Tryz.ntmps42
  go_wp2_with fail
  refine (unhide K).mono ?_
  rintro e w1 ⟨rfl,rfl⟩
  clear K
  go_wp2_with fail
  go_ret
  exact ⟨rfl,rfl⟩
 ·rw [if_neg h0]
  rw [if_neg h0] at hE
  have d0:((ofR s f:Int) == 0)=false:=by simp; omega
  generalize (ofR s f:Int)=iv at *
  by_cases ha:at0 < 0
  ·rw [if_pos ha]
   have d1:decide (at0 < 0)=true:=by simpa using ha
   clear h h0 hE hmo ha
   go_enter Tryz.func42,Tryz.ntmps42
   go_wp2_with fail
   refine (unhide K).mono ?_
   rintro e w1 ⟨rfl,rfl⟩
   clear K
   go_wp2_with fail
   go_ret
   exact ⟨rfl,rfl⟩
  ·rw [if_neg ha]
   rw [if_neg ha] at hE
   have d1:decide (at0 < 0)=false:=by simpa using ha
   by_cases h4:m > 4096
   ·rw [if_pos (.inl h4)]
    have d2:decide ((m:Int) > 4096)=true:=by simp; omega
    clear h h0 hE hmo ha h4
    go_enter Tryz.func42,Tryz.ntmps42
    go_wp2_with fail
    refine (unhide K).mono ?_
    rintro e w1 ⟨rfl,rfl⟩
    clear K
    go_wp2_with fail
    go_ret
    exact ⟨rfl,rfl⟩
   ·have d2:decide ((m:Int) > 4096)=false:=by simp; omega
    have hw:IntKind.i64.wrap (s.most - (m:Int))=s.most - (m:Int):=by rw [IntKind.wrap_i64]; omega
    by_cases h5:at0 > s.most - m
    ·rw [if_pos (.inr h5)]
     have d3:decide (at0 > s.most - (m:Int))=true:=by simpa using h5
     clear h h0 hE hmo ha h4 h5
     generalize s.most=mo at *
     go_enter Tryz.func42,Tryz.ntmps42
     go_wp2_with fail
     refine (unhide K).mono ?_
     rintro e w1 ⟨rfl,rfl⟩
     clear K
     go_wp2_with fail
     go_ret
     exact ⟨rfl,rfl⟩
    ·rw [if_neg (by omega)]
     rw [if_neg (by omega)] at hE
     obtain rfl:m=0:=by simpa using hE
     have d3:decide (s.most < at0)=false:=by simp; omega
     have hw0:wrap64 s.most=s.most:=by
      unfold wrap64
      omega
     clear h h0 hE hmo ha h4 h5
     generalize s.most=mo at *
     go_enter Tryz.func42,Tryz.ntmps42
     go_wp2_with fail
     refine (unhide K).mono ?_
     rintro e w1 ⟨rfl,rfl⟩
     clear K
     go_wp2_with fail
     go_ret
     exact ⟨rfl,rfl⟩

end Go.Proofs.YtknmgefpjdfenaaGreat

/- The reference's Write, where it writes. -/
namespace Go.Proofs.YtknmgefpjdfenaaGreat
set_option maxRecDepth 100000
set_option maxHeartbeats 8000000
open Go.RowKit Go.Shelf Go.Maps
set_option linter.unusedVariables false

def lenS:Value→Nat | .slice _ n _=>n | _=>0

theorem rwrite18_ok {w:World} {S:Nat→Prop} {g:Nat} {s:RTr} (h:SM w S g s) (f:Int) (A:Nat) {a:Option Addr} {m c:Nat} {ys:List Int} {t:RT} (hy:Has w a m ys) (hm0:0 < m) (hmo:1 ≤ s.most∧s.most ≤ 524288) (hE:wrE s f (A:Int) m=0)
  (ht:s.th[ofR s f]?=some t) (htl:t.d.length ≤ 1800000000000) (hl:s.th.length ≤ 1800000000000) :
  Calls Tryz.prog 42 #[.pointer (some ⟨g,0,none⟩),.int .i64 f,.int .i64 (A:Int),.slice a m c] w fun e w'=>∃ a' c',e=.returned (.int .i64 0)∧SM w' (Up S w.heap.size w'.heap.size) g (s.put (ofR s f) { t with d:=wrD t.d A ys,da:=a',dc:=c' })∧Kp S w w':=by
 have K:=hide (rof_any h f)
 have g0:=h.cells.1
 unfold wrE at hE
 by_cases h0:ofR s f=0
 ·rw [if_pos h0] at hE; cases hE
 ·rw [if_neg h0,if_neg (by omega)] at hE
  have hq:¬ (m > 4096 ∨ (A:Int) > s.most - m):=fun q=>by rw [if_pos q] at hE; cases hE
  have d0:((ofR s f:Int) == 0)=false:=by simp; omega
  have d1:decide ((A:Int) < 0)=false:=by simp
  have d2:decide ((m:Int) > 4096)=false:=by simp; omega
  have hw:IntKind.i64.wrap (s.most - (m:Int))=s.most - (m:Int):=by rw [IntKind.wrap_i64]; omega
  have d3:decide ((A:Int) > s.most - (m:Int))=false:=by simp; omega
  have d4:((m:Int) == 0)=false:=by simp; omega
  have hAm:A + m ≤ 524288:=by omega
  have hm4:m ≤ 4096:=by omega
  obtain ⟨rb,era,_,_,t1,_,rfz⟩:=h.row.cell ht
  have g1:=h.cells.2.1
  rw [era] at g1
  have hi1:ofR s f < s.th.length:=(List.getElem?_eq_some_iff.1 ht).1
  obtain ⟨a1,c1,w1,r1,o1,b1⟩:=app_copy (c:=t.dc) (h.dat _ t ht).has (by omega)
  have R1:=hide r1
  have HO:=hide o1
  have HB:=hide b1
  have HT:=hide h
  have HX:=hide (And.intro ht era)
  have g1a:∀ o,(w.alloc o).cell? ⟨g,1,none⟩=some (.slice (some ⟨rb,0,none⟩) s.th.length s.tc):=fun o=>(((Below.refl w.heap.size w).alloc (Nat.le_refl _) o).cell (p:=⟨g,1,none⟩) (cell_block_lt g1)).trans g1
  have t1a:∀ o,(w.alloc o).cell? ⟨rb,ofR s f * 3 + 1,none⟩=some (.slice t.da t.d.length t.dc):=fun o=>(((Below.refl w.heap.size w).alloc (Nat.le_refl _) o).cell (p:=⟨rb,ofR s f * 3 + 1,none⟩) (cell_block_lt t1)).trans t1
  obtain ⟨yb,yo,rfl,hyc⟩:=hy.2 hm0
  have hyl:=hy.1
  have HY:=hide hyc
  have hwAm:IntKind.i64.wrap ((A:Int) + (m:Int))=((A + m:Nat):Int):=by rw [IntKind.wrap_i64]; omega
  have HF:Hid (t.d.length=t.d.length∧s.th.length=s.th.length∧(wrD t.d A ys).length=max t.d.length (A + m)):=⟨rfl,rfl,by
   unfold wrD
   rw [put_len (by simp; omega),List.length_append,List.length_replicate,hyl]
   omega⟩
  clear h h0 hE hq hmo ht era r1 o1 b1 g1 t1 hyc hy
  have hi2:(ofR s f:Int) < (s.th.length:Int):=by omega
  have hi0:(0:Int) ≤ (ofR s f:Int):=by omega
  clear hi1
  generalize ofR s f=i at *
  generalize s.most=mo at *
  generalize hdl:t.d.length=dl at *
  have HDL:=hide hdl
  clear hdl
  generalize t.da=da at *
  generalize t.dc=dc at *
  generalize htn:s.th.length=tn at *
  have HTN:=hide htn
  clear htn
  go_enter Tryz.func42,Tryz.ntmps42
  go_wp2_with fail
  refine (unhide K).mono ?_
  rintro e w0 ⟨rfl,rfl⟩
  clear K
  go_wp2_with (at_builtin; refine wpList_append_run 34 rfl _ _ rfl _ _ _ rfl rfl (unhide R1) ?_; clear R1)
  have H0:Hid (Own w0.heap.size w1 a1 dl c1 (t.d ++ List.replicate (dl - dl) 0)∧Below w0.heap.size w0 w1∧dl ≤ dl∧dl ≤ max dl (A + m)):=⟨by rw [Nat.sub_self,List.replicate_zero,List.append_nil]; exact HO.out,HB.out,Nat.le_refl _,by omega⟩
  clear HO HB
  go_loopw [10] (fun dv wr=>∃ (k c:Nat) (a:Option Addr),dv=.slice a k c∧Hid (Own w0.heap.size wr a k c (t.d ++ List.replicate (k - dl) 0)∧Below w0.heap.size w0 wr∧dl ≤ k∧k ≤ max dl (A + m))) (fun dv _=>3600000000000 - (lenS dv))
  case atStart=>exact ⟨dl,c1,a1,rfl,H0⟩
  case round =>
   obtain ⟨k,c2,a2,rfl,hJ⟩:=hrel
   obtain ⟨hk1,hk2⟩:=hJ.out.2.2
   clear H0
   by_cases hk:k < A + m
   ·have d5:decide ((k:Int) < ((A + m:Nat):Int))=true:=by simp; omega
    obtain ⟨a',c',w',r,o,bb⟩:=own_one hJ.out.1 hJ.out.2.1.size 0 (by omega)
    have R:=hide r
    have HJ:Hid (Own w0.heap.size w' a' (k + 1) c' (t.d ++ List.replicate (k + 1 - dl) 0)∧Below w0.heap.size w0 w'∧dl ≤ k + 1∧k + 1 ≤ max dl (A + m)):=by
     refine ⟨?_,hJ.out.2.1.trans bb,by omega,by omega⟩
     have e:t.d ++ List.replicate (k + 1 - dl) (0:Int)=t.d ++ List.replicate (k - dl) 0 ++ [0]:=by
      rw [show k + 1 - dl=(k - dl) + 1 by omega,List.replicate_succ',List.append_assoc]
     rw [e]
     exact o
    have hkm:k < 3600000000000:=by omega
    clear r o bb hJ hk1 hk2 HX HT HY HTN HDL HF
    go_wp2_with (at_builtin; refine wpList_append_run 34 rfl _ _ rfl _ _ _ rfl rfl (unhide R) ?_; clear R)
    go_roundw
    case rel=>exact ⟨k + 1,c',a',rfl,HJ⟩
    case measure=>simp [lenS]; omega
   ·have d5:decide ((k:Int) < ((A + m:Nat):Int))=false:=by simp; omega
    obtain rfl:k=max dl (A + m):=by omega
    obtain ⟨x,rfl,hBx,_⟩:=hJ.out.1.cell (j:=0) (by omega)
    have H1:Hid (Own w0.heap.size wr (some ⟨x,0,none⟩) (max dl (A + m)) c2 (put (t.d ++ List.replicate (max dl (A + m) - dl) 0) A (ys.take 0))∧Below w0.heap.size w0 wr):=⟨by rw [List.take_zero,put_nil]; exact hJ.out.1,hJ.out.2.1⟩
    have hkL:A + m ≤ max dl (A + m):=by omega
    have HWD:Hid (wrD t.d A ys=put (t.d ++ List.replicate (max dl (A + m) - dl) 0) A ys∧(t.d ++ List.replicate (max dl (A + m) - dl) (0:Int)).length=max dl (A + m)):=by
     unfold Hid wrD
     rw [HDL.out,hyl]
     refine ⟨rfl,?_⟩
     rw [List.length_append,List.length_replicate,HDL.out]
     omega
    have hwl:=HF.out.2.2
    have HWL:=hide hwl
    clear hwl hJ hk hk1 hk2 HF d5
    generalize max dl (A + m)=L at *
    go_wp2_with fail
    go_loopw [11] (fun kv wr=>∃ k:Nat,k ≤ m∧kv=.int .i64 (k:Int)∧Hid (Own w0.heap.size wr (some ⟨x,0,none⟩) L c2 (put (t.d ++ List.replicate (L - dl) 0) A (ys.take k))∧Below w0.heap.size w0 wr)) (fun kv _=>m - (intOf kv).toNat)
    case atStart=>exact ⟨0,Nat.zero_le _,rfl,H1⟩
    case round =>
     obtain ⟨k,hkm,rfl,hJ⟩:=hrel
     clear H1
     by_cases hk:k < m
     ·have l0:(0:Int) ≤ (k:Int):=by omega
      have l1:(k:Int) < (m:Int):=by omega
      have hwk:IntKind.i64.wrap ((A:Int) + (k:Int))=((A + k:Nat):Int):=by rw [IntKind.wrap_i64]; omega
      have l2:(0:Int) ≤ ((A + k:Nat):Int):=by omega
      have l3:((A + k:Nat):Int) < (L:Int):=by omega
      have cy:=(hJ.out.2.cell (p:=⟨yb,yo + k,none⟩) (cell_block_lt (HY.out k hk))).trans (HY.out k hk)
      obtain ⟨x',ex,_,cx,fx⟩:=hJ.out.1.cell (j:=A + k) (by omega)
      cases ex
      have HJ:Hid (Own w0.heap.size (wr.setCell ⟨x,A + k,none⟩ (.int .u8 (ys[k]?.getD 0))) (some ⟨x,0,none⟩) L c2 (put (t.d ++ List.replicate (L - dl) 0) A (ys.take (k + 1)))∧Below w0.heap.size w0 (wr.setCell ⟨x,A + k,none⟩ (.int .u8 (ys[k]?.getD 0)))):=by
       refine ⟨?_,hJ.out.2.setCell (p:=⟨x,A + k,none⟩) hBx _⟩
       rw [put_more (by rw [HWD.out.2,hyl]; exact hkL) (by omega)]
       exact hJ.out.1.set (A + k) _
      clear hJ HX HT HY HTN HDL HWD HWL
      generalize ys[k]?.getD 0=z at *
      generalize (put (t.d ++ List.replicate (L - dl) 0) A (ys.take k))=pz at *
      go_wp2_with fail
      go_roundw
      case rel=>exact ⟨k + 1,by omega,by go_num,HJ⟩
      case measure=>simp [intOf]; omega
     ·obtain rfl:k=m:=by omega
      have hk':decide ((k:Int) < (k:Int))=false:=by simp
      have hT1:=HT.out.below hJ.out.2
      obtain ⟨rb',era',_,_,t1,_,rfz⟩:=hT1.row.cell HX.out.1
      rw [HX.out.2] at era'
      cases era'
      have g1:=hT1.cells.2.1
      rw [HX.out.2,HTN.out] at g1
      have hO2:=hJ.out.1
      rw [List.take_of_length_le (by omega),← HWD.out.1] at hO2
      have hD:=HT.out.setD HX.out.1 HX.out.2 hJ.out.2 (by rw [HWL.out]; exact hO2)
      rw [HWL.out] at hD
      have hkp:Kp S w0 (wr.setCell ⟨rb,i * 3 + 1,none⟩ (.slice (some ⟨x,0,none⟩) L c2)):=(Kp.of hJ.out.2).setCell (p:=⟨rb,i * 3 + 1,none⟩) (.inl (HT.out.sr rb HX.out.2)) _
      have HR:=hide (And.intro hD hkp)
      have HZ:Hid ((wr.setCell ⟨rb,i * 3 + 1,none⟩ (.slice (some ⟨x,0,none⟩) L c2)).heap.size=wr.heap.size):=by unfold Hid; simp [World.setCell]
      clear hJ hT1 hO2 hD hkp HX HT HY HTN HDL HWD HWL t1a g1a
      go_wp2_with fail
      go_ret
      exact ⟨some ⟨x,0,none⟩,c2,rfl,by rw [HZ.out]; exact HR.out.1,HR.out.2⟩

end Go.Proofs.YtknmgefpjdfenaaGreat

/- The reference's Truncate. -/
namespace Go.Proofs.YtknmgefpjdfenaaGreat
set_option maxRecDepth 100000
set_option maxHeartbeats 8000000
open Go.RowKit Go.Shelf Go.Maps
set_option linter.unusedVariables false

theorem own_cut {B:Nat} {w:World} {a:Option Addr} {n c:Nat} {xs:List Int} (h:Own B w a n c xs) {k:Nat} (hk:k ≤ n) (hn:n ≤ 1000000000000000) :
  (∀ v,(Instr.slice 34 (.slice a n c) none (some (.int .i64 (k:Int))) none).run Tryz.prog v=.ok (.slice a k c) v)∧Own B w a k c (xs.take k):=by
 obtain ⟨h1,h2,h3,h4⟩:=h
 refine ⟨fun v=>?_,by rw [List.length_take]; omega,by omega,h3,?_⟩
 ·have hm:c ≤ 9223372036854775807:=by unfold maxLen at h3; omega
  rw [run_cut_h a n c k (by omega) v]
  rcases h4 with ⟨rfl,rfl,rfl⟩ | ⟨g,cur,rfl,_⟩
  ·congr 2
   all_goals first | rfl | omega
  ·congr 2
   all_goals first | rfl | (unfold cutAt; split <;> simp [Addr.add]) | omega
 ·rcases h4 with ⟨rfl,rfl,rfl⟩ | ⟨g,cur,rfl,hg,hh,hc,ht⟩
  ·exact .inl ⟨rfl,by omega,rfl⟩
  ·refine .inr ⟨g,cur,rfl,hg,hh,hc,?_⟩
   rw [List.map_take,← ht,List.take_take,Nat.min_eq_left hk]

def trE (s:RTr) (f z:Int):Int:=if ofR s f=0 then 18 else if z < 0 then 1 else if z > s.most then 5 else 0

def trD (d:List Int) (k:Nat):List Int:=(d ++ List.replicate (k - d.length) 0).take k

theorem trD_len (d:List Int) (k:Nat):(trD d k).length=k:=by
 unfold trD
 simp
 omega

theorem rtrunc_no {w:World} {S:Nat→Prop} {g:Nat} {s:RTr} (h:SM w S g s) (f z:Int) (hE:trE s f z ≠ 0) :
  Calls Tryz.prog 44 #[.pointer (some ⟨g,0,none⟩),.int .i64 f,.int .i64 z] w fun e w'=>e=.returned (.int .i64 (trE s f z))∧w'=w:=by
 have K:=hide (rof_any h f)
 unfold trE at *
 have g0:=h.cells.1
 by_cases h0:ofR s f=0
 ·rw [if_pos h0]
  rw [h0] at K
  clear h h0 hE
  go_enter Tryz.func44,Tryz.ntmps44
  go_wp2_with fail
  refine (unhide K).mono ?_
  rintro e w1 ⟨rfl,rfl⟩
  clear K
  go_wp2_with fail
  go_ret
  exact ⟨rfl,rfl⟩
 ·rw [if_neg h0]
  rw [if_neg h0] at hE
  have d0:((ofR s f:Int) == 0)=false:=by simp; omega
  generalize (ofR s f:Int)=iv at *
  by_cases ha:z < 0
  ·rw [if_pos ha]
   have d1:decide (z < 0)=true:=by simpa using ha
   clear h h0 hE ha
   go_enter Tryz.func44,Tryz.ntmps44
   go_wp2_with fail
   refine (unhide K).mono ?_
   rintro e w1 ⟨rfl,rfl⟩
   clear K
   go_wp2_with fail
   go_ret
   exact ⟨rfl,rfl⟩
  ·rw [if_neg ha]
   rw [if_neg ha] at hE
   have d1:decide (z < 0)=false:=by simpa using ha
   by_cases h5:z > s.most
   ·rw [if_pos h5]
    have d3:decide (z > s.most)=true:=by simpa using h5
    clear h h0 hE ha h5
    generalize s.most=mo at *
    go_enter Tryz.func44,Tryz.ntmps44
    go_wp2_with fail
    refine (unhide K).mono ?_
    rintro e w1 ⟨rfl,rfl⟩
    clear K
    go_wp2_with fail
    go_ret
    exact ⟨rfl,rfl⟩
   ·exact absurd (if_neg h5) hE

theorem rtrunc_ok {w:World} {S:Nat→Prop} {g:Nat} {s:RTr} (h:SM w S g s) (f:Int) (z:Nat) {t:RT} (hmo:1 ≤ s.most∧s.most ≤ 524288) (hE:trE s f (z:Int)=0)
  (ht:s.th[ofR s f]?=some t) (htl:t.d.length ≤ 1800000000000) (hl:s.th.length ≤ 1800000000000) :
  Calls Tryz.prog 44 #[.pointer (some ⟨g,0,none⟩),.int .i64 f,.int .i64 (z:Int)] w fun e w'=>∃ a' c',e=.returned (.int .i64 0)∧SM w' (Up S w.heap.size w'.heap.size) g (s.put (ofR s f) { t with d:=trD t.d z,da:=a',dc:=c' })∧Kp S w w':=by
 have K:=hide (rof_any h f)
 have g0:=h.cells.1
 unfold trE at hE
 by_cases h0:ofR s f=0
 ·rw [if_pos h0] at hE; cases hE
 ·rw [if_neg h0,if_neg (by omega)] at hE
  have hq:¬ ((z:Int) > s.most):=fun q=>by rw [if_pos q] at hE; cases hE
  have d0:((ofR s f:Int) == 0)=false:=by simp; omega
  have d1:decide ((z:Int) < 0)=false:=by simp
  have d3:decide ((z:Int) > s.most)=false:=by simpa using hq
  have hz5:z ≤ 524288:=by omega
  obtain ⟨rb,era,_,_,t1,_,rfz⟩:=h.row.cell ht
  have g1:=h.cells.2.1
  rw [era] at g1
  have hi1:ofR s f < s.th.length:=(List.getElem?_eq_some_iff.1 ht).1
  obtain ⟨a1,c1,w1,r1,o1,b1⟩:=app_copy (c:=t.dc) (h.dat _ t ht).has (by omega)
  have R1:=hide r1
  have HO:=hide o1
  have HB:=hide b1
  have HT:=hide h
  have HX:=hide (And.intro ht era)
  have g1a:∀ o,(w.alloc o).cell? ⟨g,1,none⟩=some (.slice (some ⟨rb,0,none⟩) s.th.length s.tc):=fun o=>(((Below.refl w.heap.size w).alloc (Nat.le_refl _) o).cell (p:=⟨g,1,none⟩) (cell_block_lt g1)).trans g1
  have t1a:∀ o,(w.alloc o).cell? ⟨rb,ofR s f * 3 + 1,none⟩=some (.slice t.da t.d.length t.dc):=fun o=>(((Below.refl w.heap.size w).alloc (Nat.le_refl _) o).cell (p:=⟨rb,ofR s f * 3 + 1,none⟩) (cell_block_lt t1)).trans t1
  clear h h0 hE hq hmo ht era r1 o1 b1 g1 t1
  have hi2:(ofR s f:Int) < (s.th.length:Int):=by omega
  have hi0:(0:Int) ≤ (ofR s f:Int):=by omega
  clear hi1
  generalize ofR s f=i at *
  generalize s.most=mo at *
  generalize hdl:t.d.length=dl at *
  have HDL:=hide hdl
  clear hdl
  generalize t.da=da at *
  generalize t.dc=dc at *
  generalize htn:s.th.length=tn at *
  have HTN:=hide htn
  clear htn
  go_enter Tryz.func44,Tryz.ntmps44
  go_wp2_with fail
  refine (unhide K).mono ?_
  rintro e w0 ⟨rfl,rfl⟩
  clear K
  go_wp2_with (at_builtin; refine wpList_append_run 34 rfl _ _ rfl _ _ _ rfl rfl (unhide R1) ?_; clear R1)
  have H0:Hid (Own w0.heap.size w1 a1 dl c1 (t.d ++ List.replicate (dl - dl) 0)∧Below w0.heap.size w0 w1∧dl ≤ dl∧dl ≤ max dl z):=⟨by rw [Nat.sub_self,List.replicate_zero,List.append_nil]; exact HO.out,HB.out,Nat.le_refl _,by omega⟩
  clear HO HB
  go_loopw [8] (fun dv wr=>∃ (k c:Nat) (a:Option Addr),dv=.slice a k c∧Hid (Own w0.heap.size wr a k c (t.d ++ List.replicate (k - dl) 0)∧Below w0.heap.size w0 wr∧dl ≤ k∧k ≤ max dl z)) (fun dv _=>3600000000000 - (lenS dv))
  case atStart=>exact ⟨dl,c1,a1,rfl,H0⟩
  case round =>
   obtain ⟨k,c2,a2,rfl,hJ⟩:=hrel
   obtain ⟨hk1,hk2⟩:=hJ.out.2.2
   clear H0
   by_cases hk:k < z
   ·have d5:decide ((k:Int) < (z:Int))=true:=by simp; omega
    obtain ⟨a',c',w',r,o,bb⟩:=own_one hJ.out.1 hJ.out.2.1.size 0 (by omega)
    have R:=hide r
    have HJ:Hid (Own w0.heap.size w' a' (k + 1) c' (t.d ++ List.replicate (k + 1 - dl) 0)∧Below w0.heap.size w0 w'∧dl ≤ k + 1∧k + 1 ≤ max dl z):=by
     refine ⟨?_,hJ.out.2.1.trans bb,by omega,by omega⟩
     have e:t.d ++ List.replicate (k + 1 - dl) (0:Int)=t.d ++ List.replicate (k - dl) 0 ++ [0]:=by
      rw [show k + 1 - dl=(k - dl) + 1 by omega,List.replicate_succ',List.append_assoc]
     rw [e]
     exact o
    have hkm:k < 3600000000000:=by omega
    clear r o bb hJ hk1 hk2 HX HT HTN HDL
    go_wp2_with (at_builtin; refine wpList_append_run 34 rfl _ _ rfl _ _ _ rfl rfl (unhide R) ?_; clear R)
    go_roundw
    case rel=>exact ⟨k + 1,c',a',rfl,HJ⟩
    case measure=>simp [lenS]; omega
   ·have d5:decide ((k:Int) < (z:Int))=false:=by simp; omega
    have ek:k - dl=z - dl:=by omega
    have hkz:z ≤ k:=by omega
    obtain ⟨RC,hO2⟩:=own_cut hJ.out.1 (k:=z) hkz (by omega)
    have hz0:(0:Int) ≤ (z:Int):=by omega
    have RC:=hide RC
    have hbd:=hJ.out.2.1
    have e1:(t.d ++ List.replicate (k - dl) (0:Int)).take z=trD t.d z:=by unfold trD; rw [HDL.out,ek]
    rw [e1] at hO2
    have hT1:=HT.out.below hbd
    obtain ⟨rb',era',_,_,t1,_,rfz1⟩:=hT1.row.cell HX.out.1
    rw [HX.out.2] at era'
    cases era'
    have g1:=hT1.cells.2.1
    rw [HX.out.2,HTN.out] at g1
    have hD:=HT.out.setD (a':=a2) (c':=c2) (d':=trD t.d z) HX.out.1 HX.out.2 hbd (by rw [trD_len]; exact hO2)
    rw [trD_len] at hD
    have hkp:Kp S w0 (wr.setCell ⟨rb,i * 3 + 1,none⟩ (.slice a2 z c2)):=(Kp.of hbd).setCell (p:=⟨rb,i * 3 + 1,none⟩) (.inl (HT.out.sr rb HX.out.2)) _
    have HR:=hide (And.intro hD.drew hkp.drew)
    have HZ:Hid ((wr.setCell ⟨rb,i * 3 + 1,none⟩ (.slice a2 z c2)).drew.heap.size=wr.heap.size):=by unfold Hid; simp [World.setCell]
    clear hJ hT1 hO2 hD hkp HX HT HTN HDL t1a g1a hbd e1 ek
    go_upto_region 11 with fail
    go_region
    go_wp2_with fail
    go_ret
    exact ⟨a2,c2,rfl,by rw [HZ.out]; exact HR.out.1,HR.out.2⟩

end Go.Proofs.YtknmgefpjdfenaaGreat

/- The reference's New. -/
namespace Go.Proofs.YtknmgefpjdfenaaGreat
set_option maxRecDepth 100000
set_option maxHeartbeats 8000000
open Go.RowKit Go.Shelf Go.Maps
set_option linter.unusedVariables false

def RTr.new (most:Int) (b:Nat):RTr:={ most:=most,th:=[RT.none,{ RT.none with k:=2 }],ta:=some ⟨b,0,none⟩,tc:=2,op:=fun _=>0 }

theorem rnew_no (most:Int) (w:World) (hm:most < 1 ∨ 524288 < most) :
  Calls Tryz.prog 9 #[.int .i64 most] w fun e w'=>e=.returned (.tuple #[.pointer none,.int .i64 1])∧w'=w:=by
 by_cases h1:most < 1
 ·have d1:decide (most < 1)=true:=by simpa using h1
  clear hm h1
  go_enter Tryz.func9,Tryz.ntmps9
  go_wp2_with fail
  go_ret2
  exact ⟨rfl,rfl⟩
 ·have d1:decide (most < 1)=false:=by simpa using h1
  have d2:decide (most > 524288)=true:=by simp; omega
  clear hm h1
  go_enter Tryz.func9,Tryz.ntmps9
  go_wp2_with fail
  go_ret2
  exact ⟨rfl,rfl⟩

theorem rnew_ok (most:Int) (w:World) (hm:1 ≤ most∧most ≤ 524288) :
  Calls Tryz.prog 9 #[.int .i64 most] w fun e w'=>e=.returned (.tuple #[.pointer (some ⟨w.heap.size + 1,0,none⟩),.int .i64 0])∧SM w' (fun k=>w.heap.size ≤ k∧k < w'.heap.size) (w.heap.size + 1) (RTr.new most w.heap.size)∧Below w.heap.size w w':=by
 have d1:decide (most < 1)=false:=by simp; omega
 have d2:decide (most > 524288)=false:=by simp; omega
 have HR:Hid (SM ((w.alloc (.cells #[.int .i64 0,.slice none 0 0,.slice none 0 0,.int .i64 2,.slice none 0 0,.slice none 0 0] 73)).alloc (.cells #[.int .i64 most,.slice (some ⟨w.heap.size,0,none⟩) 2 2,.int .i64 0,.int .i64 0,.int .i64 0,.int .i64 0,.int .i64 0,.int .i64 0,.int .i64 0,.int .i64 0,.int .i64 0,.int .i64 0,.int .i64 0,.int .i64 0,.int .i64 0,.int .i64 0,.int .i64 0,.int .i64 0] 77)) (fun k=>w.heap.size ≤ k∧k < ((w.alloc (.cells #[.int .i64 0,.slice none 0 0,.slice none 0 0,.int .i64 2,.slice none 0 0,.slice none 0 0] 73)).alloc (.cells #[.int .i64 most,.slice (some ⟨w.heap.size,0,none⟩) 2 2,.int .i64 0,.int .i64 0,.int .i64 0,.int .i64 0,.int .i64 0,.int .i64 0,.int .i64 0,.int .i64 0,.int .i64 0,.int .i64 0,.int .i64 0,.int .i64 0,.int .i64 0,.int .i64 0,.int .i64 0,.int .i64 0] 77)).heap.size) (w.heap.size + 1) (RTr.new most w.heap.size) ∧
   Below w.heap.size w ((w.alloc (.cells #[.int .i64 0,.slice none 0 0,.slice none 0 0,.int .i64 2,.slice none 0 0,.slice none 0 0] 73)).alloc (.cells #[.int .i64 most,.slice (some ⟨w.heap.size,0,none⟩) 2 2,.int .i64 0,.int .i64 0,.int .i64 0,.int .i64 0,.int .i64 0,.int .i64 0,.int .i64 0,.int .i64 0,.int .i64 0,.int .i64 0,.int .i64 0,.int .i64 0,.int .i64 0,.int .i64 0,.int .i64 0,.int .i64 0] 77))):=by
  generalize ho1:Obj.cells #[.int .i64 0,.slice none 0 0,.slice none 0 0,.int .i64 2,.slice none 0 0,.slice none 0 0] 73 (0,0)=o1
  generalize ho2:Obj.cells #[.int .i64 most,.slice (some ⟨w.heap.size,0,none⟩) 2 2,.int .i64 0,.int .i64 0,.int .i64 0,.int .i64 0,.int .i64 0,.int .i64 0,.int .i64 0,.int .i64 0,.int .i64 0,.int .i64 0,.int .i64 0,.int .i64 0,.int .i64 0,.int .i64 0,.int .i64 0,.int .i64 0] 77 (0,0)=o2
  have b1:Below w.heap.size w (w.alloc o1):=(Below.refl _ w).alloc (Nat.le_refl _) _
  have b2:Below w.heap.size w ((w.alloc o1).alloc o2):=b1.alloc b1.size _
  have s1:(w.alloc o1).heap.size=w.heap.size + 1:=by simp
  have s2:((w.alloc o1).alloc o2).heap.size=w.heap.size + 2:=by simp
  have x2:((w.alloc o1).alloc o2).heap[w.heap.size + 1]?=some o2:=by have:=World.alloc_heap_new (w.alloc o1) o2; rwa [s1] at this
  have x1:((w.alloc o1).alloc o2).heap[w.heap.size]?=some o1:=by
   have e:((w.alloc o1).alloc o2).heap[w.heap.size]?=(w.alloc o1).heap[w.heap.size]?:=((Below.refl (w.alloc o1).heap.size (w.alloc o1)).alloc (Nat.le_refl _) o2).block _ (by omega)
   exact e.trans (World.alloc_heap_new w o1)
  subst ho1 ho2
  have cs':∀ (i:Nat) (x:RT),(RTr.new most w.heap.size).th[i]?=some x→x.d=[]∧x.da=none∧x.dc=0∧x.ns=[]∧x.na=none∧x.nc=0:=fun i x e=>by
   match i,e with
   | 0,e=>cases e; exact ⟨rfl,rfl,rfl,rfl,rfl,rfl⟩
   | 1,e=>cases e; exact ⟨rfl,rfl,rfl,rfl,rfl,rfl⟩
  refine ⟨⟨⟨_,x2,rfl,fun i hi=>?_⟩,⟨rfl,.inr ⟨w.heap.size,2,_,rfl,Nat.zero_le _,x1,Nat.le_refl _,by unfold maxLen; omega,rfl,rfl⟩⟩,fun i x e=>?_,fun i x e=>?_,fun i j x y b e e' eb eb'=>?_,?_,fun b e=>?_,fun i x b e eb=>?_,fun i x b e eb=>?_,fun k hk=>hk.2⟩,b2⟩
  ·match i,hi with
   | 0,_=>rfl
   | 1,_=>rfl
   | 2,_=>rfl
   | 3,_=>rfl
   | 4,_=>rfl
   | 5,_=>rfl
   | 6,_=>rfl
   | 7,_=>rfl
   | 8,_=>rfl
   | 9,_=>rfl
   | 10,_=>rfl
   | 11,_=>rfl
   | 12,_=>rfl
   | 13,_=>rfl
   | 14,_=>rfl
   | 15,_=>rfl
   | 16,_=>rfl
   | 17,_=>rfl
   | n + 18,h=>omega
  ·obtain ⟨q1,q2,q3,_⟩:=cs' i x e
   rw [q1,q2,q3]
   exact Own.nil _ _
  ·obtain ⟨_,_,_,q1,q2,q3⟩:=cs' i x e
   rw [q1,q2,q3]
   exact ⟨rfl,.inl ⟨rfl,rfl⟩⟩
  ·rw [(cs' i x e).2.2.2.2.1] at eb; cases eb
  ·exact ⟨by omega,by rw [s2]; omega⟩
  ·cases e
   exact ⟨Nat.le_refl _,by rw [s2]; omega⟩
  ·rw [(cs' i x e).2.1] at eb; cases eb
  ·rw [(cs' i x e).2.2.2.2.1] at eb; cases eb
 clear hm
 go_enter Tryz.func9,Tryz.ntmps9
 go_wp2_with fail
 go_ret2
 exact ⟨rfl,HR.out⟩

end Go.Proofs.YtknmgefpjdfenaaGreat

