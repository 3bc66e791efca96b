/- skerryref16.Join: every list of texts; skerryref16.Parent. -/
import Derived.Test.YtknmgefpjdfenaaGreatSfJ17
import Derived.Test.YtknmgefpjdfenaaGreatSfJ17
import Derived.Test.YtknmgefpjdfenaaGreatSfJ1
import Derived.Lib.AppendStr
namespace Go.Proofs.YtknmgefpjdfenaaGreat
set_option maxRecDepth 100000
set_option maxHeartbeats 8000000
open Go.RowKit Go.Shelf
set_option linter.unusedVariables false

theorem strCells_byts (s:ByteArray):Lib.strCells s=(byts s).map (Value.int .u8):=by simp [Lib.strCells,byts]

theorem append_text {B:Nat} {w:World} {a:Option Addr} {n c:Nat} {xs:List Int} (h:Own B w a n c xs) (hB:B ≤ w.heap.size) (s:ByteArray) (hn:n + s.size ≤ 140737488355328) :
  ∃ a' c' w',(∀ ty,(Builtin.append_ #[34,9] ty #[.slice a n c,.string s]).run Tryz.prog w=.ok (.slice a' (n + s.size) c') w')∧Own B w' a' (n + s.size) c' (xs ++ byts s)∧Below B w w':=by
 obtain ⟨i0,hi,hz0,hz1,hz2⟩:=info_parts info5
 obtain ⟨v',w',hr,ho,hg,_⟩:=Lib.run_append_own_string (P:=Tryz.prog) w B 34 9 0 5 i0 Tryz.underlying34 Tryz.underlying9 hi hz0 hz1 hz2 (.slice a n c) n _ h.owns s (by unfold maxLen; omega) hn hB
 rw [strCells_byts,← List.map_append] at ho
 obtain ⟨a',c',rfl,ho'⟩:=Own.of_owns ho
 refine ⟨a',c',w',fun ty=>hr,ho',?_⟩
 refine (Below.refl B w).grown hg hB (fun k e=>?_)
 rcases h.2.2.2 with ⟨ha,_,_⟩ | ⟨g,_,ha,hgB,_⟩
 ·rw [ha] at e; simp [Value.ownBlock] at e
 ·rw [ha] at e
  simp [Value.ownBlock] at e
  omega

theorem wpList_append_mix {w w':World} {ops:Array Oper} {rest:List Oper} {o:Oper} {a:Act} {Q:Exit→Act→World→Prop} (t u:TypeId) (hgd:o.guard=none) (d s:Operand)
  (ho:o.op=.call { callee:=.builtin .append,args:=#[d,s],argTypes:=#[t,u] }) (v x v':Value) (hd:a.eval d=v) (hs:a.eval s=x)
  (hrun:∀ ty,(Builtin.append_ #[t,u] ty #[v,x]).run Tryz.prog w=.ok v' w')
  (h:wpList Tryz.prog ops Q rest (a.put o.dst v') w'):wpList Tryz.prog ops Q (o :: rest) a w:=by
 refine wpList_plain hgd fun K hK=>?_
 have hr:=hrun o.type
 unfold Oper.wp
 simp [execOp,ho,resolve,invoke,builtin,hd,hs,hr,Result.andThen]
 exact hK _ _ h

theorem appB {B:Nat} {w:World} {a:Option Addr} {n c:Nat} {zs:List Int} (h:Own B w a n c zs) (hB:B ≤ w.heap.size) (hn:n + 1 ≤ 140737488355328) :
  ∃ a' c' w',(∀ ty,(Builtin.append_ #[34,34] ty #[.slice a n c,.slice (some ⟨w.heap.size,0,none⟩) 1 1]).run Tryz.prog (w.alloc (.cells #[.int .u8 47] 5))=.ok (.slice a' (n + 1) c') w')∧Own B w' a' (n + 1) c' (zs ++ [47])∧Below B w w':=by
 have hb0:Below w.heap.size w (w.alloc (.cells #[.int .u8 47] 5)):=(Below.refl _ w).alloc (Nat.le_refl _) _
 have h1:=h.below hb0 (Nat.le_refl _)
 have h2:Has (w.alloc (.cells #[.int .u8 47] 5)) (some ⟨w.heap.size,0,none⟩) 1 [47]:=by
  refine ⟨rfl,fun _=>⟨w.heap.size,0,rfl,fun j hj=>?_⟩⟩
  obtain rfl:j=0:=by omega
  simp only [World.cell?,World.alloc_heap_new]
  rfl
 obtain ⟨a',c',w',r,o,k,b⟩:=run_append_bytes h1 (by have:=hb0.size; omega) 1 h2 hn
 exact ⟨a',c',w',r,o,(hb0.mono hB).trans b⟩

def byl (l:List UInt8):List Int:=l.map (fun b=>(b.toNat:Int))

theorem byts_St (l:List UInt8):byts (St l)=byl l:=by unfold byts byl; rw [data_St]

theorem byl_app (a b:List UInt8):byl (a ++ b)=byl a ++ byl b:=by simp [byl]

theorem flat_len {ys:List (List UInt8)} (hy:∀ y ∈ ys,nmB y=true):(flat ys).length ≤ 14 * ys.length:=by
 induction ys with
 | nil=>simp [flat]
 | cons y r ih =>
  have h3:=(nmB_len (hy y (by simp))).2
  have h4:=ih (fun z hz=>hy z (by simp [hz]))
  have:flat (y :: r)=47 :: (y ++ flat r):=rfl
  rw [this]
  simp only [List.length_cons,List.length_append]
  omega

theorem rjoin_any (a:Option Addr) (n c:Nat) (xs:List (List UInt8)) (w:World) (h:HasS w a n xs) (hn:n ≤ 140737488351232) (hm:∀ j:Nat,(xs[j]?.getD []).length ≤ 9223372036854775807) :
  Calls Tryz.prog 106 #[.slice a n c] w fun e w'=>e=.returned (.tuple #[.string (St (jnV xs)),.int .i64 (jnE xs)])∧Below w.heap.size w w':=by
 have hlen:=h.1
 by_cases h16:n ≤ 16
 ·have d16:decide ((n:Int) > 16)=false:=by simp; omega
  have HH:=hide h
  have HM:=hide hm
  have HO:Hid (Own w.heap.size w none 0 0 (byl (flat (xs.take 0)))∧Below w.heap.size w w∧∀ x ∈ xs.take 0,nmB x=true):=⟨Own.nil _ _,Below.refl _ _,fun x hx=>by simp at hx⟩
  have HF:Hid (∀ j,j < n→nmB (xs[j]?.getD [])=false→jnV xs=[]∧jnE xs=16):=by
   intro j hj hf
   have ok:¬ okN xs=true:=fun ho=>by
    have:=((okN_iff xs).1 ho).2.1 (xs[j]?.getD []) (by rw [List.getElem?_eq_getElem (by omega)]; exact List.getElem_mem _)
    rw [this] at hf; cases hf
   exact ⟨if_neg ok,if_neg ok⟩
  clear h hm
  go_enter Tryz.func106,Tryz.ntmps106
  go_wp2_with fail
  go_loopw [5,4] (fun iv l wr=>∃ (k:Nat) (ab:Option Addr) (cb L:Nat),k ≤ n∧iv=.int .i64 (k:Int)∧l=.slice ab L cb∧Hid (Own w.heap.size wr ab L cb (byl (flat (xs.take k)))∧Below w.heap.size w wr∧∀ x ∈ xs.take k,nmB x=true)) (fun iv _ _=>n - (intOf iv).toNat)
  case atStart=>exact ⟨0,none,0,0,Nat.zero_le _,rfl,rfl,HO⟩
  case round =>
   clear HO
   obtain ⟨k,ab,cb,L,hk,rfl,rfl,hI⟩:=hrel
   obtain ⟨hO,hB,hA⟩:=hI.out
   have hL:L=(flat (xs.take k)).length:=by have:=hO.1; simp only [byl,List.length_map] at this; exact this.symm
   have hfl:=flat_len hA
   have htk:(xs.take k).length=k:=by simp; omega
   by_cases hlt:k < n
   ·obtain ⟨b,o,hab,hcl⟩:=(HH.out.below hB (Nat.le_refl _)).cell hlt
    subst hab
    have KN:=refName_any (St (xs[k]?.getD [])) wr (by rw [St_size]; exact HM.out k)
    unfold nameE at KN
    have en:nameB (St (xs[k]?.getD []))=nmB (xs[k]?.getD []):=rfl
    rw [en] at KN
    have hlt':(k:Int) < (n:Int):=by omega
    have hblk:b < w.heap.size:=by
     obtain ⟨b',o',e,hb',_⟩:=HH.out.2 (by omega)
     cases e; exact hb'
    unfold sv at hcl
    cases hq:nmB (xs[k]?.getD []) with
    | false =>
     rw [hq] at KN
     have KN:=hide KN
     have HR:=hide (HF.out k hlt hq)
     have HB:=hide hB
     clear hI hO hB hA hfl htk hq en HF HH HM hL hblk
     generalize St (xs[k]?.getD [])=sx at *
     go_wp2_with fail
     refine (unhide KN).mono ?_
     rintro e w1 ⟨rfl,rfl⟩
     clear KN
     go_wp2_with fail
     go_ret2
     obtain ⟨h1,h2⟩:=HR.out
     rw [h1,h2]
     exact ⟨rfl,HB.out⟩
    | true =>
     rw [hq] at KN
     have KN:=hide KN
     have hx13:=(nmB_len hq).2
     have hx1:xs.take (k + 1)=xs.take k ++ [xs[k]?.getD []]:=by
      rw [List.take_add_one,List.getElem?_eq_getElem (by omega)]; rfl
     obtain ⟨a1,c1,w1,R1,o1,b1⟩:=appB hO (by have:=hB.size; omega) (by omega)
     obtain ⟨a2,c2,w2,R2,o2,b2⟩:=append_text o1 (by have:=hB.size; have:=b1.size; omega) (St (xs[k]?.getD [])) (by rw [St_size]; omega)
     have e2:byl (flat (xs.take k)) ++ [47] ++ byts (St (xs[k]?.getD []))=byl (flat (xs.take (k + 1))):=by
      rw [hx1,flat_append,byl_app,byts_St,List.append_assoc]
      congr 1
      simp [flat,byl]
     rw [e2] at o2
     have HN:Hid (Own w.heap.size w2 a2 (L + 1 + (St (xs[k]?.getD [])).size) c2 (byl (flat (xs.take (k + 1))))∧Below w.heap.size w w2∧∀ x ∈ xs.take (k + 1),nmB x=true):=by
      refine ⟨o2,(hB.trans b1).trans b2,fun x hx=>?_⟩
      rw [hx1,List.mem_append,List.mem_singleton] at hx
      rcases hx with hx | hx
      ·exact hA x hx
      ·rw [hx]; exact hq
     have hcl1:w1.cell? ⟨b,o + k,none⟩=some (.string (St (xs[k]?.getD []))):=(b1.cell (p:=⟨b,o + k,none⟩) hblk).trans hcl
     have R1:=hide R1
     have R2:=hide R2
     clear hI hO hB hA hfl htk hq en HF HH HM hL o1 o2 b1 b2 e2 hx1 hx13 hblk
     generalize St (xs[k]?.getD [])=sx at *
     go_wp2_with fail
     refine (unhide KN).mono ?_
     rintro e w3 ⟨rfl,rfl⟩
     clear KN
     go_wp2_with (at_builtin; first | (refine wpList_append_run 34 rfl _ _ rfl _ _ _ rfl rfl (unhide R1) ?_; clear R1 hcl) | (refine wpList_append_mix 34 9 rfl _ _ rfl _ _ _ rfl rfl (unhide R2) ?_; clear R2))
     go_roundw
     case rel=>exact ⟨k + 1,a2,c2,L + 1 + sx.size,by omega,by go_num,rfl,HN⟩
     case measure=>simp [intOf]; omega
   ·obtain rfl:k=n:=by omega
    have hxs:xs.take k=xs:=List.take_of_length_le (by omega)
    rw [hxs] at hO hA hL hfl htk
    by_cases h0:xs=[]
    ·subst h0
     obtain rfl:k=0:=by simpa using htk.symm
     have hj:jnV ([]:List (List UInt8))=[47]∧jnE ([]:List (List UInt8))=0:=by
      have ok:okN []=true:=(okN_iff _).2 ⟨by simp,fun n hn=>(by cases hn),by decide⟩
      exact ⟨if_pos ok,if_pos ok⟩
     obtain rfl:L=0:=by rw [hL]; rfl
     obtain ⟨a1,c1,w1,R1,o1,b1⟩:=appB hO (by have:=hB.size; omega) (by omega)
     have hcv:=(o1.has).conv c1
     have es:strOfNums (byl (flat []) ++ [47])=St [47]:=by
      have:=strOfNums_byts (St [47])
      rw [byts_St] at this
      exact this
     rw [es] at hcv
     have HB:Hid (Below w.heap.size w w1):=hB.trans b1
     have R1:=hide R1
     have HJ:=hide hj
     clear hI hO hB hA hfl htk HF HH HM hL o1 b1 es hxs hj
     go_wp2_with (at_builtin; refine wpList_append_run 34 rfl _ _ rfl _ _ _ rfl rfl (unhide R1) ?_; clear R1)
     go_ret2
     obtain ⟨h1,h2⟩:=HJ.out
     rw [h1,h2]
     exact ⟨rfl,HB.out⟩
    ·have hfp:1 ≤ (flat xs).length:=by
      cases xs with
      | nil=>exact absurd rfl h0
      | cons x r=>show 1 ≤ (47 :: (x ++ flat r)).length; simp
     have hjn:jn xs=flat xs:=if_neg h0
     have hcv:=(hO.has).conv cb
     have es:strOfNums (byl (flat xs))=St (flat xs):=by
      have:=strOfNums_byts (St (flat xs))
      rwa [byts_St] at this
     rw [es] at hcv
     have dL0:((L:Int) == 0)=false:=by simp; omega
     have HB:=hide hB
     by_cases h200:L ≤ 200
     ·have ok:okN xs=true:=(okN_iff xs).2 ⟨by omega,hA,by rw [hjn,← hL]; exact h200⟩
      have HJ:Hid (jnV xs=flat xs∧jnE xs=0):=⟨(if_pos ok).trans hjn,if_pos ok⟩
      have d2:decide ((L:Int) > 200)=false:=by simp; omega
      clear hI hO hB hA hfl htk HF HH HM hL es hxs hjn ok hfp
      generalize hsf:St (flat xs)=sf at *
      have hsf':=hide hsf
      clear hsf
      go_wp2_with fail
      go_ret2
      obtain ⟨h1,h2⟩:=HJ.out
      rw [h1,h2,hsf'.out]
      exact ⟨rfl,HB.out⟩
     ·have ok:¬ okN xs=true:=fun h=>h200 (by have:=((okN_iff xs).1 h).2.2; rw [hjn,← hL] at this; exact this)
      have HJ:Hid (jnV xs=[]∧jnE xs=16):=⟨if_neg ok,if_neg ok⟩
      have d2:decide ((L:Int) > 200)=true:=by simp; omega
      clear hI hO hB hA hfl htk HF HH HM hL es hxs hjn ok hfp hcv
      go_wp2_with fail
      go_ret2
      obtain ⟨h1,h2⟩:=HJ.out
      rw [h1,h2]
      exact ⟨rfl,HB.out⟩
 ·have ok:¬ okN xs=true:=fun h=>h16 (by have:=((okN_iff xs).1 h).1; omega)
  unfold jnV jnE
  rw [if_neg ok,if_neg ok]
  show Calls _ _ _ _ fun e w'=>e=.returned (.tuple #[.string ⟨#[]⟩,.int .i64 16])∧_
  have d16:decide ((n:Int) > 16)=true:=by simp; omega
  clear h hm ok hlen
  go_enter Tryz.func106,Tryz.ntmps106
  go_wp2_with fail
  go_ret2
  exact ⟨rfl,Below.refl _ _⟩

theorem rsplit_no {p:List UInt8} (w:World) (hp:p.length ≤ 9223372036854775807) (h:spl p=none) :
  Calls Tryz.prog 71 #[.string (St p)] w fun e w'=>(∃ a c,e=.returned (.tuple #[.slice a 0 c,.int .i64 16]))∧Below w.heap.size w w':=by
 refine (rsplit_any p w hp).mono ?_
 rintro e w' ⟨a,c,rfl,ho,hb⟩
 rw [splE_none h,h]
 exact ⟨⟨a,c,rfl⟩,hb⟩

theorem rsplit_yes {p:List UInt8} {ns:List (List UInt8)} (w:World) (h:spl p=some ns) :
  Calls Tryz.prog 71 #[.string (St p)] w fun e w'=>∃ a c,e=.returned (.tuple #[.slice a ns.length c,.int .i64 0])∧OwnS w.heap.size w' a ns.length c ns∧Below w.heap.size w w':=by
 refine (rsplit_any p w (by have:=spl_len h; omega)).mono ?_
 rintro e w' ⟨a,c,rfl,ho,hb⟩
 rw [splE_some h,h]
 rw [h] at ho
 exact ⟨a,c,rfl,ho,hb⟩

end Go.Proofs.YtknmgefpjdfenaaGreat
