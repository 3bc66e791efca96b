/- Joined: TSize, TWrite. -/
import Derived.Test.YtknmgefpjdfenaaGreatSfJ27
import Derived.Test.YtknmgefpjdfenaaGreatSfBZeros
import Derived.Deep.RegionLaw
import Derived.Laws.CopyOwn
import Derived.Deep.WholeRow
/- resize, where a file grows. -/
namespace Go.Proofs.YtknmgefpjdfenaaGreat
set_option maxRecDepth 100000
set_option maxHeartbeats 8000000
open Go.RowKit Go.Shelf Go.Maps
set_option linter.unusedVariables false

theorem TM.setD {u w':World} {S S':Nat→Prop} {g b:Nat} {s:Tr} {t:Th} (h:TM u S g s) (e:s.T b=some t) {a':Option Addr} {c':Nat} {d':List Int} (ho:Own 0 w' a' d'.length c' d')
  (hk:∀ k,k < u.heap.size→(∀ x,t.da=some ⟨x,0,none⟩→k ≠ x)→w'.heap[k]?=u.heap[k]?) (hz:u.heap.size ≤ w'.heap.size) (hS:∀ k,S k→S' k) (hl:∀ k,S' k→k < w'.heap.size)
  (ha:∀ x,a'=some ⟨x,0,none⟩→S' x∧(t.da=some ⟨x,0,none⟩ ∨ u.heap.size ≤ x)) :
  TM (w'.setCell ⟨b,3,none⟩ (.slice a' d'.length c')) S' g (s.upd b { t with d:=d',da:=a',dc:=c' }):=by
 have ht:=h.thg b t e
 have hbx:∀ k t' n f,u.rowIs k t' n f→t' ≠ 5→w'.heap[k]?=u.heap[k]?:=fun k t' n f hr hne=>hk k hr.lt (fun x ex e'=>by
  subst e'
  obtain ⟨_,_,cur,hcu⟩:=(h.dat b t e).lt ex
  exact row_neT hr hcu hne rfl)
 have ht':=ht.of_block (hbx b _ _ _ ht (by decide))
 have ko:∀ k,k ≠ b→(w'.setCell ⟨b,3,none⟩ (.slice a' d'.length c')).heap[k]?=w'.heap[k]?:=fun k hk=>Below.heap_setCell _ _ _ _ hk
 have other:∀ b2 t2 x y,b2 ≠ b→s.T b2=some t2→t2.da=some ⟨x,0,none⟩→a'=some ⟨y,0,none⟩→x ≠ y:=fun b2 t2 x y hne e2 hx hy exy=>by
  subst exy
  rcases (ha x hy).2 with q | q
  ·exact hne (h.da1 b2 b t2 t x e2 e hx q)
  ·have:=h.lt x (h.sd b2 t2 x e2 hx); omega
 refine ⟨((h.str.of_block (hbx g _ _ _ h.str (by decide))).of_block (ko g (fun e'=>(rows_neT ht h.str (by decide)) e'))).congr (fun i hi=>rfl),?_,?_,?_,?_,?_,?_,hS _ h.sg,fun x ex=>hS _ (h.sr x ex),?_,?_,?_,fun k hk=>by simpa [World.setCell] using hl k hk⟩
 ·refine (h.row.kept (w':=w') (fun x ex=>?_)).kept (fun x ex=>?_)
  ·obtain ⟨hlt,_,cur,hcu⟩:=h.row.lt ex
   exact hk x hlt (fun y ey e'=>by
    subst e'
    obtain ⟨_,_,cur2,hcu2⟩:=(h.dat b t e).lt ey
    rw [hcu] at hcu2
    exact absurd (cells_ty hcu2) (by decide))
  ·obtain ⟨_,_,cur,hcu⟩:=h.row.lt ex
   exact ko x (row_neT ht hcu (by decide))
 ·intro b2 t2 e2
  rw [Tr.upd_T] at e2
  by_cases hb:b2=b
  ·subst hb
   rw [if_pos rfl] at e2
   cases e2
   refine (ht'.set 3 _).congr (fun i hi=>?_)
   match i,hi with
   | 0,_=>rfl
   | 1,_=>rfl
   | 2,_=>rfl
   | 3,_=>rfl
   | 4,_=>rfl
  ·rw [if_neg hb] at e2
   have h2:=h.thg b2 t2 e2
   exact (h2.of_block (hbx b2 _ _ _ h2 (by decide))).of_block (ko b2 hb)
 ·intro b2 t2 e2 hd
  rw [Tr.upd_T] at e2
  have km:∀ t3:Th,s.T b2=some t3→t3.k=2→MapS (w'.setCell ⟨b,3,none⟩ (.slice a' d'.length c')) t3.mp t3.ns:=fun t3 e3 h3=>by
   have hm:=h.map b2 t3 e3 h3
   refine (hm.kept (u':=w') (hk _ hm.lt (fun x ex e'=>?_))).kept (ko _ (map_neT ht hm))
   obtain ⟨_,_,cur,hcu⟩:=(h.dat b t e).lt ex
   exact hm.ne hcu e'.symm
  by_cases hb:b2=b
  ·subst hb
   rw [if_pos rfl] at e2
   cases e2
   exact km t e hd
  ·rw [if_neg hb] at e2
   exact km t2 e2 hd
 ·intro b2 t2 e2
  rw [Tr.upd_T] at e2
  by_cases hb:b2=b
  ·rw [if_pos hb] at e2
   cases e2
   exact ho.kept (fun x ex=>by obtain ⟨_,_,cur,hcu⟩:=ho.lt ex; exact ko x (row_neT ht' hcu (by decide)))
  ·rw [if_neg hb] at e2
   refine ((h.dat b2 t2 e2).kept (w':=w') (fun x ex=>?_)).kept (fun x ex=>?_)
   ·obtain ⟨hlt,_,cur,hcu⟩:=(h.dat b2 t2 e2).lt ex
    exact hk x hlt (fun y ey e'=>by subst e'; exact hb (h.da1 b2 b t2 t x e2 e ex ey))
   ·obtain ⟨_,_,cur,hcu⟩:=(h.dat b2 t2 e2).lt ex
    exact ko x (row_neT ht hcu (by decide))
 ·intro b1 b2 t1 t2 e1 e2 k1 k2 hm
  rw [Tr.upd_T] at e1 e2
  by_cases h1:b1=b
  ·by_cases h2:b2=b
   ·rw [h1,h2]
   ·rw [if_pos h1] at e1
    rw [if_neg h2] at e2
    cases e1
    rw [h1]
    exact h.mp1 b b2 t t2 e e2 k1 k2 hm
  ·by_cases h2:b2=b
   ·rw [if_neg h1] at e1
    rw [if_pos h2] at e2
    cases e2
    rw [h2]
    exact h.mp1 b1 b t1 t e1 e k1 k2 hm
   ·rw [if_neg h1] at e1
    rw [if_neg h2] at e2
    exact h.mp1 b1 b2 t1 t2 e1 e2 k1 k2 hm
 ·intro b1 b2 t1 t2 x e1 e2 x1 x2
  rw [Tr.upd_T] at e1 e2
  by_cases h1:b1=b
  ·by_cases h2:b2=b
   ·rw [h1,h2]
   ·rw [if_pos h1] at e1
    rw [if_neg h2] at e2
    cases e1
    exact absurd rfl (other b2 t2 x x h2 e2 x2 x1)
  ·by_cases h2:b2=b
   ·rw [if_neg h1] at e1
    rw [if_pos h2] at e2
    cases e2
    exact absurd rfl (other b1 t1 x x h1 e1 x1 x2)
   ·rw [if_neg h1] at e1
    rw [if_neg h2] at e2
    exact h.da1 b1 b2 t1 t2 x e1 e2 x1 x2
 ·intro b2 t2 e2
  rw [Tr.upd_T] at e2
  by_cases hb:b2=b
  ·rw [hb]; exact hS _ (h.sb b t e)
  ·rw [if_neg hb] at e2; exact hS _ (h.sb b2 t2 e2)
 ·intro b2 t2 e2 hd
  rw [Tr.upd_T] at e2
  by_cases hb:b2=b
  ·rw [if_pos hb] at e2
   cases e2
   exact hS _ (h.sm b t e hd)
  ·rw [if_neg hb] at e2; exact hS _ (h.sm b2 t2 e2 hd)
 ·intro b2 t2 x e2 hx
  rw [Tr.upd_T] at e2
  by_cases hb:b2=b
  ·rw [if_pos hb] at e2
   cases e2
   exact (ha x hx).1
  ·rw [if_neg hb] at e2; exact hS _ (h.sd b2 t2 x e2 hx)

theorem step_append_two {w w':World} {ops:Array Oper} {o:Oper} {a:Act} {K':Act→World→Prop} {Q:Exit→Act→World→Prop} {E:Prop} (hw:Region.wanted o (yielded ops a.tmps)=true) (d s:Operand) (t t2:TypeId)
  (ho:o.op=.call { callee:=.builtin .append,args:=#[d,s],argTypes:=#[t,t2] }) (v x v':Value) (hd:a.eval d=v) (hs:a.eval s=x)
  (hrun:(Builtin.append_ #[t,t2] o.type #[v,x]).run Tryz.prog w=.ok v' w')
  (h:K' (a.put o.dst v') w'):if Region.wanted o (yielded ops a.tmps)=true then Oper.wp Tryz.prog o a w K' Q else E:=by
 rw [if_pos hw]
 unfold Oper.wp
 simp [execOp,ho,resolve,invoke,builtin,hd,hs,hrun,Result.andThen]
 exact h

theorem resize_grow {w:World} {S:Nat→Prop} {g b:Nat} {s:Tr} {t:Th} (h:TM w S g s) (ht:s.T b=some t) (k:Nat) (hd:t.d.length + k ≤ 1800000000000) :
  Calls Tryz.prog 90 #[.pointer (some ⟨b,0,none⟩),.int .i64 ((t.d.length + k:Nat):Int)] w fun e w'=>∃ a c,e=.returned (.tuple #[])∧TM w' (Up S w.heap.size w'.heap.size) g (s.upd b { t with d:=t.d ++ List.replicate k 0,da:=a,dc:=c })∧Kp S w w':=by
 obtain ⟨_,_,_,c3,_,cf⟩:=h.thing_cells ht
 have hO:=h.dat b t ht
 obtain ⟨a',c',w1,R,o1,hk,hB,hx⟩:=run_append_zerosB 0 w.drew 34 t.da t.d.length t.dc t.d hO (Nat.zero_le _) k (by omega)
 have hlen:(t.d ++ List.replicate k 0).length=t.d.length + k:=by simp
 have hsz:w.heap.size ≤ w1.heap.size:=hB.size
 have hfr:∀ j,w1.frozen? ⟨b,j,none⟩=false:=by
  have hbk:w1.heap[b]?=w.heap[b]?:=hk b (h.thg b t ht).lt (fun x ex e'=>by
   subst e'
   obtain ⟨_,_,cur,hcu⟩:=hO.lt ex
   exact row_neT (h.thg b t ht) hcu (by decide) rfl)
  exact fun j=>((h.thg b t ht).of_block hbk).frozen j
 have hcc:∃ cc,w1.cell? ⟨b,3,none⟩=some cc:=by
  have hbk:w1.heap[b]?=w.heap[b]?:=hk b (h.thg b t ht).lt (fun x ex e'=>by
   subst e'
   obtain ⟨_,_,cur,hcu⟩:=hO.lt ex
   exact row_neT (h.thg b t ht) hcu (by decide) rfl)
  exact ⟨_,((h.thg b t ht).of_block hbk).cell (i:=3) (by omega)⟩
 obtain ⟨cc,hcc⟩:=hcc
 have HR:Hid (TM (w1.setCell ⟨b,3,none⟩ (.slice a' (t.d.length + k) c')) (Up S w.heap.size w1.heap.size) g (s.upd b { t with d:=t.d ++ List.replicate k 0,da:=a',dc:=c' })∧Kp S w (w1.setCell ⟨b,3,none⟩ (.slice a' (t.d.length + k) c'))):=by
  refine ⟨?_,?_⟩
  ·have:=h.setD (w':=w1) (S':=Up S w.heap.size w1.heap.size) ht (a':=a') (c':=c') (d':=t.d ++ List.replicate k 0) (by rw [hlen]; exact o1) hk hsz (fun x hx=>.inl hx)
    (fun x hx=>hx.elim (fun q=>Nat.lt_of_lt_of_le (h.lt x q) hsz) (fun q=>q.2)) (fun x ex=>by
     have hlt:=(o1.lt ex).1
     rcases hx with ⟨q,_⟩ | ⟨g',q,hg'⟩
     ·rw [q] at ex
      exact ⟨.inl (h.sd b t x ht ex),.inl ex⟩
     ·rw [q] at ex
      cases ex
      exact ⟨.inr ⟨hg',hlt⟩,.inr hg'⟩)
   rw [hlen] at this
   exact this
  ·have hkp:Kp S w w1:=⟨hB.os,hB.tape,hB.output,hB.size,fun x hlt hs=>hk x hlt (fun y ey e'=>hs (by rw [e']; exact h.sd b t y ht ey))⟩
   exact hkp.setCell (p:=⟨b,3,none⟩) (.inl (h.sb b t ht)) _
 have HZ:Hid ((w1.setCell ⟨b,3,none⟩ (.slice a' (t.d.length + k) c')).heap.size=w1.heap.size):=by unfold Hid; simp [World.setCell]
 have e1:((t.d.length + k:Nat):Int) - (t.d.length:Int)=(k:Int):=by omega
 have d1:decide (t.d.length + k < t.d.length)=false:=by simp
 have hwk:IntKind.i64.wrap (k:Int)=k:=by rw [IntKind.wrap_i64]; omega
 have R:Hid ((Builtin.append_ #[34,3] 34 #[.slice t.da t.d.length t.dc,.int .i64 (IntKind.i64.wrap (k:Int))]).run Tryz.prog w.drew=.ok (.slice a' (t.d.length + k) c') w1):=by unfold Hid; rw [hwk]; exact R
 clear hwk
 clear h ht hO o1 hk hB hx hlen hsz
 generalize hn:t.d.length + k=n at *
 generalize t.d.length=m at *
 go_enter Tryz.func90,Tryz.ntmps90
 go_wp2_with fail
 go_region_law (refine step_append_two (by rfl) _ _ _ _ (by rfl) _ _ _ (by rfl) (by rfl) (unhide R) ?_; clear R)
 all_goals
  go_wp2_with fail
  go_end0
  exact ⟨a',c',rfl,by rw [HZ.out]; exact HR.out.1,HR.out.2⟩

end Go.Proofs.YtknmgefpjdfenaaGreat

/- Write. -/
namespace Go.Proofs.YtknmgefpjdfenaaGreat
set_option maxRecDepth 100000
set_option maxHeartbeats 8000000
open Go.RowKit Go.Shelf Go.Maps
set_option linter.unusedVariables false

theorem tcopy_set {w:World} {g c at0 m dn dc c2:Nat} {ys:List Int} {cur:Array Value} (hg:Bl w g cur 5) (hc:cur.size=c) {a2:Option Addr} (h:Has w a2 m ys) (hm0:0 < m) (hmd:m ≤ dn) (hfit:at0 + m ≤ c) (ty:TypeId) :
  (Builtin.copy_ #[34,34] ty #[.slice (cutAt (some ⟨g,0,none⟩) c at0) dn dc,.slice a2 m c2]).run Tryz.prog w=.ok (goInt m) (w.setRow g (cur.toList.take at0 ++ ys.map (Value.int .u8) ++ cur.toList.drop (at0 + m)).toArray):=by
 have hlen:=h.1
 obtain ⟨b,off,rfl,hcs⟩:=h.2 hm0
 have hcut:cutAt (some ⟨g,0,none⟩) c at0=some ⟨g,at0,none⟩:=by
  unfold cutAt
  rw [if_neg (by omega),Option.map_some,Nat.mul_one,World.add_zero_spot,Nat.zero_add]
 have hs:∀ (j:Nat) v,(ys.map (Value.int .u8))[j]?=some v→w.cell? ((⟨b,off,none⟩:Addr).add j)=some v:=by
  intro j v hv
  have hj:j < ys.length:=by
   have:=(List.getElem?_eq_some_iff.1 hv).1
   simpa using this
  rw [World.add_zero_spot,hcs j (by omega)]
  rw [List.getElem?_map,List.getElem?_eq_getElem hj] at hv
  rw [List.getElem?_eq_getElem hj]
  simpa using hv
 have hl:(ys.map (Value.int .u8)).length=m:=by rw [List.length_map,hlen]
 have hm:(ys.map (Value.int .u8)).length=Nat.min m dn:=by rw [hl]; exact (Nat.min_eq_left (by omega)).symm
 have hr:=run_copy_row (P:=Tryz.prog) w 34 34 ty 5 g at0 dn dc ⟨b,off,none⟩ m c2 cur 5 (ys.map (Value.int .u8)) Tryz.underlying34 size5 hg hm hs (by rw [hl,hc]; omega) (oneCell_bytes ys)
 rw [hcut,hr,hl]


theorem setCell_id {w:World} {b j:Nat} {v:Value} {cs:Array Value} {ty:TypeId} (h:w.heap[b]?=some (.cells cs ty (0,0))) (hv:cs[j]?=some v):w.setCell ⟨b,j,none⟩ v=w:=by
 rw [setCell_eq_setRow w b j cs ty (0,0) v h]
 have e:cs.setIfInBounds j v=cs:=by
  apply Array.ext_getElem?
  intro i
  by_cases hi:i=j
  ·subst hi
   rw [Array.getElem?_setIfInBounds_self_of_lt (Array.getElem?_eq_some_iff.1 hv).1,hv]
  ·rw [Array.getElem?_setIfInBounds_ne (fun e=>hi e.symm)]
 rw [e]
 exact setRow_self w b cs ty (0,0) h

theorem TM.data {u w':World} {S:Nat→Prop} {g b:Nat} {s:Tr} {t:Th} (h:TM u S g s) (e:s.T b=some t) {d':List Int} (hl:d'.length=t.d.length) (ho:Own 0 w' t.da t.d.length t.dc d')
  (hk:∀ k,k < u.heap.size→(∀ x,t.da=some ⟨x,0,none⟩→k ≠ x)→w'.heap[k]?=u.heap[k]?) (hz:w'.heap.size=u.heap.size):TM w' S g (s.upd b { t with d:=d' }):=by
 have h1:=h.setD (w':=w') (S':=S) e (a':=t.da) (c':=t.dc) (d':=d') (by rw [hl]; exact ho) hk (Nat.le_of_eq hz.symm) (fun _ hx=>hx) (fun x hx=>by rw [hz]; exact h.lt x hx) (fun x ex=>⟨h.sd b t x e ex,.inl ex⟩)
 have ht:=(h.thg b t e).of_block (hk b (h.thg b t e).lt (fun x ex e'=>by
  subst e'
  obtain ⟨_,_,cur,hcu⟩:=(h.dat b t e).lt ex
  exact row_neT (h.thg b t e) hcu (by decide) rfl))
 obtain ⟨cs,hcs,hn,hf⟩:=ht
 have hf3:cs[3]?=some (.slice t.da t.d.length t.dc):=hf 3 (by omega)
 rw [hl,setCell_id hcs hf3] at h1
 exact h1

def wrD (d:List Int) (at0:Nat) (ys:List Int):List Int:=put (d ++ List.replicate (max d.length (at0 + ys.length) - d.length) 0) at0 ys

theorem Has.keptW {w w':World} {a:Option Addr} {m:Nat} {ys:List Int} (h:Has w a m ys) (hk:∀ x,a=some x→w'.heap[x.block]?=w.heap[x.block]?):Has w' a m ys:=by
 refine ⟨h.1,fun hp=>?_⟩
 obtain ⟨b,off,e,hc⟩:=h.2 hp
 refine ⟨b,off,e,fun j hj=>?_⟩
 have:=hk _ e
 rw [← hc j hj]
 simp only [World.cell?]
 simp only at this
 rw [this]

theorem put_cells {L:List Value} {D ys:List Int} {n at0 m:Nat} (hL:L.take n=D.map (Value.int .u8)) (hD:D.length=n) (hy:ys.length=m) (hf:at0 + m ≤ n) :
  (L.take at0 ++ ys.map (Value.int .u8) ++ L.drop (at0 + m)).take n=(put D at0 ys).map (Value.int .u8):=by
 have hL2:L=D.map (Value.int .u8) ++ L.drop n:=by rw [← hL,List.take_append_drop]
 have e1:L.take at0=(D.take at0).map (Value.int .u8):=by
  rw [hL2,List.take_append_of_le_length (by simp; omega),List.map_take]
 have e2:L.drop (at0 + m)=(D.drop (at0 + m)).map (Value.int .u8) ++ L.drop n:=by
  conv=>lhs; rw [hL2]
  rw [List.drop_append_of_le_length (by simp; omega),List.map_drop]
 rw [e1,e2,← List.append_assoc,List.take_append_of_le_length (by simp; omega),List.take_of_length_le (by simp; omega)]
 unfold put
 rw [hy]
 simp

theorem write_ok {w:World} {S:Nat→Prop} {g f b:Nat} {s:Tr} {t:Th} (h:TM w S g s) (hf:f < 16) (ho:s.opn f=some b) (hr:s.row ≠ []) (ht:s.T b=some t) (at0:Nat) (a:Option Addr) (m c:Nat) (ys:List Int) (hy:Has w a m ys)
  (hm0:0 < m) (hm:m ≤ 4096) (hms:(at0:Int) + m ≤ s.most) (hmo:s.most ≤ 524288) (hd:t.d.length ≤ 1800000000000) (ha:∀ x,a=some x→¬ S x.block∧x.block < w.heap.size) :
  Calls Tryz.prog 41 #[.pointer (some ⟨g,0,none⟩),.int .i64 (f:Int),.int .i64 (at0:Int),.slice a m c] w fun e w'=>∃ a' c',e=.returned (.int .i64 0)∧TM w' (Up S w.heap.size w'.heap.size) g (s.upd b { t with d:=wrD t.d at0 ys,da:=a',dc:=c' })∧Kp S w w':=by
 have K:=hide (file_ok h hf ho hr)
 obtain ⟨c0,_,_,_⟩:=h.tree_cells
 obtain ⟨_,_,_,c3,_,_⟩:=h.thing_cells ht
 have hyl:=hy.1
 have KR:=resize_grow h ht (max t.d.length (at0 + m) - t.d.length) (by omega)
 rw [show t.d.length + (max t.d.length (at0 + m) - t.d.length)=max t.d.length (at0 + m) by omega] at KR
 have KR:=hide KR
 have d1:decide ((m:Int) > 4096)=false:=by simp; omega
 have d2:decide ((at0:Int) > s.most - (m:Int))=false:=by simp; omega
 have d3:((m:Int) == 0)=false:=by simp; omega
 have e1:max (t.d.length:Int) ((at0:Int) + (m:Int))=((max t.d.length (at0 + m):Nat):Int):=by omega
 have HT:=hide (And.intro h (And.intro ht (And.intro hy ha)))
 have HD:Hid (wrD t.d at0 ys=put (t.d ++ List.replicate (max t.d.length (at0 + m) - t.d.length) 0) at0 ys):=by unfold Hid wrD; rw [hyl]
 have hsb:=h.sb b t ht
 clear h hf ho hr ht hy ha
 generalize s.most=mo at *
 go_enter Tryz.func41,Tryz.ntmps41
 go_wp2_with fail
 refine (unhide K).mono ?_
 rintro e w1 ⟨rfl,rfl⟩
 clear K
 go_wp2_with fail
 refine (unhide KR).mono ?_
 rintro e w2 ⟨a2,c2,rfl,h2,hk2⟩
 obtain ⟨h1,ht,hy,ha⟩:=HT.out
 have hn0:(t.d ++ List.replicate (max t.d.length (at0 + m) - t.d.length) (0:Int)).length=max t.d.length (at0 + m):=by simp; omega
 generalize hDD:t.d ++ List.replicate (max t.d.length (at0 + m) - t.d.length) (0:Int)=D at *
 generalize hnn:max t.d.length (at0 + m)=n at *
 have hfit:at0 + m ≤ n:=by omega
 have htb:(s.upd b { t with d:=D,da:=a2,dc:=c2 }).T b=some { t with d:=D,da:=a2,dc:=c2 }:=by rw [Tr.upd_T,if_pos rfl]
 have c3':w2.cell? ⟨b,3,none⟩=some (.slice a2 n c2):=by
  have:=(h2.thing_cells htb).2.2.2.1
  rw [← hn0]
  exact this
 have hO:Own 0 w2 a2 n c2 D:=by
  have:=h2.dat b _ htb
  rw [← hn0]
  exact this
 have hy2:Has w2 a m ys:=hy.keptW (fun x ex=>hk2.block _ (ha x ex).2 (ha x ex).1)
 have R1:=fun u=>run_cut_l a2 n c2 at0 (by omega) u
 obtain ⟨x,ea2,_,_,_⟩:=hO.cell (j:=0) (by omega)
 obtain ⟨hx1,_,_⟩:=hO.lt ea2
 subst ea2
 obtain ⟨o1,o2,o3,o4⟩:=hO
 rcases o4 with ⟨e0,_⟩ | ⟨x',cur,ex,_,hcur,hcs,hct⟩
 ·cases e0
 ·cases ex
  have R2:∀ ty,_:=fun ty=>tcopy_set (w:=w2) (g:=x) (c:=c2) (at0:=at0) (m:=m) (dn:=n - at0) (dc:=c2 - at0) (c2:=c) hcur hcs hy2 hm0 (by omega) (by omega) ty
  have hpc:=put_cells (L:=cur.toList) hct o1 hyl hfit
  have hO2:Own 0 (w2.setRow x (cur.toList.take at0 ++ ys.map (Value.int .u8) ++ cur.toList.drop (at0 + m)).toArray) (some ⟨x,0,none⟩) n c2 (put D at0 ys) :=
   ⟨by rw [length_put _ _ _ (by omega)]; exact o1,o2,o3,.inr ⟨x,_,rfl,Nat.zero_le _,setRow_heap _ _ _ _ _ _ hcur,by simp; have:cur.toList.length=c2:=(by simpa using hcs); omega,by rw [List.toList_toArray]; exact hpc⟩⟩
  have hoth:∀ k,k ≠ x→(w2.setRow x (cur.toList.take at0 ++ ys.map (Value.int .u8) ++ cur.toList.drop (at0 + m)).toArray).heap[k]?=w2.heap[k]?:=fun k hk=>setRow_other _ _ _ _ hk
  have hzz:(w2.setRow x (cur.toList.take at0 ++ ys.map (Value.int .u8) ++ cur.toList.drop (at0 + m)).toArray).heap.size=w2.heap.size:=by simp [World.setRow]
  have hfin:=h2.data (w':=w2.setRow x (cur.toList.take at0 ++ ys.map (Value.int .u8) ++ cur.toList.drop (at0 + m)).toArray) htb (d':=put D at0 ys) (by show (put D at0 ys).length=D.length; rw [length_put _ _ _ (by omega)]) (by show Own 0 _ (some ⟨x,0,none⟩) D.length c2 _; rw [o1]; exact hO2)
   (fun k _ hne=>hoth k (hne x rfl)) hzz
  rw [Tr.upd_upd] at hfin
  have hxS:=h2.sd b _ x htb rfl
  have HR:Hid (TM (w2.setRow x (cur.toList.take at0 ++ ys.map (Value.int .u8) ++ cur.toList.drop (at0 + m)).toArray) (Up S w1.heap.size (w2.setRow x (cur.toList.take at0 ++ ys.map (Value.int .u8) ++ cur.toList.drop (at0 + m)).toArray).heap.size) g (s.upd b { t with d:=wrD t.d at0 ys,da:=some ⟨x,0,none⟩,dc:=c2 }) ∧
    Kp S w1 (w2.setRow x (cur.toList.take at0 ++ ys.map (Value.int .u8) ++ cur.toList.drop (at0 + m)).toArray)):=by
   refine ⟨?_,⟨hk2.os,hk2.tape,hk2.output,by rw [hzz]; exact hk2.size,fun k hk hs=>(hoth k (fun e=>?_)).trans (hk2.block k hk hs)⟩⟩
   ·rw [hzz,HD.out]; exact hfin
   ·subst e
    rcases hxS with q | q
    ·exact hs q
    ·omega
  clear h1 ht hy ha hn0 hDD hnn htb hy2 hO2 hoth hzz hfin hxS hpc hct hcs hcur o1 o2 o3 h2 hk2 HT HD KR hx1
  go_wp2_with fail
  go_ret
  have hR:=HR.out
  rw [List.append_assoc] at hR
  exact ⟨some ⟨x,0,none⟩,c2,rfl,hR⟩

end Go.Proofs.YtknmgefpjdfenaaGreat

