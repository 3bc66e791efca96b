/- Joined: SSet, SSetB, SHand, SRows. -/
import Derived.Test.YtknmgefpjdfenaaGreatSfJ30
import Derived.Test.YtknmgefpjdfenaaGreatSfJ32
import Derived.Deep.AppendLies
import Derived.Test.YtknmgefpjdfenaaGreatSfJ1
/- Stores into the reference's tree. -/
namespace Go.Proofs.YtknmgefpjdfenaaGreat
set_option maxRecDepth 100000
set_option maxHeartbeats 8000000
open Go.RowKit Go.Shelf Go.Maps
set_option linter.unusedVariables false

theorem tcells_set:∀ (xs:List RT) (i j:Nat) (x x':RT) (v:Value),xs[i]?=some x→j < 3→rcs x'=(rcs x).set j v→tcells (xs.set i x')=(tcells xs).set (i * 3 + j) v
 | [],i,j,x,x',v,h,hj,e=>by cases h
 | a :: r,0,j,x,x',v,h,hj,e=>by
  simp at h
  subst h
  have e1:tcells (a :: r)=rcs a ++ tcells r:=rfl
  have e2:tcells ((a :: r).set 0 x')=rcs x' ++ tcells r:=rfl
  rw [e1,e2,e,Nat.zero_mul,Nat.zero_add,List.set_append_left _ _ (by simp [rcs]; omega)]
 | a :: r,i + 1,j,x,x',v,h,hj,e=>by
  have h':r[i]?=some x:=by simpa using h
  have e1:tcells (a :: r)=rcs a ++ tcells r:=rfl
  have e2:tcells ((a :: r).set (i + 1) x')=rcs a ++ tcells (r.set i x'):=rfl
  have hl:(rcs a).length=3:=rfl
  rw [e1,e2,tcells_set r i j x x' v h' hj e,List.set_append_right _ _ (by omega),hl]
  congr 2
  omega

theorem OwnX.setj {B:Nat} {w:World} {rb c:Nat} {xs:List RT} (h:OwnX B w (some ⟨rb,0,none⟩) c xs) {i j:Nat} {x x':RT} {v:Value} (hx:xs[i]?=some x) (hj:j < 3) (e:rcs x'=(rcs x).set j v):OwnX B (w.setCell ⟨rb,i * 3 + j,none⟩ v) (some ⟨rb,0,none⟩) c (xs.set i x'):=by
 have hi:=(List.getElem?_eq_some_iff.1 hx).1
 unfold OwnX at h ⊢
 rw [List.length_set]
 obtain ⟨h1,h2⟩:=h
 refine ⟨by rw [tcells_len,List.length_set],.inr ?_⟩
 rcases h2 with ⟨e',_⟩ | ⟨g,cap,cur,e',hg,hh,hn,hm,hc,ht⟩
 ·cases e'
 ·cases e'
  refine ⟨rb,c,_,rfl,hg,by rw [setCell_eq_setRow w rb (i * 3 + j) _ 73 (0,0) _ hh]; exact setRow_heap w rb _ _ 73 _ hh,hn,hm,by simpa using hc,?_⟩
  rw [Array.toList_setIfInBounds,List.take_set,ht,tcells_set xs i j x x' v hx hj e]

theorem SM.setN {u w':World} {S S':Nat→Prop} {g i rb:Nat} {s:RTr} {t:RT} (h:SM u S g s) (ht:s.th[i]?=some t) (hrb:s.ta=some ⟨rb,0,none⟩) {a':Option Addr} {c':Nat} {ns':NL} (ho:OwnN 0 w' a' c' ns')
  (hk:∀ k,k < u.heap.size→(∀ x,t.na=some ⟨x,0,none⟩→k ≠ x)→w'.heap[k]?=u.heap[k]?) (hz:u.heap.size ≤ w'.heap.size) (hS:∀ k,S k→S' k) (hl:∀ k,S' k→k < w'.heap.size) (ha:∀ x,a'=some ⟨x,0,none⟩→S' x∧(t.na=some ⟨x,0,none⟩ ∨ u.heap.size ≤ x)) :
  SM (w'.setCell ⟨rb,i * 3 + 2,none⟩ (.slice a' ns'.length c')) S' g { s with th:=s.th.set i { t with ns:=ns',na:=a',nc:=c' } }:=by
 have kc:∀ k t' (cs:Array Value),u.heap[k]?=some (Obj.cells cs t' (0,0))→t' ≠ 120→w'.heap[k]?=u.heap[k]?:=fun k t' cs hh hne=>hk k (Array.getElem?_eq_some_iff.1 hh).1 (fun x ex e=>by
  subst e
  obtain ⟨_,_,cur,hcu⟩:=(h.nam i t ht).at ex
  rw [hcu] at hh
  exact hne (cells_ty hh).symm)
 have hrow:=h.row
 rw [hrb] at hrow
 obtain ⟨_,_,rcur,hrc⟩:=hrow.at rfl
 have hrc':=(kc rb _ _ hrc (by decide)).trans hrc
 have ko:∀ k,k ≠ rb→(w'.setCell ⟨rb,i * 3 + 2,none⟩ (.slice a' ns'.length c')).heap[k]?=w'.heap[k]?:=fun k hk=>Below.heap_setCell _ _ _ _ hk
 have hlen:i < s.th.length:=(List.getElem?_eq_some_iff.1 ht).1
 have cs':∀ (j:Nat) (x:RT),(s.th.set i { t with ns:=ns',na:=a',nc:=c' })[j]?=some x→(j=i∧x={ t with ns:=ns',na:=a',nc:=c' }) ∨ (j ≠ i∧s.th[j]?=some x):=fun j x e=>by
  by_cases hj:j=i
  ·subst hj
   rw [List.getElem?_set_self hlen] at e
   cases e
   exact .inl ⟨rfl,rfl⟩
  ·rw [List.getElem?_set_ne (fun q=>hj q.symm)] at e
   exact .inr ⟨hj,e⟩
 have keepN:∀ (j:Nat) (x:RT),j ≠ i→s.th[j]?=some x→OwnN 0 (w'.setCell ⟨rb,i * 3 + 2,none⟩ (.slice a' ns'.length c')) x.na x.nc x.ns:=fun j x hj e=>by
  have hn:=h.nam j x e
  refine (hn.kept (w':=w') (fun b eb=>?_)).kept (fun b eb=>?_)
  ·obtain ⟨hb,_⟩:=hn.at eb
   exact hk b hb (fun y ey e'=>by subst e'; exact hj (h.na1 j i x t b e ht eb ey))
  ·obtain ⟨hb,_,cur,hcu⟩:=hn.at eb
   exact ko b (fun e'=>by subst e'; rw [hrc] at hcu; exact absurd (cells_ty hcu) (by decide))
 have keepD:∀ (j:Nat) (x:RT),s.th[j]?=some x→Own 0 (w'.setCell ⟨rb,i * 3 + 2,none⟩ (.slice a' ns'.length c')) x.da x.d.length x.dc x.d:=fun j x e=>by
  have hd:=h.dat j x e
  refine (hd.kept (w':=w') (fun b eb=>?_)).kept (fun b eb=>?_)
  ·obtain ⟨_,_,cur,hcu⟩:=hd.lt eb
   exact kc b _ _ hcu (by decide)
  ·obtain ⟨_,_,cur,hcu⟩:=hd.lt eb
   exact ko b (fun e'=>by subst e'; rw [hrc] at hcu; exact absurd (cells_ty hcu) (by decide))
 obtain ⟨strc,hstrc,_⟩:=h.str
 refine ⟨?_,?_,?_,?_,?_,hS _ h.sg,fun b e=>hS _ (h.sr b e),?_,?_,fun k hk=>by simpa [World.setCell] using hl k hk⟩
 ·refine ((h.str.of_block (kc g _ _ hstrc (by decide))).of_block (ko g (fun e=>by rw [e,hrc] at hstrc; exact absurd (cells_ty hstrc) (by decide)))).congr (fun j hj=>?_)
  unfold scell
  simp
 ·show OwnX 0 _ s.ta s.tc (s.th.set i _)
  rw [hrb]
  exact OwnX.setj (x:=t) (hrow.kept (w':=w') (fun b eb=>by cases eb; exact kc rb _ _ hrc (by decide))) ht (by omega) rfl
 ·intro j x e
  rcases cs' j x e with ⟨rfl,rfl⟩ | ⟨_,e'⟩
  ·exact keepD j t ht
  ·exact keepD j x e'
 ·intro j x e
  rcases cs' j x e with ⟨rfl,rfl⟩ | ⟨hj,e'⟩
  ·exact ho.kept (fun b eb=>ko b (fun e'=>by
    obtain ⟨_,_,cur,hcu⟩:=ho.at eb
    subst e'
    rw [hrc'] at hcu
    exact absurd (cells_ty hcu) (by decide)))
  ·exact keepN j x hj e'
 ·intro j j' x y b e e' eb eb'
  rcases cs' j x e with ⟨rfl,rfl⟩ | ⟨hj,ex⟩
  ·rcases cs' j' y e' with ⟨q,_⟩ | ⟨hj',ey⟩
   ·exact q.symm
   ·exfalso
    rcases (ha b eb).2 with q | q
    ·exact hj' (h.na1 j' j y t b ey ht eb' q)
    ·have:=h.lt b (h.sn j' y b ey eb'); omega
  ·rcases cs' j' y e' with ⟨rfl,rfl⟩ | ⟨hj',ey⟩
   ·exfalso
    rcases (ha b eb').2 with q | q
    ·exact hj (h.na1 j j' x t b ex ht eb q)
    ·have:=h.lt b (h.sn j x b ex eb); omega
   ·exact h.na1 j j' x y b ex ey eb eb'
 ·intro j x b e eb
  rcases cs' j x e with ⟨rfl,rfl⟩ | ⟨_,e'⟩
  ·exact hS _ (h.sd j t b ht eb)
  ·exact hS _ (h.sd j x b e' eb)
 ·intro j x b e eb
  rcases cs' j x e with ⟨rfl,rfl⟩ | ⟨_,e'⟩
  ·exact (ha b eb).1
  ·exact hS _ (h.sn j x b e' eb)

theorem infoD:(Tryz.prog.info? 120).map (fun i=>(i.zero,i.size,i.bytes))=some (some (.agg #[.int .i64 0,.string ⟨#[]⟩]),2,24):=by kernel_rfl

theorem undD:Tryz.prog.underlying 71=some (.slice 120):=by kernel_rfl

theorem OwnN.app {B:Nat} {w:World} {a:Option Addr} {c:Nat} {ns:NL} (h:OwnN B w a c ns) (hB:B ≤ w.heap.size) (e:List UInt8 × Nat) (hn:ns.length ≤ 1800000000000) :
  ∃ (x c':Nat) (w':World),(∀ ty,(Builtin.append_ #[71,71] ty #[.slice a ns.length c,.slice (some ⟨w.heap.size,0,none⟩) 1 1]).run Tryz.prog (w.alloc (.cells #[.int .i64 (e.2:Int),.string (St e.1)] 120))=.ok (.slice (some ⟨x,0,none⟩) (ns.length + 1) c') w')∧OwnN B w' (some ⟨x,0,none⟩) c' (ns ++ [e])∧Below B w w' ∧
   (∀ k,k < w.heap.size→(∀ x,a=some ⟨x,0,none⟩→k ≠ x)→w'.heap[k]?=w.heap[k]?)∧(a=some ⟨x,0,none⟩ ∨ w.heap.size ≤ x)∧x < w'.heap.size:=by
 obtain ⟨i0,hi,hz0,hz1,hz2⟩:=info_parts infoD
 have hb0:Below w.heap.size w (w.alloc (.cells #[.int .i64 (e.2:Int),.string (St e.1)] 120)):=(Below.refl _ w).alloc (Nat.le_refl _) _
 have h1:OwnN B (w.alloc (.cells #[.int .i64 (e.2:Int),.string (St e.1)] 120)) a c ns:=h.kept (fun g eg=>hb0.block g (h.at eg).1)
 have hbl:=Bl.new w #[.int .i64 (e.2:Int),.string (St e.1)] 120
 obtain ⟨x,c',w',hr,ho2,hg,hx,hlt⟩:=run_append_lies (P:=Tryz.prog) (w.alloc (.cells #[.int .i64 (e.2:Int),.string (St e.1)] 120)) 71 0 B 120 i0 _ 2 24 undD hi hz0 hz1 hz2 rfl (by decide) (.slice a ns.length c) ns.length _ h1 ⟨w.heap.size,0,none⟩ 1 1 (ncs2 e) rfl
  (fun j u hj=>by rw [World.add_zero_spot,Nat.zero_add]; exact hbl.cell j u (by simpa [ncs2] using hj)) (by intro z hz; simp [ncs2] at hz; rcases hz with rfl | rfl <;> rfl) (by decide) (by unfold maxLen; omega) (by omega) (Nat.le_trans hB hb0.size) _ rfl
 have e1:ncells (ns ++ [e])=ncells ns ++ ncs2 e:=by simp [ncells]
 have hl:(ns ++ [e]).length=ns.length + 1:=by simp
 refine ⟨x,c',w',fun ty=>hr,by unfold OwnN; rw [e1,hl]; exact ho2,?_,fun k hk hne=>?_,?_,hlt⟩
 ·refine (hb0.mono hB).grown hg (Nat.le_trans hB hb0.size) (fun k ek=>?_)
  rcases h.2 with ⟨q,_⟩ | ⟨g,cap,cur,q,hgB,_⟩
  ·injection q with q1 q2 q3
   subst q1
   simp [Value.ownBlock] at ek
  ·cases q
   simp [Value.ownBlock] at ek
   omega
 ·refine (hg.block k (Nat.lt_of_lt_of_le hk hb0.size) (fun ek=>?_)).trans (hb0.block k hk)
  rcases h.2 with ⟨q,_⟩ | ⟨g,cap,cur,q,hgB,_⟩
  ·injection q with q1 q2 q3
   subst q1
   simp [Value.ownBlock] at ek
  ·cases q
   simp [Value.ownBlock] at ek
   exact hne g rfl ek
 ·rcases hx with hx | hx
  ·left
   rcases h.2 with ⟨q,_⟩ | ⟨g,cap,cur,q,hgB,_⟩
   ·injection q with q1 q2 q3
    subst q1
    simp [Value.ownBlock] at hx
   ·cases q
    simp [Value.ownBlock] at hx
    rw [hx]
  ·right
   rw [hx]
   exact hb0.size

end Go.Proofs.YtknmgefpjdfenaaGreat

/- More stores into the reference's tree: a thing more, a thing anew, a handle. -/
namespace Go.Proofs.YtknmgefpjdfenaaGreat
set_option maxRecDepth 100000
set_option maxHeartbeats 8000000
open Go.RowKit Go.Shelf Go.Maps
set_option linter.unusedVariables false

theorem infoX:(Tryz.prog.info? 73).map (fun i=>(i.zero,i.size,i.bytes))=some (some (.agg #[.int .i64 0,.slice none 0 0,.slice none 0 0]),3,56):=by kernel_rfl

theorem undX:Tryz.prog.underlying 74=some (.slice 73):=by kernel_rfl

theorem OwnX.app {B:Nat} {w:World} {a:Option Addr} {c:Nat} {xs:List RT} (h:OwnX B w a c xs) (hB:B ≤ w.heap.size) (hn:xs.length ≤ 1800000000000) :
  ∃ (x c':Nat) (w':World),(∀ ty,(Builtin.append_ #[74,74] ty #[.slice a xs.length c,.slice (some ⟨w.heap.size,0,none⟩) 1 1]).run Tryz.prog (w.alloc (.cells #[.int .i64 0,.slice none 0 0,.slice none 0 0] 73))=.ok (.slice (some ⟨x,0,none⟩) (xs.length + 1) c') w')∧OwnX B w' (some ⟨x,0,none⟩) c' (xs ++ [RT.none])∧Below B w w' ∧
   (∀ k,k < w.heap.size→(∀ x,a=some ⟨x,0,none⟩→k ≠ x)→w'.heap[k]?=w.heap[k]?)∧(a=some ⟨x,0,none⟩ ∨ w.heap.size ≤ x)∧x < w'.heap.size:=by
 obtain ⟨i0,hi,hz0,hz1,hz2⟩:=info_parts infoX
 have hb0:Below w.heap.size w (w.alloc (.cells #[.int .i64 0,.slice none 0 0,.slice none 0 0] 73)):=(Below.refl _ w).alloc (Nat.le_refl _) _
 have h1:OwnX B (w.alloc (.cells #[.int .i64 0,.slice none 0 0,.slice none 0 0] 73)) a c xs:=h.kept (fun g eg=>hb0.block g (h.at eg).1)
 have hbl:=Bl.new w #[.int .i64 0,.slice none 0 0,.slice none 0 0] 73
 obtain ⟨x,c',w',hr,ho2,hg,hx,hlt⟩:=run_append_lies (P:=Tryz.prog) (w.alloc (.cells #[.int .i64 0,.slice none 0 0,.slice none 0 0] 73)) 74 0 B 73 i0 _ 3 56 undX hi hz0 hz1 hz2 rfl (by decide) (.slice a xs.length c) xs.length _ h1 ⟨w.heap.size,0,none⟩ 1 1 (rcs RT.none) rfl
  (fun j u hj=>by rw [World.add_zero_spot,Nat.zero_add]; exact hbl.cell j u (by simpa [rcs,RT.none] using hj)) (by intro z hz; simp [rcs,RT.none] at hz; rcases hz with rfl | rfl | rfl <;> rfl) (by decide) (by unfold maxLen; omega) (by omega) (Nat.le_trans hB hb0.size) _ rfl
 have e1:tcells (xs ++ [RT.none])=tcells xs ++ rcs RT.none:=by simp [tcells]
 have hl:(xs ++ [RT.none]).length=xs.length + 1:=by simp
 refine ⟨x,c',w',fun ty=>hr,by unfold OwnX; rw [e1,hl]; exact ho2,?_,fun k hk hne=>?_,?_,hlt⟩
 ·refine (hb0.mono hB).grown hg (Nat.le_trans hB hb0.size) (fun k ek=>?_)
  rcases h.2 with ⟨q,_⟩ | ⟨g,cap,cur,q,hgB,_⟩
  ·injection q with q1 q2 q3
   subst q1
   simp [Value.ownBlock] at ek
  ·cases q
   simp [Value.ownBlock] at ek
   omega
 ·refine (hg.block k (Nat.lt_of_lt_of_le hk hb0.size) (fun ek=>?_)).trans (hb0.block k hk)
  rcases h.2 with ⟨q,_⟩ | ⟨g,cap,cur,q,hgB,_⟩
  ·injection q with q1 q2 q3
   subst q1
   simp [Value.ownBlock] at ek
  ·cases q
   simp [Value.ownBlock] at ek
   exact hne g rfl ek
 ·rcases hx with hx | hx
  ·left
   rcases h.2 with ⟨q,_⟩ | ⟨g,cap,cur,q,hgB,_⟩
   ·injection q with q1 q2 q3
    subst q1
    simp [Value.ownBlock] at hx
   ·cases q
    simp [Value.ownBlock] at hx
    rw [hx]
  ·right
   rw [hx]
   exact hb0.size

end Go.Proofs.YtknmgefpjdfenaaGreat

/- The reference's handles: Close, Open. -/
namespace Go.Proofs.YtknmgefpjdfenaaGreat
set_option maxRecDepth 100000
set_option maxHeartbeats 8000000
open Go.RowKit Go.Shelf Go.Maps
set_option linter.unusedVariables false

def RTr.opened (s:RTr) (f i:Nat):RTr:={ s with op:=fun j=>if j=f then i else s.op j }

theorem SM.setG {u:World} {S:Nat→Prop} {g:Nat} {s s':RTr} (h:SM u S g s) (j:Nat) (v:Value) (e1:s'.th=s.th) (e2:s'.ta=s.ta) (e3:s'.tc=s.tc) (hc:∀ i,i < 18→(if i=j then v else scell s i)=scell s' i):SM (u.setCell ⟨g,j,none⟩ v) S g s':=by
 have ko:∀ k t' (cs:Array Value),u.heap[k]?=some (Obj.cells cs t' (0,0))→77 ≠ t'→(u.setCell ⟨g,j,none⟩ v).heap[k]?=u.heap[k]?:=fun k t' cs hh hne=>Below.heap_setCell _ _ _ _ (row_neT h.str hh hne)
 refine ⟨(h.str.set j v).congr hc,?_,fun i x e=>?_,fun i x e=>?_,by rw [e1]; exact h.na1,h.sg,by rw [e2]; exact h.sr,by rw [e1]; exact h.sd,by rw [e1]; exact h.sn,fun k hk=>by simpa [World.setCell] using h.lt k hk⟩
 ·rw [e1,e2,e3]
  exact h.row.kept (fun b eb=>by obtain ⟨_,_,cur,hcu⟩:=h.row.at eb; exact ko b _ _ hcu (by decide))
 ·rw [e1] at e
  exact (h.dat i x e).kept (fun b eb=>by obtain ⟨_,_,cur,hcu⟩:=(h.dat i x e).lt eb; exact ko b _ _ hcu (by decide))
 ·rw [e1] at e
  exact (h.nam i x e).kept (fun b eb=>by obtain ⟨_,_,cur,hcu⟩:=(h.nam i x e).at eb; exact ko b _ _ hcu (by decide))

theorem SM.opened {u:World} {S:Nat→Prop} {g:Nat} {s:RTr} (h:SM u S g s) {f:Nat} (hf:f < 16) (i:Nat):SM (u.setCell ⟨g,2 + f,none⟩ (.int .i64 (i:Int))) S g (s.opened f i):=by
 refine h.setG (2 + f) _ rfl rfl rfl (fun j hj=>?_)
 unfold scell RTr.opened
 by_cases h0:j=0
 ·rw [if_neg (by omega),if_pos h0,if_pos h0]
 ·by_cases h1:j=1
  ·rw [if_neg (by omega),if_neg h0,if_pos h1,if_neg h0,if_pos h1]
  ·by_cases h2:j=2 + f
   ·rw [if_pos h2,if_neg h0,if_neg h1]
    simp only
    rw [if_pos (by omega)]
   ·rw [if_neg h2,if_neg h0,if_neg h1,if_neg h0,if_neg h1]
    simp only
    rw [if_neg (by omega)]

def clR (s:RTr) (f:Int):Int × RTr:=if ofR s f=0 then (18,s) else (0,s.opened f.toNat 0)

theorem rclose_any {w:World} {S:Nat→Prop} {g:Nat} {s:RTr} (h:SM w S g s) (f:Int) :
  Calls Tryz.prog 38 #[.pointer (some ⟨g,0,none⟩),.int .i64 f] w fun e w'=>e=.returned (.int .i64 (clR s f).1)∧SM w' S g (clR s f).2∧Kp S w w':=by
 have K:=rof_any h f
 unfold clR
 by_cases h0:ofR s f=0
 ·rw [h0] at K
  rw [if_pos h0]
  have K:=hide K
  have HR:Hid (SM w S g s∧Kp S w w):=⟨h,Kp.of (Below.refl _ _)⟩
  clear h h0
  go_enter Tryz.func38,Tryz.ntmps38
  go_wp2_with fail
  refine (unhide K).mono ?_
  rintro e w1 ⟨rfl,rfl⟩
  clear K
  go_wp2_with fail
  go_ret
  exact ⟨rfl,HR.out⟩
 ·rw [if_neg h0]
  obtain ⟨k,rfl,hk⟩:∃ k:Nat,f=(k:Int)∧k < 16:=by
   unfold ofR at h0
   by_cases q:0 ≤ f∧f < 16
   ·exact ⟨f.toNat,by omega,by omega⟩
   ·rw [if_neg q] at h0; exact absurd rfl h0
  have d0:((ofR s (k:Int):Int) == 0)=false:=by simp; omega
  have c3:=h.open_cell hk
  have cf:=h.cells.2.2
  have l0:(0:Int) ≤ (k:Int):=by omega
  have l1:(k:Int) < 16:=by omega
  have HR:Hid (SM (w.setCell ⟨g,2 + k,none⟩ (.int .i64 0)) S g (s.opened (k:Int).toNat 0)∧Kp S w (w.setCell ⟨g,2 + k,none⟩ (.int .i64 0))):=⟨h.opened hk 0,(Kp.of (Below.refl _ w)).setCell (p:=⟨g,2 + k,none⟩) (.inl h.sg) _⟩
  have K:=hide K
  clear h h0
  generalize (ofR s (k:Int):Int)=ov at *
  go_enter Tryz.func38,Tryz.ntmps38
  go_wp2_with fail
  refine (unhide K).mono ?_
  rintro e w1 ⟨rfl,rfl⟩
  clear K
  go_wp2_with fail
  go_ret
  exact ⟨rfl,HR.out⟩

theorem fdR_ends {s:RTr} (hs:Rs s) (p:List UInt8):((fdR s p).1=0∧∃ t,s.th[(fdR s p).2]?=some t) ∨ (((fdR s p).1=11 ∨ (fdR s p).1=13 ∨ (fdR s p).1=16)∧(fdR s p).2=0):=by
 unfold fdR
 cases spl p with
 | none=>exact .inr ⟨.inr (.inr rfl),rfl⟩
 | some ns =>
  obtain ⟨t,ht,_⟩:=hs.root
  rcases goR_ends hs ns 1 ⟨t,ht⟩ with q | ⟨q | q,q'⟩
  ·exact .inl q
  ·exact .inr ⟨.inl q,q'⟩
  ·exact .inr ⟨.inr (.inl q),q'⟩

def frH (s:RTr):Option Nat:=(List.range 16).find? (fun f=>decide (s.op f=0))

theorem frH_some {s:RTr} {f:Nat} (hf:f < 16) (h0:s.op f=0) (hJ:∀ j,j < f→s.op j ≠ 0):frH s=some f:=by
 unfold frH
 rw [List.find?_range_eq_some]
 exact ⟨by simpa using h0,by simpa using hf,fun j hj=>by simpa using hJ j hj⟩

theorem frH_none {s:RTr} (hJ:∀ j,j < 16→s.op j ≠ 0):frH s=none:=by
 unfold frH
 rw [List.find?_eq_none]
 intro j hj
 simpa using hJ j (List.mem_range.1 hj)

def kiR (s:RTr) (i:Nat):Int:=match s.th[i]? with | some t=>t.k | none=>0

theorem kiR_of {s:RTr} {i:Nat} {t:RT} (h:s.th[i]?=some t):kiR s i=t.k:=by unfold kiR; rw [h]

def opL (s:RTr) (i:Nat):Nat × Int × RTr:=match frH s with
 | some f=>(f,0,s.opened f i)
 | none=>(0,19,s)

theorem opL_some {s:RTr} {f:Nat} (i:Nat) (h:frH s=some f):opL s i=(f,0,s.opened f i):=by unfold opL; rw [h]

theorem opL_none {s:RTr} (i:Nat) (h:frH s=none):opL s i=(0,19,s):=by unfold opL; rw [h]

def opR (s:RTr) (p:List UInt8):Nat × Int × RTr:=if (fdR s p).1 ≠ 0 then (0,(fdR s p).1,s) else if kiR s (fdR s p).2=2 then (0,14,s) else opL s (fdR s p).2

theorem ropen_any {w:World} {S:Nat→Prop} {g:Nat} {s:RTr} (h:SM w S g s) (hs:Rs s) {p:List UInt8} (hp:p.length ≤ 9223372036854775807) :
  Calls Tryz.prog 36 #[.pointer (some ⟨g,0,none⟩),.string (St p)] w fun e w'=>e=.returned (.tuple #[.int .i64 ((opR s p).1:Int),.int .i64 (opR s p).2.1])∧SM w' S g (opR s p).2.2∧Kp S w w':=by
 have K:=hide (rfind_any h hs hp)
 have HT:=hide h
 unfold opR
 rcases fdR_ends hs p with ⟨q1,t,q2⟩ | ⟨q1,q2⟩
 ·rw [q1] at K
  rw [if_neg (by omega),kiR_of q2]
  have hil:(fdR s p).2 < s.th.length:=(List.getElem?_eq_some_iff.1 q2).1
  have hln:=hs.len
  have HX:=hide q2
  clear h hs q1 q2 hp
  generalize (fdR s p).2=i at *
  generalize St p=sp at *
  have hi0:(0:Int) ≤ (i:Int):=by omega
  have hil':(i:Int) < (s.th.length:Int):=by omega
  by_cases hk:t.k=2
  ·rw [if_pos hk]
   have HK:=hide hk
   clear hk hil
   go_enter Tryz.func36,Tryz.ntmps36
   go_wp2_with fail
   refine (unhide K).mono ?_
   rintro e w1 ⟨rfl,hb⟩
   have HT1:=hide (HT.out.below hb)
   obtain ⟨rb,era,_,t0,_,_,_⟩:=HT1.out.row.cell HX.out
   have g1:=HT1.out.cells.2.1
   rw [era] at g1
   rw [HK.out] at t0
   have HB:=hide (Kp.of (S:=S) hb)
   clear K hb HT
   generalize s.th.length=tl at *
   go_wp2_with fail
   go_ret2
   exact ⟨rfl,HT1.out,HB.out⟩
  ·rw [if_neg hk]
   have d1:(t.k == 2)=false:=by simpa using hk
   have H0:Hid (∀ j,j < 0→s.op j ≠ 0):=fun j hj=>by omega
   clear hk hil
   go_enter Tryz.func36,Tryz.ntmps36
   go_wp2_with fail
   refine (unhide K).mono ?_
   rintro e w1 ⟨rfl,hb⟩
   have HT1:=hide (HT.out.below hb)
   obtain ⟨rb,era,_,t0,_,_,_⟩:=HT1.out.row.cell HX.out
   have g1:=HT1.out.cells.2.1
   have gf:=HT1.out.cells.2.2
   rw [era] at g1
   have HB:=hide (Kp.of (S:=S) hb)
   clear K hb HT
   generalize s.th.length=tl at *
   generalize t.k=tk at *
   go_wp2_with fail
   go_loopw [8] (fun iv wr=>∃ f:Nat,f ≤ 16∧iv=.int .i64 (f:Int)∧wr=w1∧Hid (∀ j,j < f→s.op j ≠ 0)) (fun iv _=>16 - (intOf iv).toNat)
   case atStart=>exact ⟨0,Nat.zero_le _,rfl,rfl,H0⟩
   case round =>
    obtain ⟨f,hf,rfl,hwr,hJ⟩:=hrel
    obtain rfl:=hwr.symm
    clear H0
    by_cases hlt:f < 16
    ·have c:=HT1.out.open_cell hlt
     have l1:(f:Int) < 16:=by omega
     have l0:(0:Int) ≤ (f:Int):=by omega
     by_cases he:s.op f=0
     ·have HR:Hid (SM (w1.setCell ⟨g,2 + f,none⟩ (.int .i64 (i:Int))) S g (s.opened f i)∧Kp S w (w1.setCell ⟨g,2 + f,none⟩ (.int .i64 (i:Int)))):=⟨HT1.out.opened hlt i,HB.out.setCell (p:=⟨g,2 + f,none⟩) (.inl HT1.out.sg) _⟩
      have HE:=hide (opL_some i (frH_some hlt he hJ.out))
      rw [he] at c
      clear hJ he HT1 HB
      go_wp2_with fail
      go_ret2
      rw [HE.out]
      exact ⟨rfl,HR.out⟩
     ·have d2:((s.op f:Int) == 0)=false:=by simp; omega
      have HJ:Hid (∀ j,j < f + 1→s.op j ≠ 0):=fun j hj=>by
       by_cases e:j=f
       ·subst e; exact he
       ·exact hJ.out j (by omega)
      clear hJ he HB HT1
      generalize (s.op f:Int)=ov at *
      go_wp2_with fail
      go_roundw
      case rel=>exact ⟨f + 1,by omega,by go_num,trivial,HJ⟩
      case measure=>simp [intOf]; omega
    ·obtain rfl:f=16:=by omega
     have HE:=hide (opL_none i (frH_none hJ.out))
     clear hJ
     go_wp2_with fail
     go_ret2
     rw [HE.out]
     exact ⟨rfl,HT1.out,HB.out⟩
 ·have hne:(fdR s p).1 ≠ 0:=by omega
  rw [if_pos hne,]
  rw [q2] at K
  have d1:((fdR s p).1 == 0)=false:=by simpa using hne
  clear h hs q1 q2 hp hne
  generalize (fdR s p).1=E at *
  generalize St p=sp at *
  go_enter Tryz.func36,Tryz.ntmps36
  go_wp2_with fail
  refine (unhide K).mono ?_
  rintro e w1 ⟨rfl,hb⟩
  have HR:Hid (SM w1 S g s∧Kp S w w1):=⟨HT.out.below hb,Kp.of hb⟩
  clear K hb HT
  go_wp2_with fail
  go_ret2
  exact ⟨rfl,HR.out⟩

end Go.Proofs.YtknmgefpjdfenaaGreat

/- The reference's tree where its row of things changes; append(d, b); Read. -/
namespace Go.Proofs.YtknmgefpjdfenaaGreat
set_option maxRecDepth 100000
set_option maxHeartbeats 8000000
open Go.RowKit Go.Shelf Go.Maps
set_option linter.unusedVariables false

theorem SM.rows {u u':World} {S S':Nat→Prop} {g:Nat} {s s':RTr} (h:SM u S g s) (hstr:u'.rowIs g 77 18 (scell s')) (hrow:OwnX 0 u' s'.ta s'.tc s'.th)
  (hk:∀ k,S k→k ≠ g→(∀ b:Nat,s.ta=some ⟨b,0,none⟩→k ≠ b)→u'.heap[k]?=u.heap[k]?)
  (hd:∀ (i:Nat) (x:RT),s'.th[i]?=some x→(∃ y,s.th[i]?=some y∧x.d=y.d∧x.da=y.da∧x.dc=y.dc) ∨ (Own 0 u' x.da x.d.length x.dc x.d∧∀ b:Nat,x.da=some ⟨b,0,none⟩→S' b))
  (hn:∀ (i:Nat) (x:RT),s'.th[i]?=some x→(∃ y,s.th[i]?=some y∧x.ns=y.ns∧x.na=y.na∧x.nc=y.nc) ∨ (x.ns=[]∧x.na=none∧x.nc=0))
  (hS:∀ k,S k→S' k) (hta:∀ b:Nat,s'.ta=some ⟨b,0,none⟩→S' b) (hl:∀ k,S' k→k < u'.heap.size):SM u' S' g s':=by
 have kb:∀ (k:Nat) (t':TypeId) (cs:Array Value),S k→u.heap[k]?=some (Obj.cells cs t' (0,0))→77 ≠ t'→73 ≠ t'→u'.heap[k]?=u.heap[k]?:=fun k t' cs hs hh h1 h2 =>
  hk k hs (row_neT h.str hh h1) (fun b eb e=>by
   obtain ⟨_,_,cur,hcu⟩:=h.row.at eb
   subst e
   rw [hcu] at hh
   exact h2 (cells_ty hh))
 refine ⟨hstr,hrow,fun i x e=>?_,fun i x e=>?_,fun i j x y b e e' eb eb'=>?_,hS _ h.sg,hta,fun i x b e eb=>?_,fun i x b e eb=>?_,hl⟩
 ·rcases hd i x e with ⟨y,ey,q1,q2,q3⟩ | ⟨q,_⟩
  ·rw [q1,q2,q3]
   exact (h.dat i y ey).kept (fun b eb=>by obtain ⟨_,_,cur,hcu⟩:=(h.dat i y ey).lt eb; exact kb b _ _ (h.sd i y b ey eb) hcu (by decide) (by decide))
  ·exact q
 ·rcases hn i x e with ⟨y,ey,q1,q2,q3⟩ | ⟨q1,q2,q3⟩
  ·rw [q1,q2,q3]
   exact (h.nam i y ey).kept (fun b eb=>by obtain ⟨_,_,cur,hcu⟩:=(h.nam i y ey).at eb; exact kb b _ _ (h.sn i y b ey eb) hcu (by decide) (by decide))
  ·rw [q1,q2,q3]
   exact ⟨rfl,.inl ⟨rfl,rfl⟩⟩
 ·rcases hn i x e with ⟨x',ex',_,q2,_⟩ | ⟨_,q2,_⟩
  ·rcases hn j y e' with ⟨y',ey',_,q2',_⟩ | ⟨_,q2',_⟩
   ·rw [q2] at eb
    rw [q2'] at eb'
    exact h.na1 i j x' y' b ex' ey' eb eb'
   ·rw [q2'] at eb'; cases eb'
  ·rw [q2] at eb; cases eb
 ·rcases hd i x e with ⟨y,ey,q1,q2,q3⟩ | ⟨_,q⟩
  ·rw [q2] at eb
   exact hS _ (h.sd i y b ey eb)
  ·exact q b eb
 ·rcases hn i x e with ⟨y,ey,q1,q2,q3⟩ | ⟨q1,q2,q3⟩
  ·rw [q2] at eb
   exact hS _ (h.sn i y b ey eb)
  ·rw [q2] at eb; cases eb

theorem SM.setD {u w':World} {S:Nat→Prop} {g i rb:Nat} {s:RTr} {t:RT} (h:SM u S g s) (ht:s.th[i]?=some t) (hrb:s.ta=some ⟨rb,0,none⟩) {a':Option Addr} {c':Nat} {d':List Int} (hb:Below u.heap.size u w') (ho:Own u.heap.size w' a' d'.length c' d') :
  SM (w'.setCell ⟨rb,i * 3 + 1,none⟩ (.slice a' d'.length c')) (Up S u.heap.size w'.heap.size) g { s with th:=s.th.set i { t with d:=d',da:=a',dc:=c' } }:=by
 have hrow:=(h.below hb).row
 have hs':=(h.below hb).str
 rw [hrb] at hrow
 obtain ⟨hlt,_,rcur,hrc⟩:=hrow.at rfl
 have hlen:i < s.th.length:=(List.getElem?_eq_some_iff.1 ht).1
 have hrS:=h.sr rb hrb
 have cs':∀ (j:Nat) (x:RT),(s.th.set i { t with d:=d',da:=a',dc:=c' })[j]?=some x→(j=i∧x={ t with d:=d',da:=a',dc:=c' }) ∨ (j ≠ i∧s.th[j]?=some x):=fun j x e=>by
  by_cases hj:j=i
  ·subst hj
   rw [List.getElem?_set_self hlen] at e
   cases e
   exact .inl ⟨rfl,rfl⟩
  ·rw [List.getElem?_set_ne (fun q=>hj q.symm)] at e
   exact .inr ⟨hj,e⟩
 refine h.rows ((hs'.setOther (a:=⟨rb,i * 3 + 1,none⟩) (fun e=>(row_neT hs' hrc (by decide)) e.symm) _).congr (fun j hj=>?_)) ?_ (fun k hs hg hr=>?_) (fun j x e=>?_) (fun j x e=>?_) (fun k hs=>.inl hs) (fun b e=>.inl (h.sr b e)) (fun k q=>?_)
 ·unfold scell
  simp
 ·show OwnX 0 _ s.ta s.tc (s.th.set i _)
  rw [hrb]
  exact OwnX.setj (x:=t) hrow ht (by omega) rfl
 ·exact (Below.heap_setCell _ _ _ _ (hr rb hrb)).trans (hb.block k (h.lt k hs))
 ·rcases cs' j x e with ⟨rfl,rfl⟩ | ⟨_,e'⟩
  ·right
   refine ⟨(ho.base (Nat.zero_le _)).kept (fun b eb=>?_),fun b eb=>.inr ⟨(ho.lt eb).2.1,(ho.lt eb).1⟩⟩
   have:=(ho.lt eb).2.1
   have:=h.lt rb hrS
   exact Below.heap_setCell _ _ _ _ (by show b ≠ rb; omega)
  ·exact .inl ⟨x,e',rfl,rfl,rfl⟩
 ·rcases cs' j x e with ⟨rfl,rfl⟩ | ⟨_,e'⟩
  ·exact .inl ⟨t,ht,rfl,rfl,rfl⟩
  ·exact .inl ⟨x,e',rfl,rfl,rfl⟩
 ·have hz:(w'.setCell ⟨rb,i * 3 + 1,none⟩ (.slice a' d'.length c')).heap.size=w'.heap.size:=by simp [World.setCell]
  rw [hz]
  exact q.elim (fun e=>Nat.lt_of_lt_of_le (h.lt k e) hb.size) (fun e=>e.2)

theorem own_one {B:Nat} {w:World} {a:Option Addr} {n c:Nat} {xs:List Int} (h:Own B w a n c xs) (hB:B ≤ w.heap.size) (z:Int) (hn:n ≤ 18000000000000) :
  ∃ a' c' w',(∀ ty,(Builtin.append_ #[34,34] ty #[.slice a n c,.slice (some ⟨w.heap.size,0,none⟩) 1 1]).run Tryz.prog (w.alloc (.cells #[.int .u8 z] 5))=.ok (.slice a' (n + 1) c') w')∧Own B w' a' (n + 1) c' (xs ++ [z])∧Below B w w':=by
 have hb0:Below w.heap.size w (w.alloc (.cells #[.int .u8 z] 5)):=(Below.refl _ w).alloc (Nat.le_refl _) _
 have h1:Own B (w.alloc (.cells #[.int .u8 z] 5)) a n c xs:=h.below hb0 (Nat.le_refl _)
 have h2:Has (w.alloc (.cells #[.int .u8 z] 5)) (some ⟨w.heap.size,0,none⟩) 1 [z]:=⟨rfl,fun _=>⟨w.heap.size,0,rfl,fun j hj=>by
  obtain rfl:j=0:=by omega
  exact (Bl.new w #[.int .u8 z] 5).cell 0 _ rfl⟩⟩
 obtain ⟨a',c',w',r,o,_,b⟩:=run_append_bytes h1 (Nat.le_trans hB hb0.size) 1 h2 (by omega)
 exact ⟨a',c',w',r,o,(hb0.mono hB).trans b⟩

theorem own_bareS (w:World):Own w.heap.size (w.alloc (.cells #[] 5)) (some ⟨w.heap.size,0,none⟩) 0 0 [] :=
 ⟨rfl,Nat.le_refl _,by unfold maxLen; omega,.inr ⟨w.heap.size,#[],rfl,Nat.le_refl _,World.alloc_heap_new w _,rfl,rfl⟩⟩

theorem app_copy {w:World} {a:Option Addr} {n c:Nat} {xs:List Int} (h:Has w a n xs) (hn:n ≤ 140737488351232) :
  ∃ a1 c1 w1,(∀ ty,(Builtin.append_ #[34,34] ty #[.slice (some ⟨w.heap.size,0,none⟩) 0 0,.slice a n c]).run Tryz.prog (w.alloc (.cells #[] 5))=.ok (.slice a1 n c1) w1)∧Own w.heap.size w1 a1 n c1 xs∧Below w.heap.size w w1:=by
 have hb0:Below w.heap.size w (w.alloc (.cells #[] 5)):=(Below.refl _ w).alloc (Nat.le_refl _) _
 obtain ⟨a1,c1,w1,r1,o1,_,b1⟩:=run_append_bytes (own_bareS w) hb0.size c (h.later hb0) (by omega)
 rw [Nat.zero_add] at r1 o1
 exact ⟨a1,c1,w1,r1,o1,hb0.trans b1⟩

end Go.Proofs.YtknmgefpjdfenaaGreat

