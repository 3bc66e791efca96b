/- Joined: FBun, FCpy. -/
import Derived.Test.YtefdkpbmeoakgaaGreatDoorDnJ37
import Derived.Laws.CopyOwn
import Derived.Deep.WholeRow
/- akO of rows beside whatever else is held. -/
namespace Go.Proofs.YtefdkpbmeoakgaaGreatDoor
set_option maxRecDepth 100000
set_option maxHeartbeats 8000000
open Go.RowKit Go.Shelf Go.Maps
set_option linter.unusedVariables false
structure Bun (n0:Nat) (Q:List (Nat×Obj)->World->Prop):Prop where
 later:∀ {rows v v'},Q rows v->Below v.heap.size v v'->Q rows v'
 push:∀ {rows v v' k ob},Q rows v->Below v.heap.size v v'->v.heap.size<=k->v'.heap[k]?=some ob->Q ((k,ob)::rows) v'
 row:∀ {rows v x},Q rows v->x∈rows->v.heap[x.1]?=some x.2
 sub:∀ {rows rows' v},Q rows v->(∀ x∈rows',x∈rows)->Q rows' v
 put:∀ {rows v k cs ty},Q ((k,.cells cs ty)::rows) v->n0<=k->(∀ x∈rows,x.1≠k)->∀ j val,Q ((k,.cells (cs.setIfInBounds j val) ty)::rows) (v.setCell ⟨k,j,none⟩ val)
 whole:∀ {rows v k cs ty},Q ((k,.cells cs ty)::rows) v->n0<=k->(∀ x∈rows,x.1≠k)->∀ cs',Q ((k,.cells cs' ty)::rows) (v.setRow k cs')
 obj:∀ {rows v k ob},Q ((k,ob)::rows) v->n0<=k->(∀ x∈rows,x.1≠k)->∀ ob',Q ((k,ob')::rows) (v.putObj k ob')
 sz:∀ {rows v},Q rows v->n0<=v.heap.size
 grow:∀ {rows v v' k ob ob'},Q ((k,ob)::rows) v->n0<=k->(∀ x∈rows,x.1≠k)->v.grownBy v' (some k)->v'.heap[k]?=some ob'->Q ((k,ob')::rows) v'
 ahV:∀ {rows v v' k ob ob' g ob2},Q ((k,ob)::rows) v->n0<=k->(∀ x∈rows,x.1≠k)->v.grownBy v' (some k)->v'.heap[k]?=some ob'->v.heap.size<=g->v'.heap[g]?=some ob2->Q ((g,ob2)::(k,ob')::rows) v'
theorem Bun.pop {n0 Q}(hq:Bun n0 Q){rows:List (Nat×Obj)}{v:World}{x:Nat×Obj}(h:Q (x::rows) v):Q rows v:=hq.sub h fun y hy=>List.mem_cons_of_mem _ hy
theorem Bun.lt {n0 Q}(hq:Bun n0 Q){rows:List (Nat×Obj)}{v:World}{x:Nat×Obj}(h:Q rows v)(hx:x∈rows):x.1<v.heap.size:=(Array.getElem?_eq_some_iff.1 (hq.row h hx)).1
theorem Bun.new {n0 Q}(hq:Bun n0 Q){rows:List (Nat×Obj)}{v:World}(h:Q rows v)(ob:Obj):Q ((v.heap.size,ob)::rows) (v.alloc ob) :=
 hq.push h ((Below.refl _ _).alloc (Nat.le_refl _) _) (Nat.le_refl _) (World.alloc_heap_new _ _)
theorem Bun.ne {n0 Q}(hq:Bun n0 Q){rows:List (Nat×Obj)}{v:World}(h:Q rows v):∀ x∈rows,x.1≠v.heap.size:=fun x hx e=>by
 have:=hq.lt h hx
 omega
theorem Lst.grow {w P G E g}{rows:List (Nat×Obj)}{i V F cg lg dg X C L D}{u u':World}{S}{k:Nat}{ob ob':Obj}(h:Lst w P G E g ((k,ob)::rows) i V F cg lg dg X C L D u S)(hk:w.heap.size<=k)(h0:1<w.heap.size)(hn:∀ x∈rows,x.1≠k)(hg:u.grownBy u' (some k))(ho:u'.heap[k]?=some ob'):Lst w P G E g ((k,ob')::rows) i V F cg lg dg X C L D u' S:=by
 have hS:=(h.hl.ro (k,ob) (by simp)).2
 obtain⟨Sg,Sc,Sl,Sd,m,mk,ml,az⟩:=h.hl.gv
 refine⟨⟨(az.jC (fun q hq=>hg.block q (az.lt hq) (fun e=>hS (by rw[← Option.some.inj e];exact hq))) (hg.block 1 az.tab.lt (fun e=>by have:=Option.some.inj e;omega)) hg.size).gv,h.hl.ge,h.hl.bel.grown hg h.hl.bel.size (fun j e=>by rw[← Option.some.inj e];exact hk),h.hl.sz,fun x hx=>?_⟩,h.gs,h.sq,h.vl,h.fl,h.vb,h.eb,h.eu,h.ed⟩
 rcases List.mem_cons.1 hx with e | e
 ·subst e;exact⟨ho,hS⟩
 ·have:=h.hl.ro x (List.mem_cons_of_mem _ e)
  exact⟨(hg.block x.1 (Array.getElem?_eq_some_iff.1 this.1).1 (fun q=>hn x e (Option.some.inj q))).trans this.1,this.2⟩
theorem bF {w:World}{P:Nat->Int}{G:Geo}{E:Nat->Bool}{g o:Nat}{i:Nat}{V:Nat->List Int}{F:Nat->Bool}{V':Nat->List Int}{K:Nat->Bool}(h0:1<w.heap.size):Bun w.heap.size (fun rows v=>Lp w P G E g o rows i V F V' K v) where
 later h hb:=h.later hb
 push h hb hk ho:=h.push hb hk ho
 row h hx:=h.row hx
 sub h hr:=h.sub hr
 put {rows v k cs ty} h hk hn j val:=by
  have hB1:Bl v k cs ty:=h.row (x:=(k,.cells cs ty)) (by simp)
  exact h.swap hk h0 hn (u':=v.setCell ⟨k,j,none⟩ val) (fun q hq=>Below.heap_setCell _ _ _ _ hq) ((Below.refl _ _).setCell (p:=⟨k,j,none⟩) hk _) (hB1.set j val)
 whole {rows v k cs ty} h hk hn cs':=by
  have hB1:v.heap[k]?=some (.cells cs ty):=h.row (x:=(k,.cells cs ty)) (by simp)
  exact h.swap hk h0 hn (u':=v.setRow k cs') (fun q hq=>setRow_other _ _ _ _ hq) (below_setRow (Below.refl _ _) hk _) (setRow_heap _ _ _ _ _ _ hB1)
 obj {rows v k ob} h hk hn ob':=h.swap hk h0 hn (u':=v.putObj k ob') (fun q hq=>World.putObj_heap_other hq) ((Below.refl w.heap.size v).grown (grownBy_putObj' v k ob') h.bel.size (fun j e=>by cases e;exact hk)) (World.putObj_heap_same (h.lt (x:=(k,ob)) (by simp)))
 sz h:=h.bel.size
 grow h hk hn hg ho:=by
  obtain⟨E0,cg,lg,dg,X,C,L,D,S,N,h,r⟩:=h
  exact⟨E0,cg,lg,dg,X,C,L,D,S,N,h.grow hk h0 hn hg ho,r⟩
 ahV h hk hn hg ho hz h2:=by
  obtain⟨E0,cg,lg,dg,X,C,L,D,S,N,h,r⟩:=h
  refine⟨E0,cg,lg,dg,X,C,L,D,S,N,(h.grow hk h0 hn hg ho).add h2 (fun hs=>?_),r⟩
  obtain⟨Sg,Sc,Sl,Sd,m,mk,ml,az⟩:=h.hl.gv
  have:=az.lt hs
  omega
theorem uN (w:World):Bun w.heap.size (fun rows v=>Below w.heap.size w v/\∀ x∈rows,v.heap[x.1]?=some x.2) where
 later {rows v v'} h hb:=⟨h.1.trans (hb.mono h.1.size),fun x hx=>(hb.block x.1 (Array.getElem?_eq_some_iff.1 (h.2 x hx)).1).trans (h.2 x hx)⟩
 push {rows v v' k ob} h hb hk ho:=⟨h.1.trans (hb.mono h.1.size),fun x hx=>by
  rcases List.mem_cons.1 hx with e | e
  ·rw[e];exact ho
  ·exact(hb.block x.1 (Array.getElem?_eq_some_iff.1 (h.2 x e)).1).trans (h.2 x e)⟩
 row h hx:=h.2 _ hx
 sub h hr:=⟨h.1,fun x hx=>h.2 x (hr x hx)⟩
 put {rows v k cs ty} h hk hn j val:=⟨h.1.setCell (p:=⟨k,j,none⟩) hk _,fun x hx=>by
  have hB1:Bl v k cs ty:=h.2 (k,.cells cs ty) (by simp)
  rcases List.mem_cons.1 hx with e | e
  ·rw[e];exact hB1.set j val
  ·exact(Below.heap_setCell _ _ _ _ (hn x e)).trans (h.2 x (List.mem_cons_of_mem _ e))⟩
 whole {rows v k cs ty} h hk hn cs':=⟨below_setRow h.1 hk _,fun x hx=>by
  have hB1:v.heap[k]?=some (.cells cs ty):=h.2 (k,.cells cs ty) (by simp)
  rcases List.mem_cons.1 hx with e | e
  ·rw[e];exact setRow_heap _ _ _ _ _ _ hB1
  ·exact(setRow_other _ _ _ _ (hn x e)).trans (h.2 x (List.mem_cons_of_mem _ e))⟩
 obj {rows v k ob} h hk hn ob':=⟨h.1.grown (grownBy_putObj' v k ob') h.1.size (fun j e=>by cases e;exact hk),fun x hx=>by
  have hlt:k<v.heap.size:=(Array.getElem?_eq_some_iff.1 (h.2 (k,ob) (by simp))).1
  rcases List.mem_cons.1 hx with e | e
  ·rw[e];exact World.putObj_heap_same hlt
  ·exact(World.putObj_heap_other (hn x e)).trans (h.2 x (List.mem_cons_of_mem _ e))⟩
 sz h:=h.1.size
 grow {rows v v' k ob ob'} h hk hn hg ho:=⟨h.1.grown hg h.1.size (fun j e=>by rw[← Option.some.inj e];exact hk),fun x hx=>by
  rcases List.mem_cons.1 hx with e | e
  ·rw[e];exact ho
  ·have:=h.2 x (List.mem_cons_of_mem _ e)
   exact(hg.block x.1 (Array.getElem?_eq_some_iff.1 this).1 (fun q=>hn x e (Option.some.inj q))).trans this⟩
 ahV {rows v v' k ob ob' g ob2} h hk hn hg ho hz h2:=⟨h.1.grown hg h.1.size (fun j e=>by rw[← Option.some.inj e];exact hk),fun x hx=>by
  rcases List.mem_cons.1 hx with e | hx
  ·rw[e];exact h2
  ·rcases List.mem_cons.1 hx with e | e
   ·rw[e];exact ho
   ·have:=h.2 x (List.mem_cons_of_mem _ e)
    exact(hg.block x.1 (Array.getElem?_eq_some_iff.1 this).1 (fun q=>hn x e (Option.some.inj q))).trans this⟩
theorem aaK {w}{g c at0 m dn dc c2:Nat}{ys:List Int}{cur}(hg:Bl w g cur 5)(hc:cur.size=c){a2:Option Addr}(h:Has w a2 m ys)(hm0:0<m)(hmd:m<=dn)(hfit:at0+m<=c)(ty:TypeId) :
  (Builtin.copy_ #[71,71] ty #[.slice (cutAt (some ⟨g,0,none⟩) c at0) dn dc,.slice a2 m c2]).run Tryz.prog w=.ok (goInt m) (w.setRow g (cur.toList.take at0++ys.map (Value.int .u8)++cur.toList.drop (at0+m)).toArray):=by
 have hlen:=h.1
 obtain⟨b,off,rfl,hcs⟩:=h.2 hm0
 have hcut:cutAt (some ⟨g,0,none⟩) c at0=some ⟨g,at0,none⟩:=by
  unfold cutAt
  rw[if_neg (by omega),Option.map_some,Nat.mul_one,World.aF,Nat.zero_add]
 have hs:∀ (j:Nat) v,(ys.map (Value.int .u8))[j]?=some v->w.cell? ((⟨b,off,none⟩:Addr).add j)=some v:=by
  intro j v hv
  have hj:j<ys.length:=by
   have:=(List.getElem?_eq_some_iff.1 hv).1
   simpa using this
  rw[World.aF,hcs j (by omega)]
  rw[List.getElem?_map,List.getElem?_eq_getElem hj] at hv
  rw[List.getElem?_eq_getElem hj]
  simpa using hv
 have hl:(ys.map (Value.int .u8)).length=m:=by rw[List.length_map,hlen]
 have hm:(ys.map (Value.int .u8)).length=Nat.min m dn:=by rw[hl];exact(Nat.min_eq_left (by omega)).symm
 have hr:=run_copy_row (P:=Tryz.prog) w 71 71 ty 5 g at0 dn dc ⟨b,off,none⟩ m c2 cur 5 (ys.map (Value.int .u8)) Tryz.underlying71 qI hg hm hs (by rw[hl,hc];omega) (cu ys)
 rw[hcut,hr,hl]
end Go.Proofs.YtefdkpbmeoakgaaGreatDoor
