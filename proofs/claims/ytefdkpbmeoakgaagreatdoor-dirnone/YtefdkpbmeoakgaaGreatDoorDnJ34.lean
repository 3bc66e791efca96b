/- Joined: WWake, OMathA, OMathB, IHold. -/
import Derived.Test.YtefdkpbmeoakgaaGreatDoorDnJ31
import Derived.Test.YtefdkpbmeoakgaaGreatDoorDnJ25
import Derived.Test.YtefdkpbmeoakgaaGreatDoorDnJ33
import Derived.Test.YtefdkpbmeoakgaaGreatDoorDnJ24
import Derived.Test.YtefdkpbmeoakgaaGreatDoorDnJ8
import Derived.Test.YtefdkpbmeoakgaaGreatDoorDnKMath
/- The contract of wakes; devices that live. -/
namespace Go.Proofs.YtefdkpbmeoakgaaGreatDoor
set_option maxRecDepth 100000
set_option maxHeartbeats 8000000
open Go.RowKit Go.Shelf Go.Maps
set_option linter.unusedVariables false
def Dev.Live (D:Dev):Prop:=D.f=-1/\D.dead=false
def V2 (g1 g2:Nat):List Wr:=[⟨20,some ⟨g1,0,none⟩,64,64,fl 1⟩,⟨21,some ⟨g2,0,none⟩,64,64,fl 2⟩]
end Go.Proofs.YtefdkpbmeoakgaaGreatDoor
/- A log and a cache on a device that lives. -/
namespace Go.Proofs.YtefdkpbmeoakgaaGreatDoor
set_option maxRecDepth 100000
set_option maxHeartbeats 8000000
open Go.RowKit Go.Shelf
set_option linter.unusedVariables false
structure Su (G:Geo) (L:Lg) (D:Dev):Prop where
 live:D.Live
 ld:L.dead=false
 n:D.n=G.n
 inv:∃ Ps,Inv G D.rd L Ps
 q:∀ b z,L.Q b=some z->G.ib<=b/\b<G.n
theorem Su.turn {G:Geo}(hG:G.Ok){L:Lg}{D D':Dev}(h:Su G L D)(hl:D'.Live)(hn:D'.n=D.n)(hr:∀ j,j<G.ib->D'.rd j=D.rd j):Su G L D':=by
 obtain⟨Ps,hI⟩:=h.inv
 have:=hG.ibn
 exact⟨hl,h.ld,hn.trans h.n,⟨Ps,hI.congr hG (hr 1 (by omega)) (fun i _=>hr _ (hG.ring _).2.1)⟩,h.q⟩
theorem aiC (C:Cac){D:Dev}(h:D.ali)(b:Nat){j:Nat}(hj:j≠b):(C.wbD D b).rd j=D.rd j:=by
 rw[agU C h b j,if_neg hj]
theorem aiP (C:Cac){D:Dev}(h:D.ali){m:Nat}(hp:∀ b l,C.L b=some l->m<=b){j:Nat}(hj:j<m):(C.rmD D).rd j=D.rd j:=by
 unfold Cac.rmD
 by_cases hl:(C.those D.n cZ).length<C.cap
 ·rw[if_pos hl]
 ·rw[if_neg hl]
  by_cases h0:C.those D.n aQ=[]
  ·rw[if_pos h0]
  ·rw[if_neg h0]
   obtain⟨v1,l,v2,v3⟩:=uV h0
   have:=hp _ _ v2
   exact aiC C.next h _ (by omega)
def zM (X:Grp) (C:Cac) (L:Lg) (D:Dev) (b:Nat):List Int:=match X.Q b with | some z=>z | none=>match L.Q b with | some z=>z | none=>C.val D b
structure Gs (G:Geo) (E:Nat->Bool) (X:Grp) (C:Cac) (L:Lg) (D:Dev):Prop where
 su:Su G L D
 cl:C.cln D
 hm:cnt (C.wants cZ) D.n<=C.cap
 c1:1<=C.cap
 pn:∀ b l,C.L b=some l->l.p=0/\G.ib<=b
 xq:∀ b z,X.Q b=some z->G.ib<=b/\E b=true
 lq:∀ b z,L.Q b=some z->E b=true
 ne:G.uses (gW G X.Q).length<=G.lg
theorem Gs.ali {G E X C L D}(h:Gs G E X C L D):D.ali:=h.su.live
theorem Gs.room {G E X C L D}(h:Gs G E X C L D)(b:Nat):C.L b≠none\/cnt (C.wants cZ) D.n<C.cap\/C.those D.n aQ≠[]:=by
 by_cases hl:cnt (C.wants cZ) D.n<C.cap
 ·exact .inr (.inl hl)
 ·refine .inr (.inr (fun e=>?_))
  have h1:=h.hm
  have h2:=h.c1
  have h3:=(tq C D.n aQ).1 e
  have h4:cnt (C.wants cZ) D.n<=cnt (C.wants aQ) D.n:=cnt_mono (fun j hj hw=>by
   unfold Cac.wants at hw ⊢
   cases hl:C.L j with
   | none=>rw[hl] at hw;cases hw
   | some l =>
    have:=(h.pn j l hl).1
    simp[aQ,this])
  omega
theorem Gs.read {G:Geo}(hG:G.Ok){E:Nat->Bool}{X:Grp}{C:Cac}{L:Lg}{D:Dev}(h:Gs G E X C L D){b:Nat}(hb:G.ib<=b)(hb2:b<G.n) :
  grE X C L D b=0/\grZ X C L D b=zM X C L D b/\Gs G E X (grC X C L D b) L (grD X C L D b)/\∀ j,j<G.n->zM X (grC X C L D b) L (grD X C L D b) j=zM X C L D j:=by
 unfold grE grZ grC grD
 cases hx:X.Q b with
 | some z=>exact⟨rfl,by simp[zM,hx],h,fun _ _=>rfl⟩
 | none =>
  cases hl:L.Q b with
  | some z=>exact⟨rfl,by simp[zM,hx,hl],h,fun _ _=>rfl⟩
  | none =>
   simp only
   have hn:=h.su.n
   obtain⟨g1,g2,g3,g4,g5,g6,g7,g8,g9,g10⟩:=afS C h.ali h.cl (b:=b) (by omega) h.hm (h.room b)
   have amr:∀ j,j<G.ib->(C.gtD D b).rd j=D.rd j:=fun j hj=>by
    unfold Cac.gtD
    cases C.L b with
    | some l=>rfl
    | none=>exact aiP C h.ali (fun b l e=>(h.pn b l e).2) hj
   refine⟨g1,by simp[zM,hx,hl];exact g6,⟨h.su.turn hG g2 g3.1 amr,g5,by rw[g3.1,g4];exact g10,by rw[g4];exact h.c1,fun j l e=>?_,h.xq,h.lq,h.ne⟩,fun j hj=>?_⟩
   ·rcases g8 j with x | x | ⟨x,l2,x2,x3,_⟩
    ·rw[x] at e;exact h.pn j l e
    ·rw[x.1] at e;cases e
    ·rw[x,x2] at e
     cases e
     exact⟨x3,by omega⟩
   ·unfold zM
    rw[g7 j (by omega)]
end Go.Proofs.YtefdkpbmeoakgaaGreatDoor
/- A law's group on a device that lives, with an operation or without one; rows of the law beside it. -/
namespace Go.Proofs.YtefdkpbmeoakgaaGreatDoor
set_option maxRecDepth 100000
set_option maxHeartbeats 8000000
open Go.RowKit Go.Shelf Go.Maps
set_option linter.unusedVariables false
structure HL (B:Nat) (w:World) (P:Nat->Int) (G:Geo) (g cg lg dg:Nat) (X:Grp) (C:Cac) (L:Lg) (D:Dev) (rows:List (Nat×Obj)) (u:World) (S:Nat->Prop):Prop where
 gv:Gv u S g cg lg dg P G X C L D
 ge:∀ k,S k->B<=k
 bel:Below B w u
 sz:B<=w.heap.size
 ro:∀ x∈rows,u.heap[x.1]?=some x.2/\¬ S x.1
theorem HL.next {B w P G g cg lg dg}{X X':Grp}{C C':Cac}{L L':Lg}{D D':Dev}{rows}{u u':World}{S S':Nat->Prop}(h:HL B w P G g cg lg dg X C L D rows u S)(hg:Gv u' S' g cg lg dg P G X' C' L' D')(hx:Nx S u S' u'):HL B w P G g cg lg dg X' C' L' D' rows u' S' :=
 ⟨hg,hx.base h.ge (Nat.le_trans h.sz h.bel.size),h.bel.trans (hx.below h.ge (Nat.le_trans h.sz h.bel.size)),h.sz,fun x hm=>by
  obtain⟨h1,h2⟩:=h.ro x hm
  obtain⟨k1,k2,_⟩:=hx.keep (Array.getElem?_eq_some_iff.1 h1).1 h2
  exact⟨k1.trans h1,k2⟩⟩
structure Lst (w:World) (P:Nat->Int) (G:Geo) (E:Nat->Bool) (g:Nat) (rows:List (Nat×Obj)) (i:Nat) (V:Nat->List Int) (F:Nat->Bool) (cg lg dg:Nat) (X:Grp) (C:Cac) (L:Lg) (D:Dev) (u:World) (S:Nat->Prop):Prop where
 hl:HL w.heap.size w P G g cg lg dg X C L D rows u S
 gs:Gs G E X C L D
 sq:L.h.seq<=i
 vl:∀ j,E j=true->j<G.n->zM X C L D j=V j
 fl:∀ j,j<G.n->X.F j=F j
 vb:∀ j,E j=true->(V j).length=G.blk/\∀ z∈V j,0<=z/\z<=255
 eb:∀ j,E j=true->G.ib<=j/\j<G.n
 eu:G.uses (amc E G.n).length<=G.lg
 ed:∀ j,E j=true->(j:Int)<P 11
def Lo (w:World) (P:Nat->Int) (G:Geo) (E:Nat->Bool) (g:Nat) (rows:List (Nat×Obj)) (i:Nat) (V:Nat->List Int) (F:Nat->Bool) (u:World):Prop:=∃ cg lg dg X C L D S,Lst w P G E g rows i V F cg lg dg X C L D u S/\X.N=none
def Lv0 (w:World) (P:Nat->Int) (G:Geo) (E:Nat->Bool) (g o:Nat) (rows:List (Nat×Obj)) (i:Nat) (V:Nat->List Int) (F:Nat->Bool) (u:World):Prop:=∃ cg lg dg X C L D S,Lst w P G E g rows i V F cg lg dg X C L D u S/\X.N=none/\Over u S g o
structure Ns (G:Geo) (P:Nat->Int) (E0 E:Nat->Bool) (N:Nat->Option Nt) (V:Nat->List Int) (F:Nat->Bool) (V':Nat->List Int) (K:Nat->Bool):Prop where
 k:∀ b t,N b=some t->G.ib<=b/\b<G.n/\((t.k=1\/t.k=2/\P 11<=(b:Int))/\E b=true/\t.z=V' b\/t.k=3/\E b=false/\P 11<=(b:Int))
 nn:∀ b,E0 b=true->N b=none->V' b=V b
 wn:∀ b,E b=true->E0 b=false->N b≠none
 kk:∀ b,b<G.n->K b=(F b||isK N 3 b)
 vb:∀ j,E j=true->(V' j).length=G.blk/\∀ z∈V' j,0<=z/\z<=255
 sub:∀ b,E0 b=true->E b=true
 da:∀ b,E b=true->E0 b=false->P 11<=(b:Int)/\b<G.n
def Lp (w:World) (P:Nat->Int) (G:Geo) (E:Nat->Bool) (g o:Nat) (rows:List (Nat×Obj)) (i:Nat) (V:Nat->List Int) (F:Nat->Bool) (V':Nat->List Int) (K:Nat->Bool) (u:World):Prop:=∃ E0 cg lg dg X C L D S N,Lst w P G E0 g rows i V F cg lg dg X C L D u S/\X.N=some N/\X.o=o/\Ns G P E0 E N V F V' K
theorem Lst.next {w P G E g rows}{i i':Nat}{V}{F F':Nat->Bool}{cg lg dg}{X X':Grp}{C C':Cac}{L L':Lg}{D D':Dev}{u u':World}{S S':Nat->Prop}(h:Lst w P G E g rows i V F cg lg dg X C L D u S)(hg:Gv u' S' g cg lg dg P G X' C' L' D')(hx:Nx S u S' u')(hs:Gs G E X' C' L' D')(hq:L'.h.seq<=i')(hv:∀ j,E j=true->j<G.n->zM X' C' L' D' j=zM X C L D j)(hf:∀ j,j<G.n->X'.F j=F' j):Lst w P G E g rows i' V F' cg lg dg X' C' L' D' u' S' :=
 ⟨h.hl.next hg hx,hs,hq,fun j h1 h2=>(hv j h1 h2).trans (h.vl j h1 h2),hf,h.vb,h.eb,h.eu,h.ed⟩
theorem Lst.later {w P G E g rows i V F cg lg dg X C L D}{u u':World}{S}(h:Lst w P G E g rows i V F cg lg dg X C L D u S)(hb:Below u.heap.size u u'):Lst w P G E g rows i V F cg lg dg X C L D u' S :=
 h.next (h.hl.gv.below hb) ((Nx.refl S u).below' hb) h.gs h.sq (fun _ _ _=>rfl) h.fl
theorem Lst.sub {w P G E g}{rows rows':List (Nat×Obj)}{i V F cg lg dg X C L D u S}(h:Lst w P G E g rows i V F cg lg dg X C L D u S)(hr:∀ x∈rows',x∈rows):Lst w P G E g rows' i V F cg lg dg X C L D u S :=
 ⟨⟨h.hl.gv,h.hl.ge,h.hl.bel,h.hl.sz,fun x hx=>h.hl.ro x (hr x hx)⟩,h.gs,h.sq,h.vl,h.fl,h.vb,h.eb,h.eu,h.ed⟩
theorem Lst.add {w P G E g rows i V F cg lg dg X C L D u S}(h:Lst w P G E g rows i V F cg lg dg X C L D u S){k:Nat}{o:Obj}(h1:u.heap[k]?=some o)(h2:¬ S k):Lst w P G E g ((k,o)::rows) i V F cg lg dg X C L D u S :=
 ⟨⟨h.hl.gv,h.hl.ge,h.hl.bel,h.hl.sz,fun x hm=>by
  rcases List.mem_cons.1 hm with e | e
  ·subst e;exact⟨h1,h2⟩
  ·exact h.hl.ro x e⟩,h.gs,h.sq,h.vl,h.fl,h.vb,h.eb,h.eu,h.ed⟩
theorem Lst.push {w P G E g rows i V F cg lg dg X C L D}{u u':World}{S}(h:Lst w P G E g rows i V F cg lg dg X C L D u S)(hb:Below u.heap.size u u'){k:Nat}(hk:u.heap.size<=k){o:Obj}(ho:u'.heap[k]?=some o):Lst w P G E g ((k,o)::rows) i V F cg lg dg X C L D u' S :=
 (h.later hb).add ho (fun hs=>by have:=h.hl.gv.lt hs;omega)
theorem Lst.set {w P G E g}{rows:List (Nat×Obj)}{i V F cg lg dg X C L D u S}{k:Nat}{ob ob':Obj}(h:Lst w P G E g ((k,ob)::rows) i V F cg lg dg X C L D u S)(hk:w.heap.size<=k)(h0:1<w.heap.size)(hn:∀ x∈rows,x.1≠k)(j:Nat)(v:Value)(ho:(u.setCell ⟨k,j,none⟩ v).heap[k]?=some ob'):Lst w P G E g ((k,ob')::rows) i V F cg lg dg X C L D (u.setCell ⟨k,j,none⟩ v) S:=by
 have kept:∀ q,q≠k->(u.setCell ⟨k,j,none⟩ v).heap[q]?=u.heap[q]?:=fun q hq=>Below.heap_setCell _ _ _ _ hq
 have hS:=(h.hl.ro (k,ob) (by simp)).2
 obtain⟨Sg,Sc,Sl,Sd,m,mk,ml,az⟩:=h.hl.gv
 have bb:Below w.heap.size u (u.setCell ⟨k,j,none⟩ v):=(Below.refl _ _).setCell (p:=⟨k,j,none⟩) hk _
 refine⟨⟨(az.jC (fun q hq=>kept q (fun e=>hS (by rw[← e];exact hq))) (kept 1 (by omega)) bb.size).gv,h.hl.ge,h.hl.bel.trans bb,h.hl.sz,fun x hx=>?_⟩,h.gs,h.sq,h.vl,h.fl,h.vb,h.eb,h.eu,h.ed⟩
 rcases List.mem_cons.1 hx with e | e
 ·subst e;exact⟨ho,hS⟩
 ·have:=h.hl.ro x (List.mem_cons_of_mem _ e)
  exact⟨(kept x.1 (hn x e)).trans this.1,this.2⟩
theorem Lp.later {w P G E g o rows i V F V' K}{u u':World}(h:Lp w P G E g o rows i V F V' K u)(hb:Below u.heap.size u u'):Lp w P G E g o rows i V F V' K u':=by
 obtain⟨E0,cg,lg,dg,X,C,L,D,S,N,h,r⟩:=h
 exact⟨E0,cg,lg,dg,X,C,L,D,S,N,h.later hb,r⟩
theorem Lp.sub {w P G E g o}{rows rows':List (Nat×Obj)}{i V F V' K u}(h:Lp w P G E g o rows i V F V' K u)(hr:∀ x∈rows',x∈rows):Lp w P G E g o rows' i V F V' K u:=by
 obtain⟨E0,cg,lg,dg,X,C,L,D,S,N,h,r⟩:=h
 exact⟨E0,cg,lg,dg,X,C,L,D,S,N,h.sub hr,r⟩
theorem Lp.pop {w P G E g o}{rows:List (Nat×Obj)}{i V F V' K u}{x:Nat×Obj}(h:Lp w P G E g o (x::rows) i V F V' K u):Lp w P G E g o rows i V F V' K u:=h.sub (fun y hy=>List.mem_cons_of_mem _ hy)
theorem Lp.push {w P G E g o rows i V F V' K}{u u':World}{k:Nat}{ob:Obj}(h:Lp w P G E g o rows i V F V' K u)(hb:Below u.heap.size u u')(hk:u.heap.size<=k)(ho:u'.heap[k]?=some ob):Lp w P G E g o ((k,ob)::rows) i V F V' K u':=by
 obtain⟨E0,cg,lg,dg,X,C,L,D,S,N,h,r⟩:=h
 exact⟨E0,cg,lg,dg,X,C,L,D,S,N,h.push hb hk ho,r⟩
theorem Lp.new {w P G E g o rows i V F V' K u}(h:Lp w P G E g o rows i V F V' K u)(ob:Obj):Lp w P G E g o ((u.heap.size,ob)::rows) i V F V' K (u.alloc ob) :=
 h.push ((Below.refl _ _).alloc (Nat.le_refl _) _) (Nat.le_refl _) (World.alloc_heap_new u ob)
theorem Lp.set {w P G E g o}{rows:List (Nat×Obj)}{i V F V' K u}{k:Nat}{ob ob':Obj}(h:Lp w P G E g o ((k,ob)::rows) i V F V' K u)(hk:w.heap.size<=k)(h0:1<w.heap.size)(hn:∀ x∈rows,x.1≠k)(j:Nat)(v:Value)(ho:(u.setCell ⟨k,j,none⟩ v).heap[k]?=some ob'):Lp w P G E g o ((k,ob')::rows) i V F V' K (u.setCell ⟨k,j,none⟩ v):=by
 obtain⟨E0,cg,lg,dg,X,C,L,D,S,N,h,r⟩:=h
 exact⟨E0,cg,lg,dg,X,C,L,D,S,N,h.set hk h0 hn j v ho,r⟩
theorem Lp.row {w P G E g o rows i V F V' K u}(h:Lp w P G E g o rows i V F V' K u){x:Nat×Obj}(hx:x∈rows):u.heap[x.1]?=some x.2:=by
 obtain⟨E0,cg,lg,dg,X,C,L,D,S,N,h,r⟩:=h
 exact(h.hl.ro x hx).1
theorem Lp.lt {w P G E g o rows i V F V' K u}(h:Lp w P G E g o rows i V F V' K u){x:Nat×Obj}(hx:x∈rows):x.1<u.heap.size:=(Array.getElem?_eq_some_iff.1 (h.row hx)).1
theorem Lp.bel {w P G E g o rows i V F V' K u}(h:Lp w P G E g o rows i V F V' K u):Below w.heap.size w u:=by
 obtain⟨E0,cg,lg,dg,X,C,L,D,S,N,h,r⟩:=h
 exact h.hl.bel
theorem Lp.ok {w P G E g o rows i V F V' K u}(h:Lp w P G E g o rows i V F V' K u):PG P G:=by
 obtain⟨E0,cg,lg,dg,X,C,L,D,S,N,h,r⟩:=h
 obtain⟨_,_,_,_,_,_,_,a⟩:=h.hl.gv
 exact a.gr.pg
theorem Lp.vb {w P G E g o rows i V F V' K u}(h:Lp w P G E g o rows i V F V' K u){j:Nat}(hj:E j=true):(V' j).length=G.blk/\∀ z∈V' j,0<=z/\z<=255:=by
 obtain⟨E0,cg,lg,dg,X,C,L,D,S,N,h,_,_,r⟩:=h
 exact r.vb j hj
theorem Lo.push {w P G E g rows i V F}{u u':World}{k:Nat}{ob:Obj}(h:Lo w P G E g rows i V F u)(hb:Below u.heap.size u u')(hk:u.heap.size<=k)(ho:u'.heap[k]?=some ob):Lo w P G E g ((k,ob)::rows) i V F u':=by
 obtain⟨cg,lg,dg,X,C,L,D,S,h,r⟩:=h
 exact⟨cg,lg,dg,X,C,L,D,S,h.push hb hk ho,r⟩
theorem Lo.row {w P G E g rows i V F u}(h:Lo w P G E g rows i V F u){x:Nat×Obj}(hx:x∈rows):u.heap[x.1]?=some x.2:=by
 obtain⟨cg,lg,dg,X,C,L,D,S,h,r⟩:=h
 exact(h.hl.ro x hx).1
theorem Lo.bel {w P G E g rows i V F u}(h:Lo w P G E g rows i V F u):Below w.heap.size w u:=by
 obtain⟨cg,lg,dg,X,C,L,D,S,h,r⟩:=h
 exact h.hl.bel
theorem Lv0.lo {w P G E g o rows i V F u}(h:Lv0 w P G E g o rows i V F u):Lo w P G E g rows i V F u:=by
 obtain⟨cg,lg,dg,X,C,L,D,S,h,r,_⟩:=h
 exact⟨cg,lg,dg,X,C,L,D,S,h,r⟩
theorem Lv0.later {w P G E g o rows i V F}{u u':World}(h:Lv0 w P G E g o rows i V F u)(hb:Below u.heap.size u u'):Lv0 w P G E g o rows i V F u':=by
 obtain⟨cg,lg,dg,X,C,L,D,S,h,r,ov⟩:=h
 exact⟨cg,lg,dg,X,C,L,D,S,h.later hb,r,ov.nx ((Nx.refl S u).below' hb)⟩
theorem Gs.same {G E}{X X':Grp}{C L D}(h:Gs G E X C L D)(e:X'.Q=X.Q):Gs G E X' C L D :=
 ⟨h.su,h.cl,h.hm,h.c1,h.pn,by rw[e];exact h.xq,h.lq,by rw[e];exact h.ne⟩
theorem lD {X X':Grp}{C:Cac}{L:Lg}{D:Dev}(e:X'.Q=X.Q)(j:Nat):zM X' C L D j=zM X C L D j:=by
 unfold zM
 rw[e]
theorem ahT {w P G E g rows i V F u}(h:Lo w P G E g rows i V F u) :
  Calls Tryz.prog 21 #[.pointer (some ⟨g,0,none⟩)] u fun e u1=>∃ o,e=.returned (.tuple #[.pointer (some ⟨o,0,none⟩),.int .i64 0])/\Hid (Lp w P G E g o rows i V F V F u1):=by
 obtain⟨cg,lg,dg,X,C,L,D,S,h,eN⟩:=h
 refine(agr h.hl.gv eN).mono ?_
 rintro e u1 ⟨o,rfl,Y⟩
 obtain⟨S',g1,x1,_⟩:=ah Y
 refine⟨o,rfl,E,cg,lg,dg,_,C,L,D,S',_,h.next g1 x1 (h.gs.same rfl) h.sq (fun j _ _=>lD rfl j) h.fl,rfl,rfl,⟨fun b t e=>(by cases e),fun b _ _=>rfl,fun b h1 h2=>(by rw[h1] at h2;cases h2),fun b hb=>?_,h.vb,fun b hb=>hb,fun b h1 h2=>(by rw[h1] at h2;cases h2)⟩⟩
 simp[isK]
theorem Ns.same {G P E0 E N V F V' K}(h:Ns G P E0 E N V F V' K)(hE:∀ j:Nat,P 11<=(j:Int)->E j=false):E0=E:=by
 funext b
 cases e:E b with
 | true =>
  cases e0:E0 b with
  | true=>rfl
  | false=>have:=hE b (h.da b e e0).1;rw[e] at this;cases this
 | false =>
  cases e0:E0 b with
  | true=>have:=h.sub b e0;rw[e] at this;cases this
  | false=>rfl
theorem ahU {w P G E g o rows i V F V' K u}(h:Lp w P G E g o rows i V F V' K u)(hE:∀ j:Nat,P 11<=(j:Int)->E j=false) :
  Calls Tryz.prog 12 #[.pointer (some ⟨o,0,none⟩)] u fun e u1=>e=.returned (.int .i64 0)/\Hid (Lv0 w P G E g o rows i V F u1):=by
 obtain⟨E0,cg,lg,dg,X,C,L,D,S,N,h,eN,eo,ns⟩:=h
 obtain rfl:E=E0:=(ns.same hE).symm
 subst eo
 refine(aby h.hl.gv eN).mono ?_
 rintro e u1 ⟨rfl,Y⟩
 obtain⟨S',g1,x1,ov⟩:=ah Y
 exact⟨rfl,cg,lg,dg,_,C,L,D,S',h.next g1 x1 (h.gs.same rfl) h.sq (fun j _ _=>lD rfl j) h.fl,rfl,ov⟩
def Dr (c n:Nat) (zs:List Int) (ob:Obj):Prop:=∃ cur:Array Value,ob=.cells cur 5 (0,0)/\cur.size=c/\zs.length=n/\n<=c/\c<=maxLen/\cur.toList.take n=zs.map (Value.int .u8)
theorem Dr.own {c n zs ob}(h:Dr c n zs ob){u:World}{k:Nat}(hk:u.heap[k]?=some ob):Own k u (some ⟨k,0,none⟩) n c zs:=by
 obtain⟨cur,rfl,h1,h2,h3,h4,h5⟩:=h
 exact⟨h2,h3,h4,.inr ⟨k,cur,rfl,Nat.le_refl _,hk,h1,h5⟩⟩
theorem Dr.has {c n zs ob}(h:Dr c n zs ob){u:World}{k:Nat}(hk:u.heap[k]?=some ob):Has u (some ⟨k,0,none⟩) n zs:=(h.own hk).has
theorem rP {w P G E g o rows i V F V' K u}(h:Lp w P G E g o rows i V F V' K u){b:Nat}(hb:E b=true) :
  Calls Tryz.prog 83 #[.pointer (some ⟨o,0,none⟩),.int .i64 (b:Int)] u fun e u1=>∃ k c,e=.returned (.tuple #[.slice (some ⟨k,0,none⟩) G.blk c,.int .i64 0])/\Hid (∃ ob,Dr c G.blk (V' b) ob/\u.heap.size<=k/\Lp w P G E g o ((k,ob)::rows) i V F V' K u1):=by
 obtain⟨E0,cg,lg,dg,X,C,L,D,S,N,h,eN,eo,ns⟩:=h
 subst eo
 have hG:G.Ok:=by obtain⟨_,_,_,_,_,_,_,a⟩:=h.hl.gv;exact a.gr.pg.ok
 obtain⟨b1,b2⟩:G.ib<=b/\b<G.n:=by
  cases e0:E0 b with
  | true=>exact h.eb b e0
  | false =>
   cases hN:N b with
   | none=>exact absurd hN (ns.wn b hb e0)
   | some t=>exact⟨(ns.k b t hN).1,(ns.k b t hN).2.1⟩
 have hbk:=hG.blk
 have fin:∀ {a:Option Addr} {c:Nat} {z:List Int} {u1:World} {S':Nat->Prop} {C':Cac} {D':Dev},z=V' b->Own u.heap.size u1 a G.blk c z->Gv u1 S' g cg lg dg P G X C' L D'->Nx S u S' u1->(∀ k,a=some ⟨k,0,none⟩->¬ S' k)->Gs G E0 X C' L D'->(∀ j,j<G.n->zM X C' L D' j=zM X C L D j)->∃ k c1,(Ending.returned (.tuple #[.slice a G.blk c,.int .i64 0]))=.returned (.tuple #[.slice (some ⟨k,0,none⟩) G.blk c1,.int .i64 0])/\Hid (∃ ob,Dr c1 G.blk (V' b) ob/\u.heap.size<=k/\Lp w P G E g X.o ((k,ob)::rows) i V F V' K u1):=by
  intro a c z u1 S' C' D' hz ow g1 x1 n1 s1 v1
  subst hz
  obtain⟨h1,h2,h3,h4⟩:=ow
  rcases h4 with ⟨_,h4,_⟩ | ⟨k,cur,rfl,hk,hh,hc,ht⟩
  ·omega
  ·exact⟨k,c,rfl,_,⟨cur,rfl,hc,h1,h2,h3,ht⟩,hk,E0,cg,lg,dg,X,C',L,D',S',N,(h.next g1 x1 s1 h.sq (fun j _ hj=>v1 j hj) h.fl).add hh (n1 k rfl),eN,rfl,ns⟩
 cases hN:N b with
 | none =>
  have hb0:E0 b=true:=by
   cases e0:E0 b with
   | true=>rfl
   | false=>exact absurd hN (ns.wn b hb e0)
  obtain⟨r1,r2,r3,r4⟩:=h.gs.read hG b1 b2
  refine(zf h.hl.gv eN b2 (fun t e=>by rw[hN] at e;cases e) r1).mono ?_
  rintro e u1 ⟨a,c,rfl,Y⟩
  obtain⟨S',ow,g1,x1,n1⟩:=ah Y
  exact fin (by rw[r2,h.vl b hb0 b2,ns.nn b hb0 hN]) ow g1 x1 n1 r3 r4
 | some t =>
  rcases(ns.k b t hN).2.2 with ⟨k1,k2,k3⟩ | ⟨_,k2,_⟩
  ·refine(abw h.hl.gv eN b2 hN (k1.imp id And.left)).mono ?_
   rintro e u1 ⟨a,c,rfl,Y⟩
   obtain⟨S',ow,g1,x1,n1⟩:=ah Y
   exact fin k3 ow g1 x1 n1 h.gs (fun _ _=>rfl)
  ·rw[hb] at k2;cases k2
theorem aaC {w P G E g o rows i V F V' K u}(h:Lp w P G E g o rows i V F V' K u){b:Nat}(hb:E b=true\/P 11<=(b:Int)/\b<G.n/\K b=false)(a:Option Addr)(cap:Nat)(zs:List Int)(hr:Row u.heap.size u a G.blk cap zs) :
  Calls Tryz.prog 51 #[.pointer (some ⟨o,0,none⟩),.int .i64 (b:Int),.slice a G.blk cap] u fun e u1=>e=.returned (.int .i64 0)/\Hid (Lp w P G (fun j=>if j=b then true else E j) g o rows i V F (fun j=>if j=b then zs else V' j) K u1):=by
 obtain⟨E0,cg,lg,dg,X,C,L,D,S,N,h,eN,eo,ns⟩:=h
 subst eo
 have hda:(G.ib:Int)<=P 11:=by obtain⟨_,_,_,_,_,_,_,a⟩:=h.hl.gv;exact a.gr.da.1
 obtain⟨b1,b2⟩:G.ib<=b/\b<G.n:=by
  rcases hb with hb | ⟨x1,x2,_⟩
  ·cases e0:E0 b with
   | true=>exact h.eb b e0
   | false =>
    cases hN:N b with
    | none=>exact absurd hN (ns.wn b hb e0)
    | some t=>exact⟨(ns.k b t hN).1,(ns.k b t hN).2.1⟩
  ·exact⟨by omega,x2⟩
 have n3:isK N 3 b=false:=by
  rcases hb with hb | ⟨_,_,x3⟩
  ·unfold isK
   cases hN:N b with
   | none=>rfl
   | some t =>
    rcases(ns.k b t hN).2.2 with x | x
    ·rcases x.1 with q | ⟨q,_⟩<;>simp[q]
    ·rw[hb] at x;cases x.2.1
  ·rw[ns.kk b b2] at x3
   cases e3:isK N 3 b with
   | false=>rfl
   | true=>rw[e3] at x3;simp at x3
 have e0:notE G (b:Int) ((G.ib:Nat):Int) G.blk=0:=by
  have:yg G.n (b:Int) ((G.ib:Nat):Int)=0:=by
   unfold yg
   rw[if_neg (by omega)]
  unfold notE
  rw[if_pos this,if_pos rfl]
 have:=abu h.hl.gv eN (b:Int) a G.blk cap zs hr
 rw[e0,if_pos rfl] at this
 refine this.mono ?_
 rintro e u1 ⟨rfl,Y⟩
 obtain⟨S',g1,x1⟩:=ah Y
 rw[show (b:Int).toNat=b by simp] at g1
 refine⟨rfl,E0,cg,lg,dg,_,C,L,D,S',_,h.next g1 x1 (h.gs.same rfl) h.sq (fun j _ _=>lD rfl j) h.fl,rfl,rfl,⟨fun c t e=>?_,fun c hc e=>?_,fun c h1 h2 e=>?_,fun c hc=>?_,fun j hj=>?_,fun c hc=>?_,fun c h1 h2=>?_⟩⟩
 ·unfold iQ at e
  by_cases ec:c=b
  ·rw[if_pos ec] at e
   cases e
   subst ec
   exact⟨b1,b2,.inl ⟨.inl rfl,by simp,by simp⟩⟩
  ·rw[if_neg ec] at e
   simp only[if_neg ec]
   exact ns.k c t e
 ·unfold iQ at e
  by_cases ec:c=b
  ·rw[if_pos ec] at e;cases e
  ·rw[if_neg ec] at e
   simp only[if_neg ec]
   exact ns.nn c hc e
 ·unfold iQ at e
  by_cases ec:c=b
  ·rw[if_pos ec] at e;cases e
  ·rw[if_neg ec] at e
   rw[if_neg ec] at h1
   exact ns.wn c h1 h2 e
 ·rw[ns.kk c hc]
  congr 1
  unfold isK iQ
  by_cases ec:c=b
  ·subst ec
   simp only[if_true]
   unfold isK at n3
   rw[n3]
   rfl
  ·simp only[if_neg ec]
 ·by_cases ec:j=b
  ·simp only[if_pos ec]
   exact⟨hr.1,hr.2.2.2.1⟩
  ·simp only[if_neg ec]
   rw[if_neg ec] at hj
   exact ns.vb j hj
 ·by_cases ec:c=b
  ·simp[ec]
  ·simp only[if_neg ec]
   exact ns.sub c hc
 ·by_cases ec:c=b
  ·subst ec
   rcases hb with hb | ⟨x1,x2,_⟩
   ·exact ns.da c hb h2
   ·exact⟨x1,x2⟩
  ·rw[if_neg ec] at h1
   exact ns.da c h1 h2
theorem afg {E:Nat->Bool}{b:Nat}{v:Bool}(hb:E b=v):(fun j=>if j=b then v else E j)=E:=by
 funext j
 by_cases e:j=b
 ·simp[e,hb]
 ·simp[e]
theorem adS {w P G E g o rows i V F V' K u}(h:Lp w P G E g o rows i V F V' K u){b:Nat}(hb:E b=true)(a:Option Addr)(cap:Nat)(zs:List Int)(hr:Row u.heap.size u a G.blk cap zs) :
  Calls Tryz.prog 51 #[.pointer (some ⟨o,0,none⟩),.int .i64 (b:Int),.slice a G.blk cap] u fun e u1=>e=.returned (.int .i64 0)/\Hid (Lp w P G E g o rows i V F (fun j=>if j=b then zs else V' j) K u1):=by
 have:=aaC h (.inl hb) a cap zs hr
 rwa [afg hb] at this
theorem aj0 {w P G E g o rows i V F V' K u}(h:Lp w P G E g o rows i V F V' K u){b:Nat}(hb:P 11<=(b:Int))(hn:b<G.n) :
  Calls Tryz.prog 223 #[.pointer (some ⟨g,0,none⟩),.int .i64 (b:Int)] u fun e u1=>e=.returned (.bool (K b))/\Hid (Lp w P G E g o rows i V F V' K u1):=by
 obtain⟨E0,cg,lg,dg,X,C,L,D,S,N,h,eN,eo,ns⟩:=h
 subst eo
 have hq:L.Q b=none:=by
  cases e:L.Q b with
  | none=>rfl
  | some z=>have:=h.ed b (h.gs.lq b z e);omega
 have:=adD h.hl.gv eN hn hq
 rw[h.fl b hn,← ns.kk b hn] at this
 refine this.mono ?_
 rintro e u1 ⟨rfl,Y⟩
 obtain⟨S',g1,x1⟩:=ah Y
 exact⟨rfl,E0,cg,lg,dg,X,C,L,D,S',N,h.next g1 x1 h.gs h.sq (fun _ _ _=>rfl) h.fl,eN,rfl,ns⟩
end Go.Proofs.YtefdkpbmeoakgaaGreatDoor
