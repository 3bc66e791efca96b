/- Lists of numbers in rows of their own, beside a bundle. -/
import Derived.Test.YtbofhdfhhbgdgaaGreatDoorIaJ40
import Derived.Test.YtbofhdfhhbgdgaaGreatDoorIaIZeros
namespace Go.Proofs.YtbofhdfhhbgdgaaGreatDoor
set_option maxRecDepth 100000
set_option maxHeartbeats 8000000
open Go.RowKit Go.Shelf Go.Maps
set_option linter.unusedVariables false
def Ir (B:Nat) (ks:List (Nat×Obj)) (da:Option Addr) (dl dc:Nat) (ds:List Int) (R:List (Nat×Obj)):Prop :=
 ds.length=dl/\dl<=dc/\dc<=maxLen/\((da=none/\dl=0/\dc=0/\R=[])\/∃ q cur,da=some ⟨q,0,none⟩/\B<=q/\R=[(q,.cells cur 3)]/\cur.size=dc/\cur.toList.take dl=ds.map (Value.int .i64)/\∀ y∈ks,y.1≠q)
theorem Ir.nil (B:Nat)(ks:List (Nat×Obj)):Ir B ks none 0 0 [] []:=⟨rfl,Nat.le_refl _,by unfold maxLen;omega,.inl ⟨rfl,rfl,rfl,rfl⟩⟩
theorem Ir.own {B ks da dl dc ds R}{u:World}(h:Ir B ks da dl dc ds R)(hu:∀ x∈R,u.heap[x.1]?=some x.2):iR B u da dl dc ds:=by
 obtain⟨h1,h2,h3,h4⟩:=h
 refine⟨h1,h2,h3,?_⟩
 rcases h4 with ⟨e1,e2,e3,_⟩ | ⟨q,cur,e1,e2,rfl,e4,e5,_⟩
 ·exact .inl ⟨e1,e2,e3⟩
 ·exact .inr ⟨q,cur,e1,e2,hu (q,.cells cur 3) (by simp),e4,e5⟩
theorem Ir.key {B ks da dl dc ds R}(h:Ir B ks da dl dc ds R){q:Nat}(e:da=some ⟨q,0,none⟩):(∃ ob,(q,ob)∈R)/\∀ y∈ks,y.1≠q:=by
 obtain⟨h1,h2,h3,h4⟩:=h
 rcases h4 with ⟨e1,e2,e3,_⟩ | ⟨q',cur,e1,e2,rfl,e4,e5,e6⟩
 ·rw[e1] at e;cases e
 ·rw[e1] at e;cases e
  exact⟨⟨_,List.mem_cons_self ..⟩,e6⟩
theorem Lp.grow {w P G E g o}{rows:List (Nat×Obj)}{i V F V' K u}{u':World}{R:List (Nat×Obj)}{da a':Option Addr}{dl dc dl' c':Nat}{ds ds':List Int}(h:Lp w P G E g o (R++rows) i V F V' K u)(hr:Ir w.heap.size rows da dl dc ds R)(h0:0<w.heap.size)(o1:iR w.heap.size u' a' dl' c' ds')(k1:∀ k,k<u.heap.size->(∀ g,da=some ⟨g,0,none⟩->k≠g)->u'.heap[k]?=u.heap[k]?)(b1:Below w.heap.size u u')(q1:(a'=da/\c'=dc)\/∃ g',a'=some ⟨g',0,none⟩/\u.heap.size<=g') :
  ∃ R',Lp w P G E g o (R'++rows) i V F V' K u'/\Ir w.heap.size rows a' dl' c' ds' R'/\∀ x∈R',(∃ y∈R,y.1=x.1)\/u.heap.size<=x.1:=by
 obtain⟨E0,cg,lg,dg,X,C,L,D,S,N,l,r⟩:=h
 have hlt:∀ {k},S k->k<u.heap.size:=fun hk=>l.hl.gv.lt hk
 have nS:∀ q,da=some ⟨q,0,none⟩->¬ S q:=fun q e=>by
  obtain⟨⟨ob,hm⟩,_⟩:=hr.key e
  exact(l.hl.ro (q,ob) (List.mem_append_left _ hm)).2
 have kS:∀ k,S k->u'.heap[k]?=u.heap[k]?:=fun k hk=>k1 k (hlt hk) (fun q e e2=>nS q e (by rw[← e2];exact hk))
 have hro:∀ x∈rows,u.heap[x.1]?=some x.2/\¬ S x.1:=fun x hx=>l.hl.ro x (List.mem_append_right _ hx)
 have amW:∀ x∈rows,u'.heap[x.1]?=some x.2/\¬ S x.1:=fun x hx=>⟨(k1 x.1 (Array.getElem?_eq_some_iff.1 (hro x hx).1).1 (fun q e e2=>(hr.key e).2 x hx e2)).trans (hro x hx).1,(hro x hx).2⟩
 obtain⟨Sg,Sc,Sl,Sd,m,mk,ml,az⟩:=l.hl.gv
 have fin:∀ R',(∀ x∈R',u'.heap[x.1]?=some x.2/\¬ S x.1)->Lp w P G E g o (R'++rows) i V F V' K u':=fun R' hR=>⟨E0,cg,lg,dg,X,C,L,D,S,N,⟨⟨(az.jf kS (b1.block 0 h0) b1.size).gv,l.hl.ge,l.hl.bel.trans b1,l.hl.sz,fun x hx=>by
  rcases List.mem_append.1 hx with e | e
  ·exact hR x e
  ·exact amW x e⟩,l.gs,l.sq,l.vl,l.fl,l.vb,l.eb,l.eu,l.ed⟩,r⟩
 obtain⟨j1,j2,j3,j4⟩:=o1
 rcases j4 with ⟨e1,e2,e3⟩ | ⟨q,cur,e1,e2,e3,e4,e5⟩
 ·exact⟨[],fin [] (by simp),⟨j1,j2,j3,.inl ⟨e1,e2,e3,rfl⟩⟩,by simp⟩
 have hq:¬ S q/\(∀ y∈rows,y.1≠q)/\((∃ y∈R,y.1=q)\/u.heap.size<=q):=by
  rcases q1 with ⟨f1,_⟩ | ⟨g',f1,hg⟩
  ·rw[e1] at f1
   obtain⟨⟨ob,hm⟩,h2⟩:=hr.key f1.symm
   exact⟨nS q f1.symm,h2,.inl ⟨_,hm,rfl⟩⟩
  ·rw[e1] at f1
   cases f1
   exact⟨fun hs=>by have:=hlt hs;omega,fun y hy e=>by have:=(Array.getElem?_eq_some_iff.1 (hro y hy).1).1;omega,.inr hg⟩
 refine⟨[(q,.cells cur 3)],fin _ (fun x hx=>?_),⟨j1,j2,j3,.inr ⟨q,cur,e1,e2,rfl,e4,e5,hq.2.1⟩⟩,fun x hx=>?_⟩
 ·rw[List.mem_singleton] at hx;rw[hx];exact⟨e3,hq.1⟩
 ·rw[List.mem_singleton] at hx;rw[hx];exact hq.2.2
theorem Ir.sub {B}{ks ks':List (Nat×Obj)}{da dl dc ds R}(h:Ir B ks da dl dc ds R)(hk:∀ q ob,(q,ob)∈R->∀ y∈ks',y.1≠q):Ir B ks' da dl dc ds R:=by
 obtain⟨h1,h2,h3,h4⟩:=h
 refine⟨h1,h2,h3,?_⟩
 rcases h4 with x | ⟨q,cur,e1,e2,rfl,e4,e5,_⟩
 ·exact .inl x
 ·exact .inr ⟨q,cur,e1,e2,rfl,e4,e5,hk q (.cells cur 3) (by simp)⟩
theorem Lp.lone {w P G E g o i V F V' K u}{u':World}{R rest:List (Nat×Obj)}{cl:Nat}{da a':Option Addr}{dl dc dl' c':Nat}{ds ds':List Int}(h:Lp w P G E g o (R++((cl,.cells #[.slice da dl dc] 22)::rest)) i V F V' K u)(hr:Ir w.heap.size ((cl,.cells #[.slice da dl dc] 22)::rest) da dl dc ds R)(h0:0<w.heap.size)(hB:w.heap.size<=cl)(hne:∀ y∈rest,y.1≠cl)(o1:iR w.heap.size u' a' dl' c' ds')(k1:∀ k,k<u.heap.size->(∀ g,da=some ⟨g,0,none⟩->k≠g)->u'.heap[k]?=u.heap[k]?)(b1:Below w.heap.size u u')(q1:(a'=da/\c'=dc)\/∃ g',a'=some ⟨g',0,none⟩/\u.heap.size<=g') :
  u'.cell? ⟨cl,0,none⟩=some (.slice da dl dc)/\u'.frozen? ⟨cl,0,none⟩=false/\∃ R',Lp w P G E g o (R'++((cl,.cells #[.slice a' dl' c'] 22)::rest)) i V F V' K (u'.setCell ⟨cl,0,none⟩ (.slice a' dl' c'))/\Ir w.heap.size ((cl,.cells #[.slice a' dl' c'] 22)::rest) a' dl' c' ds' R'/\∀ x∈R',(∃ y∈R,y.1=x.1)\/u.heap.size<=x.1:=by
 obtain⟨R',h2,hr2,hx⟩:=h.grow hr h0 o1 k1 b1 q1
 have hB1:Bl u' cl #[.slice da dl dc] 22:=h2.row (x:=(cl,.cells #[.slice da dl dc] 22)) (by simp)
 have hq:∀ x∈R',x.1≠cl:=fun x hm e=>by
  obtain⟨_,_,_,h4⟩:=hr2
  rcases h4 with ⟨_,_,_,e4⟩ | ⟨q,cur,_,_,e4,_,_,e7⟩
  ·rw[e4] at hm;simp at hm
  ·rw[e4] at hm
   rw[List.mem_singleton] at hm
   rw[hm] at e
   exact e7 (cl,.cells #[.slice da dl dc] 22) (by simp) e.symm
 refine⟨hB1.cell 0 _ rfl,hB1.free 0,R',?_,?_,hx⟩
 ·have h3:Lp w P G E g o ((cl,.cells #[.slice da dl dc] 22)::(R'++rest)) i V F V' K u':=h2.sub (fun x hx=>by
   simp only[List.mem_cons,List.mem_append] at hx ⊢
   rcases hx with e | e | e
   ·exact .inr (.inl e)
   ·exact .inl e
   ·exact .inr (.inr e))
  have h4:=h3.swap hB h0 (fun y hy=>by
   rcases List.mem_append.1 hy with e | e
   ·exact hq y e
   ·exact hne y e) (u':=u'.setCell ⟨cl,0,none⟩ (.slice a' dl' c')) (fun q hq=>Below.heap_setCell _ _ _ _ hq) ((Below.refl _ _).setCell (p:=⟨cl,0,none⟩) hB _) (hB1.set 0 (.slice a' dl' c'))
  exact h4.sub (fun x hx=>by
   simp only[List.mem_cons,List.mem_append] at hx ⊢
   rcases hx with e | e | e
   ·exact .inr (.inl e)
   ·exact .inl e
   ·exact .inr (.inr e))
 ·refine hr2.sub (fun q ob hm y hy=>?_)
  rcases List.mem_cons.1 hy with e | e
  ·rw[e]
   exact fun e2=>hq _ hm e2.symm
  ·obtain⟨_,_,_,h4⟩:=hr2
   rcases h4 with ⟨_,_,_,e4⟩ | ⟨q',cur,_,_,e4,_,_,e7⟩
   ·rw[e4] at hm;simp at hm
   ·rw[e4,List.mem_singleton] at hm
    cases hm
    exact e7 y (List.mem_cons_of_mem _ e)
structure alo (B:Nat) (rows:List (Nat×Obj)) (dg pg:Nat) (ds ps:List Int) (da:Option Addr) (dc:Nat) (Rd:List (Nat×Obj)) (pa:Option Addr) (pc:Nat) (Rp:List (Nat×Obj)):Prop where
 d:Ir B ((dg,.cells #[.slice da ds.length dc] 22)::(Rp++((pg,.cells #[.slice pa ps.length pc] 22)::rows))) da ds.length dc ds Rd
 p:Ir B ((pg,.cells #[.slice pa ps.length pc] 22)::(Rd++((dg,.cells #[.slice da ds.length dc] 22)::rows))) pa ps.length pc ps Rp
 dp:dg≠pg
 rd:∀ y∈rows,y.1≠dg
 rp:∀ y∈rows,y.1≠pg
 bd:B<=dg
 bp:B<=pg
def Two (w:World) (P:Nat->Int) (G:Geo) (E:Nat->Bool) (g o:Nat) (rows:List (Nat×Obj)) (i:Nat) (V:Nat->List Int) (F:Nat->Bool) (V':Nat->List Int) (K:Nat->Bool) (dg pg:Nat) (ds ps:List Int) (u:World):Prop :=
 ∃ da dc Rd pa pc Rp,alo w.heap.size rows dg pg ds ps da dc Rd pa pc Rp/\Lp w P G E g o (Rd++((dg,.cells #[.slice da ds.length dc] 22)::(Rp++((pg,.cells #[.slice pa ps.length pc] 22)::rows)))) i V F V' K u
theorem Two.swap {w P G E g o rows i V F V' K u dg pg ds ps}(h:Two w P G E g o rows i V F V' K dg pg ds ps u):Two w P G E g o rows i V F V' K pg dg ps ds u:=by
 obtain⟨da,dc,Rd,pa,pc,Rp,t,l⟩:=h
 refine⟨pa,pc,Rp,da,dc,Rd,⟨t.p,t.d,t.dp.symm,t.rp,t.rd,t.bp,t.bd⟩,l.sub (fun x hx=>?_)⟩
 simp only[List.mem_cons,List.mem_append] at hx ⊢
 rcases hx with e | e | e | e | e
 ·exact .inr (.inr (.inl e))
 ·exact .inr (.inr (.inr (.inl e)))
 ·exact .inl e
 ·exact .inr (.inl e)
 ·exact .inr (.inr (.inr (.inr e)))
theorem Two.lp {w P G E g o rows i V F V' K u dg pg ds ps}(h:Two w P G E g o rows i V F V' K dg pg ds ps u):Lp w P G E g o rows i V F V' K u:=by
 obtain⟨da,dc,Rd,pa,pc,Rp,t,l⟩:=h
 exact l.sub (fun x hx=>by simp[hx])
theorem Two.step {w:World}{P:Nat->Int}{G:Geo}{E:Nat->Bool}{g o:Nat}{rows}{i:Nat}{V:Nat->List Int}{F:Nat->Bool}{V':Nat->List Int}{K:Nat->Bool}{u:World}{u0:World}{dg pg}{ds ps ds':List Int}{da dc Rd pa pc Rp}{u':World}{a':Option Addr}{c':Nat}(t:alo w.heap.size rows dg pg ds ps da dc Rd pa pc Rp)(l:Lp w P G E g o (Rd++((dg,.cells #[.slice da ds.length dc] 22)::(Rp++((pg,.cells #[.slice pa ps.length pc] 22)::rows)))) i V F V' K u)(h0:0<w.heap.size)(o1:iR w.heap.size u' a' ds'.length c' ds')(k1:∀ k,k<u.heap.size->(∀ g,da=some ⟨g,0,none⟩->k≠g)->u'.heap[k]?=u.heap[k]?)(b1:Below w.heap.size u u')(q1:(a'=da/\c'=dc)\/∃ g',a'=some ⟨g',0,none⟩/\u.heap.size<=g') :
  u'.cell? ⟨dg,0,none⟩=some (.slice da ds.length dc)/\u'.frozen? ⟨dg,0,none⟩=false/\Two w P G E g o rows i V F V' K dg pg ds' ps (u'.setCell ⟨dg,0,none⟩ (.slice a' ds'.length c')):=by
 have hqp:∀ x∈Rp,x.1≠dg:=fun x hx e=>by
  obtain⟨_,_,_,h4⟩:=t.p
  rcases h4 with ⟨_,_,_,e4⟩ | ⟨q,cur,_,_,e4,_,_,e7⟩
  ·rw[e4] at hx;simp at hx
  ·rw[e4,List.mem_singleton] at hx
   rw[hx] at e
   exact e7 (dg,.cells #[.slice da ds.length dc] 22) (by simp) e.symm
 obtain⟨x1,x2,R',l2,r2,nw⟩:=l.lone t.d h0 t.bd (fun y hy=>by
  simp only[List.mem_cons,List.mem_append] at hy
  rcases hy with e | e | e
  ·exact hqp y e
  ·rw[e];exact t.dp.symm
  ·exact t.rd y e) o1 k1 b1 q1
 refine⟨x1,x2,a',c',R',pa,pc,Rp,⟨r2,t.p.sub (fun q ob hm y hy=>?_),t.dp,t.rd,t.rp,t.bd,t.bp⟩,l2⟩
 have hpq:=t.p
 obtain⟨_,_,_,h4⟩:=hpq
 rcases h4 with ⟨_,_,_,e4⟩ | ⟨q',cur,_,_,e4,_,_,e7⟩
 ·rw[e4] at hm;simp at hm
 rw[e4,List.mem_singleton] at hm
 cases hm
 simp only[List.mem_cons,List.mem_append] at hy
 rcases hy with e | e | e | e
 ·exact e7 y (by rw[e];simp)
 ·rcases nw y e with ⟨z,hz,ez⟩ | hge
  ·rw[← ez]
   exact e7 z (List.mem_cons_of_mem _ (List.mem_append_left _ hz))
  ·have:=l.lt (x:=(q,.cells cur 3)) (by rw[e4];simp)
   simp only at this
   omega
 ·rw[e]
  exact e7 (dg,.cells #[.slice da ds.length dc] 22) (by simp)
 ·exact e7 y (by simp[e])
theorem Two.zeros {w P G E g o rows i V F V' K u dg pg ds ps}(h:Two w P G E g o rows i V F V' K dg pg ds ps u)(h0:0<w.heap.size)(k:Nat)(hk:ds.length+k<=100000) :
  ∃ da dc a' c' u',u.cell? ⟨dg,0,none⟩=some (.slice da ds.length dc)/\Hid (∀ ty,(Builtin.append_ #[22,3] ty #[.slice da ds.length dc,.int .i64 (k:Int)]).run Tryz.prog u=.ok (.slice a' (ds.length+k) c') u')/\u'.cell? ⟨dg,0,none⟩=some (.slice da ds.length dc)/\u'.frozen? ⟨dg,0,none⟩=false/\Hid (Two w P G E g o rows i V F V' K dg pg (ds++List.replicate k 0) ps (u'.setCell ⟨dg,0,none⟩ (.slice a' (ds.length+k) c'))):=by
 obtain⟨da,dc,Rd,pa,pc,Rp,t,l⟩:=h
 have hc:Bl u dg #[.slice da ds.length dc] 22:=l.row (x:=(dg,.cells #[.slice da ds.length dc] 22)) (by simp)
 have hi:=t.d.own (u:=u) (fun x hx=>l.row (List.mem_append_left _ hx))
 obtain⟨a',c',u',r1,o1,k1,b1,q1⟩:=lY w.heap.size u 0 da ds.length dc ds hi l.bel.size k (by omega)
 have e:(ds++List.replicate k 0).length=ds.length+k:=by simp
 rw[← e] at o1
 obtain⟨x1,x2,x3⟩:=Two.step (u0:=u) t l h0 o1 k1 b1 q1
 rw[e] at x3
 exact⟨da,dc,a',c',u',hc.cell 0 _ rfl,fun ty=>r1,x1,x2,x3⟩
theorem Two.one {w P G E g o rows i V F V' K u dg pg ds ps}(h:Two w P G E g o rows i V F V' K dg pg ds ps u)(h0:0<w.heap.size)(z:Int)(hk:ds.length<=100000) :
  ∃ da dc a' c' u',u.cell? ⟨dg,0,none⟩=some (.slice da ds.length dc)/\Hid (∀ ty,(Builtin.append_ #[22,22] ty #[.slice da ds.length dc,.slice (some ⟨u.heap.size,0,none⟩) 1 1]).run Tryz.prog (u.alloc (zI z))=.ok (.slice a' (ds.length+1) c') u')/\u'.cell? ⟨dg,0,none⟩=some (.slice da ds.length dc)/\u'.frozen? ⟨dg,0,none⟩=false/\Hid (Two w P G E g o rows i V F V' K dg pg (ds++[z]) ps (u'.setCell ⟨dg,0,none⟩ (.slice a' (ds.length+1) c'))):=by
 obtain⟨da,dc,Rd,pa,pc,Rp,t,l0⟩:=h
 have hc:Bl u dg #[.slice da ds.length dc] 22:=l0.row (x:=(dg,.cells #[.slice da ds.length dc] 22)) (by simp)
 have l:=l0.later ((Below.refl _ _).alloc (Nat.le_refl _) (zI z))
 have B0:=Bl.new u #[.int .i64 z] 3
 have hi:=t.d.own (u:=u.alloc (zI z)) (fun x hx=>l.row (List.mem_append_left _ hx))
 obtain⟨a',c',u',r1,o1,k1,b1,q1⟩:=iY w.heap.size _ 0 da ds.length dc ds hi l.bel.size u.heap.size z (B0.cell 0 _ rfl) (by omega)
 have e:(ds++[z]).length=ds.length+1:=by simp
 rw[← e] at o1
 obtain⟨x1,x2,x3⟩:=Two.step (u0:=u) t l h0 o1 k1 b1 (by
  rcases q1 with ⟨f1,f2,_⟩ | ⟨g',f1,f2,_⟩
  ·exact .inl ⟨f1,f2⟩
  ·exact .inr ⟨g',f1,f2⟩)
 rw[e] at x3
 exact⟨da,dc,a',c',u',hc.cell 0 _ rfl,fun ty=>r1,x1,x2,x3⟩
end Go.Proofs.YtbofhdfhhbgdgaaGreatDoor
