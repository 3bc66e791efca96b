/- Joined: IChunk, ILayM, ILay, IAlloc. -/
import Derived.Test.YtefdkpbmeoakgaaGreatDoorDnJ34
import Derived.Test.YtefdkpbmeoakgaaGreatDoorDnJ32
import Derived.Test.YtefdkpbmeoakgaaGreatDoorDnJ15
import Derived.BigRegionIn
import Derived.Test.YtefdkpbmeoakgaaGreatDoorDnJ11
import Derived.Test.YtefdkpbmeoakgaaGreatDoorDnJ2
import Derived.Test.YtefdkpbmeoakgaaGreatDoorDnJ35
import Derived.Test.YtefdkpbmeoakgaaGreatDoorDnJ0
import Derived.Test.YtefdkpbmeoakgaaGreatDoorDnJ1
import Derived.Deep.RegionHeld3
/- slices.Chunk of bytes that are one chunk; a group while a range over a function runs. -/
namespace Go.Proofs.YtefdkpbmeoakgaaGreatDoor
set_option maxRecDepth 100000
set_option maxHeartbeats 8000000
open Go.RowKit Go.Shelf Go.Maps
set_option linter.unusedVariables false
attribute [local go_sem] Oper.semAt_some
def Lq (B:Nat) (w:World) (P:Nat->Int) (G:Geo) (E:Nat->Bool) (g o:Nat) (rows:List (Nat×Obj)) (i:Nat) (V:Nat->List Int) (F:Nat->Bool) (V':Nat->List Int) (K:Nat->Bool) (u:World):Prop:=∃ cg lg dg X C L D S N,Lst w P G E g rows i V F cg lg dg X C L D u S/\X.N=some N/\X.o=o/\Ns G P E E N V F V' K/\(∀ k,S k->B<=k->∃ c,u.heap[k]?=some (.cells c 5))/\(∀ x∈rows,x.2.isCells=true)/\w.heap.size<=B/\1<B
def Lq0 (B:Nat) (w:World) (P:Nat->Int) (G:Geo) (E:Nat->Bool) (g o:Nat) (rows:List (Nat×Obj)) (i:Nat) (V:Nat->List Int) (F:Nat->Bool) (V':Nat->List Int) (K:Nat->Bool) (u:World):Prop:=∃ cg lg dg X C L D S N,Lst w P G E g rows i V F cg lg dg X C L D u S/\X.N=some N/\X.o=o/\Ns G P E E N V F V' K/\(∀ k,S k->k<B)/\(∀ x∈rows,x.2.isCells=true)/\w.heap.size<=B/\1<B
theorem Lq0.lq {B w P G E g o rows i V F V' K u}(h:Lq0 B w P G E g o rows i V F V' K u):Lq B w P G E g o rows i V F V' K u:=by
 obtain⟨cg,lg,dg,X,C,L,D,S,N,h,e1,e2,e3,e4,e5⟩:=h
 exact⟨cg,lg,dg,X,C,L,D,S,N,h,e1,e2,e3,fun k hk hB=>absurd (e4 k hk) (by omega),e5⟩
theorem Lq.lp {B w P G E g o rows i V F V' K u}(h:Lq B w P G E g o rows i V F V' K u):Lp w P G E g o rows i V F V' K u:=by
 obtain⟨cg,lg,dg,X,C,L,D,S,N,h,e1,e2,e3,_⟩:=h
 exact⟨E,cg,lg,dg,X,C,L,D,S,N,h,e1,e2,e3⟩
theorem Lp.lq0 {w P G E g o rows i V F V' K u}(h:Lp w P G E g o rows i V F V' K u)(hr:∀ x∈rows,x.2.isCells=true)(h0:1<w.heap.size)(hE:∀ j:Nat,P 11<=(j:Int)->E j=false):Lq0 u.heap.size w P G E g o rows i V F V' K u:=by
 obtain⟨E0,cg,lg,dg,X,C,L,D,S,N,h,e1,e2,e3⟩:=h
 obtain rfl:E=E0:=(e3.same hE).symm
 exact⟨cg,lg,dg,X,C,L,D,S,N,h,e1,e2,e3,fun k hk=>h.hl.gv.lt hk,hr,h.hl.bel.size,by have:=h.hl.bel.size;omega⟩
theorem Lq.row {B w P G E g o rows i V F V' K u}(h:Lq B w P G E g o rows i V F V' K u){x:Nat×Obj}(hx:x∈rows):u.heap[x.1]?=some x.2:=h.lp.row hx
theorem Lq.kept {B w P G E g o rows i V F V' K}{u u':World}(h:Lq B w P G E g o rows i V F V' K u){row:Option Nat}(hg:u.grownBy u' row)(hr:∀ r,row=some r->B<=r/\∃ ob:Obj,u.heap[r]?=some ob/\ob.isCells=false):Lq B w P G E g o rows i V F V' K u':=by
 obtain⟨cg,lg,dg,X,C,L,D,S,N,h,e1,e2,e3,hc,hrc,hB,hB0⟩:=h
 obtain⟨Sg,Sc,Sl,Sd,m,mk,ml,az⟩:=h.hl.gv
 have kS:∀ k,S k->u'.heap[k]?=u.heap[k]?:=fun k hk=>hg.block k (az.lt hk) (fun e=>by
  obtain⟨h1,ob,h2,h3⟩:=hr k e.symm
  obtain⟨c,h4⟩:=hc k hk h1
  rw[h2] at h4
  cases h4
  cases h3)
 have k0:u'.heap[1]?=u.heap[1]?:=hg.block 1 az.tab.lt (fun e=>by
  obtain⟨h1,_⟩:=hr 1 e.symm
  omega)
 refine⟨cg,lg,dg,X,C,L,D,S,N,⟨⟨(az.jC kS k0 hg.size).gv,h.hl.ge,h.hl.bel.grown hg h.hl.bel.size (fun j e=>by obtain⟨h1,_⟩:=hr j e;omega),h.hl.sz,fun x hx=>?_⟩,h.gs,h.sq,h.vl,h.fl,h.vb,h.eb,h.eu,h.ed⟩,e1,e2,e3,fun k hk hkB=>?_,hrc,hB,hB0⟩
 ·obtain⟨r1,r2⟩:=h.hl.ro x hx
  refine⟨(hg.block x.1 (Array.getElem?_eq_some_iff.1 r1).1 (fun e=>?_)).trans r1,r2⟩
  obtain⟨_,ob,h2,h3⟩:=hr x.1 e.symm
  rw[r1] at h2
  cases h2
  rw[hrc x hx] at h3
  cases h3
 ·obtain⟨c,h4⟩:=hc k hk hkB
  exact⟨c,(kS k hk).trans h4⟩
theorem Lq0.kept {B w P G E g o rows i V F V' K}{u u':World}(h:Lq0 B w P G E g o rows i V F V' K u){row:Option Nat}(hg:u.grownBy u' row)(hr:∀ r,row=some r->B<=r/\∃ ob:Obj,u.heap[r]?=some ob/\ob.isCells=false):Lq0 B w P G E g o rows i V F V' K u':=by
 obtain⟨cg,lg,dg,X,C,L,D,S,N,h,e1,e2,e3,hc,hrc,hB,hB0⟩:=h
 obtain⟨Sg,Sc,Sl,Sd,m,mk,ml,az⟩:=h.hl.gv
 have kS:∀ k,S k->u'.heap[k]?=u.heap[k]?:=fun k hk=>hg.block k (az.lt hk) (fun e=>by
  obtain⟨h1,ob,h2,h3⟩:=hr k e.symm
  have:=hc k hk
  omega)
 have k0:u'.heap[1]?=u.heap[1]?:=hg.block 1 az.tab.lt (fun e=>by
  obtain⟨h1,_⟩:=hr 1 e.symm
  omega)
 refine⟨cg,lg,dg,X,C,L,D,S,N,⟨⟨(az.jC kS k0 hg.size).gv,h.hl.ge,h.hl.bel.grown hg h.hl.bel.size (fun j e=>by obtain⟨h1,_⟩:=hr j e;omega),h.hl.sz,fun x hx=>?_⟩,h.gs,h.sq,h.vl,h.fl,h.vb,h.eb,h.eu,h.ed⟩,e1,e2,e3,hc,hrc,hB,hB0⟩
 ·obtain⟨r1,r2⟩:=h.hl.ro x hx
  refine⟨(hg.block x.1 (Array.getElem?_eq_some_iff.1 r1).1 (fun e=>?_)).trans r1,r2⟩
  obtain⟨_,ob,h2,h3⟩:=hr x.1 e.symm
  rw[r1] at h2
  cases h2
  rw[hrc x hx] at h3
  cases h3
theorem Lq.set {B w P G E g o}{rows:List (Nat×Obj)}{i V F V' K u}{k:Nat}{c c':Array Value}{t:TypeId}(h:Lq B w P G E g o ((k,.cells c t)::rows) i V F V' K u)(hk:w.heap.size<=k)(h0:1<w.heap.size)(hn:∀ x∈rows,x.1≠k)(j:Nat)(v:Value)(ho:(u.setCell ⟨k,j,none⟩ v).heap[k]?=some (.cells c' t)):Lq B w P G E g o ((k,.cells c' t)::rows) i V F V' K (u.setCell ⟨k,j,none⟩ v):=by
 obtain⟨cg,lg,dg,X,C,L,D,S,N,h,e1,e2,e3,hc,hrc,hB,hB0⟩:=h
 have hS:¬ S k:=(h.hl.ro (k,.cells c t) (by simp)).2
 refine⟨cg,lg,dg,X,C,L,D,S,N,h.set hk h0 hn j v ho,e1,e2,e3,fun q hq hqB=>?_,fun x hx=>?_,hB,hB0⟩
 ·obtain⟨c,h4⟩:=hc q hq hqB
  exact⟨c,(Below.heap_setCell _ _ _ _ (fun e=>hS (by have e':q=k:=e;rw[← e'];exact hq))).trans h4⟩
 ·rcases List.mem_cons.1 hx with e | e
  ·subst e;rfl
  ·exact hrc x (List.mem_cons_of_mem _ e)
theorem Lq.sub {B w P G E g o}{rows rows':List (Nat×Obj)}{i V F V' K u}(h:Lq B w P G E g o rows i V F V' K u)(hr:∀ x∈rows',x∈rows):Lq B w P G E g o rows' i V F V' K u:=by
 obtain⟨cg,lg,dg,X,C,L,D,S,N,h,e1,e2,e3,hc,hrc,hB,hB0⟩:=h
 exact⟨cg,lg,dg,X,C,L,D,S,N,h.sub hr,e1,e2,e3,hc,fun x hx=>hrc x (hr x hx),hB,hB0⟩
theorem ahq {B w P G E g o rows i V F V' K u}(h:Lq0 B w P G E g o rows i V F V' K u){b:Nat}(hb:E b=true)(a:Option Addr)(cap:Nat)(zs:List Int)(hr:Row u.heap.size u a G.blk cap zs) :
  Calls Tryz.prog 51 #[.pointer (some ⟨o,0,none⟩),.int .i64 (b:Int),.slice a G.blk cap] u fun e u1=>e=.returned (.int .i64 0)/\Hid (KeepsFrom B u u1/\Lq B w P G E g o rows i V F (fun j=>if j=b then zs else V' j) K u1):=by
 obtain⟨cg,lg,dg,X,C,L,D,S,N,h,eN,eo,ns,hc,hrc,hB,hB0⟩:=h
 subst eo
 obtain⟨b1,b2⟩:=h.eb b hb
 have e0:notE G (b:Int) ((G.ib:Nat):Int) G.blk=0:=by
  have:yg G.n (b:Int) ((G.ib:Nat):Int)=0:=by
   unfold yg
   rw[if_neg (by omega)]
  unfold notE
  rw[if_pos this,if_pos rfl]
 have:=ahv h.hl.gv eN (b:Int) a G.blk cap zs hr
 rw[e0,if_pos rfl] at this
 refine this.mono ?_
 rintro e u1 ⟨rfl,Y⟩
 obtain⟨S',g1,x1,sx⟩:=ah Y
 rw[show (b:Int).toNat=b by simp] at g1
 refine⟨rfl,⟨x1.fr.size,fun k ob hk hh hn=>?_⟩,cg,lg,dg,_,C,L,D,S',_,h.next g1 x1 (h.gs.same rfl) h.sq (fun j _ _=>lD rfl j) h.fl,rfl,rfl,⟨fun c t e=>?_,fun c hc e=>?_,fun c h1 h2=>(by rw[h1] at h2;cases h2),fun c hc=>?_,fun j hj=>?_,fun c hc=>hc,fun c h1 h2=>(by rw[h1] at h2;cases h2)⟩,fun k hk hkB=>?_,hrc,hB,hB0⟩
 ·refine(x1.fr.block k (Array.getElem?_eq_some_iff.1 hh).1 (fun hs=>?_)).trans hh
  have:=hc k hs
  omega
 ·unfold iQ at e
  by_cases ec:c=b
  ·rw[if_pos ec] at e
   cases e
   subst ec
   exact⟨b1,b2,.inl ⟨.inl rfl,hb,by simp⟩⟩
  ·rw[if_neg ec] at e
   simp only[if_neg ec]
   exact ns.k c t e
 ·unfold iQ at e
  by_cases ec:c=b
  ·rw[if_pos ec] at e;cases e
  ·rw[if_neg ec] at e
   simp only[if_neg ec]
   exact ns.nn c hc e
 ·rw[ns.kk c hc]
  congr 1
  unfold isK iQ
  by_cases ec:c=b
  ·subst ec
   simp only[if_true]
   cases hN:N c with
   | none=>rfl
   | some t =>
    rcases(ns.k c t hN).2.2 with x | x
    ·rcases x.1 with q | ⟨q,_⟩<;>simp[q]
    ·rw[hb] at x;cases x.2.1
  ·simp only[if_neg ec]
 ·by_cases ec:j=b
  ·simp only[if_pos ec]
   exact⟨hr.1,hr.2.2.2.1⟩
  ·simp only[if_neg ec]
   exact ns.vb j hj
 ·rcases sx k hk with hs | hs
  ·have:=hc k hs
   omega
  ·exact hs
def ChR (Bs Bn b off len cap:Nat) (W:World):Prop:=W.cell? ⟨Bs,0,none⟩=some (.slice (some ⟨b,off,none⟩) len cap)/\W.cell? ⟨Bn,0,none⟩=some (.int .i64 (len:Int))
theorem xG (F:Fence)(n:Nat)(hfn:F.fn 123)(hro:F.round=none)(hn:1<=n)(l Bs Bn b off len cap:Nat)(hl:0<len/\len<=65536)(hc:len<=cap)(Kp:World->World->Prop)
  (hK:∀ A B,Kp A B->ChR Bs Bn b off len cap A->ChR Bs Bn b off len cap B) (J Jx:List Unit->World->Prop)
  (hY:∀ pre x W,J pre W->pre.length<1->YieldAt F (n - 1) Tryz.prog l #[.slice (some ⟨b,off,none⟩) len len] W fun e W' =>
   (e=.returned (.bool true)/\J (pre++[x]) W'/\Kp W W')\/(e=.returned (.bool false)/\Jx (pre++[x]) W'))
  (W:World) (hR:ChR Bs Bn b off len cap W) (hRd:∀ m,ChR Bs Bn b off len cap (W.drewN m)) (hJd:∀ m,J [] (W.drewN m)) :
  CallsIn F n Tryz.prog 123 #[.func (.yield l) #[] #[],.pointer (some ⟨Bs,0,none⟩),.pointer (some ⟨Bn,0,none⟩)] W fun e W'=>(∃ v,e=.returned v) /\
   ((∃ ys,ys=[()]/\J ys W')\/(∃ pre,True/\Jx pre W')):=by
 have hb0:=hR.1
 have hb1:=hR.2
 refine callsIn_of_wp Tryz.func123 rfl hfn ?_ hro
 simp only[Tryz.ntmps123,List.size_toArray,List.length_cons,List.length_nil,Nat.reduceAdd,Nat.reduceSub,Array.replicate_succ,Array.replicate_zero,List.push_toArray,List.append_toArray,List.nil_append,List.cons_append]
 gi_wp2
 gi_loopw [4] (fun i wr=>(i=.int .i64 0/\J [] wr/\wr=W)\/(i=.int .i64 (len:Int)/\J [()] wr/\ChR Bs Bn b off len cap wr)) (fun i _=>(65537 - intOf i).toNat)
 case atStart=>exact .inl ⟨rfl,hJd 0,rfl⟩
 case round =>
  rcases hrel with ⟨rfl,hJ0,rfl⟩ | ⟨rfl,hJ1,hR1⟩
  ·clear hb0 hb1
   have hb0:=hR.1
   have hb1:=hR.2
   have h1:(0:Int)<(len:Int):=by omega
   have h2:(0:Int)<=(len:Int):=by omega
   have h3:min (len:Int) (len:Int)=(len:Int):=by omega
   have h4:min len len=len:=by omega
   obtain⟨fn,tmps,assign,body,hy,hYd⟩:=hY [] () wr.drew (hJd 1) (by simp)
   have HK:Hid (∀ B,Kp wr.drew B->ChR Bs Bn b off len cap B):=fun B hB=>hK _ _ hB (hRd 1)
   gi_wp2
   gi_region
   all_goals
    clear hb0 hb1
    have hb0:wr.drew.cell? ⟨Bs,0,none⟩=_:=(hRd 1).1
    gi_wp2
    refine hYd.mono ?_
    rintro e W3 (⟨rfl,hJ3,hk3⟩ | ⟨rfl,hJx3⟩)
    ·have r3:=ah HK W3 hk3
     have hb2:=r3.2
     clear hb0
     gi_wp2
     go_roundw
     case rel=>exact .inr ⟨rfl,hJ3,r3⟩
     case measure=>simp[intOf];omega
    ·gi_wp2
     refine bodyPost_ret (results_none rfl _ _ _) rfl ?_
     exact⟨⟨_,rfl⟩,.inr ⟨_,trivial,hJx3⟩⟩
  ·have hb0:=hR1.1
   gi_wp2
   go_end0
   exact⟨⟨_,rfl⟩,.inl ⟨_,rfl,hJ1⟩⟩
attribute [local go_sem] Oper.semAt_some
theorem grown_drewN (W:World)(m:Nat):W.grownBy (W.drewN m) none:=⟨rfl,rfl,rfl,Nat.le_refl _,fun _ _ _=>rfl⟩
theorem uI (F:Fence)(n:Nat)(hfn:F.fn 78)(hro:F.round=none)(a:Option Addr)(len cap:Nat)(c:Int)(hc:1<=c)(w:World) :
  CallsIn F n Tryz.prog 78 #[.slice a len cap,.int .i64 c] w fun e w'=>e=.returned (.func (.func 123) #[] #[.pointer (some ⟨w.heap.size,0,none⟩),.pointer (some ⟨w.heap.size+1,0,none⟩)])/\w'=(w.alloc (.cells #[.slice a len cap] 71)).alloc (zI c):=by
 refine callsIn_of_wp Tryz.func78 rfl hfn ?_ hro
 simp only[Tryz.ntmps78,List.size_toArray,List.length_cons,List.length_nil,Nat.reduceAdd,Nat.reduceSub,Array.replicate_succ,Array.replicate_zero,List.push_toArray,List.append_toArray,List.nil_append,List.cons_append]
 gi_wp2
 go_ret
 exact⟨rfl,rfl⟩
theorem aag (F:Fence)(n:Nat)(hfn:F.fn 123)(hro:F.round=none)(hn:1<=n)(Bs Bn b off len cap:Nat)(hl:0<len/\len<=65536)(hc:len<=cap)(w:World)(h1:Bs<w.heap.size)(h2:Bn<w.heap.size)
  (Kp:World->World->Prop) (hK:∀ A B,Kp A B->ChR Bs Bn b off len cap A->ChR Bs Bn b off len cap B) (hR:ChR Bs Bn b off len cap w) :
  SeqStopsK F n Tryz.prog 123 #[.pointer (some ⟨Bs,0,none⟩),.pointer (some ⟨Bn,0,none⟩)] (fun _:Unit=>#[Value.slice (some ⟨b,off,none⟩) len len]) Kp (fun ys=>ys=[()]) (fun _=>True) 1 w:=fun l J Jx W hW hJ _ hY h0=>by
 have hR':ChR Bs Bn b off len cap W:=⟨(hW.cell (p:=⟨Bs,0,none⟩) h1).trans hR.1,(hW.cell (p:=⟨Bn,0,none⟩) h2).trans hR.2⟩
 exact xG F n hfn hro hn l Bs Bn b off len cap hl hc Kp hK J Jx hY W hR' (fun m=>hR') (fun m=>hJ [] W _ none h0 (grown_drewN W m) (fun r e=>by cases e))
def upTo (n:Nat):List Int:=(List.range n).map (fun j:Nat=>(j:Int))
theorem sV (n:Nat):(upTo n).length=n:=by simp[upTo]
theorem agW (n m:Nat)(h:n<=m):allIn (m:Int) (upTo n):=by
 intro z hz
 simp only[upTo,List.mem_map,List.mem_range] at hz
 obtain⟨j,hj,rfl⟩:=hz
 omega
theorem uX (n:Nat):upTo (n+1)=upTo n++[(n:Int)]:=by simp[upTo,List.range_succ]
theorem aaN (L:Nat):∀ (n:Nat),n<=8*L->∀ j,dQ (gy L (upTo n)) j=decide (j<n)
 | 0,_,j=>by
  have:gy L (upTo 0)=List.replicate L 0:=rfl
  rw[this]
  unfold dQ bJ
  have:((List.replicate L (0:Int))[j / 8]?.getD 0)=0:=by
   by_cases h:j / 8<L
   ·simp[h]
   ·simp[h]
  rw[this]
  simp[tb]
 | n+1,h,j=>by
  have e:gy L (upTo (n+1))=setB (gy L (upTo n)) n true:=by
   rw[uX]
   unfold gy
   rw[List.foldl_append]
   simp
  have hl:n<8*(gy L (upTo n)).length:=by rw[kE];omega
  rw[e]
  by_cases ej:j=n
  ·subst ej
   rw[qA (lI L _) j hl]
   simp
  ·rw[nM (lI L _) n j hl ej,aaN L n (by omega) j]
   simp
   omega
def ads (n k:Nat):List Int:=upTo k++List.replicate (n - k) 0
def NBl (u:World) (g:Nat) (zs:List Int):Prop:=u.heap[g]?=some (.cells (zs.map (Value.int .i64)).toArray 3)
theorem NBl.aky {u g zs}(h:NBl u g zs):jh u (some ⟨g,0,none⟩) zs.length zs:=by
 refine⟨rfl,fun hp=>⟨g,0,rfl,fun j hj=>?_⟩⟩
 have hb:Bl u g (zs.map (Value.int .i64)).toArray 3:=h
 rw[Nat.zero_add]
 exact hb.cell j _ (by simp[hj])
theorem NBl.cell {u g zs}(h:NBl u g zs){j:Nat}(hj:j<zs.length):u.cell? ⟨g,j,none⟩=some (.int .i64 (zs[j]?.getD 0)):=by
 have hb:Bl u g (zs.map (Value.int .i64)).toArray 3:=h
 exact hb.cell j _ (by simp[hj])
theorem NBl.set {u g zs}(h:NBl u g zs)(j:Nat)(v:Int):NBl (u.setCell ⟨g,j,none⟩ (.int .i64 v)) g (zs.set j v):=by
 have hb:Bl u g (zs.map (Value.int .i64)).toArray 3:=h
 have:=hb.set j (.int .i64 v)
 unfold Bl at this
 unfold NBl
 rw[this,List.map_set]
 simp
theorem af4 {n k:Nat}(h:k<n):(ads n k).set k (k:Int)=ads n (k+1):=by
 unfold ads
 rw[uX]
 have e:n - k=(n - (k+1))+1:=by omega
 rw[e,List.replicate_succ]
 have hl:=sV k
 rw[List.set_append,if_neg (by omega),hl,Nat.sub_self]
 simp
theorem af5 {n k:Nat}(h:k<=n):(ads n k).length=n:=by
 unfold ads
 rw[List.length_append,sV,List.length_replicate]
 omega
theorem adr (n:Nat):ads n n=upTo n:=by simp[ads]
attribute [local go_sem] Oper.semAt_some
theorem ajv:(Tryz.prog.info? 3).map (fun i=>(i.zero,i.size,i.bytes))=some (some (.int .i64 0),1,8):=by kernel_rfl
structure LyB (m0 m1 m2:Nat) (o b:Nat) (u:World):Prop where
 b0:Bl u m0 #[.pointer (some ⟨o,0,none⟩)] 28
 b1:Bl u m1 #[.int .i64 (b:Int)] 3
 b2:Bl u m2 #[.int .i64 0] 31
theorem LyB.set {m0 m1 m2 o b u}(h:LyB m0 m1 m2 o b u){k j:Nat}(v:Value)(h0:m0≠k)(h1:m1≠k)(h2:m2≠k):LyB m0 m1 m2 o b (u.setCell ⟨k,j,none⟩ v):=⟨h.b0.other _ _ h0,h.b1.other _ _ h1,h.b2.other _ _ h2⟩
theorem LyB.call {m0 m1 m2 o b}{u u':World}(h:LyB m0 m1 m2 o b u)(hb:Below u.heap.size u u'):LyB m0 m1 m2 o b u':=⟨h.b0.call hb,h.b1.call hb,h.b2.call hb⟩
theorem Lp.ahs {w P G E g o rows i V F V' K}{u u':World}(h:Lp w P G E g o rows i V F V' K u)(hb:Below u.heap.size u u'):∀ (l:List (Nat×Obj)),(∀ x∈l,u.heap.size<=x.1/\u'.heap[x.1]?=some x.2)->Lp w P G E g o (l++rows) i V F V' K u':=fun l hl=>by
 obtain⟨E0,cg,lg,dg,X,C,L,D,S,N,h,e1,e2,e3⟩:=h
 have h1:=h.later hb
 refine⟨E0,cg,lg,dg,X,C,L,D,S,N,⟨⟨h1.hl.gv,h1.hl.ge,h1.hl.bel,h1.hl.sz,fun x hx=>?_⟩,h1.gs,h1.sq,h1.vl,h1.fl,h1.vb,h1.eb,h1.eu,h1.ed⟩,e1,e2,e3⟩
 rcases List.mem_append.1 hx with e | e
 ·obtain⟨a1,a2⟩:=hl x e
  exact⟨a2,fun hs=>by have:=h.hl.gv.lt hs;omega⟩
 ·exact h1.hl.ro x e
def LyR (o m0 m1 m2 q Bs blk:Nat) (x:Int) (zs:List Int) (rows:List (Nat×Obj)):List (Nat×Obj):=(m1,zI x)::(m0,zC o 28)::(m2,.cells #[.int .i64 0] 31)::(q,.cells (zs.map (Value.int .u8)).toArray 5)::(Bs,.cells #[.slice (some ⟨q,0,none⟩) blk blk] 71)::(Bs+1,zI (blk:Int))::rows
def LyI (B:Nat) (w:World) (P:Nat->Int) (G:Geo) (E:Nat->Bool) (g o m0 m1 m2 q Bs b:Nat) (zs:List Int) (rows:List (Nat×Obj)) (i:Nat) (V:Nat->List Int) (F:Nat->Bool) (V':Nat->List Int) (K:Nat->Bool):List Unit->World->Prop
 | [],W=>Lq0 B w P G E g o (LyR o m0 m1 m2 q Bs G.blk (b:Int) zs rows) i V F V' K W
 | _::_,W=>Lq B w P G E g o (LyR o m0 m1 m2 q Bs G.blk ((b:Int)+1) zs rows) i V F (fun j=>if j=b then zs else V' j) K W
theorem LyI.own (B:Nat)(w:World)(P:Nat->Int)(G:Geo)(E:Nat->Bool)(g o m0 m1 m2 q Bs b:Nat)(zs:List Int)(rows:List (Nat×Obj))(i:Nat)(V:Nat->List Int)(F:Nat->Bool)(V':Nat->List Int)(K:Nat->Bool):OwnFrom B (LyI B w P G E g o m0 m1 m2 q Bs b zs rows i V F V' K):=fun s W W' row hs hg hr=>by
 cases s with
 | nil=>exact Lq0.kept hs hg hr
 | cons x s=>exact Lq.kept hs hg hr
theorem agF {w P G E g o rows i V F V' K u}{b:Nat}(h:Lp w P G E g o rows i V F V' K u)(hb:E b=true)(n:Nat)(hn:0<n/\n<=8*G.blk)(hrc:∀ x∈rows,x.2.isCells=true)(h0:1<w.heap.size)(hb4:b<=4096)(hE:Hid (∀ j:Nat,P 11<=(j:Int)->E j=false)) :
  Calls Tryz.prog 47 #[.pointer (some ⟨o,0,none⟩),.int .i64 (G.blk:Int),.int .i64 (b:Int),.int .i64 1,.int .i64 (n:Int)] u fun e u'=>e=.returned (.int .i64 0)/\Hid (Lp w P G E g o rows i V F (fun j=>if j=b then gy G.blk (upTo n) else V' j) K u'):=by
 have hbk:=h.ok.ok.blk
 have hmk:=run_make_row' (P:=Tryz.prog) 102 3 (.int .i64 0) 8 Tryz.underlying102 ajv rfl .i64 .i64 n (by omega) (by omega)
 have e8:8*G.blk*1=8*G.blk:=by omega
 obtain⟨N8,hN8⟩:∃ N8:Nat,N8=8*G.blk:=⟨_,rfl⟩
 have KM:Hid (∀ v,jh v (some ⟨u.heap.size+1+1+1,0,none⟩) n (upTo n)->Calls Tryz.prog 77 #[.int .i64 (N8:Int),.slice (some ⟨u.heap.size+1+1+1,0,none⟩) n n] v fun e w'=>e=.returned (.tuple #[.slice (some ⟨v.heap.size,0,none⟩) G.blk G.blk,.int .i64 0])/\Hid (Block w' v.heap.size (gy G.blk (upTo n)))/\Hid (Below v.heap.size v w')):=fun v hv=>by
  have hL:(N8+7) / 8=G.blk:=by omega
  refine(acn (some ⟨u.heap.size+1+1+1,0,none⟩) n n N8 (upTo n) v hv (by omega) (by omega)).mono ?_
  rw[hL]
  rintro e w' ⟨h1 | h1,hbw⟩
  ·exact absurd (agW n N8 (by omega)) h1.2
  ·exact⟨h1.1,h1.2.2,hbw⟩
 have hm1:(8:Int)*(G.blk:Int)=(N8:Int):=by omega
 have hm2:(N8:Int)*1=(N8:Int):=by omega
 have hbb:0<(G.blk:Int)/\(G.blk:Int)<=4096:=by omega
 have hn8:(N8:Int)<=65536/\0<(N8:Int):=by omega
 have hnn:0<(n:Int)/\(n:Int)<=65536:=by omega
 have H:=hide h
 have HN:=hide hN8
 have S0:Hid (NBl ((((u.alloc (zC o 28)).alloc (zI (b:Int))).alloc (.cells #[.int .i64 0] 31)).alloc (.cells (madeCells #[.int .i64 0] n) 3)) (u.heap.size+1+1+1) (ads n 0)):=by
  have e1:(((u.alloc (zC o 28)).alloc (zI (b:Int))).alloc (.cells #[.int .i64 0] 31)).heap.size=u.heap.size+1+1+1:=by simp
  have:=World.alloc_heap_new (((u.alloc (zC o 28)).alloc (zI (b:Int))).alloc (.cells #[.int .i64 0] 31)) (.cells (madeCells #[.int .i64 0] n) 3)
  rw[e1] at this
  show _=_
  rw[this,← Array.toArray_toList (xs:=madeCells #[.int .i64 0] n),toList_madeCells_one]
  simp[ads,upTo]
 have S1:Hid (Below u.heap.size u ((((u.alloc (zC o 28)).alloc (zI (b:Int))).alloc (.cells #[.int .i64 0] 31)).alloc (.cells (madeCells #[.int .i64 0] n) 3))) :=
  ((((Below.refl _ _).alloc (Nat.le_refl _) _).alloc (by simp) _).alloc (by simp;omega) _).alloc (by simp;omega) _
 have S2:Hid (LyB u.heap.size (u.heap.size+1) (u.heap.size+1+1) o b ((((u.alloc (zC o 28)).alloc (zI (b:Int))).alloc (.cells #[.int .i64 0] 31)).alloc (.cells (madeCells #[.int .i64 0] n) 3))):=by
  have b0:=Bl.new u #[.pointer (some ⟨o,0,none⟩)] 28
  have b1:=Bl.new (u.alloc (zC o 28)) #[.int .i64 (b:Int)] 3
  have b2:=Bl.new ((u.alloc (zC o 28)).alloc (zI (b:Int))) #[.int .i64 0] 31
  rw[show (u.alloc (zC o 28)).heap.size=u.heap.size+1 by simp] at b1
  rw[show ((u.alloc (zC o 28)).alloc (zI (b:Int))).heap.size=u.heap.size+1+1 by simp] at b2
  exact⟨((b0.alloc _).alloc _).alloc _,(b1.alloc _).alloc _,b2.alloc _⟩
 clear h hN8 e8
 refine(callsIn_wide (n:=3)).1 ?_
 refine callsIn_of_wp_marks Tryz.func47 rfl trivial ?_ rfl
 simp only[Tryz.ntmps47,List.size_toArray,List.length_cons,List.length_nil,Nat.reduceAdd,Nat.reduceSub,Array.replicate_succ,Array.replicate_zero,List.push_toArray,List.append_toArray,List.nil_append,List.cons_append]
 gi_wp2
 generalize ((((u.alloc (zC o 28)).alloc (zI (b:Int))).alloc (.cells #[.int .i64 0] 31)).alloc (.cells (madeCells #[.int .i64 0] n) 3))=w0 at *
 have hq3:Hid (u.heap.size+1+1<u.heap.size+1+1+1/\u.heap.size+1+1+1=u.heap.size+3):=⟨by omega,by omega⟩
 generalize hm3:u.heap.size+1+1+1=m3 at *
 generalize amm:u.heap.size+1+1=m2 at *
 generalize amn:u.heap.size+1=m1 at *
 have HM:Hid (u.heap.size+1=m1/\u.heap.size+2=m2/\u.heap.size+3=m3):=⟨by omega,by omega,by omega⟩
 generalize hm0:u.heap.size=m0 at *
 have HM0:=hide hm0
 clear hm3 amm amn hm0 hmk hq3
 gi_loopw [21] (fun v wr=>∃ k:Nat,k<=n/\v=.int .i64 (k:Int)/\Hid (NBl wr m3 (ads n k))/\Hid (Below m0 u wr)/\Hid (LyB m0 m1 m2 o b wr)) (fun v _=>n - (intOf v).toNat)
 case atStart=>exact⟨0,Nat.zero_le _,rfl,S0,S1,S2⟩
 case round =>
  obtain⟨k,hk,rfl,R0,R1,R2⟩:=hrel
  clear S0 S1 S2
  by_cases hlt:k<n
  ·have c1:=(ah R0).cell (j:=k) (by rw[af5 hk];exact hlt)
   have f1:wr.frozen? ⟨m3,k,none⟩=false:=Bl.free (ah R0) k
   have R0':=(ah R0).set k (k:Int)
   rw[af4 hlt] at R0'
   have amE:=hide R0'
   have R1':=hide ((ah R1).setCell (p:=⟨m3,k,none⟩) (by show m0<=m3;have:=ah HM;have:=ah HM0;omega) (.int .i64 (k:Int)))
   have R2':=hide ((ah R2).set (k:=m3) (j:=k) (.int .i64 (k:Int)) (by have:=ah HM;have:=ah HM0;omega) (by have:=ah HM;omega) (by have:=ah HM;omega))
   generalize (ads n k)[k]?.getD 0=z at *
   clear R0 R1 R2 R0' KM
   gi_wp2
   go_roundw
   case rel=>exact⟨k+1,by omega,by go_num,amE,R1',R2'⟩
   case measure=>simp[intOf];omega
  ·have ekn:n=k:=by omega
   have I0:Hid (jh wr (some ⟨m3,0,none⟩) n (upTo n)):=by
    have:=(ah R0).aky
    rw[← ekn,adr,sV] at this
    exact this
   have KM':=hide (ah KM wr (ah I0))
   have hkn:(k:Int)=(n:Int):=by omega
   rw[hkn]
   have hq1:Hid (m3<wr.heap.size):=(Array.getElem?_eq_some_iff.1 (ah R0)).1
   clear KM I0 R0 hlt ekn hkn hk
   gi_wp2_with (refine⟨trivial,?_⟩;gi_at_call 77;refine(callsIn_wide.2 (ah KM')).mono ?_;rintro e w1 ⟨rfl,B1,b1⟩;clear KM')
   have hq2:Hid (wr.heap.size<w1.heap.size):=(Array.getElem?_eq_some_iff.1 (ah B1)).1
   have R1':=hide ((ah R1).trans ((ah b1).mono (by have:=ah hq1;have:=ah HM;have:=ah HM0;omega)))
   have R2':=hide ((ah R2).call (ah b1))
   clear R1 R2 b1
   generalize hq:wr.heap.size=q at *
   clear hq
   refine⟨trivial,?_⟩
   refine(uI _ _ trivial rfl _ _ _ _ (by omega) _).mono ?_
   rintro e w2 ⟨rfl,ew2⟩
   have hz2:w2.heap.size=w1.heap.size+2:=by rw[ew2];simp
   have b12:Below w1.heap.size w1 w2:=by rw[ew2];exact((Below.refl _ _).alloc (Nat.le_refl _) _).alloc (by simp) _
   have BS:Bl w2 w1.heap.size #[.slice (some ⟨q,0,none⟩) G.blk G.blk] 71:=by rw[ew2];exact(Bl.new w1 _ _).alloc _
   have BN:Bl w2 (w1.heap.size+1) #[.int .i64 (G.blk:Int)] 3:=by
    have:=Bl.new (w1.alloc (.cells #[.slice (some ⟨q,0,none⟩) G.blk G.blk] 71)) #[.int .i64 (G.blk:Int)] 3
    rw[World.size_alloc] at this
    rw[ew2];exact this
   have BD:Bl w2 q ((gy G.blk (upTo n)).map (Value.int .u8)).toArray 5:=Bl.call (u:=w1) (ah B1) b12
   have LB:=(ah R2').call b12
   have hb2:Below m0 u w2:=(ah R1').trans (b12.mono (by have:=ah hq1;have:=ah hq2;have:=ah HM;have:=ah HM0;omega))
   clear ew2 B1 R1' R2' b12
   have hq4:q<w1.heap.size:=ah hq2
   generalize w1.heap.size=Bs at *
   have anZ:=ah hq1
   have hms:=ah HM
   have hmu:=ah HM0
   have L0:Lq0 w2.heap.size w P G E g o ((m1,zI (b:Int))::(m0,zC o 28)::(m2,.cells #[.int .i64 0] 31)::(q,.cells ((gy G.blk (upTo n)).map (Value.int .u8)).toArray 5)::(Bs,.cells #[.slice (some ⟨q,0,none⟩) G.blk G.blk] 71)::(Bs+1,zI (G.blk:Int))::rows) i V F V' K w2:=by
    have hl:=(ah H).ahs (u':=w2) (by rw[hmu];exact hb2) [(m1,zI (b:Int)),(m0,zC o 28),(m2,.cells #[.int .i64 0] 31),(q,.cells ((gy G.blk (upTo n)).map (Value.int .u8)).toArray 5),(Bs,.cells #[.slice (some ⟨q,0,none⟩) G.blk G.blk] 71),(Bs+1,zI (G.blk:Int))] (fun x hx=>by
     simp only[List.mem_cons,List.not_mem_nil,or_false] at hx
     rcases hx with rfl | rfl | rfl | rfl | rfl | rfl
     ·exact⟨by show u.heap.size<=m1;omega,LB.b1⟩
     ·exact⟨by show u.heap.size<=m0;omega,LB.b0⟩
     ·exact⟨by show u.heap.size<=m2;omega,LB.b2⟩
     ·exact⟨by show u.heap.size<=q;omega,BD⟩
     ·exact⟨by show u.heap.size<=Bs;omega,BS⟩
     ·exact⟨by show u.heap.size<=Bs+1;omega,BN⟩)
    refine hl.lq0 (fun x hx=>?_) h0 (ah hE)
    rcases List.mem_append.1 hx with e | e
    ·simp only[List.mem_cons,List.not_mem_nil,or_false] at e
     rcases e with rfl | rfl | rfl | rfl | rfl | rfl<;>rfl
    ·exact hrc x e
   have hdist:∀ x∈(m0,zC o 28)::(m2,.cells #[.int .i64 0] 31)::(q,.cells ((gy G.blk (upTo n)).map (Value.int .u8)).toArray 5)::(Bs,.cells #[.slice (some ⟨q,0,none⟩) G.blk G.blk] 71)::(Bs+1,zI (G.blk:Int))::rows,x.1≠m1:=fun x hx=>by
    simp only[List.mem_cons] at hx
    rcases hx with rfl | rfl | rfl | rfl | rfl | hx
    ·show m0≠m1;omega
    ·show m2≠m1;omega
    ·show q≠m1;omega
    ·show Bs≠m1;omega
    ·show Bs+1≠m1;omega
    ·have:=(ah H).lt hx
     omega
   have hR:ChR Bs (Bs+1) q 0 G.blk G.blk w2:=⟨BS.cell 0 _ rfl,BN.cell 0 _ rfl⟩
   have hzs:(gy G.blk (upTo n)).length=G.blk:=kE _ _
   have hzb:∀ z∈gy G.blk (upTo n),0<=z/\z<=255:=lI _ _
   have hRw:∀ v:World,Bl v q ((gy G.blk (upTo n)).map (Value.int .u8)).toArray 5->Row v.heap.size v (some ⟨q,0,none⟩) G.blk G.blk (gy G.blk (upTo n)):=fun v hv=>by
    have hh:=Block.has (show Block v q (gy G.blk (upTo n)) from hv) (len:=G.blk) hzs
    refine⟨hzs,Nat.le_refl _,by omega,hzb,fun hp=>?_⟩
    obtain⟨b',off',e',hc'⟩:=hh.2 hp
    exact⟨b',off',e',hh.lt hp e',hc'⟩
   clear BS BN BD LB
   generalize hzz:gy G.blk (upTo n)=zs at *
   have HZZ:=hide hzz
   clear hzz
   gi_wp2
   refine wpIn_rangeFunc_ownG rfl (by omega) (gf:=123) (lb:=#[.pointer (some ⟨Bs,0,none⟩),.pointer (some ⟨Bs+1,0,none⟩)]) rfl trivial (enters_of Tryz.func123 (by kernel_rfl) rfl)
    (aag Fence.wide 2 trivial rfl (by omega) Bs (Bs+1) q 0 G.blk G.blk (by omega) (Nat.le_refl _) w2 (by omega) (by omega)
     (fun A B=>B.heap[Bs]?=A.heap[Bs]?/\B.heap[Bs+1]?=A.heap[Bs+1]?)
     (fun A B hk hr=>⟨(World.cell?_of_block hk.1).trans hr.1,(World.cell?_of_block hk.2).trans hr.2⟩) hR)
    (fun h k=>⟨k.1.trans h.1,k.2.trans h.2⟩) (fun W l o o' hl h1 h2 h3=>⟨World.putObj_heap_other (by omega),World.putObj_heap_other (by omega)⟩) (Below.refl _ _) (fun _=>rfl)
    (LyI w2.heap.size w P G E g o m0 m1 m2 q Bs b zs rows i V F V' K) (fun _ _ _=>False) (LyI.own _ _ _ _ _ _ _ _ _ _ _ _ _ _ _ _ _ _ _ _) (fun _ _ _ _ _ hs _ _=>hs) L0
    (fun _=>{ tmps:=#[.pointer (some ⟨o,0,none⟩),.int .i64 (G.blk:Int),.int .i64 (b:Int),.int .i64 1,.int .i64 (n:Int),.pointer (some ⟨m0,0,none⟩),undef,.pointer (some ⟨m1,0,none⟩),undef,undef,.pointer (some ⟨m2,0,none⟩),.slice (some ⟨m3,0,none⟩) n n,u12,.slice (some ⟨q,0,none⟩) G.blk G.blk,.int .i64 0,.slice (some ⟨q,0,none⟩) G.blk G.blk,undef,.int .i64 (n:Int),.slice (some ⟨m3,0,none⟩) n n,.slice (some ⟨m3,0,none⟩) n n,.int .i64 (n:Int),.int .i64 (n:Int),.bool false,u23,u24,u25,u26,u27,u28,.tuple #[.slice (some ⟨q,0,none⟩) G.blk G.blk,.int .i64 0],.int .i64 (G.blk:Int),.int .i64 (N8:Int),.int .i64 1,.int .i64 (N8:Int),.slice (some ⟨m3,0,none⟩) n n,.tuple #[.slice (some ⟨q,0,none⟩) G.blk G.blk,.int .i64 0],.slice (some ⟨q,0,none⟩) G.blk G.blk,.int .i64 0,.int .i64 0,.bool false,undef,.slice (some ⟨q,0,none⟩) G.blk G.blk,.int .i64 (G.blk:Int),.func (.func 123) #[] #[.pointer (some ⟨Bs,0,none⟩),.pointer (some ⟨Bs+1,0,none⟩)],.slice (some ⟨q,0,none⟩) G.blk G.blk,undef,undef,undef,undef,undef,undef,undef,undef,undef],defers:=[] }) ?assign ?body ?done ?stop
   case assign =>
    intro l x W K hK
    gi_wp2
    exact hK
   case body =>
    intro l pre x W hI hlt
    have hp:pre=[]:=by
     cases pre with
     | nil=>rfl
     | cons y s=>simp at hlt
    subst hp
    have hL:Lq0 w2.heap.size w P G E g o (LyR o m0 m1 m2 q Bs G.blk (b:Int) zs rows) i V F V' K W:=hI
    have c0:Bl W m0 #[.pointer (some ⟨o,0,none⟩)] 28:=hL.lq.row (x:=(m0,zC o 28)) (by simp[LyR])
    have c1:Bl W m1 #[.int .i64 (b:Int)] 3:=hL.lq.row (x:=(m1,zI (b:Int))) (by simp[LyR])
    have cd:Bl W q (zs.map (Value.int .u8)).toArray 5:=hL.lq.row (x:=(q,.cells (zs.map (Value.int .u8)).toArray 5)) (by simp[LyR])
    have KW:=hide (ahq hL hb (some ⟨q,0,none⟩) G.blk zs (hRw W cd))
    have KE:Hid (W.heap[Bs]?=some (.cells #[.slice (some ⟨q,0,none⟩) G.blk G.blk] 71)/\W.heap[Bs+1]?=some (zI (G.blk:Int))):=⟨hL.lq.row (x:=(Bs,.cells #[.slice (some ⟨q,0,none⟩) G.blk G.blk] 71)) (by simp[LyR]),hL.lq.row (x:=(Bs+1,zI (G.blk:Int))) (by simp[LyR])⟩
    have y0:=c0.cell 0 (.pointer (some ⟨o,0,none⟩)) rfl
    have y1:=c1.cell 0 (.int .i64 (b:Int)) rfl
    have HD:=hide hdist
    have HW:Hid (w.heap.size<=m1):=by
     have:=(ah H).bel.size
     show w.heap.size<=m1
     omega
    have aob:(b:Int)<=4096:=by omega
    have aoc:0<=(b:Int):=by omega
    clear hI hlt hL c0 c1 cd hdist hRw H hR L0
    gi_wp2_with (refine⟨trivial,?_⟩;gi_at_call 51;refine(CallsIn.inRound l (callsIn_wide.2 (ah KW))).mono ?_;rintro e W1 ⟨rfl,Z⟩;clear KW y0 y1;have d1:Bl W1 m1 #[.int .i64 (b:Int)] 3:=(ah Z).2.row (x:=(m1,zI (b:Int))) (by simp[LyR]);have z1:=d1.cell 0 (.int .i64 (b:Int)) rfl;have z2:=d1.free 0;have D1:=hide d1;clear d1)
    have L2:Lq w2.heap.size w P G E g o (LyR o m0 m1 m2 q Bs G.blk ((b:Int)+1) zs rows) i V F (fun j=>if j=b then zs else V' j) K (W1.setCell ⟨m1,0,none⟩ (.int .i64 ((b:Int)+1))):=Lq.set (ah Z).2 (ah HW) h0 (ah HD) 0 (.int .i64 ((b:Int)+1)) (Bl.set (ah D1) 0 (.int .i64 ((b:Int)+1)))
    exact⟨(ah Z).1.trans ((KeepsOthers.setCell _ _ _).from _),⟨(L2.row (x:=(Bs,.cells #[.slice (some ⟨q,0,none⟩) G.blk G.blk] 71)) (by simp[LyR])).trans (ah KE).1.symm,(L2.row (x:=(Bs+1,zI (G.blk:Int))) (by simp[LyR])).trans (ah KE).2.symm⟩,L2⟩
   case done =>
    intro D ys W hD hS hI hK
    subst hS
    have hL:Lq w2.heap.size w P G E g o (LyR o m0 m1 m2 q Bs G.blk ((b:Int)+1) zs rows) i V F (fun j=>if j=b then zs else V' j) K W:=hI
    have d2:Bl W m2 #[.int .i64 0] 31:=hL.row (x:=(m2,.cells #[.int .i64 0] 31)) (by simp[LyR])
    have y2:=d2.cell 0 (.int .i64 0) rfl
    have y3:=d2.free 0
    have hmD:D≠m2:=by omega
    have hK':(W.setCell ⟨m2,0,none⟩ (.int .i64 0)).heap[D]?=some (.deferred (some [])):=(Below.heap_setCell _ _ _ _ hmD).trans hK
    have L2:Lq w2.heap.size w P G E g o ((m2,.cells #[.int .i64 0] 31)::rows) i V F (fun j=>if j=b then zs else V' j) K (W.setCell ⟨m2,0,none⟩ (.int .i64 0)):=by
     have l1:Lq w2.heap.size w P G E g o ((m2,.cells #[.int .i64 0] 31)::rows) i V F (fun j=>if j=b then zs else V' j) K W:=hL.sub (fun x hx=>by
      rcases List.mem_cons.1 hx with e | e
      ·rw[e];simp[LyR]
      ·simp[LyR,e])
     exact Lq.set l1 (by have:=(ah H).bel.size;omega) h0 (fun x hx=>by have:=(ah H).lt hx;omega) 0 (.int .i64 0) (Bl.set d2 0 (.int .i64 0))
    have HL2:=hide L2
    have HKD:=hide hK'
    clear hI hL d2 hdist hRw H hR L0 L2 hK hK'
    gi_wp2
    refine⟨by simp,.inl ⟨_,_,rfl,run_takeDeferred (ah HKD),?_⟩⟩
    refine⟨.int .i64 0,?_,rfl,?_⟩
    ·have y4:=((ah HL2).kept (grownBy_putObj' (W.setCell ⟨m2,0,none⟩ (.int .i64 0)) D (.deferred none)) (fun r e=>by cases e;exact⟨hD,_,ah HKD,rfl⟩)).row (x:=(m2,.cells #[.int .i64 0] 31)) (by simp)
     have y5:=Bl.cell (u:=(W.setCell ⟨m2,0,none⟩ (.int .i64 0)).putObj D (.deferred none)) (g:=m2) (cs:=#[.int .i64 0]) (t:=31) y4 0 (.int .i64 0) rfl
     simp[results,Tryz.results47,go_sem,y5]
    ·rw[ah HZZ]
     exact hide (((ah HL2).kept (grownBy_putObj' (W.setCell ⟨m2,0,none⟩ (.int .i64 0)) D _) (fun r e=>by cases e;exact⟨hD,_,ah HKD,rfl⟩)).lp.pop)
   case stop =>
    intro D c pre W _ _ h _
    exact h.elim
structure Ab (P:Nat->Int) (G:Geo) (E:Nat->Bool) (bb da ni:Nat):Prop where
 p7:P 7=(bb:Int)
 p11:P 11=(da:Int)
 p2:P 2=(ni:Int)
 eb:E bb=true
 ei:E G.ib=true
 dn:da<=G.n
 n8:G.n<=8*G.blk
 i8:ni<=8*G.blk
 b4:bb<=4096
 ne:G.ib≠bb
theorem agv {w P G E g o rows i V F V' K u}{a:Nat}{bb da ni:Nat}(h:Lp w P G E g o rows i V F V' K u)(hA:Ab P G E bb da ni)(ha:(a,alO g P)∈rows)(h0:1<w.heap.size) :
  Calls Tryz.prog 208 #[.pointer (some ⟨a,0,none⟩),.pointer (some ⟨o,0,none⟩)] u fun e u'=>e=.returned (.tuple #[.int .i64 (tkN (V' bb) K da G.n),.int .i64 (tkE (V' bb) K da G.n)])/\Hid (Lp w P G E g o rows i V F (fun j=>if j=bb then tkZ (V' bb) K da G.n else V' j) K u'):=by
 have hpg:=h.ok
 have hbk:=hpg.ok.blk
 have hp0:=hpg.p0
 have hp1:=hpg.p1
 have hal:Bl u a (alA g P) 112:=h.row ha
 have c0:=hal.cell 0 (.pointer (some ⟨g,0,none⟩)) rfl
 have KA:Hid (∀ v,Below u.heap.size u v->Calls Tryz.prog 212 #[.pointer (some ⟨a,0,none⟩)] v fun e w'=>e=.returned (Bv (bb:Int) (8*P 0) (da:Int) (G.n:Int))/\Hid (Below u.heap.size u w')/\w'.cell? ⟨a,0,none⟩=some (.pointer (some ⟨g,0,none⟩))):=fun v hv=>by
  have hal2:Bl v a (alA g P) 112:=hal.call hv
  have:=aao (u:=v) (a:=a) (g:=g) (P:=P) hal2 (by omega)
  rw[hA.p7,hA.p11,hp1] at this
  refine this.mono ?_
  rintro e w' ⟨rfl,b1⟩
  have b2:=hv.trans (b1.mono hv.size)
  exact⟨rfl,b2,(hal.call b2).cell 0 (.pointer (some ⟨g,0,none⟩)) rfl⟩
 have KT:Hid (∀ v,Below u.heap.size u v->Calls Tryz.prog 222 #[Bv (bb:Int) (8*P 0) (da:Int) (G.n:Int),.pointer (some ⟨o,0,none⟩),.func (.func 223) #[.pointer (some ⟨g,0,none⟩)] #[]] v fun e u'=>e=.returned (.tuple #[.int .i64 (tkN (V' bb) K da G.n),.int .i64 (tkE (V' bb) K da G.n)])/\Hid (Lp w P G E g o rows i V F (fun j=>if j=bb then tkZ (V' bb) K da G.n else V' j) K u')):=fun v hv =>
  aiJ da G.n (h.later hv) hA.eb (8*P 0) (by rw[hp0]) hA.dn hA.n8 hA.b4 h0 (fun j h1 h2=>⟨by rw[hA.p11];omega,h2⟩)
 have HB:Hid (∀ q,Below u.heap.size u (u.drewN q)):=fun q=>below_drewN (Below.refl _ _) q
 clear h hA ha h0 hpg hbk hp0 hp1 hal
 generalize tkN (V' bb) K da G.n=tn at *
 generalize tkE (V' bb) K da G.n=te at *
 generalize tkZ (V' bb) K da G.n=tz at *
 generalize 8*P 0=e8 at *
 generalize (bb:Int)=bi at *
 generalize (da:Int)=di at *
 generalize (G.n:Int)=ni at *
 go_enter Tryz.func208,Tryz.ntmps208
 go_upto_region 3 with fail
 go_region_with (first
  | (go_at_call 212;refine(ah KA _ (by first | exact Below.refl _ _ | exact(Below.refl _ _).drew)).mono ?_;rintro e w1 ⟨rfl,hb1,c1⟩;clear KA)
  | (go_at_call 222;refine(ah KT _ (by first | exact ah hb1 | exact(ah hb1).drew)).mono ?_;rintro e w2 ⟨rfl,Z⟩;clear KT))
 all_goals (go_wp2_with fail;go_ret2;first | exact⟨rfl,Z⟩ | exact⟨rfl,hide ((ah Z).later (Below.refl _ _).drew)⟩)
end Go.Proofs.YtefdkpbmeoakgaaGreatDoor
