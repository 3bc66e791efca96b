/- Joined: DBase, DLeaf, DStep, DSettle, DRead, DFuse, GKey. -/
import Derived.Test.YtefdkpbmeoakgaaGreatDoorDnJ1
import Derived.OwnWalk
import Derived.Deep.DeepCutAuto
import Derived.Maps.OwnSet
/- A device in memory: its own block, the block of its places, and the rows that akF or wait. -/
namespace Go.Proofs.YtefdkpbmeoakgaaGreatDoor
set_option maxRecDepth 100000
set_option maxHeartbeats 8000000
open Go.RowKit Go.Shelf
set_option linter.unusedVariables false
structure Dev where
 blk:Nat
 n:Nat
 X:Nat->List Int
 Y:Nat->List (List Int)
 f:Int
 dead:Bool
 wr:Int
structure Dev.Ok (D:Dev):Prop where
 n1:1<=D.n
 n2:D.n<=4096
 b1:1<=D.blk
 b2:D.blk<=4096
 y:∀ i,i<D.n->(D.Y i).length<=400
 f1:-1<=D.f
 f2:D.f<=9223372036854775807
def Dev.rd (D:Dev) (b:Nat):List Int:=(D.Y b).getLast?.getD (D.X b)
abbrev rv (blk:Nat) (r:Nat×Nat):Value:=.slice (some ⟨r.1,0,none⟩) blk r.2
structure bP (u:World) (S:Nat->Prop) (blk:Nat) (r:Nat×Nat) (zs:List Int):Prop where
 own:ai4 u r.1 blk zs
 mem:S r.1
 le:blk<=r.2
 mx:r.2<=maxLen
 byt:∀ z∈zs,0<=z/\z<=255
theorem bP.kept {u u':World}{S S':Nat->Prop}{blk r zs}(h:bP u S blk r zs)
  (hk:∀ k c,S k->u.heap[k]?=some (.cells c 5)->u'.heap[k]?=u.heap[k]?) (hS:∀ k,S k->S' k):bP u' S' blk r zs:=by
 obtain⟨⟨h1,cur,hg,ht⟩,h2,h3,h4,h5⟩:=h
 exact⟨⟨h1,cur,(hk _ _ h2 hg).trans hg,ht⟩,hS _ h2,h3,h4,h5⟩
theorem bP.row {u S blk r zs}(h:bP u S blk r zs)(hb:blk<=4096):Row u.heap.size u (some ⟨r.1,0,none⟩) blk r.2 zs:=by
 have hm:=h.mx
 unfold maxLen at hm
 refine⟨h.own.1,h.le,⟨by omega,by omega⟩,h.byt,fun hp=>⟨r.1,0,rfl,h.own.lt,fun j hj=>?_⟩⟩
 rw[Nat.zero_add]
 exact h.own.cell hj
def WR (u:World) (S:Nat->Prop) (blk:Nat) (v:Value) (Z:List (List Int)):Prop :=
 ∃ R:List (Nat×Nat),u.ownsRow 0 71 1 v Z.length (R.map (rv blk))/\(∀ j,j<Z.length->bP u S blk (R[j]?.getD (0,0)) (Z[j]?.getD []))/\(∀ k,v.ownBlock=some k->S k)
theorem WR.nil (u:World)(S:Nat->Prop)(blk:Nat):WR u S blk (.slice none 0 0) [] :=
 ⟨[],World.ownsRow_nil u 0 _ 1,fun j hj=>by simp at hj,fun k hk=>by simp[Value.ownBlock] at hk⟩
theorem WR.kept {u u':World}{S S':Nat->Prop}{blk v Z}(h:WR u S blk v Z)
  (hk:∀ k c,S k->u.heap[k]?=some (.cells c 5)->u'.heap[k]?=u.heap[k]?) (hv:∀ k,v.ownBlock=some k->u'.heap[k]?=u.heap[k]?) (hS:∀ k,S k->S' k):WR u' S' blk v Z:=by
 obtain⟨R,⟨h1,h2⟩,h3,h4⟩:=h
 refine⟨R,⟨h1,?_⟩,fun j hj=>(h3 j hj).kept hk hS,fun k e=>hS k (h4 k e)⟩
 rcases h2 with h2 | ⟨g,cap,cur,rfl,hb,hg,r⟩
 ·exact .inl h2
 ·exact .inr ⟨g,cap,cur,rfl,hb,(hv g rfl).trans hg,r⟩
theorem WR.shape {u S blk v Z}(h:WR u S blk v Z) :
  ∃ a c,v=.slice a Z.length c/\Z.length<=c/\c<=maxLen/\(a=none->Z.length=0/\c=0)/\(∀ x,a=some x->∃ k cur,x=⟨k,0,none⟩/\S k/\u.heap[k]?=some (.cells cur 71)/\cur.size=c):=by
 obtain⟨R,⟨h1,h2⟩,h3,h4⟩:=h
 rcases h2 with ⟨rfl,h0⟩ | ⟨g,cap,cur,rfl,hb,hg,hc,hm,hs,ht⟩
 ·exact⟨none,0,by rw[h0],by omega,by unfold maxLen;omega,fun _=>⟨h0,rfl⟩,fun x e=>by cases e⟩
 ·refine⟨_,cap,rfl,hc,hm,fun e=>(by cases e),fun x e=>?_⟩
  cases e
  exact⟨g,cur,rfl,h4 g rfl,hg,by simpa using hs⟩
theorem WR.elem {u S blk}{a:Option Addr}{n c:Nat}{Z}(h:WR u S blk (.slice a n c) Z){j:Nat}(hj:j<Z.length) :
  ∃ k r,a=some ⟨k,0,none⟩/\S k/\u.cell? ⟨k,j,none⟩=some (rv blk r)/\u.frozen? ⟨k,j,none⟩=false/\bP u S blk r (Z[j]?.getD []):=by
 obtain⟨R,⟨h1,h2⟩,h3,h4⟩:=h
 rcases h2 with ⟨_,h0⟩ | ⟨g,cap,cur,e,hb,hg,hc,hm,hs,ht⟩
 ·omega
 ·cases e
  refine⟨g,R[j]?.getD (0,0),rfl,h4 g rfl,?_,by simp[World.frozen?,hg],h3 j hj⟩
  have hl:R.length=Z.length:=by simpa using h1
  have hx:(cur.toList.take Z.length)[j]?=some (rv blk (R[j]?.getD (0,0))):=by
   rw[Nat.mul_one] at ht
   rw[ht,List.getElem?_map,List.getElem?_eq_getElem (by omega)];rfl
  rw[List.getElem?_take_of_lt hj] at hx
  simp only[World.cell?,hg]
  simpa using hx
structure Mem where
 h:Nat
 A:Nat->Nat×Nat
 W:Nat->Value
 fu:Bool
 fv:Int
def xA (D:Dev) (m:Mem) (k:Nat):Value :=
 if k=0 then .int .i64 D.blk else if k=1 then .slice (some ⟨m.h,0,none⟩) D.n D.n else if k=2 then .bool m.fu else if k=3 then .int .i64 m.fv else if k=4 then .bool D.dead else .int .i64 D.wr
def tX (D:Dev) (m:Mem) (j:Nat):Value:=if j%2=0 then rv D.blk (m.A (j / 2)) else m.W (j / 2)
structure DvM (u:World) (S:Nat->Prop) (g:Nat) (D:Dev) (m:Mem):Prop where
 dev:u.rowIs g 92 6 (xA D m)
 pla:u.rowIs m.h 95 (2*D.n) (tX D m)
 sg:S g
 sh:S m.h
 arr:∀ i,i<D.n->bP u S D.blk (m.A i) (D.X i)
 wai:∀ i,i<D.n->WR u S D.blk (m.W i) (D.Y i)
 one:∀ i j k,i<D.n->j<D.n->(m.W i).ownBlock=some k->(m.W j).ownBlock=some k->i=j
 lt:∀ k,S k->k<u.heap.size
 fuse:(m.fu=true/\m.fv=D.f/\0<=D.f)\/(m.fu=false/\D.f=-1/\0<=m.fv/\m.fv<=9223372036854775807)
 ok:D.Ok
def Dv (u:World) (S:Nat->Prop) (g:Nat) (D:Dev):Prop:=∃ m,DvM u S g D m
theorem row_ne {u:World}{b b' t t' n:Nat}{f:Nat->Value}{c:Array Value}(h:u.rowIs b t n f)(h':u.heap[b']?=some (.cells c t' (0,0)))(ht:t≠t'):b'≠b:=by
 intro e
 subst e
 obtain⟨c',hb,_⟩:=h
 rw[hb] at h'
 cases h'
 exact ht rfl
theorem fA {u:World}{b b' t t' n n':Nat}{f f':Nat->Value}(h:u.rowIs b t n f)(h':u.rowIs b' t' n' f')(ht:t≠t'):b'≠b:=by
 obtain⟨c,hb,_⟩:=h'
 exact row_ne h hb ht
structure Fr (S:Nat->Prop) (w w':World):Prop where
 os:w'.os=w.os
 tape:w'.tape=w.tape
 output:w'.output=w.output
 size:w.heap.size<=w'.heap.size
 block:∀ k,k<w.heap.size->¬ S k->w'.heap[k]?=w.heap[k]?
theorem Fr.below {S w w'}(h:Fr S w w'){B:Nat}(hB:∀ k,S k->B<=k)(hs:B<=w.heap.size):Below B w w' :=
 ⟨h.os,h.tape,h.output,h.size,fun k hk=>h.block k (by omega) (fun hS=>by have:=hB k hS;omega)⟩
theorem Below.fr {w w':World}(h:Below w.heap.size w w')(S:Nat->Prop):Fr S w w':=⟨h.os,h.tape,h.output,h.size,fun k hk _=>h.block k hk⟩
theorem Fr.setCell {S w w'}(h:Fr S w w'){p:Addr}(hp:S p.block)(v:Value):Fr S w (w'.setCell p v) :=
 ⟨h.os,h.tape,h.output,by simpa [World.setCell] using h.size,fun k hk hn=>(Below.heap_setCell w' p v k (fun e=>hn (by rw[e];exact hp))).trans (h.block k hk hn)⟩
structure Nx (S:Nat->Prop) (w:World) (S':Nat->Prop) (w':World):Prop where
 fr:Fr S w w'
 sub:∀ k,k<w.heap.size->S' k->S k
theorem Nx.refl (S:Nat->Prop)(w:World):Nx S w S w:=⟨⟨rfl,rfl,rfl,Nat.le_refl _,fun _ _ _=>rfl⟩,fun _ _ h=>h⟩
theorem Nx.trans {S S' S'':Nat->Prop}{a b c:World}(h:Nx S a S' b)(h':Nx S' b S'' c):Nx S a S'' c :=
 ⟨⟨h'.fr.os.trans h.fr.os,h'.fr.tape.trans h.fr.tape,h'.fr.output.trans h.fr.output,Nat.le_trans h.fr.size h'.fr.size,
  fun k hk hn=>(h'.fr.block k (Nat.lt_of_lt_of_le hk h.fr.size) (fun hS=>hn (h.sub k hk hS))).trans (h.fr.block k hk hn)⟩,
  fun k hk hS=>h.sub k hk (h'.sub k (Nat.lt_of_lt_of_le hk h.fr.size) hS)⟩
theorem Nx.base {S S' w w'}(h:Nx S w S' w'){B:Nat}(hB:∀ k,S k->B<=k)(hs:B<=w.heap.size):∀ k,S' k->B<=k:=fun k hk=>by
 by_cases hl:k<w.heap.size
 ·exact hB k (h.sub k hl hk)
 ·omega
theorem Nx.below {S S' w w'}(h:Nx S w S' w'){B:Nat}(hB:∀ k,S k->B<=k)(hs:B<=w.heap.size):Below B w w':=h.fr.below hB hs
theorem Nx.keep {S S' w w'}(h:Nx S w S' w'){k:Nat}(hk:k<w.heap.size)(hn:¬ S k):w'.heap[k]?=w.heap[k]?/\¬ S' k/\k<w'.heap.size :=
 ⟨h.fr.block k hk hn,fun hS=>hn (h.sub k hk hS),Nat.lt_of_lt_of_le hk h.fr.size⟩
theorem DvM.kept {u u':World}{S S':Nat->Prop}{g D m}(h:DvM u S g D m)(hk:∀ k,S k->u'.heap[k]?=u.heap[k]?)(hS:∀ k,S k->S' k)(hl:∀ k,S' k->k<u'.heap.size):DvM u' S' g D m :=
 ⟨h.dev.of_block (hk _ h.sg),h.pla.of_block (hk _ h.sh),hS _ h.sg,hS _ h.sh,fun i hi=>(h.arr i hi).kept (fun k _ hs _=>hk k hs) hS,
  fun i hi=>(h.wai i hi).kept (fun k _ hs _=>hk k hs) (fun k e=>hk k (by obtain⟨_,_,_,h4⟩:=h.wai i hi;exact h4 k e)) hS,h.one,hl,h.fuse,h.ok⟩
theorem Dv.kept {u u':World}{S g D}(h:Dv u S g D)(hk:∀ k,S k->u'.heap[k]?=u.heap[k]?)(hs:u.heap.size<=u'.heap.size):Dv u' S g D:=by
 obtain⟨m,h⟩:=h
 exact⟨m,h.kept hk (fun _ h=>h) (fun k hk=>Nat.lt_of_lt_of_le (h.lt k hk) hs)⟩
theorem Dv.lt {u S g D}(h:Dv u S g D){k:Nat}(hk:S k):k<u.heap.size:=by obtain⟨m,h⟩:=h;exact h.lt k hk
theorem Dv.below {u u':World}{S g D}(h:Dv u S g D)(hb:Below u.heap.size u u'):Dv u' S g D:=h.kept (fun k hk=>hb.block k (h.lt hk)) hb.size
theorem Dv.ok {u S g D}(h:Dv u S g D):D.Ok:=by obtain⟨m,h⟩:=h;exact h.ok
theorem DvM.cells {u S g D m}(h:DvM u S g D m) :
  u.cell? ⟨g,0,none⟩=some (.int .i64 D.blk)/\u.cell? ⟨g,1,none⟩=some (.slice (some ⟨m.h,0,none⟩) D.n D.n)/\u.cell? ⟨g,2,none⟩=some (.bool m.fu)/\u.cell? ⟨g,3,none⟩=some (.int .i64 m.fv)/\u.cell? ⟨g,4,none⟩=some (.bool D.dead)/\u.cell? ⟨g,5,none⟩=some (.int .i64 D.wr) :=
 ⟨h.dev.cell (i:=0) (by omega),h.dev.cell (i:=1) (by omega),h.dev.cell (i:=2) (by omega),h.dev.cell (i:=3) (by omega),h.dev.cell (i:=4) (by omega),h.dev.cell (i:=5) (by omega)⟩
theorem DvM.free {u S g D m}(h:DvM u S g D m)(k:Nat):u.frozen? ⟨g,k,none⟩=false:=h.dev.frozen k
theorem DvM.place {u S g D m}(h:DvM u S g D m){i:Nat}(hi:i<D.n) :
  u.cell? ⟨m.h,2*i,none⟩=some (rv D.blk (m.A i))/\u.cell? ⟨m.h,2*i+1,none⟩=some (m.W i)/\(∀ j,u.frozen? ⟨m.h,j,none⟩=false):=by
 refine⟨?_,?_,fun j=>h.pla.frozen j⟩
 ·rw[h.pla.cell (i:=2*i) (by omega)]
  have e1:2*i%2=0:=by omega
  have e2:2*i / 2=i:=by omega
  simp[tX,e1,e2]
 ·rw[h.pla.cell (i:=2*i+1) (by omega)]
  have e1:(2*i+1)%2=1:=by omega
  have e2:(2*i+1) / 2=i:=by omega
  simp[tX,e1,e2]
theorem DvM.yM {u S g}{D D':Dev}{m m':Mem}(h:DvM u S g D m)(k:Nat)(v:Value)(hD:D'.blk=D.blk/\D'.n=D.n/\D'.X=D.X/\D'.Y=D.Y)(hm:m'.h=m.h/\m'.A=m.A/\m'.W=m.W)
  (hc:∀ j,j<6->xA D' m' j=if j=k then v else xA D m j) (hf:(m'.fu=true/\m'.fv=D'.f/\0<=D'.f)\/(m'.fu=false/\D'.f=-1/\0<=m'.fv/\m'.fv<=9223372036854775807)) (ho:D'.Ok):DvM (u.setCell ⟨g,k,none⟩ v) S g D' m':=by
 obtain⟨d1,d2,d3,d4⟩:=hD
 obtain⟨m1,m2,m3⟩:=hm
 have ne:∀ k' c t,t≠92->u.heap[k']?=some (Obj.cells c t)->(u.setCell ⟨g,k,none⟩ v).heap[k']?=u.heap[k']?:=fun k' c t ht hh =>
  Below.heap_setCell _ _ _ _ (row_ne h.dev hh (fun e=>ht e.symm))
 refine⟨(h.dev.set k v).congr (fun j hj=>(hc j hj).symm),?_,h.sg,by rw[m1];exact h.sh,?_,?_,?_,fun k' hk'=>by simpa [World.setCell] using h.lt k' hk',hf,ho⟩
 ·rw[m1,d2]
  refine(h.pla.setOther (fA h.dev h.pla (by decide)) v).congr (fun j hj=>?_)
  simp only[tX,d1,m2,m3]
 ·intro i hi
  rw[d1,m2,d3]
  exact(h.arr i (by omega)).kept (fun k' c _ hh=>ne k' c 5 (by decide) hh) (fun _ h=>h)
 ·intro i hi
  rw[d1,m3,d4]
  refine(h.wai i (by omega)).kept (fun k' c _ hh=>ne k' c 5 (by decide) hh) (fun k' e=>?_) (fun _ h=>h)
  obtain⟨a,c,e1,_,_,_,hx⟩:=(h.wai i (by omega)).shape
  rw[e1] at e
  cases a with
  | none=>simp[Value.ownBlock] at e
  | some x =>
   obtain⟨k2,cur,rfl,_,hh,_⟩:=hx x rfl
   simp[Value.ownBlock] at e
   subst e
   exact ne _ _ _ (by decide) hh
 ·rw[m3,d2];exact h.one
theorem DvM.akR {u S g D m}(h:DvM u S g D m){i:Nat}(hi:i<D.n){r:Nat×Nat}{zs:List Int}(hr:bP u S D.blk r zs) :
  DvM (u.setCell ⟨m.h,2*i,none⟩ (rv D.blk r)) S g { D with X:=fun j=>if j=i then zs else D.X j } { m with A:=fun j=>if j=i then r else m.A j }:=by
 have ne:∀ k' c t,t≠95->u.heap[k']?=some (Obj.cells c t)->(u.setCell ⟨m.h,2*i,none⟩ (rv D.blk r)).heap[k']?=u.heap[k']?:=fun k' c t ht hh =>
  Below.heap_setCell _ _ _ _ (row_ne h.pla hh (fun e=>ht e.symm))
 refine⟨h.dev.setOther (fA h.pla h.dev (by decide)) _,(h.pla.set (2*i) _).congr (fun j hj=>?_),h.sg,h.sh,?_,?_,h.one,fun k' hk'=>by simpa [World.setCell] using h.lt k' hk',h.fuse,⟨h.ok.n1,h.ok.n2,h.ok.b1,h.ok.b2,h.ok.y,h.ok.f1,h.ok.f2⟩⟩
 ·simp only[tX]
  by_cases e:j=2*i
  ·subst e
   have e1:2*i%2=0:=by omega
   have e2:2*i / 2=i:=by omega
   simp[e1,e2]
  ·rw[if_neg e]
   by_cases e1:j%2=0
   ·have e2:¬ j / 2=i:=by omega
    simp[e1,e2]
   ·simp[e1]
 ·intro j hj
  by_cases e:j=i
  ·subst e
   simp only[if_true]
   exact hr.kept (fun k' c _ hh=>ne k' c 5 (by decide) hh) (fun _ h=>h)
  ·simp only[if_neg e]
   exact(h.arr j hj).kept (fun k' c _ hh=>ne k' c 5 (by decide) hh) (fun _ h=>h)
 ·intro j hj
  refine(h.wai j hj).kept (fun k' c _ hh=>ne k' c 5 (by decide) hh) (fun k' e=>?_) (fun _ h=>h)
  obtain⟨a,c,e1,_,_,_,hx⟩:=(h.wai j hj).shape
  rw[e1] at e
  cases a with
  | none=>simp[Value.ownBlock] at e
  | some x =>
   obtain⟨k2,cur,rfl,_,hh,_⟩:=hx x rfl
   simp[Value.ownBlock] at e
   subst e
   exact ne _ _ _ (by decide) hh
theorem DvM.setW {u S g D m}(h:DvM u S g D m){i:Nat}(hi:i<D.n){v:Value}{Z:List (List Int)}(hv:WR u S D.blk v Z)(hz:Z.length<=400)
  (hone:∀ j k,j<D.n->j≠i->(m.W j).ownBlock=some k->v.ownBlock≠some k) :
  DvM (u.setCell ⟨m.h,2*i+1,none⟩ v) S g { D with Y:=fun j=>if j=i then Z else D.Y j } { m with W:=fun j=>if j=i then v else m.W j }:=by
 have ne:∀ k' c t,t≠95->u.heap[k']?=some (Obj.cells c t)->(u.setCell ⟨m.h,2*i+1,none⟩ v).heap[k']?=u.heap[k']?:=fun k' c t ht hh =>
  Below.heap_setCell _ _ _ _ (row_ne h.pla hh (fun e=>ht e.symm))
 have kv:∀ {v':Value} {Z':List (List Int)},WR u S D.blk v' Z'->WR (u.setCell ⟨m.h,2*i+1,none⟩ v) S D.blk v' Z':=by
  intro v' Z' hw
  refine hw.kept (fun k' c _ hh=>ne k' c 5 (by decide) hh) (fun k' e=>?_) (fun _ h=>h)
  obtain⟨a,c,e1,_,_,_,hx⟩:=hw.shape
  rw[e1] at e
  cases a with
  | none=>simp[Value.ownBlock] at e
  | some x =>
   obtain⟨k2,cur,rfl,_,hh,_⟩:=hx x rfl
   simp[Value.ownBlock] at e
   subst e
   exact ne _ _ _ (by decide) hh
 refine⟨h.dev.setOther (fA h.pla h.dev (by decide)) _,(h.pla.set (2*i+1) _).congr (fun j hj=>?_),h.sg,h.sh,?_,?_,?_,fun k' hk'=>by simpa [World.setCell] using h.lt k' hk',h.fuse,⟨h.ok.n1,h.ok.n2,h.ok.b1,h.ok.b2,fun j hj=>?_,h.ok.f1,h.ok.f2⟩⟩
 ·simp only[tX]
  by_cases e:j=2*i+1
  ·subst e
   have e1:(2*i+1)%2=1:=by omega
   have e2:(2*i+1) / 2=i:=by omega
   simp[e1,e2]
  ·rw[if_neg e]
   by_cases e1:j%2=0
   ·simp[e1]
   ·have e2:¬ j / 2=i:=by omega
    simp[e1,e2]
 ·intro j hj
  exact(h.arr j hj).kept (fun k' c _ hh=>ne k' c 5 (by decide) hh) (fun _ h=>h)
 ·intro j hj
  by_cases e:j=i
  ·subst e
   simp only[if_true]
   exact kv hv
  ·simp only[if_neg e]
   exact kv (h.wai j hj)
 ·intro a b k ha hb ea eb
  by_cases e1:a=i
  ·by_cases e2:b=i
   ·omega
   ·simp only[e1,if_true] at ea
    simp only[if_neg e2] at eb
    exact absurd ea (hone b k hb e2 eb)
  ·by_cases e2:b=i
   ·simp only[e2,if_true] at eb
    simp only[if_neg e1] at ea
    exact absurd eb (hone a k ha e1 ea)
   ·simp only[if_neg e1] at ea
    simp only[if_neg e2] at eb
    exact h.one a b k ha hb ea eb
 ·by_cases e:j=i
  ·simp only[e,if_true];exact hz
  ·simp only[if_neg e];exact h.ok.y j hj
theorem adR (g h n:Nat)(b:Int)(w:World)(c1:w.cell? ⟨g,1,none⟩=some (.slice (some ⟨h,0,none⟩) n n)) :
  Calls Tryz.prog 114 #[.pointer (some ⟨g,0,none⟩),.int .i64 b] w fun e w'=>e=.returned (.bool (decide (0<=b/\b<n)))/\w=w':=by
 generalize hq:decide (0<=b/\b<(n:Int))=q
 have hQ:=hide hq
 clear hq
 by_cases h0:0<=b
 ·by_cases h1:b<n
  ·go_enter Tryz.func114,Tryz.ntmps114
   go_wp2
   go_ret
   exact⟨kP (by rw[← ah hQ];symm;apply decide_eq_true;omega),rfl⟩
  ·go_enter Tryz.func114,Tryz.ntmps114
   go_wp2
   go_ret
   exact⟨kP (by rw[← ah hQ];symm;apply decide_eq_false;omega),rfl⟩
 ·go_enter Tryz.func114,Tryz.ntmps114
  go_wp2
  go_ret
  exact⟨kP (by rw[← ah hQ];symm;apply decide_eq_false;omega),rfl⟩
theorem xW (g:Nat)(w:World)(x:Int)(c0:w.cell? ⟨g,0,none⟩=some (.int .i64 x)) :
  Calls Tryz.prog 68 #[.pointer (some ⟨g,0,none⟩)] w fun e w'=>e=.returned (.int .i64 x)/\w=w':=by
 go_enter Tryz.func68,Tryz.ntmps68
 go_wp2
 go_ret
 exact⟨rfl,rfl⟩
theorem sJ (g h n:Nat)(w:World)(c1:w.cell? ⟨g,1,none⟩=some (.slice (some ⟨h,0,none⟩) n n)) :
  Calls Tryz.prog 69 #[.pointer (some ⟨g,0,none⟩)] w fun e w'=>e=.returned (.int .i64 n)/\w=w':=by
 go_enter Tryz.func69,Tryz.ntmps69
 go_wp2
 go_ret
 exact⟨rfl,rfl⟩
def aiS (D:Dev) (b:Int) (len:Nat):Int:=if ¬ (0<=b/\b<D.n) then 2 else if len≠D.blk then 1 else 0
theorem jW (g:Nat)(b:Int)(a:Option Addr)(len cap:Nat)(S:Nat->Prop)(D:Dev)(w:World)(hD:Dv w S g D) :
  Calls Tryz.prog 110 #[.pointer (some ⟨g,0,none⟩),.int .i64 b,.slice a len cap] w fun e w'=>e=.returned (.int .i64 (aiS D b len))/\w=w':=by
 obtain⟨m,hD⟩:=hD
 obtain⟨c0,c1,_⟩:=hD.cells
 have H:=hide (adR g m.h D.n b w c1)
 generalize m.h=h at *
 clear hD
 generalize hq:aiS D b len=q
 have hQ:=hide hq
 clear hq
 unfold aiS at hQ
 by_cases h0:(0<=b/\b<D.n)
 ·by_cases h1:len=D.blk
  ·have d0:decide (0<=b/\b<(D.n:Int))=true:=by simpa using h0
   rw[d0] at H
   have hx:=hide h0;have hy:=hide h1;have hz:((len:Int) != (D.blk:Int))=false:=by simp[h1]
   clear h0 h1
   generalize D.blk=bb at *
   generalize D.n=nn at *
   go_enter Tryz.func110,Tryz.ntmps110
   go_wp2_with fail
   go_at_call 114
   refine(ah H).mono ?_
   rintro e w' ⟨rfl,rfl⟩
   go_wp2
   go_ret
   exact⟨dY (by rw[← ah hQ,if_neg (fun h=>h (ah hx))];simp[ah hy]),rfl⟩
  ·have d0:decide (0<=b/\b<(D.n:Int))=true:=by simpa using h0
   rw[d0] at H
   have hx:=hide h0;have hy:=hide h1;have hz:((len:Int) != (D.blk:Int))=true:=by simp;omega
   clear h0 h1
   generalize D.blk=bb at *
   generalize D.n=nn at *
   go_enter Tryz.func110,Tryz.ntmps110
   go_wp2_with fail
   go_at_call 114
   refine(ah H).mono ?_
   rintro e w' ⟨rfl,rfl⟩
   go_wp2
   go_ret
   exact⟨dY (by rw[← ah hQ,if_neg (fun h=>h (ah hx))];simp[ah hy]),rfl⟩
 ·have d0:decide (0<=b/\b<(D.n:Int))=false:=by simpa using h0
  rw[d0] at H
  have hx:=hide h0
  clear h0
  generalize D.blk=bb at *
  generalize D.n=nn at *
  go_enter Tryz.func110,Tryz.ntmps110
  go_wp2_with fail
  go_at_call 114
  refine(ah H).mono ?_
  rintro e w' ⟨rfl,rfl⟩
  go_wp2
  go_ret
  exact⟨dY (by rw[← ah hQ,if_pos (ah hx)]),rfl⟩
def Dev.aaj (D:Dev):Prop:=D.f=0\/D.dead=true
def Dev.die (D:Dev):Dev:={ D with dead:=true }
def Dev.eU (D:Dev):Dev:={ D with f:=if 0<D.f then D.f - 1 else D.f,wr:=wrap64 (D.wr+1) }
theorem Dev.Ok.die {D:Dev}(h:D.Ok):D.die.Ok:=⟨h.n1,h.n2,h.b1,h.b2,h.y,h.f1,h.f2⟩
theorem Dev.Ok.eU {D:Dev}(h:D.Ok):D.eU.Ok:=by
 refine⟨h.n1,h.n2,h.b1,h.b2,h.y,?_,?_⟩
 ·simp only[Dev.eU];have:=h.f1;split<;>omega
 ·simp only[Dev.eU];have:=h.f2;split<;>omega
theorem Dev.agl {D:Dev}(h:D.dead=true):D.die=D:=by cases D;simp_all [Dev.die]
theorem Nx.set {S:Nat->Prop}{w:World}{p:Addr}(hp:S p.block)(v:Value):Nx S w S (w.setCell p v):=⟨(Nx.refl S w).fr.setCell hp v,fun _ _ h=>h⟩
theorem xU (g : Nat) (S : Nat -> Prop) (D : Dev) (w : World) (hD : Dv w S g D) (hb : D.aaj) :
    Calls Tryz.prog 111 #[.pointer (some ⟨g, 0, none⟩)] w fun e w' => e = .returned (.int .i64 7) /\ Dv w' S g D.die /\ Nx S w S w' := by
  obtain ⟨m, hD⟩ := hD
  obtain ⟨c0, c1, c2, c3, c4, c5⟩ := hD.cells
  have f4 := hD.free 4
  by_cases h0 : D.f = 0
  · have hz : m.fu = true /\ m.fv = 0 := by
      rcases hD.fuse with ⟨a, b, c⟩ | ⟨a, b, c, d⟩
      · exact ⟨a, by omega⟩
      · omega
    rw [hz.1] at c2
    rw [hz.2] at c3
    have fin : DvM (w.setCell ⟨g, 4, none⟩ (.bool true)) S g D.die m := hD.yM 4 (.bool true) ⟨rfl, rfl, rfl, rfl⟩ ⟨rfl, rfl, rfl⟩ (fun j hj => by
      have : j = 0 \/ j = 1 \/ j = 2 \/ j = 3 \/ j = 4 \/ j = 5 := by omega
      rcases this with rfl | rfl | rfl | rfl | rfl | rfl <;> rfl) hD.fuse hD.ok.die
    have F := hide fin
    have Nn := hide (Nx.set (w := w) (p := ⟨g, 4, none⟩) hD.sg (.bool true))
    generalize D.dead = dd at *
    generalize D.blk = bb at *
    generalize D.n = nn at *
    generalize m.h = hh at *
    clear hz h0 fin hD hb
    go_enter Tryz.func111, Tryz.ntmps111
    go_wp2
    go_ret
    exact ⟨rfl, ⟨m, ah F⟩, ah Nn⟩
  · have hd : D.dead = true := by rcases hb with hb | hb; · omega
                                  · exact hb
    rw [hd] at c4
    have F := hide (show Dv w S g D.die by rw [Dev.agl hd]; exact ⟨m, hD⟩)
    by_cases hfu : m.fu = true
    · have hv : ¬ m.fv = 0 := by
        rcases hD.fuse with ⟨a, b, c⟩ | ⟨a, b, c, d⟩
        · omega
        · rw [hfu] at a; cases a
      rw [hfu] at c2
      generalize m.fv = fv at *
      clear hfu hD
      go_enter Tryz.func111, Tryz.ntmps111
      go_wp2
      go_ret
      exact ⟨rfl, ah F, Nx.refl _ _⟩
    · have hfu : m.fu = false := by simpa using hfu
      rw [hfu] at c2
      clear hfu hD
      go_enter Tryz.func111, Tryz.ntmps111
      go_wp2
      go_ret
      exact ⟨rfl, ah F, Nx.refl _ _⟩
theorem ac0 (x:Int)(h:0<x)(h2:x<=9223372036854775807):wrap64 (x - 1)=x - 1:=by unfold wrap64;omega
theorem mQ (g:Nat)(S:Nat->Prop)(D:Dev)(w:World)(hD:Dv w S g D)(hb:¬ D.aaj) :
  Calls Tryz.prog 111 #[.pointer (some ⟨g,0,none⟩)] w fun e w'=>e=.returned (.int .i64 0)/\Dv w' S g D.eU/\Nx S w S w':=by
 obtain⟨m,hD⟩:=hD
 obtain⟨c0,c1,c2,c3,c4,c5⟩:=hD.cells
 have f3:=hD.free 3
 have f5:=hD.free 5
 have hd:D.dead=false:=by cases h:D.dead with
  | false=>rfl
  | true=>exact absurd (.inr h) hb
 have hf:¬ D.f=0:=fun h=>hb (.inl h)
 rw[hd] at c4
 have six:∀ j,j<6->j=0\/j=1\/j=2\/j=3\/j=4\/j=5:=by omega
 by_cases hfu:m.fu=true
 ·have hv:m.fv=D.f/\0<D.f:=by
   rcases hD.fuse with ⟨a,b,c⟩ | ⟨a,b,c,d⟩
   ·omega
   ·rw[hfu] at a;cases a
  have ho1:Dev.Ok { D with f:=D.f - 1 }:=⟨hD.ok.n1,hD.ok.n2,hD.ok.b1,hD.ok.b2,hD.ok.y,by simp only;omega,by have:=hD.ok.f2;simp only;omega⟩
  have s1:DvM (w.setCell ⟨g,3,none⟩ (.int .i64 (m.fv - 1))) S g { D with f:=D.f - 1 } { m with fv:=m.fv - 1 }:=hD.yM 3 _ ⟨rfl,rfl,rfl,rfl⟩ ⟨rfl,rfl,rfl⟩ (fun j hj=>by
   rcases six j hj with rfl | rfl | rfl | rfl | rfl | rfl<;>simp[xA]) (.inl ⟨hfu,by simp only;omega,by simp only;omega⟩) ho1
  have s2:DvM ((w.setCell ⟨g,3,none⟩ (.int .i64 (m.fv - 1))).setCell ⟨g,5,none⟩ (.int .i64 (wrap64 (D.wr+1)))) S g D.eU { m with fv:=m.fv - 1 }:=s1.yM 5 _ ⟨rfl,rfl,rfl,rfl⟩ ⟨rfl,rfl,rfl⟩ (fun j hj=>by
   rcases six j hj with rfl | rfl | rfl | rfl | rfl | rfl<;>simp[xA,Dev.eU]) (.inl ⟨hfu,by simp only[Dev.eU,if_pos hv.2];omega,by simp only[Dev.eU,if_pos hv.2];omega⟩) hD.ok.eU
  have F:=hide s2
  have Nn:=hide ((Nx.set (w:=w) (p:=⟨g,3,none⟩) hD.sg (.int .i64 (m.fv - 1))).trans (Nx.set (p:=⟨g,5,none⟩) hD.sg (.int .i64 (wrap64 (D.wr+1)))))
  have hv1:wrap64 (m.fv - 1)=m.fv - 1:=ac0 _ (by omega) (by have:=hD.ok.f2;omega)
  have hv2:¬ m.fv=0:=by omega
  rw[hfu] at c2
  generalize hfv:m.fv=fv at *
  generalize D.wr=wr at *
  generalize D.blk=bb at *
  generalize D.n=nn at *
  generalize m.h=hh at *
  clear s1 s2 hv hfu hD hb hf ho1 hfv
  go_enter Tryz.func111,Tryz.ntmps111
  go_wp2
  go_ret
  exact⟨rfl,⟨_,ah F⟩,ah Nn⟩
 ·have hfu:m.fu=false:=by simpa using hfu
  have hv:D.f=-1:=by
   rcases hD.fuse with ⟨a,b,c⟩ | ⟨a,b,c,d⟩
   ·rw[hfu] at a;cases a
   ·exact b
  have hfv:0<=m.fv/\m.fv<=9223372036854775807:=by
   rcases hD.fuse with ⟨a,b,c⟩ | ⟨a,b,c,d⟩
   ·rw[hfu] at a;cases a
   ·exact⟨c,d⟩
  have s2:DvM (w.setCell ⟨g,5,none⟩ (.int .i64 (wrap64 (D.wr+1)))) S g D.eU m:=hD.yM 5 _ ⟨rfl,rfl,rfl,rfl⟩ ⟨rfl,rfl,rfl⟩ (fun j hj=>by
   rcases six j hj with rfl | rfl | rfl | rfl | rfl | rfl<;>simp[xA,Dev.eU]) (.inr ⟨hfu,by simp[Dev.eU,hv],hfv⟩) hD.ok.eU
  have F:=hide s2
  have Nn:=hide (Nx.set (w:=w) (p:=⟨g,5,none⟩) hD.sg (.int .i64 (wrap64 (D.wr+1))))
  rw[hfu] at c2
  generalize D.wr=wr at *
  generalize D.blk=bb at *
  generalize D.n=nn at *
  generalize m.h=hh at *
  clear s2 hv hfu hD hb hf hfv
  go_enter Tryz.func111,Tryz.ntmps111
  go_wp2
  go_ret
  exact⟨rfl,⟨_,ah F⟩,ah Nn⟩
def Dev.pick (D:Dev) (i:Nat) (k:Int):List Int:=if k<=0 then D.X i else (D.Y i)[min k.toNat (D.Y i).length - 1]?.getD (D.X i)
def Dev.settle (D:Dev) (i:Nat) (k:Int):Dev:={ D with X:=fun j=>if j=i then D.pick i k else D.X j,Y:=fun j=>if j=i then [] else D.Y j }
theorem ad9 (o i h:Nat)(S:Nat->Prop)(g:Nat)(D:Dev)(m:Mem)(w:World)(hD:DvM w S g D m)(hi:i<D.n)(ho:o=2*i)(hh:h=m.h) :
  Calls Tryz.prog 116 #[.pointer (some ⟨h,o,none⟩)] w fun e w'=>(∃ r,e=.returned (rv D.blk r)/\bP w S D.blk r (D.rd i))/\w=w':=by
 subst hh
 obtain⟨c0,c1,f⟩:=hD.place hi
 have hY:=hD.ok.y i hi
 rw[← ho] at c0 c1
 by_cases h0:D.Y i=[]
 ·have hr:bP w S D.blk (m.A i) (D.rd i):=by
   have:=hD.arr i hi
   rw[Dev.rd,h0]
   exact this
  obtain⟨a,c,e,_⟩:=(hD.wai i hi).shape
  rw[h0] at e
  rw[e] at c1
  have R:=hide hr
  clear e hr h0 hD ho
  generalize m.A i=r at *
  obtain⟨r1,r2⟩:=r
  generalize m.h=hh at *
  generalize hbb:D.blk=bb at *
  simp only[List.length_nil] at c1
  go_enter Tryz.func116,Tryz.ntmps116
  go_wp2
  go_ret
  exact⟨⟨(r1,r2),rfl,ah R⟩,rfl⟩
 ·have hl:0<(D.Y i).length:=List.length_pos_iff.2 h0
  obtain⟨a,c,e,hc,hm,_⟩:=(hD.wai i hi).shape
  have hw:=hD.wai i hi
  rw[e] at hw c1
  obtain⟨k,r,rfl,_,ck,fk,hr⟩:=hw.elem (j:=(D.Y i).length - 1) (by omega)
  have hr:bP w S D.blk r (D.rd i):=by
   have e2:D.rd i=(D.Y i)[(D.Y i).length - 1]?.getD []:=by
    rw[Dev.rd,List.getLast?_eq_getElem?,List.getElem?_eq_getElem (by omega)];rfl
   rw[e2];exact hr
  have R:=hide hr
  unfold maxLen at hm
  clear e hr h0 hD ho hw
  obtain⟨r1,r2⟩:=r
  generalize m.h=hh at *
  generalize (D.Y i).length=len at *
  generalize hbb:D.blk=bb at *
  obtain⟨l',rfl⟩:∃ l',len=l'+1:=⟨len - 1,by omega⟩
  simp only[Nat.add_sub_cancel] at ck fk
  go_enter Tryz.func116,Tryz.ntmps116
  go_wp2
  go_ret
  exact⟨⟨(r1,r2),rfl,ah R⟩,rfl⟩
theorem DvM.ajj {w S g D m}(h:DvM w S g D m){i:Nat}(hi:i<D.n) :
  DvM (w.setCell ⟨m.h,2*i+1,none⟩ (.slice none 0 0)) S g { D with Y:=fun j=>if j=i then [] else D.Y j } { m with W:=fun j=>if j=i then .slice none 0 0 else m.W j } :=
 h.setW hi (WR.nil _ _ _) (by simp) (fun j k _ _ _=>by simp[Value.ownBlock])
theorem yJ {D:Dev}{i:Nat}{k:Int}(h:D.pick i k=D.X i):{ D with Y:=fun j=>if j=i then [] else D.Y j }=D.settle i k:=by
 unfold Dev.settle
 congr 1
 funext j
 by_cases e:j=i
 ·simp[e,h]
 ·simp[e]
theorem aff {D:Dev}{i:Nat}{k:Int}{zs:List Int}(h:D.pick i k=zs) :
  ({ ({ D with X:=fun j=>if j=i then zs else D.X j }:Dev) with Y:=fun j=>if j=i then [] else D.Y j }:Dev)=D.settle i k:=by
 unfold Dev.settle
 rw[h]
theorem DvM.both {w S g D m}(h:DvM w S g D m){i:Nat}(hi:i<D.n){k:Int}{r:Nat×Nat}{zs:List Int}(hr:bP w S D.blk r zs)(hp:D.pick i k=zs) :
  Dv ((w.setCell ⟨m.h,2*i,none⟩ (rv D.blk r)).setCell ⟨m.h,2*i+1,none⟩ (.slice none 0 0)) S g (D.settle i k)/\Nx S w S ((w.setCell ⟨m.h,2*i,none⟩ (rv D.blk r)).setCell ⟨m.h,2*i+1,none⟩ (.slice none 0 0)):=by
 have h1:=h.akR hi hr
 have h2:=h1.ajj (i:=i) hi
 rw[show ({ ({ D with X:=fun j=>if j=i then zs else D.X j }:Dev) with Y:=fun j=>if j=i then [] else ({ D with X:=fun j=>if j=i then zs else D.X j }:Dev).Y j }:Dev)=D.settle i k from aff hp] at h2
 exact⟨⟨_,h2⟩,(Nx.set (p:=⟨m.h,2*i,none⟩) h.sh _).trans (Nx.set (p:=⟨m.h,2*i+1,none⟩) h.sh _)⟩
theorem DvM.drop {w S g D m}(h:DvM w S g D m){i:Nat}(hi:i<D.n){k:Int}(hp:D.pick i k=D.X i) :
  Dv (w.setCell ⟨m.h,2*i+1,none⟩ (.slice none 0 0)) S g (D.settle i k)/\Nx S w S (w.setCell ⟨m.h,2*i+1,none⟩ (.slice none 0 0)):=by
 have h2:=h.ajj (i:=i) hi
 rw[yJ hp] at h2
 exact⟨⟨_,h2⟩,Nx.set (p:=⟨m.h,2*i+1,none⟩) h.sh _⟩
theorem aay {D:Dev}{i:Nat}{k:Int}(h:k<=0\/D.Y i=[]):D.pick i k=D.X i:=by
 unfold Dev.pick
 by_cases h0:k<=0
 ·rw[if_pos h0]
 ·rw[if_neg h0]
  rcases h with h | h
  ·exact absurd h h0
  ·rw[h];simp
theorem abf (o i h:Nat)(k:Int)(S:Nat->Prop)(g:Nat)(D:Dev)(m:Mem)(w:World)(hD:DvM w S g D m)(hi:i<D.n)(ho:o=2*i)(hh:h=m.h)(hk:k<=0) :
  Calls Tryz.prog 113 #[.pointer (some ⟨h,o,none⟩),.int .i64 k] w fun e w'=>e=.returned (.tuple #[])/\Dv w' S g (D.settle i k)/\Nx S w S w':=by
 subst hh
 obtain⟨c0,c1,f⟩:=hD.place hi
 have F:=hide (hD.drop hi (aay (.inl hk)))
 have f1:=f (2*i+1)
 rw[← ho] at c0 c1 F f1
 obtain⟨a,c,e,hc,hm,_⟩:=(hD.wai i hi).shape
 rw[e] at c1
 have n1:¬ ((D.Y i).length:Int)<k:=by omega
 have n2:¬ 0<k:=by omega
 have n3:min k ((D.Y i).length:Int)=k:=by omega
 clear hD f ho e
 generalize (D.Y i).length=len at *
 generalize D.blk=bb at *
 generalize D.n=nn at *
 generalize m.h=hh at *
 generalize m.A i=r at *
 obtain⟨r1,r2⟩:=r
 go_enter Tryz.func113,Tryz.ntmps113
 go_wp2
 go_end0
 exact⟨rfl,ah F⟩
theorem vJ (o i h:Nat)(k:Int)(S:Nat->Prop)(g:Nat)(D:Dev)(m:Mem)(w:World)(hD:DvM w S g D m)(hi:i<D.n)(ho:o=2*i)(hh:h=m.h)(hk:0<k)(hY:D.Y i=[]) :
  Calls Tryz.prog 113 #[.pointer (some ⟨h,o,none⟩),.int .i64 k] w fun e w'=>e=.returned (.tuple #[])/\Dv w' S g (D.settle i k)/\Nx S w S w':=by
 subst hh
 obtain⟨c0,c1,f⟩:=hD.place hi
 have F:=hide (hD.drop (k:=k) hi (aay (.inr hY)))
 have f1:=f (2*i+1)
 rw[← ho] at c0 c1 F f1
 obtain⟨a,c,e,hc,hm,_⟩:=(hD.wai i hi).shape
 rw[e,hY] at c1
 simp only[List.length_nil] at c1
 have n1:(0:Int)<k:=by omega
 clear hD f ho e hY hc hm
 generalize D.blk=bb at *
 generalize D.n=nn at *
 generalize m.h=hh at *
 generalize m.A i=r at *
 obtain⟨r1,r2⟩:=r
 go_enter Tryz.func113,Tryz.ntmps113
 go_wp2
 go_end0
 exact⟨rfl,ah F⟩
theorem abe (o i h k:Nat)(S:Nat->Prop)(g:Nat)(D:Dev)(m:Mem)(w:World)(hD:DvM w S g D m)(hi:i<D.n)(ho:o=2*i)(hh:h=m.h)(hk:k<(D.Y i).length) :
  Calls Tryz.prog 113 #[.pointer (some ⟨h,o,none⟩),.int .i64 ((k:Int)+1)] w fun e w'=>e=.returned (.tuple #[])/\Dv w' S g (D.settle i ((k:Int)+1))/\Nx S w S w':=by
 subst hh
 obtain⟨c0,c1,f⟩:=hD.place hi
 obtain⟨a,c,e,hc,hm,_⟩:=(hD.wai i hi).shape
 have hw:=hD.wai i hi
 have hY:=hD.ok.y i hi
 rw[e] at hw c1
 obtain⟨q,r,rfl,_,ck,fk,hr⟩:=hw.elem (j:=k) hk
 have F:=hide (hD.both (k:=(k:Int)+1) hi hr (by
  unfold Dev.pick
  rw[if_neg (by omega),show min ((k:Int)+1).toNat (D.Y i).length - 1=k by omega,List.getElem?_eq_getElem hk];rfl))
 have f0:=f (2*i)
 have f1:=f (2*i+1)
 rw[← ho] at c0 c1 F f0 f1
 have n1:¬ ((D.Y i).length:Int)<(k:Int)+1:=by omega
 have n2:(0:Int)<(k:Int)+1:=by omega
 unfold maxLen at hm
 clear hD f ho e hw hr
 generalize (D.Y i).length=len at *
 generalize D.blk=bb at *
 generalize D.n=nn at *
 generalize m.h=hh at *
 generalize m.A i=r' at *
 obtain⟨r1',r2'⟩:=r'
 obtain⟨r1,r2⟩:=r
 go_enter Tryz.func113,Tryz.ntmps113
 go_wp2
 go_end0
 exact⟨rfl,ah F⟩
theorem yK (o i h len:Nat)(k:Int)(S:Nat->Prop)(g:Nat)(D:Dev)(m:Mem)(w:World)(hD:DvM w S g D m)(hi:i<D.n)(ho:o=2*i)(hh:h=m.h)(hk:(D.Y i).length=len+1)(hl:((D.Y i).length:Int)<k) :
  Calls Tryz.prog 113 #[.pointer (some ⟨h,o,none⟩),.int .i64 k] w fun e w'=>e=.returned (.tuple #[])/\Dv w' S g (D.settle i k)/\Nx S w S w':=by
 subst hh
 obtain⟨c0,c1,f⟩:=hD.place hi
 obtain⟨a,c,e,hc,hm,_⟩:=(hD.wai i hi).shape
 have hw:=hD.wai i hi
 have hY:=hD.ok.y i hi
 rw[e] at hw c1
 obtain⟨q,r,rfl,_,ck,fk,hr⟩:=hw.elem (j:=len) (by omega)
 have F:=hide (hD.both (k:=k) hi hr (by
  unfold Dev.pick
  rw[if_neg (by omega),show min k.toNat (D.Y i).length - 1=len by omega,List.getElem?_eq_getElem (by omega)];rfl))
 have f0:=f (2*i)
 have f1:=f (2*i+1)
 rw[← ho] at c0 c1 F f0 f1
 rw[hk] at c1 hl
 have n1:((len+1:Nat):Int)<k:=by omega
 unfold maxLen at hm
 rw[hk] at hY hc
 clear hD f ho e hw hr hl hk
 generalize D.blk=bb at *
 generalize D.n=nn at *
 generalize m.h=hh at *
 generalize m.A i=r' at *
 obtain⟨r1',r2'⟩:=r'
 obtain⟨r1,r2⟩:=r
 go_enter Tryz.func113,Tryz.ntmps113
 go_wp2
 go_end0
 exact⟨rfl,ah F⟩
theorem abg (o i h:Nat)(k:Int)(S:Nat->Prop)(g:Nat)(D:Dev)(m:Mem)(w:World)(hD:DvM w S g D m)(hi:i<D.n)(ho:o=2*i)(hh:h=m.h) :
  Calls Tryz.prog 113 #[.pointer (some ⟨h,o,none⟩),.int .i64 k] w fun e w'=>e=.returned (.tuple #[])/\Dv w' S g (D.settle i k)/\Nx S w S w':=by
 by_cases h0:k<=0
 ·exact abf o i h k S g D m w hD hi ho hh h0
 ·by_cases h1:D.Y i=[]
  ·exact vJ o i h k S g D m w hD hi ho hh (by omega) h1
  ·have hl:0<(D.Y i).length:=List.length_pos_iff.2 h1
   by_cases h2:((D.Y i).length:Int)<k
   ·exact yK o i h ((D.Y i).length - 1) k S g D m w hD hi ho hh (by omega) h2
   ·obtain⟨j,rfl⟩:∃ j:Nat,k=(j:Int)+1:=⟨(k - 1).toNat,by omega⟩
    exact abe o i h j S g D m w hD hi ho hh (by omega)
theorem adf (g i:Nat)(S:Nat->Prop)(D:Dev)(w:World)(hD:Dv w S g D)(hd:D.dead=false)(hi:i<D.n) :
  Calls Tryz.prog 73 #[.pointer (some ⟨g,0,none⟩),.int .i64 i] w fun e w'=>e=.returned (.tuple #[.slice (some ⟨w.heap.size,0,none⟩) D.blk D.blk,.int .i64 0])/\Block w' w.heap.size (D.rd i)/\Below w.heap.size w w':=by
 obtain⟨m,hD⟩:=hD
 obtain⟨c0,c1,c2,c3,c4,c5⟩:=hD.cells
 have H:=adR g m.h D.n i w c1
 rw[decide_eq_true (by omega)] at H
 replace H:=hide H
 rw[hd] at c4
 have L:=hide (fun o (ho:o=2*i)=>ad9 o i m.h S g D m w hD hi ho rfl)
 have hb:=hide hD.ok.b2
 have hn:=hD.ok.n2
 generalize hq:D.rd i=zs at *
 clear hq
 generalize m.h=hh at *
 generalize D.n=nn at *
 generalize D.blk=bb at *
 clear hD hd
 go_enter Tryz.func73,Tryz.ntmps73
 go_wp2_with fail
 go_at_call 114
 refine(ah H).mono ?_
 rintro e w' ⟨rfl,rfl⟩
 clear H
 go_wp2_with fail
 go_at_call 116
 refine(ah L _ (by omega)).mono ?_
 rintro e w' ⟨⟨r,rfl,hr⟩,rfl⟩
 clear L
 have C:=hide (mO _ _ _ _ w (hr.row (ah hb)))
 clear hr
 obtain⟨r1,r2⟩:=r
 go_wp2_with fail
 go_at_call 115
 refine(ah C).mono ?_
 rintro e w' ⟨rfl,hB,hW⟩
 have B:=hide hB
 have W:=hide hW
 clear hB hW C
 go_wp2
 go_ret2
 exact⟨rfl,ah B,ah W⟩
theorem six:∀ j,j<6->j=0\/j=1\/j=2\/j=3\/j=4\/j=5:=by omega
end Go.Proofs.YtefdkpbmeoakgaaGreatDoor
/- Keys of maps that are small numbers. -/
namespace Go.Proofs.YtefdkpbmeoakgaaGreatDoor
set_option maxRecDepth 100000
set_option maxHeartbeats 8000000
open Go.RowKit Go.Shelf Go.Maps
set_option linter.unusedVariables false
theorem law3:Keyed Tryz.prog 3:=int_keyed Tryz.underlying3
theorem aeN {k:Nat}(h:k<=4096):(Lit.int .i64 (k:Int)).wf=true:=WalkArith.wf_i64 ⟨by omega,by omega⟩
theorem dI {k:Nat}(h:k<=4096):keyOf Tryz.prog 3 (.int .i64 (k:Int))=some (.int .i64 (k:Int)):=keyOf_int_mk Tryz.underlying3 (aeN h)
end Go.Proofs.YtefdkpbmeoakgaaGreatDoor
