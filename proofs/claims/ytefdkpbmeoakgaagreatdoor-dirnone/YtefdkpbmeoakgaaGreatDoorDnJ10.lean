/- Joined: DDel, DAny, PSteps, GOpen. -/
import Derived.Test.YtefdkpbmeoakgaaGreatDoorDnJ8
import Derived.Shelf.SlicesE.Delete
import Derived.Test.YtefdkpbmeoakgaaGreatDoorDnJ3
import Derived.Test.YtefdkpbmeoakgaaGreatDoorDnJ5
import Derived.Test.YtefdkpbmeoakgaaGreatDoorDnJ9
import Derived.BigRegion
import Derived.Test.YtefdkpbmeoakgaaGreatDoorDnJ1
import Derived.ProofKit
import Derived.OpenShut
import Derived.ShutString
import Derived.ChangeOld
import Derived.SizedLaws
/- slices.Delete at rows of rows, and wait and Write where ajW writes wait. -/
namespace Go.Proofs.YtefdkpbmeoakgaaGreatDoor
set_option maxRecDepth 100000
set_option maxHeartbeats 8000000
open Go.RowKit Go.Shelf
set_option linter.unusedVariables false
shelf_lay_g SlLaysE.n45 Slgn 45 at Tryz 156 as Tryz.delL
def encS (t:Option Addr×Nat×Nat):Value:=.slice t.1 t.2.1 t.2.2
theorem DvM.replace {u w2:World}{S S2:Nat->Prop}{g D m}(h:DvM u S g D m){i:Nat}(hi:i<D.n){v':Value}{Z:List (List Int)}(hWR:WR w2 S2 D.blk v' Z)(hz:Z.length<=400)(hsub:∀ k,S k->S2 k)(hlt:∀ k,S2 k->k<w2.heap.size)
  (kb:∀ k,S k->(m.W i).ownBlock≠some k->w2.heap[k]?=u.heap[k]?) (hne:∀ j k,j<D.n->j≠i->(m.W j).ownBlock=some k->v'.ownBlock≠some k) :
  w2.cell? ⟨m.h,2*i+1,none⟩=some (m.W i)/\w2.frozen? ⟨m.h,2*i+1,none⟩=false/\DvM (w2.setCell ⟨m.h,2*i+1,none⟩ v') S2 g { D with Y:=fun j=>if j=i then Z else D.Y j } { m with W:=fun j=>if j=i then v' else m.W j }:=by
 have k5:∀ k c,S k->u.heap[k]?=some (Obj.cells c 5)->w2.heap[k]?=u.heap[k]?:=by
  intro k c hk hc
  refine kb k hk (fun e=>?_)
  obtain⟨_,cur,hh⟩:=h.aeI hi e
  rw[hc] at hh
  cases hh
 have kh:w2.heap[m.h]?=u.heap[m.h]?:=by
  refine kb m.h h.sh (fun e=>?_)
  obtain⟨_,cur,hh⟩:=h.aeI hi e
  exact row_ne h.pla hh (by decide) rfl
 have kg:w2.heap[g]?=u.heap[g]?:=by
  refine kb g h.sg (fun e=>?_)
  obtain⟨_,cur,hh⟩:=h.aeI hi e
  exact row_ne h.dev hh (by decide) rfl
 have ne:∀ (k':Nat) (c:Array Value) (t:TypeId),t≠95->w2.heap[k']?=some (Obj.cells c t)->(w2.setCell ⟨m.h,2*i+1,none⟩ v').heap[k']?=w2.heap[k']?:=fun k' c t ht hh =>
  Below.heap_setCell _ _ _ _ (row_ne (h.pla.of_block kh) hh (fun e=>ht e.symm))
 have w5:∀ k c,S2 k->w2.heap[k]?=some (Obj.cells c 5)->(w2.setCell ⟨m.h,2*i+1,none⟩ v').heap[k]?=w2.heap[k]?:=fun k c _ hc=>ne k c 5 (by decide) hc
 have wW:∀ {v:Value} {Z':List (List Int)},WR w2 S2 D.blk v Z'->WR (w2.setCell ⟨m.h,2*i+1,none⟩ v') S2 D.blk v Z':=by
  intro v Z' hw
  refine hw.kept w5 (fun k' e=>?_) (fun _ h=>h)
  obtain⟨a,c,e1,_,_,_,hx⟩:=hw.shape
  rw[e1] at e
  cases a with
  | none=>simp[Value.ownBlock] at e
  | some x =>
   obtain⟨k2,cur,rfl,_,hh,_⟩:=hx x rfl
   simp[Value.ownBlock] at e
   subst e
   exact ne _ _ _ (by decide) hh
 refine⟨?_,?_,?_⟩
 ·rw[World.cell?_of_block (a:=⟨m.h,2*i+1,none⟩) kh];exact(h.place hi).2.1
 ·rw[World.frozen?_of_block (a:=⟨m.h,2*i+1,none⟩) kh];exact(h.place hi).2.2 _
 refine⟨((h.dev.of_block kg).setOther (fA (h.pla.of_block kh) (h.dev.of_block kg) (by decide)) _),((h.pla.of_block kh).set (2*i+1) _).congr (fun j hj=>?_),hsub _ h.sg,hsub _ h.sh,?_,?_,?_,fun k hk=>by simpa [World.setCell] using hlt k hk,h.fuse,⟨h.ok.n1,h.ok.n2,h.ok.b1,h.ok.b2,fun j hj=>?_,h.ok.f1,h.ok.f2⟩⟩
 ·simp only[tX]
  by_cases e:j=2*i+1
  ·subst e
   have e1:(2*i+1)%2=1:=by omega
   have e2:(2*i+1) / 2=i:=by omega
   simp[e1,e2]
  ·rw[if_neg e]
   by_cases e1:j%2=0
   ·simp[e1]
   ·have e2:¬ j / 2=i:=by omega
    simp[e1,e2]
 ·intro j hj
  exact((h.arr j hj).kept k5 hsub).kept w5 (fun _ h=>h)
 ·intro j hj
  by_cases e:j=i
  ·subst e
   simp only[if_true]
   exact wW hWR
  ·simp only[if_neg e]
   exact wW ((h.wai j hj).kept k5 (fun k ek=>kb k (h.aeI hj ek).1 (fun e2=>e (h.one j i k hj hi ek e2))) hsub)
 ·intro x y k hx hy ea eb
  by_cases e1:x=i
  ·by_cases e2:y=i
   ·omega
   ·simp only[e1,if_true] at ea
    simp only[if_neg e2] at eb
    exact absurd ea (hne y k hy e2 eb)
  ·by_cases e2:y=i
   ·simp only[e2,if_true] at eb
    simp only[if_neg e1] at ea
    exact absurd eb (hne x k hx e1 ea)
   ·simp only[if_neg e1] at ea
    simp only[if_neg e2] at eb
    exact h.one x y k hx hy ea eb
 ·by_cases e:j=i
  ·simp only[e,if_true];exact hz
  ·simp only[if_neg e];exact h.ok.y j hj
theorem del_any (b cap:Nat)(R:List (Nat×Nat))(r0:Nat×Nat)(blk:Nat)(w:World)(cur:Array Value)(hh:w.heap[b]?=some (.cells cur 71))(hsz:cur.size=cap)(hc:R.length+1<=cap)(hm:cap<=9223372036854775807)(ht:cur.toList.take (R.length+1)=(r0::R).map (rv blk)) :
  Calls Tryz.prog 156 #[.slice (some ⟨b,0,none⟩) (R.length+1) cap,.int .i64 0,.int .i64 1] w fun e w'=>e=.returned (.slice (some ⟨b,0,none⟩) R.length cap)/\(∀ k,k≠b->w'.heap[k]?=w.heap[k]?)/\w'.heap.size=w.heap.size/\w'.os=w.os/\w'.tape=w.tape/\w'.output=w.output/\∃ cur',w'.heap[b]?=some (.cells cur' 71)/\cur'.size=cap/\cur'.toList.take R.length=R.map (rv blk):=by
 obtain⟨i0,hi,hz0,hz1,hz2⟩:=info_parts ajs
 have hcell:∀ j,j<R.length+1->cur[j]?=some (rv blk ((r0::R)[j]?.getD (0,0))):=by
  intro j hj
  have:(cur.toList.take (R.length+1))[j]?=some (rv blk ((r0::R)[j]?.getD (0,0))):=by
   rw[ht,List.getElem?_map,List.getElem?_eq_getElem (by simpa using hj)];rfl
  rw[List.getElem?_take_of_lt hj] at this
  simpa using this
 have hH:Sort.Holds encS w b 0 ((r0::R).map (fun r=>((some ⟨r.1,0,none⟩,blk,r.2):Option Addr×Nat×Nat))).toArray:=by
  intro j hj
  have hj2:j<R.length+1:=by simpa using hj
  refine⟨?_,by simp[World.frozen?,hh]⟩
  rw[Nat.zero_add]
  simp only[World.cell?,hh]
  show cur[j]?=_
  rw[hcell j hj2,getElem!_pos _ j hj]
  simp only[List.getElem_toArray,List.getElem_map]
  rw[List.getElem?_eq_getElem (by simpa using hj2)]
  rfl
 have K:=AnyE.slices_Delete Tryz.delL encS (fun _=>rfl) ((none,0,0):Option Addr×Nat×Nat) (fun w=>by kernel_rfl) i0 hi hz1 b 0 cap 0 1 _ w hH (by simpa using hc) hm (by omega) (by simp)
 simp only[List.size_toArray,List.length_map,List.length_cons,Nat.sub_zero,Nat.add_sub_cancel] at K
 refine K.mono ?_
 rintro e w' ⟨e1,q,rfl⟩
 have hb:b<w.heap.size:=(Array.getElem?_eq_some_iff.1 hh).1
 refine⟨e1,fun k hk=>?_,by simp,rfl,rfl,rfl,?_⟩
 ·show ((Sort.ahead w q).heap.modify b _)[k]?=_
  rw[Array.getElem?_modify,if_neg (fun e=>hk e.symm)]
  rfl
 ·obtain⟨d',hd'⟩:∃ d':Array (Option Addr×Nat×Nat),d'=(List.take 0 ((r0::R).map (fun r:Nat×Nat=>((some ⟨r.1,0,none⟩,blk,r.2):Option Addr×Nat×Nat)))++List.drop 1 ((r0::R).map (fun r:Nat×Nat=>((some ⟨r.1,0,none⟩,blk,r.2):Option Addr×Nat×Nat)))++List.replicate 1 (none,0,0)).toArray:=⟨_,rfl⟩
  rw[← hd']
  have hds:d'.size=R.length+1:=by rw[hd'];simp
  have hdj:∀ j (hj:j<R.length),encS d'[j]! = rv blk R[j]:=by
   intro j hj
   rw[getElem!_pos _ j (by omega)]
   simp only[hd']
   simp[encS,hj]
  refine⟨Sort.putCells encS 0 d' cur,?_,?_,?_⟩
  ·show ((Sort.ahead w q).heap.modify b _)[b]?=_
   rw[Array.getElem?_modify,if_pos rfl]
   show Option.map _ (w.heap[b]?)=_
   rw[hh]
   rfl
  ·simp[Sort.putCells,hsz]
  ·apply List.ext_getElem?
   intro j
   by_cases hj:j<R.length
   ·rw[List.getElem?_take_of_lt hj,List.getElem?_map,List.getElem?_eq_getElem hj]
    have hjc:j<cur.size:=by omega
    have e2:=hdj j hj
    simp only[Sort.putCells,Array.getElem?_toList,Array.getElem?_mapIdx,Array.getElem?_eq_getElem hjc,Option.map_some,Nat.zero_add,Nat.sub_zero]
    rw[if_pos ⟨Nat.zero_le _,by omega⟩,e2]
   ·rw[List.getElem?_eq_none (by simp;omega),List.getElem?_eq_none (by simp;omega)]
def Dev.shift (D:Dev) (i:Nat):Dev:={ D with X:=fun j=>if j=i then (D.Y i)[0]?.getD [] else D.X j,Y:=fun j=>if j=i then (D.Y i).drop 1 else D.Y j }
theorem DvM.del {w S g D m}(h:DvM w S g D m){i:Nat}(hi:i<D.n)(hy:0<(D.Y i).length) :
  ∃ b cap,m.W i=.slice (some ⟨b,0,none⟩) (D.Y i).length cap/\Calls Tryz.prog 156 #[.slice (some ⟨b,0,none⟩) (D.Y i).length cap,.int .i64 0,.int .i64 1] w fun e w'=>∃ c',e=.returned (.slice (some ⟨b,0,none⟩) ((D.Y i).length - 1) c')/\w'.cell? ⟨m.h,2*i+1,none⟩=some (m.W i)/\w'.frozen? ⟨m.h,2*i+1,none⟩=false /\
   Hid (∃ m',m'.h=m.h/\DvM (w'.setCell ⟨m.h,2*i+1,none⟩ (.slice (some ⟨b,0,none⟩) ((D.Y i).length - 1) c')) S g { D with Y:=fun j=>if j=i then (D.Y i).drop 1 else D.Y j } m'/\Nx S w S (w'.setCell ⟨m.h,2*i+1,none⟩ (.slice (some ⟨b,0,none⟩) ((D.Y i).length - 1) c'))):=by
 obtain⟨R,hR,hRa,hRo⟩:=h.wai i hi
 have hyy:=h.ok.y i hi
 rcases hR.2 with ⟨_,h0⟩ | ⟨b,cap,cur,eW,_,hh,hn,hm,hsz,ht⟩
 ·omega
 rw[Nat.mul_one] at hsz ht
 have hRl:R.length=(D.Y i).length:=by simpa using hR.1
 obtain⟨r0,R',rfl⟩:∃ r0 R',R=r0::R':=by
  cases R with
  | nil=>simp at hRl;omega
  | cons r0 R'=>exact⟨r0,R',rfl⟩
 have hl:(D.Y i).length=R'.length+1:=by rw[← hRl];simp
 refine⟨b,cap,eW,?_⟩
 have hm2:cap<=9223372036854775807:=by unfold maxLen at hm;omega
 rw[hl] at ht hn ⊢
 refine(del_any b cap R' r0 D.blk w cur hh hsz hn hm2 ht).mono ?_
 rintro e w' ⟨rfl,kb,ks,k1,k2,k3,cur',hh',hsz',ht'⟩
 refine⟨cap,by rw[Nat.add_sub_cancel],?_⟩
 rw[Nat.add_sub_cancel]
 have hSb:S b:=hRo b (by rw[eW];rfl)
 have hown:(m.W i).ownBlock=some b:=by rw[eW];rfl
 have hWR:WR w' S D.blk (.slice (some ⟨b,0,none⟩) R'.length cap) ((D.Y i).drop 1):=by
  refine⟨R',⟨?_,.inr ⟨b,cap,cur',?_,Nat.zero_le _,hh',by rw[List.length_drop];omega,hm,by rw[Nat.mul_one];exact hsz',?_⟩⟩,fun j hj=>?_,fun k e=>by simp[Value.ownBlock] at e;subst e;exact hSb⟩
  ·simp;omega
  ·rw[List.length_drop,hl];rfl
  ·rw[Nat.mul_one,List.length_drop,hl,Nat.add_sub_cancel];exact ht'
  ·rw[List.length_drop] at hj
   have:=hRa (j+1) (by omega)
   rw[List.getElem?_cons_succ] at this
   rw[List.getElem?_drop,Nat.add_comm 1 j]
   exact this.kept (fun k c hs hc=>kb k (fun e=>by subst e;rw[hh] at hc;cases hc)) (fun _ h=>h)
 obtain⟨q1,q2,q3⟩:=h.replace hi hWR (by rw[List.length_drop];omega) (fun _ h=>h) (fun k hk=>by rw[ks];exact h.lt k hk) (fun k hk hne=>kb k (fun e=>hne (by rw[hown,e]))) (fun j k hj hji e e2=>by
  simp[Value.ownBlock] at e2
  subst e2
  exact hji (h.one j i _ hj hi e hown))
 refine⟨q1,q2,⟨m.h,m.A,fun j=>if j=i then .slice (some ⟨b,0,none⟩) R'.length cap else m.W j,m.fu,m.fv⟩,rfl,q3,?_⟩
 refine⟨(⟨k1,k2,k3,by omega,fun k hk hn=>kb k (fun e=>hn (by rw[e];exact hSb))⟩:Fr S w w').setCell h.sh _,fun _ _ h=>h⟩
theorem abh {a a':Option Addr}{n n' c c':Nat}(h:some (Value.slice a n c)=some (Value.slice a' n' c')):a=a'/\c=c':=by cases h;exact⟨rfl,rfl⟩
theorem ac3 (o i h:Nat)(a:Option Addr)(cap:Nat)(zs:List Int)(S:Nat->Prop)(g:Nat)(D:Dev)(m:Mem)(w:World)(hD:DvM w S g D m)(hi:i<D.n)(ho:o=2*i)(hh:h=m.h)(hy:(D.Y i).length=400)(hr:Row w.heap.size w a D.blk cap zs)(hout:Out S D.blk a) :
  Calls Tryz.prog 112 #[.pointer (some ⟨h,o,none⟩),.slice a D.blk cap] w fun e w'=>e=.returned (.tuple #[])/\∃ S',Dv w' S' g ((D.shift i).add i zs)/\Nx S w S' w':=by
 subst hh
 obtain⟨c0,c1,f⟩:=hD.place hi
 have hw:=hD.wai i hi
 obtain⟨aw,cw,ew,hc,hm,_⟩:=hw.shape
 rw[ew] at hw
 obtain⟨kk,r,rfl,_,ck,fk,hrow⟩:=hw.elem (j:=0) (by omega)
 have h1:=hD.akR hi hrow
 have n1:Nx S w S (w.setCell ⟨m.h,2*i,none⟩ (rv D.blk r)):=Nx.set (p:=⟨m.h,2*i,none⟩) hD.sh _
 have x1:=(h1.place hi).2.1
 obtain⟨b,cap2,eW,KD0⟩:=h1.del (i:=i) hi (by show 0<(D.Y i).length;omega)
 have eW2:m.W i=.slice (some ⟨b,0,none⟩) 400 cap2:=by rw[← hy];exact eW
 rw[ew] at eW2
 rw[hy] at eW2 ew
 cases eW2
 have KD:Hid (Calls Tryz.prog 156 #[.slice (some ⟨kk,0,none⟩) 400 cw,.int .i64 0,.int .i64 1] (w.setCell ⟨m.h,o,none⟩ (rv D.blk r)) fun e w'=>∃ c' v0,e=.returned (.slice (some ⟨kk,0,none⟩) 399 c')/\w'.cell? ⟨m.h,o+1,none⟩=some v0/\w'.frozen? ⟨m.h,o+1,none⟩=false /\
   Hid (∃ m',m'.h=m.h/\DvM (w'.setCell ⟨m.h,o+1,none⟩ (.slice (some ⟨kk,0,none⟩) 399 c')) S g (D.shift i) m'/\Nx S w S (w'.setCell ⟨m.h,o+1,none⟩ (.slice (some ⟨kk,0,none⟩) 399 c')))):=by
  have amv:(({ D with X:=fun j=>if j=i then (D.Y i)[0]?.getD [] else D.X j }:Dev).Y i).length=400:=hy
  rw[amv] at KD0
  rw[ho]
  refine KD0.mono ?_
  rintro e w' ⟨c',e1,e2,e3,m',e4,e5,e6⟩
  exact⟨c',_,e1,e2,e3,m',e4,e5,n1.trans e6⟩
 have KL:Hid (∀ w1 m',m'.h=m.h->DvM w1 S g (D.shift i) m'->Nx S w S w1->∀ w2,Below w1.heap.size w1 w2->Block w2 w1.heap.size zs->∃ vv c'',w2.cell? ⟨m.h,o+1,none⟩=some vv/\(w2.alloc (.cells #[.slice (some ⟨w1.heap.size,0,none⟩) D.blk D.blk] 71)).cell? ⟨m.h,o+1,none⟩=some vv/\w1.cell? ⟨m.h,o+1,none⟩=some vv/\(∃ av cv,vv=.slice av 399 cv)/\∃ a' w3,(∀ ty,(Builtin.append_ #[93,93] ty #[vv,.slice (some ⟨w2.heap.size,0,none⟩) 1 1]).run Tryz.prog (w2.alloc (.cells #[.slice (some ⟨w1.heap.size,0,none⟩) D.blk D.blk] 71))=.ok (.slice a' 400 c'') w3) /\
   w3.cell? ⟨m.h,o+1,none⟩=some vv/\w3.frozen? ⟨m.h,o+1,none⟩=false/\Hid (∃ S',Dv (w3.setCell ⟨m.h,o+1,none⟩ (.slice a' 400 c'')) S' g ((D.shift i).add i zs)/\Nx S w S' (w3.setCell ⟨m.h,o+1,none⟩ (.slice a' 400 c'')))):=by
  intro w1 m' em hd hx w2 hb hB
  have hl:((D.shift i).Y i).length=399:=by simp[Dev.shift,hy]
  obtain⟨a',c'',w3,R,y1,y2,S',y3,y4⟩:=hd.waits hi (by rw[hl];omega) hb hB hr.1 hr.2.2.2.1
  rw[hl] at R y3 y4
  obtain⟨av,cv,ev,_⟩:=(hd.wai i hi).shape
  rw[hl] at ev
  refine⟨m'.W i,c'',?_,?_,?_,⟨av,cv,ev⟩,a',w3,R,?_,?_,S',?_,?_⟩
  ·rw[← em,ho];exact((hd.grow hb).place hi).2.1
  ·rw[← em,ho];exact((hd.grow (hb.alloc hb.size _)).place hi).2.1
  ·rw[← em,ho];exact(hd.place hi).2.1
  ·rw[← em,ho];exact y1
  ·rw[← em,ho];exact y2
  ·rw[← em,ho];exact y3
  ·rw[← em,ho];exact hx.trans y4
 have KC:Hid (∀ w1,Nx S w S w1->Calls Tryz.prog 115 #[.slice a D.blk cap] w1.drew fun e w'=>e=.returned (.slice (some ⟨w1.heap.size,0,none⟩) D.blk D.blk)/\Block w' w1.heap.size zs/\Below w1.heap.size w1 w'):=fun w1 hx=>by
  have hr1:Row w1.heap.size w1 a D.blk cap zs:=hr.nx hx hout
  exact(mO _ _ _ _ w1.drew hr1).mono (fun e w' h=>⟨h.1,h.2.1,vk h.2.2⟩)
 have KL3:∀ w1 m',m'.h=m.h->DvM w1 S g (D.shift i) m'->∃ av cv,w1.cell? ⟨m.h,o+1,none⟩=some (.slice av 399 cv):=by
  intro w1 m' em hd
  have hl:((D.shift i).Y i).length=399:=by simp[Dev.shift,hy]
  obtain⟨av,cv,ev,_⟩:=(hd.wai i hi).shape
  rw[hl] at ev
  exact⟨av,cv,by rw[← em,ho,(hd.place hi).2.1,ev]⟩
 replace KL3:=hide KL3
 have f0:=f (2*i)
 rw[ew] at c1 x1
 rw[← ho] at c0 c1 f0 x1
 have ckk:w.cell? ⟨kk,0,none⟩=some (rv D.blk r):=ck
 generalize hq:(D.shift i).add i zs=D' at *
 generalize hq2:D.shift i=D2 at *
 generalize m.A i=rA at *
 obtain⟨rA1,rA2⟩:=rA
 obtain⟨r1,r2⟩:=r
 clear hD hr hq hq2 ew f ho hw hrow h1 KD0 hc hy eW ck fk hout n1
 generalize m.h=hh at *
 generalize D.n=nn at *
 generalize D.blk=bb at *
 go_enter Tryz.func112,Tryz.ntmps112
 go_wp2_with fail
 go_at_call 156
 refine(ah KD).mono ?_
 rintro e w1 ⟨c',v0,rfl,e1,e2,F⟩
 clear KD c0 c1 f0 x1 ckk
 go_upto_region 3 with fail
 obtain⟨m',em,d1,d2⟩:=ah F
 have C:=hide (ah KC _ d2)
 have KL2:=hide (ah KL _ m' em d1 d2)
 have hx3:=ah KL3 _ m' em d1
 clear F KC KL KL3 e1 e2 d1 d2 em
 generalize w1.setCell ⟨hh,o+1,none⟩ (.slice (some ⟨kk,0,none⟩) 399 c')=W at *
 obtain⟨av,cv,x3⟩:=hx3
 have x3':W.drew.cell? ⟨hh,o+1,none⟩=some (.slice av 399 cv):=x3
 have HX:=hide x3
 clear x3
 go_region_law (first
  | (refine jo (by rfl) _ _ _ (by rfl) _ _ _ (by rfl) (by rfl) (ah R) ?_;clear R)
  | (go_simp;go_at_call 115;refine(ah C).mono ?_;rintro e w2 ⟨rfl,hB,hb⟩;obtain⟨vv,c'',d1,d0,d00,⟨av2,cv2,rfl⟩,a',w3,R',d2,d3,d4⟩:=ah KL2 w2 hb hB;obtain⟨rfl,rfl⟩:=abh ((ah HX).symm.trans d00);have R:=hide R';clear C KL2 hB hb R' d00))
 all_goals
  go_wp2_with fail
  go_end0
  exact⟨rfl,ah d4⟩
theorem aaQ (g i:Nat)(a:Option Addr)(cap:Nat)(zs:List Int)(S:Nat->Prop)(D:Dev)(w:World)(hD:Dv w S g D)(hi:i<D.n)(hb:¬ D.aaj)(hr:Row w.heap.size w a D.blk cap zs)(ho:Out S D.blk a)(hy:(D.Y i).length=400) :
  Calls Tryz.prog 71 #[.pointer (some ⟨g,0,none⟩),.int .i64 i,.slice a D.blk cap] w fun e w'=>e=.returned (.int .i64 0)/\∃ S',Dv w' S' g ((D.eU.shift i).add i zs)/\Nx S w S' w':=by
 have H:=jW g i a D.blk cap S D w hD
 rw[yR hi] at H
 replace H:=hide H
 have K:=hide (mQ g S D w hD hb)
 have KW:Hid (∀ w1,Dv w1 S g D.eU->Nx S w S w1->∃ h n,w1.cell? ⟨g,1,none⟩=some (.slice (some ⟨h,0,none⟩) n n)/\i<n/\n<=4096/\∀ o,o=2*i ->
   Calls Tryz.prog 112 #[.pointer (some ⟨h,o,none⟩),.slice a D.blk cap] w1 fun e w'=>e=.returned (.tuple #[])/\∃ S',Dv w' S' g ((D.eU.shift i).add i zs)/\Nx S w S' w'):=by
  intro w1 hD1 hx
  obtain⟨m,hm⟩:=hD1
  refine⟨m.h,D.n,hm.cells.2.1,hi,hm.ok.n2,fun o ho2=>?_⟩
  refine(ac3 o i m.h a cap zs S g D.eU m w1 hm hi ho2 rfl hy (hr.nx hx ho) ho).mono ?_
  rintro e w' ⟨e1,S',h1,h2⟩
  exact⟨e1,S',h1,hx.trans h2⟩
 clear hD hb hr ho hy
 generalize (D.eU.shift i).add i zs=D' at *
 generalize D.eU=D1 at *
 generalize D.blk=bb at *
 go_enter Tryz.func71,Tryz.ntmps71
 go_wp2_with fail
 go_at_call 110
 refine(ah H).mono ?_
 rintro e w' ⟨rfl,rfl⟩
 clear H
 go_wp2_with fail
 go_at_call 111
 refine(ah K).mono ?_
 rintro e w1 ⟨rfl,h1,h2⟩
 obtain⟨h,n,c1,hin,hn,KW2⟩:=ah KW w1 h1 h2
 replace KW:=hide KW2
 clear K h1 h2 KW2
 go_wp2_with fail
 go_at_call 112
 refine(ah KW _ (by omega)).mono ?_
 rintro e w2 ⟨rfl,h3⟩
 have F:=hide h3
 clear KW h3
 go_wp2
 go_ret
 exact⟨rfl,ah F⟩
end Go.Proofs.YtefdkpbmeoakgaaGreatDoor
/- What Write and Flush of a device answer and leave, whatever its state; small laws beside it. -/
namespace Go.Proofs.YtefdkpbmeoakgaaGreatDoor
set_option maxRecDepth 100000
set_option maxHeartbeats 8000000
open Go.RowKit Go.Shelf Go.Maps
set_option linter.unusedVariables false
def Dev.wE (D:Dev):Int:=if D.f=0\/D.dead=true then 7 else 0
def Dev.wD (D:Dev) (i:Nat) (zs:List Int):Dev:=if D.f=0\/D.dead=true then D.die else if (D.Y i).length<400 then D.eU.add i zs else (D.eU.shift i).add i zs
theorem Dev.akc (D:Dev)(i:Nat)(zs:List Int):(D.wD i zs).n=D.n/\(D.wD i zs).blk=D.blk:=by
 unfold Dev.wD
 split
 ·exact⟨rfl,rfl⟩
 ·split<;>exact⟨rfl,rfl⟩
theorem write_any (g i:Nat)(a:Option Addr)(cap:Nat)(zs:List Int)(S:Nat->Prop)(D:Dev)(w:World)(hD:Dv w S g D)(hi:i<D.n)(hr:Row w.heap.size w a D.blk cap zs)(ho:Out S D.blk a) :
  Calls Tryz.prog 71 #[.pointer (some ⟨g,0,none⟩),.int .i64 i,.slice a D.blk cap] w fun e w'=>e=.returned (.int .i64 D.wE)/\∃ S',Dv w' S' g (D.wD i zs)/\Nx S w S' w':=by
 by_cases hb:D.f=0\/D.dead=true
 ·have e1:D.wE=7:=if_pos hb
  have e2:D.wD i zs=D.die:=if_pos hb
  rw[e1,e2]
  refine(aaR g i a cap S D w hD hi hb).mono ?_
  rintro e w' ⟨rfl,h1,h2⟩
  exact⟨rfl,S,h1,h2⟩
 ·have e1:D.wE=0:=if_neg hb
  by_cases hy:(D.Y i).length<400
  ·have e2:D.wD i zs=D.eU.add i zs:=by unfold Dev.wD;rw[if_neg hb,if_pos hy]
   rw[e1,e2]
   exact aeL g i a cap zs S D w hD hi hb hr ho hy
  ·have e2:D.wD i zs=(D.eU.shift i).add i zs:=by unfold Dev.wD;rw[if_neg hb,if_neg hy]
   rw[e1,e2]
   exact aaQ g i a cap zs S D w hD hi hb hr ho (by have:=hD.ok.y i hi;omega)
theorem jM {w w':World}{ops:Array Oper}{rest:List Oper}{o:Oper}{a:Act}{Q:Exit->Act->World->Prop}(t:TypeId)(hgd:o.guard=none)(m x v:Operand)
  (ho:o.op=Op.mapUpdate t m x v) (vm vx vv:Value) (hm:a.eval m=vm) (hx:a.eval x=vx) (hv:a.eval v=vv)
  (hrun:(Instr.mapUpdate t vm vx vv).run Tryz.prog w=.ok () w')
  (h:wpList Tryz.prog ops Q rest (a.put o.dst undef) w'):wpList Tryz.prog ops Q (o::rest) a w:=by
 refine wpList_plain hgd fun K hK=>?_
 unfold Oper.wp
 simp[execOp,ho,hm,hx,hv,hrun,Result.andThen]
 exact hK _ _ h
theorem Dv.aiU {w S g D}(h:Dv w S g D){i:Nat}(hi:i<D.n):∃ r,bP w S D.blk r (D.rd i):=by
 obtain⟨m,h⟩:=h
 unfold Dev.rd
 by_cases h0:D.Y i=[]
 ·rw[h0]
  exact⟨_,h.arr i hi⟩
 ·have hl:0<(D.Y i).length:=List.length_pos_iff.2 h0
  obtain⟨a,c,e,_⟩:=(h.wai i hi).shape
  have hw:=h.wai i hi
  rw[e] at hw
  obtain⟨k,r,_,_,_,_,hr⟩:=hw.elem (j:=(D.Y i).length - 1) (by omega)
  refine⟨r,?_⟩
  rw[List.getLast?_eq_getElem?]
  rw[List.getElem?_eq_getElem (by omega)] at hr ⊢
  exact hr
theorem Dv.ag6 {w S g D}(h:Dv w S g D){i:Nat}(hi:i<D.n):(D.rd i).length=D.blk/\∀ z∈D.rd i,0<=z/\z<=255:=by
 obtain⟨r,hr⟩:=h.aiU hi
 exact⟨hr.own.1,hr.byt⟩
theorem Nx.vk {S S'}{w w':World}(h:Nx S w.drew S' w'):Nx S w S' w':=⟨⟨h.fr.os,h.fr.tape,h.fr.output,h.fr.size,h.fr.block⟩,h.sub⟩
theorem Nx.below' {S S'}{w w1 w2:World}(h:Nx S w S' w1)(hb:Below w1.heap.size w1 w2):Nx S w S' w2 :=
 ⟨⟨hb.os.trans h.fr.os,hb.tape.trans h.fr.tape,hb.output.trans h.fr.output,Nat.le_trans h.fr.size hb.size,fun k hk hn=>(hb.block k (Nat.lt_of_lt_of_le hk h.fr.size)).trans (h.fr.block k hk hn)⟩,h.sub⟩
def Dev.fD (D:Dev):Dev:=if D.f=0\/D.dead=true then D.die else D.eU.flush
theorem flush_any (g:Nat)(S:Nat->Prop)(D:Dev)(w:World)(hD:Dv w S g D) :
  Calls Tryz.prog 72 #[.pointer (some ⟨g,0,none⟩)] w fun e w'=>e=.returned (.int .i64 D.wE)/\Dv w' S g D.fD/\Nx S w S w':=by
 by_cases hb:D.f=0\/D.dead=true
 ·have e1:D.wE=7:=if_pos hb
  have e2:D.fD=D.die:=if_pos hb
  rw[e1,e2]
  exact abR g S D w hD hb
 ·have e1:D.wE=0:=if_neg hb
  have e2:D.fD=D.eU.flush:=if_neg hb
  rw[e1,e2]
  exact aga g S D w hD hb
inductive Stp where
 | w (i:Nat) (z:List Int)
 | f
def Stp.ap (D:Dev):Stp->Dev
 | .w i z=>D.wD i z
 | .f=>D.fD
def vN:List Stp->Dev->Int
 | [],_=>0
 | s::r,D=>if D.wE=0 then vN r (s.ap D) else 7
def yc:List Stp->Dev->Dev
 | [],D=>D
 | s::r,D=>if D.wE=0 then yc r (s.ap D) else s.ap D
theorem Dev.ac4 (D:Dev):D.wE=0\/D.wE=7:=by unfold Dev.wE;split<;>simp
theorem o9 {s:Stp}{r:List Stp}{D:Dev}(h:D.wE=0):vN (s::r) D=vN r (s.ap D):=if_pos h
theorem acV {s:Stp}{r:List Stp}{D:Dev}(h:D.wE≠0):vN (s::r) D=7:=if_neg h
theorem oC {s:Stp}{r:List Stp}{D:Dev}(h:D.wE=0):yc (s::r) D=yc r (s.ap D):=if_pos h
theorem acW {s:Stp}{r:List Stp}{D:Dev}(h:D.wE≠0):yc (s::r) D=s.ap D:=if_neg h
end Go.Proofs.YtefdkpbmeoakgaaGreatDoor
/- The way to a block of a file. -/
namespace Go.Proofs.YtefdkpbmeoakgaaGreatDoor
set_option maxRecDepth 100000
set_option maxHeartbeats 8000000
open Go.RowKit Go.Shelf
set_option linter.unusedVariables false
def way (p i:Int):List Int:=if i<8 then [i] else if i - 8<p then [8,i - 8] else [9,(i - 8 - p) / p,(i - 8 - p)%p]
theorem oq (P:Nat->Int)(i p:Int)(w:World)(h:bH P=0)(hn:¬ i<0)(hn2:¬ mfb P<=i)(hp:P 0 / 2=p)(h8:i<8) :
  Calls Tryz.prog 144 #[Pv P,.int .i64 i] w fun r w'=>(∃ k,r=.returned (.tuple #[.slice (some ⟨k,0,none⟩) 1 1,.int .i64 0])/\w.heap.size<=k/\w'.heap[k]?=some (zI i))/\Below w.heap.size w w':=by
 have HC:=hide (check_any P)
 rw[h] at HC
 have hz:=(sound h).bd.1
 have H1:=hide (fun u=>iL P u (sound h).size)
 have hm:=ajm (sound h).size
 generalize mfb P=m at *
 have H2:=hide (fun u=>vW P u p hz hp)
 have hb2:32<=p/\p<=2048:=by omega
 clear h hp
 have HK:=hide (Kp.start w P)
 go_enter Tryz.func144,Tryz.ntmps144
 go_wp2_with fail
 go_at_call 46
 refine(ah HC _).mono ?_
 rintro r w1 ⟨rfl,hb⟩
 replace HK:=hide ((ah HK).call hb)
 clear hb HC
 obtain⟨f0,f1,f2,f3,f4,f5,f6,f7,f8,f9,f10,f11⟩:=(ah HK).cells
 go_wp2_with fail
 go_at_call 87
 refine(ah H1 _).mono ?_
 rintro r w2 ⟨rfl,hb⟩
 replace HK:=hide ((ah HK).call hb)
 clear hb H1 f0 f1 f2 f3 f4 f5 f6 f7 f8 f9 f10 f11
 go_wp2
 go_ret2
 exact⟨⟨_,rfl,(ah HK).2.size,heap_alloc_new _ _⟩,(ah HK).2.alloc (ah HK).2.size _⟩
end Go.Proofs.YtefdkpbmeoakgaaGreatDoor
/- A slice of bytes that came in, opened: within the reach of the form. -/
namespace Go.Proofs.YtefdkpbmeoakgaaGreatDoor
set_option maxRecDepth 100000
set_option maxHeartbeats 8000000
open Go.ChangeShapes Go.WideShapes Go.ChangeAt Go.RowKit
set_option linter.unusedVariables false
theorem own:ownKnob Tryz.prog.godebug=none:=by kernel_rfl
end Go.Proofs.YtefdkpbmeoakgaaGreatDoor
