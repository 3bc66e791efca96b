/- A list that grows beside a bundle. -/
import Derived.Test.YtefdkpbmeoakgaaGreatDoorDnJ38
import Derived.Maps.AppendAt
namespace Go.Proofs.YtefdkpbmeoakgaaGreatDoor
set_option maxRecDepth 100000
set_option maxHeartbeats 8000000
open Go.RowKit Go.Shelf Go.Maps
set_option linter.unusedVariables false
def LsQ (n0:Nat) (Q:List (Nat×Obj)->World->Prop) (e:TypeId) (size:Nat) (val:Value) (n:Nat) (xs:List Value) (rows:List (Nat×Obj)) (v:World):Prop :=
 (val=.slice none 0 0/\n=0/\xs=[]/\Q rows v)\/∃ g c cur,val=.slice (some ⟨g,0,none⟩) n c/\n0<=g/\(∀ x∈rows,x.1≠g)/\n<=c/\c<=maxLen/\cur.size=c*size/\cur.toList.take (n*size)=xs/\xs.length=n*size/\Q ((g,.cells cur e (0,0))::rows) v
theorem LsQ.q {n0 Q}(hq:Bun n0 Q){e:TypeId}{size:Nat}{val:Value}{n:Nat}{xs:List Value}{rows:List (Nat×Obj)}{v:World}(h:LsQ n0 Q e size val n xs rows v):Q rows v:=by
 rcases h with ⟨_,_,_,h⟩ | ⟨_,_,_,_,_,_,_,_,_,_,_,h⟩
 ·exact h
 ·exact hq.pop h
theorem LsQ.later {n0 Q}(hq:Bun n0 Q){e:TypeId}{size:Nat}{val:Value}{n:Nat}{xs:List Value}{rows:List (Nat×Obj)}{v v':World}(h:LsQ n0 Q e size val n xs rows v)(hb:Below v.heap.size v v'):LsQ n0 Q e size val n xs rows v':=by
 rcases h with ⟨a,b,c,h⟩ | ⟨g,c,cur,h1,h2,h3,h4,h5,h6,h7,h8,h9⟩
 ·exact .inl ⟨a,b,c,hq.later h hb⟩
 ·exact .inr ⟨g,c,cur,h1,h2,h3,h4,h5,h6,h7,h8,hq.later h9 hb⟩
theorem LsQ.app {n0 Q}(hq:Bun n0 Q)(t e:TypeId)(i:TypeInfo)(z:Value)(size bytes:Nat)(ht:Tryz.prog.underlying t=some (.slice e))(hi:Tryz.prog.info? e=some i)(hz:i.zero=some z)(hsize:i.size=size)(hby:i.bytes=bytes)(hzs:z.cells.size=size)(hsz:0<size)
  {val:Value} {n:Nat} {xs:List Value} {rows:List (Nat×Obj)} {v:World} (h:LsQ n0 Q e size val n xs rows v) (nb:Nat) (news:List Value) (hl:news.length=size) (hnews:∀ j u,news[j]?=some u->v.cell? ⟨nb,j,none⟩=some u) (h1:∀ u∈news,u.oneCell'=true) (hn:n<=1000) (hbt:bytes<=1000000) :
  ∃ val' v',(∀ ty,(Builtin.append_ #[t,t] ty #[val,.slice (some ⟨nb,0,none⟩) 1 1]).run Tryz.prog v=.ok val' v')/\LsQ n0 Q e size val' (n+1) (xs++news) rows v'/\v.heap.size<=v'.heap.size/\(val=.slice none 0 0->∀ g m c,val'=.slice (some ⟨g,0,none⟩) m c->v.heap.size<=g):=by
 have hnews':∀ j u,news[j]?=some u->v.cell? ((⟨nb,0,none⟩:Addr).add j)=some u:=fun j u hj=>by
  rw[World.aF,Nat.zero_add]
  exact hnews j u hj
 have hb2:(n+1)*bytes<=140737488355328:=Nat.le_trans (Nat.mul_le_mul (show n+1<=1001 by omega) hbt) (by omega)
 rcases h with ⟨rfl,rfl,rfl,h⟩ | ⟨g,c,cur,rfl,g1,g2,g3,g4,g5,g6,g7,h⟩
 ·have hown:v.ownsRow v.heap.size e size (.slice none 0 0) 0 []:=⟨by simp,.inl ⟨rfl,rfl⟩⟩
  obtain⟨val',v',r1,r2,r3,r4,r5⟩:=run_append_own_at (P:=Tryz.prog) v v.heap.size t 0 e i z size bytes ht hi hz hsize hby hzs hsz _ _ _ hown ⟨nb,0,none⟩ 1 1 news (by omega) hnews' h1 (by unfold maxLen;omega) hb2 (Nat.le_refl _)
  refine⟨val',v',fun ty=>r1,?_,r3.size,fun _ g' m' c' e=>?_⟩
  rotate_left
  ·obtain⟨q1,⟨_,q2⟩ | ⟨g,c,cur,rfl,q3,_⟩⟩:=r2
   ·omega
   ·cases e;exact q3
  obtain⟨q1,⟨_,q2⟩ | ⟨g,c,cur,rfl,q3,q4,q5,q6,q7,q8⟩⟩:=r2
  ·omega
  ·have hb:Below v.heap.size v v':=(Below.refl _ v).grown r3 (Nat.le_refl _) (fun j e=>by cases e)
   exact .inr ⟨g,c,cur,rfl,Nat.le_trans (hq.sz h) q3,fun x hx e=>by have:=hq.lt h hx;omega,q5,q6,q7,q8,q1,hq.push h hb q3 q4⟩
 ·have hrow:v.heap[g]?=some (.cells cur e (0,0)):=hq.row h (x:=(g,.cells cur e (0,0))) (by simp)
  have hlt:g<v.heap.size:=(Array.getElem?_eq_some_iff.1 hrow).1
  have hown:v.ownsRow g e size (.slice (some ⟨g,0,none⟩) n c) n xs:=⟨g7,.inr ⟨g,c,cur,rfl,Nat.le_refl _,hrow,g3,g4,g5,g6⟩⟩
  obtain⟨val',v',r1,r2,r3,r4,r5⟩:=run_append_own_at (P:=Tryz.prog) v g t 0 e i z size bytes ht hi hz hsize hby hzs hsz _ _ _ hown ⟨nb,0,none⟩ 1 1 news (by omega) hnews' h1 (by unfold maxLen;omega) hb2 (by omega)
  refine⟨val',v',fun ty=>r1,?_,r3.size,fun e=>by cases e⟩
  obtain⟨q1,⟨_,q2⟩ | ⟨g',c',cur',rfl,q3,q4,q5,q6,q7,q8⟩⟩:=r2
  ·omega
  ·have r3':v.grownBy v' (some g):=r3
   rcases r5 with r5 | r5
   ·have eg:g'=g:=Option.some.inj r5
    subst eg
    exact .inr ⟨g',c',cur',rfl,g1,g2,q5,q6,q7,q8,q1,hq.grow h g1 g2 r3' q4⟩
   ·have eg:g'=v.heap.size:=Option.some.inj r5
    have hg2:v'.heap[g]?=some (v'.heap[g]'(by have:=r3.size;omega)):=Array.getElem?_eq_getElem _
    have k1:=hq.ahV h g1 g2 r3' hg2 (Nat.le_of_eq eg.symm) q4
    exact .inr ⟨g',c',cur',rfl,by omega,fun x hx e=>by have:=hq.lt h (List.mem_cons_of_mem _ hx);omega,q5,q6,q7,q8,q1,hq.sub k1 (fun x hx=>by
     rcases List.mem_cons.1 hx with e | e
     ·rw[e];simp
     ·exact List.mem_cons_of_mem _ (List.mem_cons_of_mem _ e))⟩
theorem LsQ.parts {n0 Q e size val n xs rows v}(h:LsQ n0 Q e size val n xs rows v) :
  ∃ R:List (Nat×Obj),Q (R++rows) v/\(∀ x∈R,n0<=x.1/\∀ y∈rows,y.1≠x.1)/\(∀ u:World,(∀ x∈R,u.heap[x.1]?=some x.2)->∀ (i:Nat) (w:Value),xs[i]?=some w->∃ g m c,val=.slice (some ⟨g,0,none⟩) m c/\u.cell? ⟨g,i,none⟩=some w)/\∀ eH v2,(∀ y∈eH,∀ x∈R,y.1≠x.1)->Q (R++eH) v2->LsQ n0 Q e size val n xs eH v2:=by
 rcases h with ⟨a,b,c,h⟩ | ⟨g,c,cur,h1,h2,h3,h4,h5,h6,h7,h8,h9⟩
 ·exact⟨[],h,fun x hx=>(by cases hx),fun u _ i w hw=>(by rw[c] at hw;cases hw),fun eH v2 _ hq=>.inl ⟨a,b,c,hq⟩⟩
 ·refine⟨[(g,.cells cur e (0,0))],h9,fun x hx=>?_,fun u hu i w hw=>?_,fun eH v2 hd hq=>.inr ⟨g,c,cur,h1,h2,fun y hy=>hd y hy (g,.cells cur e (0,0)) (by simp),h4,h5,h6,h7,h8,hq⟩⟩
  ·rw[List.mem_singleton] at hx
   rw[hx]
   exact⟨h2,h3⟩
  ·have hb:Bl u g cur e:=hu (g,.cells cur e (0,0)) (by simp)
   refine⟨g,n,c,h1,hb.cell i w ?_⟩
   rw[← h7] at hw
   have hi:=(List.getElem?_eq_some_iff.1 hw).1
   rw[List.length_take] at hi
   rw[List.getElem?_take_of_lt (by omega)] at hw
   simpa using hw
end Go.Proofs.YtefdkpbmeoakgaaGreatDoor
