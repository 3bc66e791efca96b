/- Joined: DLoad, DApp. -/
import Derived.Test.YtefdkpbmeoakgaaGreatDoorDnJ3
import Derived.Deep.RegionHeld3
/- The contract of Load. -/
namespace Go.Proofs.YtefdkpbmeoakgaaGreatDoor
set_option maxRecDepth 100000
set_option maxHeartbeats 8000000
open Go.RowKit Go.Shelf
set_option linter.unusedVariables false
theorem vk {B:Nat}{w w':World}(h:Below B w.drew w'):Below B w w':=⟨h.os,h.tape,h.output,h.size,h.block⟩
def exS (S:Nat->Prop) (w w':World) (k:Nat):Prop:=S k\/(w.heap.size<=k/\k<w'.heap.size)
theorem DvM.grow {w w':World}{S g D m}(h:DvM w S g D m)(hb:Below w.heap.size w w'):DvM w' (exS S w w') g D m :=
 h.kept (fun k hk=>hb.block k (h.lt k hk)) (fun k hk=>.inl hk) (fun k hk=>by
  rcases hk with hk | hk
  ·exact Nat.lt_of_lt_of_le (h.lt k hk) hb.size
  ·exact hk.2)
theorem Nx.grow {S:Nat->Prop}{w w':World}(hb:Below w.heap.size w w'):Nx S w (exS S w w') w' :=
 ⟨Below.fr hb S,fun k hk hS=>by
  rcases hS with hS | hS
  ·exact hS
  ·omega⟩
theorem bP.new {w w':World}{S:Nat->Prop}{zs}{len:Nat}(hB:Block w' w.heap.size zs)(hl:zs.length=len)(hm:len<=4096)(hz:∀ z∈zs,0<=z/\z<=255):bP w' (exS S w w') len (w.heap.size,len) zs :=
 ⟨⟨hl,_,hB,by rw[List.toList_toArray,List.take_of_length_le (by simp[hl])]⟩,.inr ⟨Nat.le_refl _,hB.lt⟩,Nat.le_refl _,by unfold maxLen;omega,hz⟩
theorem jo {w w':World}{ops:Array Oper}{o:Oper}{a:Act}{K':Act->World->Prop}{Q:Exit->Act->World->Prop}{E:Prop}(hw:Region.wanted o (yielded ops a.tmps)=true)(d s:Operand)(t:TypeId)
  (ho:o.op=.call { callee:=.builtin .append,args:=#[d,s],argTypes:=#[t,t] }) (v x v':Value) (hd:a.eval d=v) (hs:a.eval s=x)
  (hrun:∀ ty,(Builtin.append_ #[t,t] ty #[v,x]).run Tryz.prog w=.ok v' w')
  (h:K' (a.put o.dst v') w'):if Region.wanted o (yielded ops a.tmps)=true then Oper.wp Tryz.prog o a w K' Q else E:=by
 rw[if_pos hw]
 have hr:=hrun o.type
 unfold Oper.wp
 simp[execOp,ho,resolve,invoke,builtin,hd,hs,hr,Result.andThen]
 exact h
theorem oz (t e:TypeId)(zv:Value)(bytes:Nat)(ht:Tryz.prog.underlying t=some (.slice e))(hinfo:(Tryz.prog.info? e).map (fun i=>(i.zero,i.size,i.bytes))=some (some zv,1,bytes))(hzc:zv.cells.size=1)
  {w:World} {v:Value} {n:Nat} {xs:List Value} (h:w.ownsRow 0 e 1 v n xs) (a2:Addr) (m c2:Nat) (news:List Value) (hl:news.length=m) (hm:0<m) (hnews:∀ (j:Nat) (u:Value),news[j]?=some u->w.cell? (a2.add j)=some u) (h1c:∀ u∈news,u.oneCell'=true)
  (hmax:n+m<=maxLen) (hby:(n+m)*bytes<=140737488355328) :
  ∃ v' w',(∀ ty,(Builtin.append_ #[t,t] ty #[v,.slice (some a2) m c2]).run Tryz.prog w=.ok v' w')/\w'.ownsRow 0 e 1 v' (n+m) (xs++news)/\w.grownBy w' v.ownBlock /\
   ((v'.ownBlock=v.ownBlock/\v.ownBlock≠none)\/(∃ k,v'.ownBlock=some k/\w.heap.size<=k/\w.grownBy w' none)):=by
 obtain⟨i0,hi,hz0,hz1,hz2⟩:=info_parts hinfo
 obtain⟨h1,h2⟩:=h
 have low:∀ {w':World} {v':Value} {N:Nat} {ys:List Value},w'.ownsRow w.heap.size e 1 v' N ys->0<N->w'.ownsRow 0 e 1 v' N ys/\∃ k,v'.ownBlock=some k/\w.heap.size<=k:=by
  intro w' v' N ys ho hN
  obtain⟨o1,o2⟩:=ho
  rcases o2 with ⟨_,o2⟩ | ⟨g,cap,cur,rfl,hb,r⟩
  ·omega
  ·exact⟨⟨o1,.inr ⟨g,cap,cur,rfl,Nat.zero_le _,r⟩⟩,g,rfl,hb⟩
 rcases h2 with ⟨rfl,rfl⟩ | ⟨g,c,cur,rfl,hb,hh,hnc,hcm,hcs,htk⟩
 ·have hx:xs=[]:=List.eq_nil_of_length_eq_zero (by simpa using h1)
  subst hx
  obtain⟨v',w',hr,ho,hg,_⟩:=run_append_own (P:=Tryz.prog) w w.heap.size t 0 e i0 zv 1 bytes ht hi hz0 hz1 hz2 hzc (by decide) (.slice none 0 0) 0 [] (World.ownsRow_nil w _ e 1) a2 m c2 news (by omega) hnews h1c hmax hby (Nat.le_refl _)
  obtain⟨l1,l2⟩:=low ho (by omega)
  obtain⟨k,l2,l3⟩:=l2
  exact⟨v',w',fun ty=>hr,l1,hg,.inr ⟨k,l2,l3,hg⟩⟩
 ·rw[Nat.mul_one] at htk hcs
  have holds:∀ (j:Nat) (u:Value),xs[j]?=some u->w.cell? ((⟨g,0,none⟩:Addr).add j)=some u:=by
   intro j u hj
   rw[World.aF,Nat.zero_add]
   have hjl:j<n:=by have:=(List.getElem?_eq_some_iff.1 hj).1;simp at h1;omega
   rw[← htk,List.getElem?_take_of_lt hjl] at hj
   simp only[World.cell?,hh]
   simpa using hj
  by_cases hroom:n+m<=c
  ·refine⟨_,_,fun ty=>run_append_room (P:=Tryz.prog) w t ty e i0 ht hi g n c cur hh a2 m c2 news (by rw[hz1];omega) hnews h1c hroom (by rw[hz1,hcs];omega),?_,?_,.inl ⟨rfl,by simp[Value.ownBlock]⟩⟩
   ·refine⟨by simp at h1 ⊢;omega,.inr ⟨g,c,_,rfl,Nat.zero_le _,setRow_heap w g cur _ e _ hh,hroom,hcm,?_,?_⟩⟩
    ·simp[hz1];omega
    ·rw[hz1,Nat.mul_one,Nat.mul_one,htk]
     have hl2:(xs++news).length=n+m:=by simp at h1 ⊢;omega
     rw[List.toList_toArray,List.take_append_of_le_length (by omega),List.take_of_length_le (by omega)]
   ·refine⟨rfl,rfl,rfl,by simp[World.setRow],fun k _ hne=>setRow_other w g k _ (fun e=>hne (by rw[e];rfl))⟩
  ·obtain⟨v',w',hr,ho,hg⟩:=run_append_arg_grows (P:=Tryz.prog) w t 0 e i0 zv 1 bytes ht hi hz0 hz1 hz2 hzc (by decide) ⟨g,0,none⟩ n c xs (by simpa using h1) holds a2 m c2 news (by omega) hnews (by omega) hmax hby
   obtain⟨l1,l2⟩:=low ho (by omega)
   obtain⟨k,l2,l3⟩:=l2
   exact⟨v',w',fun ty=>hr,l1,⟨hg.os,hg.tape,hg.output,hg.size,fun k hk _=>hg.block k hk (by simp)⟩,.inr ⟨k,l2,l3,hg⟩⟩
end Go.Proofs.YtefdkpbmeoakgaaGreatDoor
