/- Joined: OLog, ORead, OEnd, OPub, ARead, ONew. -/
import Derived.Test.YtefdkpbmeoakgaaGreatDoorDnJ32
import Derived.Test.YtefdkpbmeoakgaaGreatDoorDnJ25
import Derived.Test.YtefdkpbmeoakgaaGreatDoorDnJ30
import Derived.Test.YtefdkpbmeoakgaaGreatDoorDnJ14
import Derived.Test.YtefdkpbmeoakgaaGreatDoorDnJ17
import Derived.Test.YtefdkpbmeoakgaaGreatDoorDnJ2
import Derived.Deep.RegionHeld3
import Derived.Test.YtefdkpbmeoakgaaGreatDoorDnKNew
/- ame: what is pending in the log, as the group has it. -/
namespace Go.Proofs.YtefdkpbmeoakgaaGreatDoor
set_option maxRecDepth 100000
set_option maxHeartbeats 8000000
open Go.RowKit Go.Shelf Go.Maps
set_option linter.unusedVariables false
theorem acQ (G:Geo)(Q:Nat->Option (List Int)){b:Nat}(hb:b<G.n):setW (fun _=>none) (kR G Q) b=Q b:=by
 have key:∀ (l:List Nat) (R:Nat->Option (List Int)),(∀ x∈l,(Q x).isSome=true)->setW R (l.map (fun x=>(x,(Q x).getD []))) b=if b∈l then Q b else R b:=by
  intro l
  induction l with
  | nil=>intro R _;rfl
  | cons x r ih =>
   intro R hx
   show setW _ (r.map _) b=_
   rw[ih _ (fun y hy=>hx y (List.mem_cons_of_mem _ hy))]
   by_cases h1:b∈r
   ·rw[if_pos h1,if_pos (List.mem_cons_of_mem _ h1)]
   ·rw[if_neg h1]
    by_cases h2:b=x
    ·subst h2
     rw[if_pos (show b∈b::r by simp)]
     show (if b=b then some ((Q b).getD []) else R b)=Q b
     rw[if_pos rfl]
     obtain⟨z,hz⟩:=Option.isSome_iff_exists.1 (hx b (by simp))
     rw[hz];rfl
    ·rw[if_neg (show ¬ b∈x::r by simp[h1,h2])]
     show (if b=x then _ else R b)=R b
     rw[if_neg h2]
 unfold kR
 rw[key _ _ (fun x hx=>(kT.1 hx).2)]
 by_cases h:b∈gW G Q
 ·rw[if_pos h]
 ·rw[if_neg h]
  cases e:Q b with
  | none=>rfl
  | some z=>exact absurd (kT.2 ⟨hb,by rw[e];rfl⟩) h
theorem jk.llk {u u':World}{S Sg Sg' Sc Sl Sd:Nat->Prop}{g cg lg dg P G X C L D m mk ml}(h:jk u S Sg Sc Sl Sd g cg lg dg P G X C L D m mk ml)(hx:Nx Sg u Sg' u'):LgM u' Sl lg dg P G L ml :=
 h.ll.kept (fun k hk=>(hx.keep (h.ll.lt k hk) (fun x=>h.gl k x hk)).1) (fun _ x=>x) (fun k hk=>(hx.keep (h.ll.lt k hk) (fun x=>h.gl k x hk)).2.2)
theorem GrM.aki {u S g dg lg cg P G X m}(h:GrM u S g dg lg cg P G X m)(H:Hd){nb:Nat}(hm:iP (kB G.blk) u nb G.n (fun _=>none))(hS:S nb)(n1:nb≠m.lb)(n2:nb≠m.fb)(n3:∀ N,X.N=some N->nb≠m.nb) :
  GrM ((((u.setCell ⟨g,18,none⟩ (.int .i64 (H.seq:Int))).setCell ⟨g,19,none⟩ (.int .i64 (H.tail:Int))).setCell ⟨g,20,none⟩ (.int .i64 (H.used:Int))).setCell ⟨g,21,none⟩ (.map (some nb))) S g dg lg cg P G X { m with hc:=H,pb:=some nb,Qc:=fun _=>none }:=by
 have h1:=h.yM X { m with hc:=⟨H.seq,m.hc.tail,m.hc.used⟩ } 18 (.int .i64 (H.seq:Int)) (fun j hj=>by
  rcases sF j hj with rfl | rfl | rfl | ⟨h1,h2⟩ | rfl | rfl | rfl | rfl | rfl | rfl | rfl
  ·simp[dG]
  ·simp[dG]
  ·simp[dG]
  ·simp[dG,show ¬ j=0 by omega,show ¬ j=1 by omega,show ¬ j=2 by omega,h2,show ¬ j=18 by omega]
  all_goals simp[dG,Hd.fn]) ⟨rfl,rfl⟩ ⟨rfl,rfl,rfl⟩ (fun N e=>by have ho:=h.opS 18 (.int .i64 (H.seq:Int)) e;exact⟨ho.str,ho.nts,ho.so,ho.nl,ho.nf,ho.np⟩) (fun pb e=>h.aja 18 _ e) h.pno
 have m1:=hm.kept (Below.heap_setCell u ⟨g,18,none⟩ (.int .i64 (H.seq:Int)) nb (fun e=>hm.ner h.str e.symm))
 generalize u.setCell ⟨g,18,none⟩ (.int .i64 (H.seq:Int))=u1 at *
 have h2:=h1.yM X { m with hc:=⟨H.seq,H.tail,m.hc.used⟩ } 19 (.int .i64 (H.tail:Int)) (fun j hj=>by
  rcases sF j hj with rfl | rfl | rfl | ⟨h1,h2⟩ | rfl | rfl | rfl | rfl | rfl | rfl | rfl
  ·simp[dG]
  ·simp[dG]
  ·simp[dG]
  ·simp[dG,show ¬ j=0 by omega,show ¬ j=1 by omega,show ¬ j=2 by omega,h2,show ¬ j=19 by omega]
  all_goals simp[dG,Hd.fn]) ⟨rfl,rfl⟩ ⟨rfl,rfl,rfl⟩ (fun N e=>by have ho:=h1.opS 19 (.int .i64 (H.tail:Int)) e;exact⟨ho.str,ho.nts,ho.so,ho.nl,ho.nf,ho.np⟩) (fun pb e=>h1.aja 19 _ e) h.pno
 have m2:=m1.kept (Below.heap_setCell u1 ⟨g,19,none⟩ (.int .i64 (H.tail:Int)) nb (fun e=>m1.ner h1.str e.symm))
 generalize u1.setCell ⟨g,19,none⟩ (.int .i64 (H.tail:Int))=u2 at *
 have h3:=h2.yM X { m with hc:=H } 20 (.int .i64 (H.used:Int)) (fun j hj=>by
  rcases sF j hj with rfl | rfl | rfl | ⟨h1,h2⟩ | rfl | rfl | rfl | rfl | rfl | rfl | rfl
  ·simp[dG]
  ·simp[dG]
  ·simp[dG]
  ·simp[dG,show ¬ j=0 by omega,show ¬ j=1 by omega,show ¬ j=2 by omega,h2,show ¬ j=20 by omega]
  all_goals simp[dG,Hd.fn]) ⟨rfl,rfl⟩ ⟨rfl,rfl,rfl⟩ (fun N e=>by have ho:=h2.opS 20 (.int .i64 (H.used:Int)) e;exact⟨ho.str,ho.nts,ho.so,ho.nl,ho.nf,ho.np⟩) (fun pb e=>h2.aja 20 _ e) h.pno
 have m3:=m2.kept (Below.heap_setCell u2 ⟨g,20,none⟩ (.int .i64 (H.used:Int)) nb (fun e=>m2.ner h2.str e.symm))
 generalize u2.setCell ⟨g,20,none⟩ (.int .i64 (H.used:Int))=u3 at *
 have m4:=m3.kept (Below.heap_setCell u3 ⟨g,21,none⟩ (.map (some nb)) nb (fun e=>m3.ner h3.str e.symm))
 refine h3.yM X { m with hc:=H,pb:=some nb,Qc:=fun _=>none } 21 (.map (some nb)) (fun j hj=>?_) ⟨rfl,rfl⟩ ⟨rfl,rfl,rfl⟩ (fun N e=>?_) (fun pb e=>?_) (fun e=>by cases e)
 ·rcases sF j hj with rfl | rfl | rfl | ⟨h1,h2⟩ | rfl | rfl | rfl | rfl | rfl | rfl | rfl
  ·simp[dG]
  ·simp[dG]
  ·simp[dG]
  ·simp[dG,show ¬ j=0 by omega,show ¬ j=1 by omega,show ¬ j=2 by omega,h2,show ¬ j=21 by omega]
  all_goals simp[dG]
 ·have ho:=h3.opS 21 (.map (some nb)) e
  exact⟨ho.str,ho.nts,ho.so,ho.nl,ho.nf,fun e2=>n3 N e (by have e3:some nb=some m.nb:=e2;exact Option.some.inj e3)⟩
 ·cases e
  exact⟨⟨m4.congr (fun k hk=>rfl),fun b z _ e=>(by cases e),hS⟩,n1,n2⟩
structure InJ (u:World) (Sg:Nat->Prop) (g dg lg cg:Nat) (P:Nat->Int) (G:Geo) (X:Grp) (L:Lg) (nb B:Nat) (v:Value) (V:List Wr) (k:Nat) (wr:World) (Sg':Nat->Prop) (m':aeF):Prop where
 gr:GrM wr Sg' g dg lg cg P G X m'
 nx:Nx Sg u Sg' wr
 hc:m'.hc=L.h
 pb:m'.pb=some nb
 qc:m'.Qc=setW (fun _=>none) ((kR G L.Q).take k)
 gw:Gw B wr v V
 nl:nb<B
 bl:B<=wr.heap.size
 ub:u.heap.size<=B
 is:wl V=kR G L.Q
 dl:∀ x∈V,x.dl=G.blk/\0<=x.b
theorem InJ.block {u Sg g dg lg cg P G X L nb B v V k wr Sg' m'}(h:InJ u Sg g dg lg cg P G X L nb B v V k wr Sg' m')(hk:k<V.length) :
  ∃ b:Nat,(wat V k).b=(b:Int)/\b<G.n:=by
 have h0:=(h.dl _ (yt hk)).2
 refine⟨(wat V k).b.toNat,by omega,?_⟩
 have hm:((wat V k).b.toNat,(wat V k).z)∈wl V:=List.mem_map.2 ⟨wat V k,yt hk,rfl⟩
 rw[h.is] at hm
 unfold kR at hm
 obtain⟨b,hb,e⟩:=List.mem_map.1 hm
 have e1:b=(wat V k).b.toNat:=by simpa using congrArg Prod.fst e
 rw[← e1]
 exact(kT.1 hb).1
theorem InJ.step {u Sg g dg lg cg P G X L nb B v V k wr Sg' m'}(h:InJ u Sg g dg lg cg P G X L nb B v V k wr Sg' m')(hk:k<V.length){b:Nat}(hb:(wat V k).b=(b:Int))(hbn:b<G.n){w1:World}(hw:Below wr.heap.size wr w1) :
  ∃ w2,(Instr.mapUpdate 99 (.map (some nb)) (.int .i64 (b:Int)) (.slice (wat V k).da (wat V k).dl (wat V k).dc)).run Tryz.prog w1=.ok () w2/\∃ Sg2 m2,InJ u Sg g dg lg cg P G X L nb B v V (k+1) w2 Sg2 m2:=by
 have hs:=hw.size
 have hbl:=h.bl
 have hub:=h.ub
 have hG:=h.gr.pg.ok
 obtain⟨ow,by1,dl1,dl2⟩:=(h.gw.below hw).row k hk
 obtain⟨q,eq,ra,q1,q2⟩:=ow.rowAt dl1 by1 (S:=fun j=>Sg' j\/(B<=j/\j<w1.heap.size)) (fun j h1 h2=>.inr ⟨h1,h2⟩)
 have edl:=(h.dl _ (yt hk)).1
 have g1:GrM w1 (fun j=>Sg' j\/(B<=j/\j<w1.heap.size)) g dg lg cg P G X m':=h.gr.kept (fun j hj=>hw.block j (h.gr.lt j hj)) (fun j hj=>.inl hj) (fun j hj=>by
  rcases hj with x | x
  ·exact Nat.lt_of_lt_of_le (h.gr.lt j x) hs
  ·exact x.2)
 rw[edl] at ra
 obtain⟨w2,r2,p2,T⟩:=(g1.pen nb h.pb).put hG.n2 hbn ra
 have g2:=g1.alY h.pb T p2
 rw[eq,edl]
 refine⟨w2,r2,_,_,g2,?_,h.hc,h.pb,?_,?_,h.nl,by rw[T.sz];omega,h.ub,h.is,h.dl⟩
 ·have n1:=h.nx.below' hw
  refine⟨⟨T.gr.os.trans n1.fr.os,T.gr.tape.trans n1.fr.tape,T.gr.output.trans n1.fr.output,by rw[T.sz];exact n1.fr.size,fun j hj hn=>(T.other (Nat.lt_of_lt_of_le hj n1.fr.size) (fun e=>hn (n1.sub j hj (by rw[e];exact(h.gr.pen nb h.pb).sm)))).trans (n1.fr.block j hj hn)⟩,fun j hj x=>?_⟩
  rcases x with x | x
  ·exact h.nx.sub j hj x
  ·omega
 ·show (fun j=>if j=b then some (wat V k).z else m'.Qc j)=_
  rw[h.qc,← h.is,acP hk b hb]
 ·exact(h.gw.below hw).kept (fun j hj hl=>T.other hl (by have:=h.nl;omega))
theorem akK (h:Hd):Hv h.fn=.agg #[.int .i64 (h.seq:Int),.int .i64 (h.tail:Int),.int .i64 (h.used:Int)]:=rfl
theorem ak6 {a b:Hd}(h:a≠b):¬ ∀ k,k<3->a.fn k=b.fn k:=fun hk=>h (by
 have h0:a.seq=b.seq:=by have:=hk 0 (by omega);simp[Hd.fn] at this;omega
 have h1:a.tail=b.tail:=by have:=hk 1 (by omega);simp[Hd.fn] at this;omega
 have h2:a.used=b.used:=by have:=hk 2 (by omega);simp[Hd.fn] at this;omega
 cases a;cases b
 simp only[Hd.mk.injEq]
 exact⟨h0,h1,h2⟩)
def InA (u:World) (S Sg Sc Sl Sd:Nat->Prop) (g cg lg dg:Nat) (P:Nat->Int) (G:Geo) (X:Grp) (C:Cac) (L:Lg) (D:Dev) (mk:nS) (ml:aeD) (v:Option Nat) (w':World):Prop :=
 ∃ S' Sg' m',jk w' S' Sg' Sc Sl Sd g cg lg dg P G X C L D m' mk ml/\Nx S u S' w'/\m'.pb=v/\∀ b,b<G.n->m'.Qc b=L.Q b
theorem InJ.done {u S Sg Sc Sl Sd g cg lg dg P G X C L D m mk ml}(h:jk u S Sg Sc Sl Sd g cg lg dg P G X C L D m mk ml){nb B:Nat}{v:Value}{V:List Wr}{wr:World}{Sg':Nat->Prop}{m':aeF}(hJ:InJ u Sg g dg lg cg P G X L nb B v V V.length wr Sg' m') :
  InA u S Sg Sc Sl Sd g cg lg dg P G X C L D mk ml (some nb) wr:=by
 have hq:∀ b,b<G.n->m'.Qc b=L.Q b:=fun b hb=>by
  rw[hJ.qc,List.take_of_length_le (by rw[← hJ.is,ac1];omega),acQ G L.Q hb]
 obtain⟨S',a1,x1,_⟩:=h.own hJ.gr hJ.nx (.inl ⟨hJ.hc,hq⟩)
 exact⟨S',Sg',m',a1,x1,hJ.pb,hq⟩
theorem jk.akj {u S Sg Sc Sl Sd g cg lg dg P G X C L D m mk ml}(h:jk u S Sg Sc Sl Sd g cg lg dg P G X C L D m mk ml){v:World}(hv:Below u.heap.size u v) :
  ((((v.alloc (.map #[] 0)).setCell ⟨g,18,none⟩ (.int .i64 (L.h.seq:Int))).setCell ⟨g,19,none⟩ (.int .i64 (L.h.tail:Int))).setCell ⟨g,20,none⟩ (.int .i64 (L.h.used:Int))).cell? ⟨g,21,none⟩=some (.map m.pb) /\
  (((((v.alloc (.map #[] 0)).setCell ⟨g,18,none⟩ (.int .i64 (L.h.seq:Int))).setCell ⟨g,19,none⟩ (.int .i64 (L.h.tail:Int))).setCell ⟨g,20,none⟩ (.int .i64 (L.h.used:Int))).setCell ⟨g,21,none⟩ (.map (some v.heap.size))).cell? ⟨g,1,none⟩=some (.pointer (some ⟨lg,0,none⟩)) /\
  Hid (Calls Tryz.prog 199 #[.pointer (some ⟨lg,0,none⟩)] (((((v.alloc (.map #[] 0)).setCell ⟨g,18,none⟩ (.int .i64 (L.h.seq:Int))).setCell ⟨g,19,none⟩ (.int .i64 (L.h.tail:Int))).setCell ⟨g,20,none⟩ (.int .i64 (L.h.used:Int))).setCell ⟨g,21,none⟩ (.map (some v.heap.size)))
   fun e w'=>∃ a c V,e=.returned (.slice a V.length c)/\Hid (∃ B Sg' m',InJ u Sg g dg lg cg P G X L v.heap.size B (.slice a V.length c) V 0 w' Sg' m')):=by
 have hs:=hv.size
 have b1:Below v.heap.size v (v.alloc (.map #[] 0)):=(Below.refl _ _).alloc (Nat.le_refl _) _
 have z1:(v.alloc (.map #[] 0)).heap.size=v.heap.size+1:=by simp
 have b2:=hv.trans (b1.mono hs)
 have hm:=iP.made (kB G.blk) v G.n
 have g1:=h.gr.grow b2
 have x1:=zh Sg b2
 have n1:v.heap.size≠m.lb:=by have:=h.gr.log.map.lt;omega
 have n2:v.heap.size≠m.fb:=by have:=h.gr.fre.map.lt;omega
 have g2:=g1.aki L.h hm (.inr ⟨hs,by omega⟩) n1 n2 (fun N e=>by have:=(h.gr.opn N e).nts.map.lt;omega)
 have c21:((((v.alloc (.map #[] 0)).setCell ⟨g,18,none⟩ (.int .i64 (L.h.seq:Int))).setCell ⟨g,19,none⟩ (.int .i64 (L.h.tail:Int))).setCell ⟨g,20,none⟩ (.int .i64 (L.h.used:Int))).cell? ⟨g,21,none⟩=some (.map m.pb):=(((g1.str.set 18 _).set 19 _).set 20 _).cell (i:=21) (by omega)
 have x2:Nx Sg u (exS Sg u (v.alloc (.map #[] 0))) (((((v.alloc (.map #[] 0)).setCell ⟨g,18,none⟩ (.int .i64 (L.h.seq:Int))).setCell ⟨g,19,none⟩ (.int .i64 (L.h.tail:Int))).setCell ⟨g,20,none⟩ (.int .i64 (L.h.used:Int))).setCell ⟨g,21,none⟩ (.map (some v.heap.size))) :=
  (((x1.trans (lY g1.sg _)).trans (lY g1.sg _)).trans (lY g1.sg _)).trans (lY g1.sg _)
 have z2:(((((v.alloc (.map #[] 0)).setCell ⟨g,18,none⟩ (.int .i64 (L.h.seq:Int))).setCell ⟨g,19,none⟩ (.int .i64 (L.h.tail:Int))).setCell ⟨g,20,none⟩ (.int .i64 (L.h.used:Int))).setCell ⟨g,21,none⟩ (.map (some v.heap.size))).heap.size=v.heap.size+1:=by simp[World.setCell]
 generalize (((((v.alloc (.map #[] 0)).setCell ⟨g,18,none⟩ (.int .i64 (L.h.seq:Int))).setCell ⟨g,19,none⟩ (.int .i64 (L.h.tail:Int))).setCell ⟨g,20,none⟩ (.int .i64 (L.h.used:Int))).setCell ⟨g,21,none⟩ (.map (some v.heap.size)))=w4 at *
 refine⟨c21,g2.cells.2.1,(yZ lg dg Sl P G L ml w4 (h.llk x2)).mono ?_⟩
 rintro e w5 ⟨vv,V,rfl,Y⟩
 obtain⟨gw,is,dl,bw⟩:=ah Y
 obtain⟨a,c,rfl,_,_⟩:=gw.shape
 refine⟨a,c,V,rfl,w4.heap.size,_,_,g2.kept (fun j hj=>bw.block j (g2.lt j hj)) (fun _ x=>x) (fun j hj=>Nat.lt_of_lt_of_le (g2.lt j hj) bw.size),x2.below' bw,rfl,rfl,rfl,gw,by omega,bw.size,by omega,is,dl⟩
theorem wP {u S Sg Sc Sl Sd g cg lg dg P G X C L D m mk ml}(h:jk u S Sg Sc Sl Sd g cg lg dg P G X C L D m mk ml) :
  Calls Tryz.prog 168 #[.pointer (some ⟨g,0,none⟩)] u fun e w'=>∃ v,e=.returned (.map v)/\Hid (InA u S Sg Sc Sl Sd g cg lg dg P G X C L D mk ml v w'):=by
 have c1:=h.gr.cells.2.1
 have KH:=hide (abI lg dg Sl P G L ml u h.ll)
 rw[akK] at KH
 have HC:Hid (∀ w1,Below u.heap.size u w1->w1.cell? ⟨g,18,none⟩=some (.int .i64 (m.hc.seq:Int))/\w1.cell? ⟨g,19,none⟩=some (.int .i64 (m.hc.tail:Int))/\w1.cell? ⟨g,20,none⟩=some (.int .i64 (m.hc.used:Int))/\w1.cell? ⟨g,21,none⟩=some (.map m.pb)/\(∀ k,w1.frozen? ⟨g,k,none⟩=false)/\w1.cell? ⟨g,1,none⟩=some (.pointer (some ⟨lg,0,none⟩))):=fun w1 hb=>by
  have:=(h.below hb).gr.cells
  exact⟨this.2.2.2.2.2.2.2.1,this.2.2.2.2.2.2.2.2.1,this.2.2.2.2.2.2.2.2.2.1,this.2.2.2.2.2.2.2.2.2.2.1,this.2.2.2.2.2.2.2.2.2.2.2,this.2.1⟩
 have hB:∀ w1:World,Below u.heap.size u w1->Below u.heap.size u (w1.alloc (.cells #[.int .i64 (L.h.seq:Int),.int .i64 (L.h.tail:Int),.int .i64 (L.h.used:Int)] 98)):=fun w1 hb=>hb.alloc hb.size _
 by_cases he:m.hc=L.h
 ·have q:∀ w:World,(binOp .neq 98 (.agg #[.int .i64 (L.h.seq:Int),.int .i64 (L.h.tail:Int),.int .i64 (L.h.used:Int)]) (.agg #[.int .i64 (m.hc.seq:Int),.int .i64 (m.hc.tail:Int),.int .i64 (m.hc.used:Int)])).run Tryz.prog w=.ok (.bool false) w:=fun w=>wz (P:=L.h.fn) (Q:=m.hc.fn) (fun k _=>by rw[he]) w
  have Z:Hid (∀ w',Below u.heap.size u w'->InA u S Sg Sc Sl Sd g cg lg dg P G X C L D mk ml m.pb w'):=fun w' hb=>by
   refine⟨S,Sg,m,h.below hb,(Nx.refl S u).below' hb,rfl,?_⟩
   rcases h.seen with h1 | h1
   ·exact h1.2
   ·exact absurd he h1.ne
  have HBB:=hide hB
  clear h he hB
  generalize (L.h.seq:Int)=l1 at *
  generalize (L.h.tail:Int)=l2 at *
  generalize (L.h.used:Int)=l3 at *
  generalize (m.hc.seq:Int)=l4 at *
  generalize (m.hc.tail:Int)=l5 at *
  generalize (m.hc.used:Int)=l6 at *
  go_enter Tryz.func168,Tryz.ntmps168
  go_wp2_with fail
  go_at_call 198
  refine(ah KH).mono ?_
  rintro e w1 ⟨rfl,hb1⟩
  have B2:=hide (ah HBB w1 hb1)
  have BX:=hide (Bl.new w1 #[.int .i64 l1,.int .i64 l2,.int .i64 l3] 98)
  clear KH HBB hb1 c1
  go_upto_region 2 with fail
  change Code.wp _ _ _ _ (w1.alloc (.cells #[.int .i64 l1,.int .i64 l2,.int .i64 l3] 98))
  generalize w1.alloc (.cells #[.int .i64 l1,.int .i64 l2,.int .i64 l3] 98)=w2 at *
  generalize w1.heap.size=gb at *
  obtain⟨e1,e2,e3,e4,_,_⟩:=ah HC w2 (ah B2)
  have x1:=(ah BX).cell 0 (.int .i64 l1) rfl
  have x2:=(ah BX).cell 1 (.int .i64 l2) rfl
  have x3:=(ah BX).cell 2 (.int .i64 l3) rfl
  have ZZ:Hid (∀ n,InA u S Sg Sc Sl Sd g cg lg dg P G X C L D mk ml m.pb (w2.drewN n)):=fun n=>ah Z _ (below_drewN (ah B2) n)
  clear HC B2 BX Z
  generalize m.pb=pb at *
  go_quiet (fail)
  rename_i nq
  have e4':(w2.drewN nq).cell? ⟨g,21,none⟩=some (.map pb):=e4
  have ZQ:=hide (ah ZZ nq)
  clear e1 e2 e3 e4 x1 x2 x3 ZZ q
  generalize w2.drewN nq=w3 at *
  go_wp2_with fail
  go_ret
  exact⟨_,rfl,ah ZQ⟩
 ·have q:∀ w:World,(binOp .neq 98 (.agg #[.int .i64 (L.h.seq:Int),.int .i64 (L.h.tail:Int),.int .i64 (L.h.used:Int)]) (.agg #[.int .i64 (m.hc.seq:Int),.int .i64 (m.hc.tail:Int),.int .i64 (m.hc.used:Int)])).run Tryz.prog w=.ok (.bool true) w:=fun w=>um (P:=L.h.fn) (Q:=m.hc.fn) (ak6 (fun e=>he e.symm)) w
  have HBB:=hide hB
  have KL:Hid (∀ v,Below u.heap.size u v->_):=fun v hv=>h.akj hv
  have KD:Hid (∀ nb B v V wr Sg' m',InJ u Sg g dg lg cg P G X L nb B v V V.length wr Sg' m'->InA u S Sg Sc Sl Sd g cg lg dg P G X C L D mk ml (some nb) wr):=fun nb B v V wr Sg' m' hJ=>InJ.done h hJ
  have hmm:=@run_makeMap Tryz.prog
  clear h he hB
  generalize (L.h.seq:Int)=l1 at *
  generalize (L.h.tail:Int)=l2 at *
  generalize (L.h.used:Int)=l3 at *
  generalize (m.hc.seq:Int)=l4 at *
  generalize (m.hc.tail:Int)=l5 at *
  generalize (m.hc.used:Int)=l6 at *
  go_enter Tryz.func168,Tryz.ntmps168
  go_wp2_with fail
  go_at_call 198
  refine(ah KH).mono ?_
  rintro e w1 ⟨rfl,hb1⟩
  have B2:=hide (ah HBB w1 hb1)
  have BX:=hide (Bl.new w1 #[.int .i64 l1,.int .i64 l2,.int .i64 l3] 98)
  clear KH HBB hb1 c1
  go_upto_region 2 with fail
  change Code.wp _ _ _ _ (w1.alloc (.cells #[.int .i64 l1,.int .i64 l2,.int .i64 l3] 98))
  generalize w1.alloc (.cells #[.int .i64 l1,.int .i64 l2,.int .i64 l3] 98)=w2 at *
  generalize w1.heap.size=gb at *
  obtain⟨e1,e2,e3,e4,e5,_⟩:=ah HC w2 (ah B2)
  have x1:=(ah BX).cell 0 (.int .i64 l1) rfl
  have x2:=(ah BX).cell 1 (.int .i64 l2) rfl
  have x3:=(ah BX).cell 2 (.int .i64 l3) rfl
  go_quiet (fail)
  rename_i nq
  have B3:Hid (Below u.heap.size u (w2.drewN nq)):=below_drewN (ah B2) nq
  have BY:Hid (Bl (w2.drewN nq) gb #[.int .i64 l1,.int .i64 l2,.int .i64 l3] 98):=ah BX
  clear e1 e2 e3 e4 e5 x1 x2 x3 q B2 BX
  generalize w2.drewN nq=w3 at *
  obtain⟨y21,y1,KP⟩:=ah KL w3 (ah B3)
  obtain⟨e1,e2,e3,e4,e5,_⟩:=ah HC (w3.alloc (.map #[] 0)) ((ah B3).alloc (ah B3).size _)
  have x1:=(ah BY).cell 0 (.int .i64 l1) rfl
  have x2:=(ah BY).cell 1 (.int .i64 l2) rfl
  have x3:=(ah BY).cell 2 (.int .i64 l3) rfl
  clear HC KL BY
  go_upto_region 4 with fail
  change Code.wp _ _ _ _ (((((w3.alloc (.map #[] 0)).setCell ⟨g,18,none⟩ (.int .i64 l1)).setCell ⟨g,19,none⟩ (.int .i64 l2)).setCell ⟨g,20,none⟩ (.int .i64 l3)).setCell ⟨g,21,none⟩ (.map (some w3.heap.size)))
  clear e1 e2 e3 e4 e5 x1 x2 x3 y21 hmm
  generalize (((((w3.alloc (.map #[] 0)).setCell ⟨g,18,none⟩ (.int .i64 l1)).setCell ⟨g,19,none⟩ (.int .i64 l2)).setCell ⟨g,20,none⟩ (.int .i64 l3)).setCell ⟨g,21,none⟩ (.map (some w3.heap.size)))=w4 at *
  generalize w3.heap.size=nb at *
  clear B3
  go_wp2_with fail
  go_at_call 199
  refine(ah KP).mono ?_
  rintro e w5 ⟨a,c,V,rfl,Y⟩
  obtain⟨B,Sg1,m1,hJ1⟩:=ah Y
  have Y1:Hid (∃ Sg' m',InJ u Sg g dg lg cg P G X L nb B (.slice a V.length c) V 0 w5 Sg' m'):=⟨Sg1,m1,hJ1⟩
  have hnp:V.length<=4096:=by
   have h1:=congrArg List.length hJ1.is
   rw[ac1,oO] at h1
   have h2:=oP G L.Q
   have h3:=hJ1.gr.pg.ok.n2
   omega
  clear KP Y hJ1 y1
  have KD1:Hid (∀ wr,(∃ Sg' m',InJ u Sg g dg lg cg P G X L nb B (.slice a V.length c) V V.length wr Sg' m')->InA u S Sg Sc Sl Sd g cg lg dg P G X C L D mk ml (some nb) wr/\wr.cell? ⟨g,21,none⟩=some (.map (some nb))):=fun wr ⟨Sg',m',hJ⟩=>⟨ah KD _ _ _ _ _ _ _ hJ,by rw[hJ.gr.cells.2.2.2.2.2.2.2.2.2.2.1,hJ.pb]⟩
  have KS1:Hid (∀ k wr,(∃ Sg' m',InJ u Sg g dg lg cg P G X L nb B (.slice a V.length c) V k wr Sg' m')->k<V.length->∃ kb off b,a=some ⟨kb,off,none⟩/\wr.cell? ⟨kb,off+k*2,none⟩=some (.int .i64 ((b:Nat):Int))/\wr.cell? ⟨kb,off+k*2+1,none⟩=some (.slice (wat V k).da (wat V k).dl (wat V k).dc) /\
    ∀ w1,Below wr.heap.size wr w1->w1.cell? ⟨g,21,none⟩=some (.map (some nb))/\∃ w2,(Instr.mapUpdate 99 (.map (some nb)) (.int .i64 ((b:Nat):Int)) (.slice (wat V k).da (wat V k).dl (wat V k).dc)).run Tryz.prog w1.drew=.ok () w2/\Hid (∃ Sg' m',InJ u Sg g dg lg cg P G X L nb B (.slice a V.length c) V (k+1) w2 Sg' m')):=by
   rintro k wr ⟨Sg',m',hJ⟩ hk
   obtain⟨b,hb,hbn⟩:=hJ.block hk
   obtain⟨wh,_⟩:=hJ.gw.has
   obtain⟨kb,off,ea,_,hc⟩:=wh.cel (by omega)
   obtain⟨c1,c2⟩:=hc k hk
   rw[hb] at c1
   refine⟨kb,off,b,ea,c1,c2,fun w1 hw=>?_⟩
   obtain⟨w2,r2,J2⟩:=hJ.step hk hb hbn (w1:=w1.drew) hw.drew
   refine⟨?_,w2,r2,J2⟩
   have e21:=hJ.gr.cells.2.2.2.2.2.2.2.2.2.2.1
   rw[hJ.pb] at e21
   exact(hw.cell (p:=⟨g,21,none⟩) (hJ.gr.lt _ hJ.gr.sg)).trans e21
  clear KD
  generalize hVl:V.length=np at *
  clear hVl
  go_wp2_with fail
  go_loopw [31] (fun i wr=>∃ k:Nat,k<=np/\i=.int .i64 (k:Int)/\Hid (∃ Sg' m',InJ u Sg g dg lg cg P G X L nb B (.slice a np c) V k wr Sg' m')) (fun i _=>np - (intOf i).toNat)
  case atStart=>exact⟨0,Nat.zero_le _,rfl,Y1⟩
  case round =>
   obtain⟨k,hk,rfl,hJ⟩:=hrel
   clear Y1
   by_cases hlt:k<np
   ·obtain⟨kb,off,b,ea,x1,x2,KX⟩:=ah KS1 _ _ (ah hJ) hlt
    obtain⟨y21,w2,r2,Z⟩:=KX (wr.alloc (.cells #[.int .i64 (b:Int),.slice (wat V k).da (wat V k).dl (wat V k).dc] 175)) ((Below.refl _ wr).alloc (Nat.le_refl _) _)
    have BX:=hide (Bl.new wr #[.int .i64 (b:Int),.slice (wat V k).da (wat V k).dl (wat V k).dc] 175)
    clear KS1 KD1 hJ KX
    subst ea
    generalize (wat V k).da=da at *
    generalize (wat V k).dl=dl at *
    generalize (wat V k).dc=dc at *
    generalize (b:Int)=bi at *
    go_upto_region 7 with fail
    change Code.wp _ _ _ _ (wr.alloc (.cells #[.int .i64 bi,.slice da dl dc] 175))
    generalize wr.alloc (.cells #[.int .i64 bi,.slice da dl dc] 175)=ub at *
    generalize wr.heap.size=gb at *
    have z1:=(ah BX).cell 0 (.int .i64 bi) rfl
    have z2:=(ah BX).cell 1 (.slice da dl dc) rfl
    clear BX x1 x2
    go_region
    go_wp2_with fail
    go_roundw
    case rel=>exact⟨k+1,by omega,by go_num,Z⟩
    case measure=>simp[intOf];omega
   ·have ek:k=np:=by omega
    rw[ek] at hJ
    obtain⟨Z,c21⟩:=ah KD1 _ (ah hJ)
    have HZ:=hide Z
    clear KS1 KD1 hJ Z
    go_wp2_with fail
    go_ret
    exact⟨_,rfl,ah HZ⟩
theorem ak3 (C:Cac)(D:Dev)(b:Nat):(C.gtD D b).n=D.n/\(C.gtD D b).blk=D.blk:=by
 unfold Cac.gtD
 split
 ·exact⟨rfl,rfl⟩
 ·exact afm C D
def grE (X:Grp) (C:Cac) (L:Lg) (D:Dev) (b:Nat):Int:=match X.Q b with | some _=>0 | none=>match L.Q b with | some _=>0 | none=>C.gtE D b
def grZ (X:Grp) (C:Cac) (L:Lg) (D:Dev) (b:Nat):List Int:=match X.Q b with | some z=>z | none=>match L.Q b with | some z=>z | none=>C.gtZ D b
def grC (X:Grp) (C:Cac) (L:Lg) (D:Dev) (b:Nat):Cac:=match X.Q b with | some _=>C | none=>match L.Q b with | some _=>C | none=>C.gtC D b
def grD (X:Grp) (C:Cac) (L:Lg) (D:Dev) (b:Nat):Dev:=match X.Q b with | some _=>D | none=>match L.Q b with | some _=>D | none=>C.gtD D b
theorem InA.look {u S Sg Sc Sl Sd g cg lg dg P G X C L D mk ml v w'}(h:InA u S Sg Sc Sl Sd g cg lg dg P G X C L D mk ml v w'){b:Nat}(hb:b<G.n){z:List Int}(e:L.Q b=some z) :
  ∃ r:Nat×Nat,(Instr.lookup 99 (.map v) (.int .i64 (b:Int)) true).run Tryz.prog w'=.ok (.tuple #[.slice (some ⟨r.1,0,none⟩) G.blk r.2,.bool true]) w'/\Has w' (some ⟨r.1,0,none⟩) G.blk z/\∀ x∈z,0<=x/\x<=255:=by
 obtain⟨S',Sg',m',a1,x1,e1,hq⟩:=h
 have hn:=a1.gr.pg.ok.n2
 have hk:=a1.gr.pg.ok.blk
 have hqb:=hq b hb
 rw[e] at hqb
 cases hv:m'.pb with
 | none=>rw[a1.gr.pno hv b hb] at hqb;cases hqb
 | some pb =>
  have hp:=a1.gr.pen pb hv
  have r:=hp.look hn hb hqb
  rw[← e1,hv]
  exact⟨m'.PA b,r,((hp.row b z hb hqb).row (by omega)).has,(hp.row b z hb hqb).byt⟩
theorem InA.gX {u S Sg Sc Sl Sd g cg lg dg P G X C L D mk ml v w'}(h:InA u S Sg Sc Sl Sd g cg lg dg P G X C L D mk ml v w'){b:Nat}(hb:b<G.n)(e:L.Q b=none) :
  (Instr.lookup 99 (.map v) (.int .i64 (b:Int)) true).run Tryz.prog w'=.ok (.tuple #[.slice none 0 0,.bool false]) w':=by
 obtain⟨S',Sg',m',a1,x1,e1,hq⟩:=h
 have hn:=a1.gr.pg.ok.n2
 have hqb:=hq b hb
 rw[e] at hqb
 cases hv:m'.pb with
 | none =>
  rw[← e1,hv]
  exact Maps.look_nil (w:=w') true law3 Tryz.underlying99 (acv w') (dI (k:=b) (by omega))
 | some pb =>
  rw[← e1,hv]
  exact(a1.gr.pen pb hv).gX hn hb hqb
theorem qx {u}{x:Addr}{blk cap:Nat}{z}(hr:Has u (some x) blk z)(hb:blk<=4096):Calls Tryz.prog 125 #[.slice (some x) blk cap] u fun e w'=>∃ a c,e=.returned (.slice a blk c)/\Hid (Own u.heap.size w' a blk c z/\Below u.heap.size u w'):=by
 refine(iO x blk cap z u hr (by omega)).mono ?_
 rintro e w' ⟨a,c,rfl,h1,h2⟩
 exact⟨a,c,rfl,h1,h2⟩
theorem afT {u S g cg lg dg P G X C L D}(h:Gv u S g cg lg dg P G X C L D){b:Nat}(hb:b<G.n)(he:grE X C L D b=0) :
  Calls Tryz.prog 126 #[.pointer (some ⟨g,0,none⟩),.int .i64 (b:Int)] u fun e w'=>∃ a c,e=.returned (.tuple #[.slice a G.blk c,.int .i64 0]) /\
   Hid (∃ S',Own u.heap.size w' a G.blk c (grZ X C L D b)/\Gv w' S' g cg lg dg P G X (grC X C L D b) L (grD X C L D b)/\Nx S u S' w'/\∀ k,a=some ⟨k,0,none⟩->¬ S' k):=by
 obtain⟨Sg,Sc,Sl,Sd,m,mk,ml,h⟩:=h
 have K1:=fP h.gr (b:Int) 0
 unfold yg at K1
 rw[if_neg (by omega)] at K1
 replace K1:=hide K1
 have c16:=h.gr.cells.2.2.2.2.2.1
 have c2:=h.gr.cells.2.2.1
 have hn:=h.gr.pg.ok.n2
 have hbk:=h.gr.pg.ok.blk
 unfold grE at he
 unfold grZ grC grD
 cases hq:X.Q b with
 | some z =>
  simp only
  have lk:=h.gr.log.look hn hb hq
  have hrow:=h.gr.log.row b z hb hq
  have KC:Hid (Calls Tryz.prog 125 #[.slice (some ⟨(m.LA b).1,0,none⟩) G.blk (m.LA b).2] u fun e w'=>∃ a c,e=.returned (.slice a G.blk c)/\Hid (∃ S',Own u.heap.size w' a G.blk c z/\Gv w' S' g cg lg dg P G X C L D/\Nx S u S' w'/\∀ k,a=some ⟨k,0,none⟩->¬ S' k)):=by
   refine(qx (hrow.row (by omega)).has (by omega)).mono ?_
   rintro e w' ⟨a,c,rfl,Y⟩
   obtain⟨o1,b1⟩:=ah Y
   refine⟨a,c,rfl,S,o1,(h.below b1).gv,(Nx.refl S u).below' b1,fun k ek hs=>?_⟩
   have:=h.lt hs
   have:=(o1.lt ek).2.1
   omega
  clear h hrow he hq
  unfold rv at lk
  generalize (m.LA b).1=r1 at *
  generalize (m.LA b).2=r2 at *
  generalize m.lb=lb at *
  generalize (b:Int)=bi at *
  go_enter Tryz.func126,Tryz.ntmps126
  go_wp2_with (first | (go_at_call 127;refine(ah K1).mono ?_;rintro e w' ⟨rfl,rfl⟩;clear K1) | (go_at_call 125;refine(ah KC).mono ?_;rintro e w' ⟨a,c,rfl,Z⟩;clear KC))
  go_ret2
  exact⟨a,c,rfl,Z⟩
 | none =>
  rw[hq] at he
  simp only at he ⊢
  have lk:=h.gr.log.gX hn hb hq
  have KI:=hide (wP h)
  have HC:Hid (∀ v w1,InA u S Sg Sc Sl Sd g cg lg dg P G X C L D mk ml v w1->w1.cell? ⟨g,2,none⟩=some (.pointer (some ⟨cg,0,none⟩))):=fun v w1 hI=>by
   obtain⟨S',Sg',m',a1,_⟩:=hI
   exact a1.gr.cells.2.2.1
  cases hl:L.Q b with
  | some z =>
   simp only
   have KL:Hid (∀ v w1,InA u S Sg Sc Sl Sd g cg lg dg P G X C L D mk ml v w1->∃ r1 r2,(Instr.lookup 99 (.map v) (.int .i64 (b:Int)) true).run Tryz.prog w1=.ok (.tuple #[.slice (some ⟨r1,0,none⟩) G.blk r2,.bool true]) w1 /\
     Hid (Calls Tryz.prog 125 #[.slice (some ⟨r1,0,none⟩) G.blk r2] w1 fun e w'=>∃ a c,e=.returned (.slice a G.blk c)/\Hid (∃ S',Own u.heap.size w' a G.blk c z/\Gv w' S' g cg lg dg P G X C L D/\Nx S u S' w'/\∀ k,a=some ⟨k,0,none⟩->¬ S' k))):=fun v w1 hI=>by
    obtain⟨r,lr,hr,_⟩:=hI.look hb hl
    refine⟨r.1,r.2,lr,(qx hr (by omega)).mono ?_⟩
    rintro e w' ⟨a,c,rfl,Y⟩
    obtain⟨o1,b1⟩:=ah Y
    obtain⟨S',Sg',m',a1,x1,_⟩:=hI
    refine⟨a,c,rfl,S',o1.base x1.fr.size,(a1.below b1).gv,x1.below' b1,fun k ek hs=>?_⟩
    have:=a1.lt hs
    have:=(o1.lt ek).2.1
    omega
   clear h he hq hl HC
   generalize m.lb=lb at *
   generalize (b:Int)=bi at *
   go_enter Tryz.func126,Tryz.ntmps126
   go_wp2_with (first | (go_at_call 127;refine(ah K1).mono ?_;rintro e w' ⟨rfl,rfl⟩;clear K1) | (go_at_call 168;refine(ah KI).mono ?_;rintro e w1 ⟨v,rfl,Y⟩;obtain⟨r1,r2,lr,KC⟩:=ah KL v w1 (ah Y);clear KI KL Y lk c16 c2) | (go_at_call 125;refine(ah KC).mono ?_;rintro e w' ⟨a,c,rfl,Z⟩;clear KC))
   go_ret2
   exact⟨a,c,rfl,Z⟩
  | none =>
   rw[hl] at he
   simp only at he ⊢
   have KL:Hid (∀ v w1,InA u S Sg Sc Sl Sd g cg lg dg P G X C L D mk ml v w1->(Instr.lookup 99 (.map v) (.int .i64 (b:Int)) true).run Tryz.prog w1=.ok (.tuple #[.slice none 0 0,.bool false]) w1 /\
     Hid (Calls Tryz.prog 169 #[.pointer (some ⟨cg,0,none⟩),.int .i64 (b:Int)] w1 fun e w'=>∃ a c,e=.returned (.tuple #[.slice a G.blk c,.int .i64 0])/\Hid (∃ S',Own u.heap.size w' a G.blk c (C.gtZ D b)/\Gv w' S' g cg lg dg P G X (C.gtC D b) L (C.gtD D b)/\Nx S u S' w'/\∀ k,a=some ⟨k,0,none⟩->¬ S' k))):=fun v w1 hI=>by
    refine⟨hI.gX hb hl,?_⟩
    obtain⟨S',Sg',m',a1,x1,_⟩:=hI
    refine(ah9 cg dg b _ C D w1 a1.kv.kv (by rw[a1.nd];exact hb) he).mono ?_
    rintro e w' ⟨a,c,rfl,Y⟩
    obtain⟨S2,o1,k1,x2,n2⟩:=ah Y
    obtain⟨S3,Sc3,Sd3,mk3,a3,x3,n3⟩:=a1.cache k1 x2 (ak3 C D b)
    rw[a1.bd] at o1 ⊢
    refine⟨a,c,rfl,S3,o1.base x1.fr.size,a3.gv,x1.trans x3,fun k ek hs=>?_⟩
    rcases n3 k hs with y | y
    ·exact n2 k ek y
    ·have:=(o1.lt ek).2.1
     omega
   clear h he hq hl
   generalize m.lb=lb at *
   generalize (b:Int)=bi at *
   go_enter Tryz.func126,Tryz.ntmps126
   go_wp2_with (first | (go_at_call 127;refine(ah K1).mono ?_;rintro e w' ⟨rfl,rfl⟩;clear K1) | (go_at_call 168;refine(ah KI).mono ?_;rintro e w1 ⟨v,rfl,Y⟩;obtain⟨lr,KC⟩:=ah KL v w1 (ah Y);have c2':=ah HC v w1 (ah Y);clear KI KL Y lk c16 c2 HC) | (go_at_call 169;refine(ah KC).mono ?_;rintro e w' ⟨a,c,rfl,Z⟩;clear KC))
   go_ret2
   exact⟨a,c,rfl,Z⟩
theorem agb (w:World)(k:Int)(a:Option Addr)(n c:Nat):(Instr.field 152 (.agg #[.int .i64 k,.slice a n c]) 0).run Tryz.prog w=.ok (.int .i64 k) w:=by kernel_rfl
theorem abw {u S g cg lg dg P G X C L D}(h:Gv u S g cg lg dg P G X C L D){N:Nat->Option Nt}(eN:X.N=some N){b:Nat}(hb:b<G.n){t:Nt}(et:N b=some t)(hk:t.k=1\/t.k=2) :
  Calls Tryz.prog 83 #[.pointer (some ⟨X.o,0,none⟩),.int .i64 (b:Int)] u fun e w'=>∃ a c,e=.returned (.tuple #[.slice a G.blk c,.int .i64 0])/\Hid (∃ S',Own u.heap.size w' a G.blk c t.z/\Gv w' S' g cg lg dg P G X C L D/\Nx S u S' w'/\∀ k,a=some ⟨k,0,none⟩->¬ S' k):=by
 obtain⟨Sg,Sc,Sl,Sd,m,mk,ml,z⟩:=h
 have K1:=hide (dZ z.gr eN)
 have hG:=z.gr.pg.ok
 have hbk:=hG.blk
 have o1:=z.gr.opn N eN
 have c1:u.cell? ⟨X.o,1,none⟩=some (.map (some m.nb)):=o1.str.cell (i:=1) (by omega)
 have lk:=o1.nts.at hG.n2 hb et
 have e3:¬ t.k=3:=by omega
 unfold nv at lk
 simp only[if_neg e3] at lk
 unfold rv at lk
 have hrow:=o1.nts.row b t hb et e3
 have B0:Below u.heap.size u (u.alloc (.cells #[.int .i64 (t.k:Int),.slice (some ⟨(m.NA b).1,0,none⟩) G.blk (m.NA b).2] 152)):=(Below.refl _ _).alloc (Nat.le_refl _) _
 have BX:=hide (Bl.new u #[.int .i64 (t.k:Int),.slice (some ⟨(m.NA b).1,0,none⟩) G.blk (m.NA b).2] 152)
 have KC:Hid (Calls Tryz.prog 125 #[.slice (some ⟨(m.NA b).1,0,none⟩) G.blk (m.NA b).2] (u.alloc (.cells #[.int .i64 (t.k:Int),.slice (some ⟨(m.NA b).1,0,none⟩) G.blk (m.NA b).2] 152)) fun e w'=>∃ a c,e=.returned (.slice a G.blk c)/\Hid (∃ S',Own u.heap.size w' a G.blk c t.z/\Gv w' S' g cg lg dg P G X C L D/\Nx S u S' w'/\∀ k,a=some ⟨k,0,none⟩->¬ S' k)):=by
  refine(qx ((hrow.row (by omega)).has.later B0) (by omega)).mono ?_
  rintro e w' ⟨a,c,rfl,Y⟩
  obtain⟨ow,b1⟩:=ah Y
  have bb:=B0.trans (b1.mono B0.size)
  refine⟨a,c,rfl,S,ow.base B0.size,(z.below bb).gv,(Nx.refl S u).below' bb,fun k ek hs=>?_⟩
  have:=z.lt hs
  have:=(ow.base B0.size).lt ek
  omega
 have hkk:(t.k:Int)=1\/(t.k:Int)=2:=by omega
 clear z o1 hrow B0 hk e3 hbk et hb
 generalize (m.NA b).1=r1 at *
 generalize (m.NA b).2=r2 at *
 generalize m.nb=nb at *
 generalize X.o=o at *
 generalize (b:Int)=bi at *
 generalize (t.k:Int)=tk at *
 go_enter Tryz.func83,Tryz.ntmps83
 go_wp2_with fail
 go_at_call 36
 refine(ah K1).mono ?_
 rintro e w1 ⟨rfl,rfl⟩
 clear K1
 go_upto_region 5 with fail
 change Code.wp _ _ _ _ (u.alloc (.cells #[.int .i64 tk,.slice (some ⟨r1,0,none⟩) G.blk r2] 152))
 generalize u.alloc (.cells #[.int .i64 tk,.slice (some ⟨r1,0,none⟩) G.blk r2] 152)=w2 at *
 generalize hgb:u.heap.size=gb at *
 have HGB:=hide hgb
 clear hgb
 have x0:=(ah BX).cell 0 (.int .i64 tk) rfl
 have x1:=(ah BX).cell 1 (.slice (some ⟨r1,0,none⟩) G.blk r2) rfl
 clear BX lk c1
 rcases hkk with rfl | rfl
 ·go_wp2_with (go_at_call 125;refine(ah KC).mono ?_;rintro e w' ⟨a,c,rfl,Z⟩;clear KC)
  go_ret2
  exact⟨a,c,rfl,by rw[ah HGB];exact Z⟩
 ·go_wp2_with (go_at_call 125;refine(ah KC).mono ?_;rintro e w' ⟨a,c,rfl,Z⟩;clear KC)
  go_ret2
  exact⟨a,c,rfl,by rw[ah HGB];exact Z⟩
theorem zf {u S g cg lg dg P G X C L D}(h:Gv u S g cg lg dg P G X C L D){N:Nat->Option Nt}(eN:X.N=some N){b:Nat}(hb:b<G.n)(et:∀ t,N b=some t->t.k=3)(he:grE X C L D b=0) :
  Calls Tryz.prog 83 #[.pointer (some ⟨X.o,0,none⟩),.int .i64 (b:Int)] u fun e w'=>∃ a c,e=.returned (.tuple #[.slice a G.blk c,.int .i64 0])/\Hid (∃ S',Own u.heap.size w' a G.blk c (grZ X C L D b)/\Gv w' S' g cg lg dg P G X (grC X C L D b) L (grD X C L D b)/\Nx S u S' w'/\∀ k,a=some ⟨k,0,none⟩->¬ S' k):=by
 obtain⟨Sg,Sc,Sl,Sd,m,mk,ml,z⟩:=h
 have K1:=hide (dZ z.gr eN)
 have hG:=z.gr.pg.ok
 have o1:=z.gr.opn N eN
 have c0:u.cell? ⟨X.o,0,none⟩=some (.pointer (some ⟨g,0,none⟩)):=o1.str.cell (i:=0) (by omega)
 have c1:u.cell? ⟨X.o,1,none⟩=some (.map (some m.nb)):=o1.str.cell (i:=1) (by omega)
 have lk:∃ tk:Int,(tk=0\/tk=3)/\(Instr.lookup 115 (.map (some m.nb)) (.int .i64 (b:Int)) false).run Tryz.prog u=.ok (.agg #[.int .i64 tk,.slice none 0 0]) u:=by
  cases hN:N b with
  | none=>exact⟨0,.inl rfl,o1.nts.agt hG.n2 hb hN⟩
  | some t =>
   have:=o1.nts.at hG.n2 hb hN
   have hk:=et t hN
   unfold nv at this
   rw[hk] at this
   simp only[if_true] at this
   exact⟨3,.inr rfl,this⟩
 obtain⟨tk,hkk,lk⟩:=lk
 have B0:Below u.heap.size u (u.alloc (.cells #[.int .i64 tk,.slice none 0 0] 152)):=(Below.refl _ _).alloc (Nat.le_refl _) _
 have BX:=hide (Bl.new u #[.int .i64 tk,.slice none 0 0] 152)
 have c0':(u.alloc (.cells #[.int .i64 tk,.slice none 0 0] 152)).cell? ⟨X.o,0,none⟩=some (.pointer (some ⟨g,0,none⟩)):=by
  have:=B0.block X.o (z.gr.lt _ o1.so)
  simp only[World.cell?] at c0 ⊢
  rw[this];exact c0
 have KC:Hid (Calls Tryz.prog 126 #[.pointer (some ⟨g,0,none⟩),.int .i64 (b:Int)] (u.alloc (.cells #[.int .i64 tk,.slice none 0 0] 152)) fun e w'=>∃ a c,e=.returned (.tuple #[.slice a G.blk c,.int .i64 0])/\Hid (∃ S',Own u.heap.size w' a G.blk c (grZ X C L D b)/\Gv w' S' g cg lg dg P G X (grC X C L D b) L (grD X C L D b)/\Nx S u S' w'/\∀ k,a=some ⟨k,0,none⟩->¬ S' k)):=by
  refine(afT (z.below B0).gv hb he).mono ?_
  rintro e w' ⟨a,c,rfl,Y⟩
  obtain⟨S',ow,g1,x1,n1⟩:=ah Y
  exact⟨a,c,rfl,S',ow.base B0.size,g1,((Nx.refl S u).below' B0).trans x1,n1⟩
 clear z o1 B0 et hb he
 generalize grZ X C L D b=rz at *
 generalize grC X C L D b=rc at *
 generalize grD X C L D b=rd at *
 generalize m.nb=nb at *
 generalize X.o=o at *
 generalize (b:Int)=bi at *
 go_enter Tryz.func83,Tryz.ntmps83
 go_wp2_with fail
 go_at_call 36
 refine(ah K1).mono ?_
 rintro e w1 ⟨rfl,rfl⟩
 clear K1
 go_upto_region 5 with fail
 change Code.wp _ _ _ _ (u.alloc (.cells #[.int .i64 tk,.slice none 0 0] 152))
 generalize u.alloc (.cells #[.int .i64 tk,.slice none 0 0] 152)=w2 at *
 generalize hgb:u.heap.size=gb at *
 have HGB:=hide hgb
 clear hgb
 have x0:=(ah BX).cell 0 (.int .i64 tk) rfl
 have x1:=(ah BX).cell 1 (.slice none 0 0) rfl
 clear BX lk c1 c0
 rcases hkk with rfl | rfl
 ·go_wp2_with (go_at_call 126;refine(ah KC).mono ?_;rintro e w' ⟨a,c,rfl,Z⟩;clear KC)
  go_ret2
  exact⟨a,c,rfl,by rw[ah HGB];exact Z⟩
 ·go_wp2_with (go_at_call 126;refine(ah KC).mono ?_;rintro e w' ⟨a,c,rfl,Z⟩;clear KC)
  go_ret2
  exact⟨a,c,rfl,by rw[ah HGB];exact Z⟩
theorem adD {u S g cg lg dg P G X C L D}(h:Gv u S g cg lg dg P G X C L D){N:Nat->Option Nt}(eN:X.N=some N){b:Nat}(hb:b<G.n)(hq:L.Q b=none) :
  Calls Tryz.prog 223 #[.pointer (some ⟨g,0,none⟩),.int .i64 (b:Int)] u fun e w'=>e=.returned (.bool (X.F b||isK N 3 b))/\Hid (∃ S',Gv w' S' g cg lg dg P G X C L D/\Nx S u S' w'):=by
 obtain⟨Sg,Sc,Sl,Sd,m,mk,ml,h⟩:=h
 have hn:=h.gr.pg.ok.n2
 have c17:=h.gr.cells.2.2.2.2.2.2.1
 have lf:=h.gr.fre.look hn hb
 have B0:Below u.heap.size u (u.alloc (.cells #[] 258)):=(Below.refl _ _).alloc (Nat.le_refl _) _
 have KI:=hide (wP (h.below B0))
 have KL:Hid (∀ v w1,InA (u.alloc (.cells #[] 258)) S Sg Sc Sl Sd g cg lg dg P G X C L D mk ml v w1->(Instr.lookup 99 (.map v) (.int .i64 (b:Int)) true).run Tryz.prog w1=.ok (.tuple #[.slice none 0 0,.bool false]) w1/\w1.cell? ⟨g,15,none⟩=some (.pointer (some ⟨X.o,0,none⟩)) /\
   (∃ nb,w1.cell? ⟨X.o,1,none⟩=some (.map (some nb))/\∃ (k:Int) (xa:Option Addr) (xl xc:Nat),(Instr.lookup 115 (.map (some nb)) (.int .i64 (b:Int)) false).run Tryz.prog w1=.ok (.agg #[.int .i64 k,.slice xa xl xc]) w1/\Hid (decide (k=3)=isK N 3 b))/\Hid (∃ S',Gv w1 S' g cg lg dg P G X C L D/\Nx S u S' w1)):=fun v w1 hI=>by
  have l1:=hI.gX hb hq
  obtain⟨S',Sg',m',a1,x1,_⟩:=hI
  have o1:=a1.gr.opn N eN
  have c15:=a1.gr.cells.2.2.2.2.1
  rw[eN] at c15
  refine⟨l1,c15,⟨m'.nb,o1.str.cell (i:=1) (by omega),?_⟩,S',a1.gv,((Nx.refl S u).below' B0).trans x1⟩
  cases hN:N b with
  | none=>exact⟨0,none,0,0,o1.nts.agt hn hb hN,by unfold isK;rw[hN];rfl⟩
  | some t =>
   have:=o1.nts.at hn hb hN
   unfold nv at this
   obtain⟨xa,xl,xc,hx⟩:∃ xa xl xc,(if t.k=3 then Value.slice none 0 0 else rv G.blk (m'.NA b))=.slice xa xl xc:=by
    split
    ·exact⟨_,_,_,rfl⟩
    ·exact⟨_,_,_,rfl⟩
   simp only at this
   rw[hx] at this
   refine⟨(t.k:Int),xa,xl,xc,this,?_⟩
   show decide ((t.k:Int)=3)=_
   rw[ajp hN,Bool.eq_iff_iff]
   simp
   omega
 clear h hq B0
 generalize isK N 3 b=q3 at *
 generalize X.o=o at *
 generalize m.fb=fb at *
 generalize (b:Int)=bi at *
 cases hf:X.F b with
 | true =>
  rw[hf] at lf
  clear hf
  go_enter Tryz.func223,Tryz.ntmps223
  go_wp2_with fail
  go_at_call 168
  refine(ah KI).mono ?_
  rintro e w1 ⟨v,rfl,Y⟩
  obtain⟨l1,_,_,Z⟩:=ah KL v w1 (ah Y)
  clear KI KL Y lf c17
  go_wp2_with fail
  go_ret
  exact⟨rfl,Z⟩
 | false =>
  rw[hf] at lf
  clear hf
  go_enter Tryz.func223,Tryz.ntmps223
  go_wp2_with fail
  go_at_call 168
  refine(ah KI).mono ?_
  rintro e w1 ⟨v,rfl,Y⟩
  obtain⟨l1,c15,⟨nb,n1,k,xa,xl,xc,l2,hk⟩,Z⟩:=ah KL v w1 (ah Y)
  clear KI KL Y lf c17
  have fk:∀ w:World,(Instr.field 152 (.agg #[.int .i64 k,.slice xa xl xc]) 0).run Tryz.prog w=.ok (.int .i64 k) w:=fun w=>agb w k xa xl xc
  go_wp2_with fail
  go_ret
  refine⟨?_,Z⟩
  rw[← ah hk]
  rfl
structure amD (u:World) (S Sc Sl Sd:Nat->Prop) (cg lg dg:Nat) (P:Nat->Int) (G:Geo) (C:Cac) (L:Lg) (D:Dev) (mk:nS) (ml:aeD):Prop where
 cc:CcM u Sc cg dg D.n D.blk C mk
 ll:LgM u Sl lg dg P G L ml
 dd:Dv u Sd dg D
 cl:∀ k,Sc k->¬ Sl k
 cd:∀ k,Sc k->¬ Sd k
 ld:∀ k,Sl k->¬ Sd k
 all:∀ k,S k↔(Sc k\/Sl k\/Sd k)
 bd:D.blk=G.blk
 nd:D.n=G.n
 tab:Tab u
 z0:¬ S 1
def Tri (u:World) (S:Nat->Prop) (cg lg dg:Nat) (P:Nat->Int) (G:Geo) (C:Cac) (L:Lg) (D:Dev):Prop:=∃ Sc Sl Sd mk ml,amD u S Sc Sl Sd cg lg dg P G C L D mk ml
theorem aiG {u w':World}{S S1 Sl Sd:Nat->Prop}{cg lg dg:Nat}{P G}{C:Cac}{L D ml}(h:LvM u S Sl Sd lg dg P G L D ml)(hK:Kv w' S1 cg dg C D)(h1:∀ k,S1 k->Sd k\/u.heap.size<=k)(hb:Below u.heap.size u w') :
  ∃ S',Tri w' S' cg lg dg P G C L D/\Nx S u S' w':=by
 obtain⟨Sc,Sd',mk,c1,d1,dis,a1⟩:=hK
 have hl:∀ k,Sl k->¬ S1 k:=fun k hk hs=>by
  rcases h1 k hs with x | x
  ·exact h.dis k hk x
  ·have:=h.ll.lt k hk;omega
 have z1:¬ S1 1:=fun hs=>by
  rcases h1 1 hs with x | x
  ·exact h.z0 ((h.all 1).2 (.inr x))
  ·have:=h.tab.lt;omega
 refine⟨fun k=>Sc k\/Sl k\/Sd' k,⟨Sc,Sl,Sd',mk,ml,c1,h.ll.kept (fun k hk=>hb.block k (h.ll.lt k hk)) (fun _ x=>x) (fun k hk=>Nat.lt_of_lt_of_le (h.ll.lt k hk) hb.size),d1,fun k hc hk=>hl k hk ((a1 k).2 (.inl hc)),dis,fun k hk hd=>hl k hk ((a1 k).2 (.inr hd)),fun k=>Iff.rfl,h.bd,h.nd,h.tab.kept (hb.block 1 h.tab.lt),?_⟩,⟨⟨hb.os,hb.tape,hb.output,hb.size,fun k hk _=>hb.block k hk⟩,fun k hk x=>?_⟩⟩
 ·rintro (x | x | x)
  ·exact z1 ((a1 1).2 (.inl x))
  ·exact h.z0 ((h.all 1).2 (.inl x))
  ·exact z1 ((a1 1).2 (.inr x))
 ·rcases x with x | x | x
  ·rcases h1 k ((a1 k).2 (.inl x)) with y | y
   ·exact(h.all k).2 (.inr y)
   ·omega
  ·exact(h.all k).2 (.inl x)
  ·rcases h1 k ((a1 k).2 (.inr x)) with y | y
   ·exact(h.all k).2 (.inr y)
   ·omega
def Grp.new:Grp:=⟨fun _=>none,fun _=>false,none,0⟩
def gmem (v:Nat):aeF:=⟨v,fun _=>(0,0),v+1,0,fun _=>(0,0),⟨0,0,0⟩,none,fun _=>(0,0),fun _=>none⟩
theorem adT {u v:World}{S cg lg dg P G C L D}(h:Tri u S cg lg dg P G C L D)(hs:Seen (gmem 0) G L)(hda:(G.ib:Int)<=P 11/\P 11<=(G.n:Int))(hv:Below u.heap.size u v) :
  ∃ S',Gv (((v.alloc (.map #[] 0)).alloc (.map #[] 0)).alloc (.cells #[.pointer (some ⟨dg,0,none⟩),.pointer (some ⟨lg,0,none⟩),.pointer (some ⟨cg,0,none⟩),.int .i64 (P 0),.int .i64 (P 1),.int .i64 (P 2),.int .i64 (P 3),.int .i64 (P 4),.int .i64 (P 5),.int .i64 (P 6),.int .i64 (P 7),.int .i64 (P 8),.int .i64 (P 9),.int .i64 (P 10),.int .i64 (P 11),.pointer none,.map (some v.heap.size),.map (some (v.heap.size+1)),.int .i64 0,.int .i64 0,.int .i64 0,.map none] 110)) S' (v.heap.size+2) cg lg dg P G Grp.new C L D/\Nx S u S' (((v.alloc (.map #[] 0)).alloc (.map #[] 0)).alloc (.cells #[.pointer (some ⟨dg,0,none⟩),.pointer (some ⟨lg,0,none⟩),.pointer (some ⟨cg,0,none⟩),.int .i64 (P 0),.int .i64 (P 1),.int .i64 (P 2),.int .i64 (P 3),.int .i64 (P 4),.int .i64 (P 5),.int .i64 (P 6),.int .i64 (P 7),.int .i64 (P 8),.int .i64 (P 9),.int .i64 (P 10),.int .i64 (P 11),.pointer none,.map (some v.heap.size),.map (some (v.heap.size+1)),.int .i64 0,.int .i64 0,.int .i64 0,.map none] 110)):=by
 obtain⟨Sc,Sl,Sd,mk,ml,h⟩:=h
 have hsz:=hv.size
 have b1:Below v.heap.size v (v.alloc (.map #[] 0)):=(Below.refl _ _).alloc (Nat.le_refl _) _
 have z1:(v.alloc (.map #[] 0)).heap.size=v.heap.size+1:=by simp
 have b2:Below (v.alloc (.map #[] 0)).heap.size (v.alloc (.map #[] 0)) ((v.alloc (.map #[] 0)).alloc (.map #[] 0)):=(Below.refl _ _).alloc (Nat.le_refl _) _
 have z2:((v.alloc (.map #[] 0)).alloc (.map #[] 0)).heap.size=v.heap.size+2:=by simp
 have m1:=iP.made (kB G.blk) v G.n
 have m2:=iP.made kU (v.alloc (.map #[] 0)) G.n
 rw[z1] at m2
 have m1':=m1.kept (b2.block _ (by omega))
 generalize hv2:(v.alloc (.map #[] 0)).alloc (.map #[] 0)=v2 at *
 have b12:Below v.heap.size v v2:=b1.trans (b2.mono b1.size)
 have b3:Below v2.heap.size v2 (v2.alloc (.cells #[.pointer (some ⟨dg,0,none⟩),.pointer (some ⟨lg,0,none⟩),.pointer (some ⟨cg,0,none⟩),.int .i64 (P 0),.int .i64 (P 1),.int .i64 (P 2),.int .i64 (P 3),.int .i64 (P 4),.int .i64 (P 5),.int .i64 (P 6),.int .i64 (P 7),.int .i64 (P 8),.int .i64 (P 9),.int .i64 (P 10),.int .i64 (P 11),.pointer none,.map (some v.heap.size),.map (some (v.heap.size+1)),.int .i64 0,.int .i64 0,.int .i64 0,.map none] 110)):=(Below.refl _ _).alloc (Nat.le_refl _) _
 have z3:(v2.alloc (.cells #[.pointer (some ⟨dg,0,none⟩),.pointer (some ⟨lg,0,none⟩),.pointer (some ⟨cg,0,none⟩),.int .i64 (P 0),.int .i64 (P 1),.int .i64 (P 2),.int .i64 (P 3),.int .i64 (P 4),.int .i64 (P 5),.int .i64 (P 6),.int .i64 (P 7),.int .i64 (P 8),.int .i64 (P 9),.int .i64 (P 10),.int .i64 (P 11),.pointer none,.map (some v.heap.size),.map (some (v.heap.size+1)),.int .i64 0,.int .i64 0,.int .i64 0,.map none] 110)).heap.size=v.heap.size+3:=by simp[z2]
 have str:=World.rowIs_alloc v2 #[.pointer (some ⟨dg,0,none⟩),.pointer (some ⟨lg,0,none⟩),.pointer (some ⟨cg,0,none⟩),.int .i64 (P 0),.int .i64 (P 1),.int .i64 (P 2),.int .i64 (P 3),.int .i64 (P 4),.int .i64 (P 5),.int .i64 (P 6),.int .i64 (P 7),.int .i64 (P 8),.int .i64 (P 9),.int .i64 (P 10),.int .i64 (P 11),.pointer none,.map (some v.heap.size),.map (some (v.heap.size+1)),.int .i64 0,.int .i64 0,.int .i64 0,.map none] 110 (dG dg lg cg P Grp.new (gmem v.heap.size)) (fun i hi=>by
  have h22:i<22:=by simpa using hi
  have:i=0\/i=1\/i=2\/i=3\/i=4\/i=5\/i=6\/i=7\/i=8\/i=9\/i=10\/i=11\/i=12\/i=13\/i=14\/i=15\/i=16\/i=17\/i=18\/i=19\/i=20\/i=21:=by omega
  rcases this with rfl | rfl | rfl | rfl | rfl | rfl | rfl | rfl | rfl | rfl | rfl | rfl | rfl | rfl | rfl | rfl | rfl | rfl | rfl | rfl | rfl | rfl<;>rfl)
 rw[z2] at str
 have amb:=m1'.kept (b3.block _ (by omega))
 have ama:=m2.kept (b3.block _ (by omega))
 have bb:Below u.heap.size u (v2.alloc (.cells #[.pointer (some ⟨dg,0,none⟩),.pointer (some ⟨lg,0,none⟩),.pointer (some ⟨cg,0,none⟩),.int .i64 (P 0),.int .i64 (P 1),.int .i64 (P 2),.int .i64 (P 3),.int .i64 (P 4),.int .i64 (P 5),.int .i64 (P 6),.int .i64 (P 7),.int .i64 (P 8),.int .i64 (P 9),.int .i64 (P 10),.int .i64 (P 11),.pointer none,.map (some v.heap.size),.map (some (v.heap.size+1)),.int .i64 0,.int .i64 0,.int .i64 0,.map none] 110)):=(hv.trans (b12.mono hsz)).trans (b3.mono (by omega))
 generalize v2.alloc (.cells #[.pointer (some ⟨dg,0,none⟩),.pointer (some ⟨lg,0,none⟩),.pointer (some ⟨cg,0,none⟩),.int .i64 (P 0),.int .i64 (P 1),.int .i64 (P 2),.int .i64 (P 3),.int .i64 (P 4),.int .i64 (P 5),.int .i64 (P 6),.int .i64 (P 7),.int .i64 (P 8),.int .i64 (P 9),.int .i64 (P 10),.int .i64 (P 11),.pointer none,.map (some v.heap.size),.map (some (v.heap.size+1)),.int .i64 0,.int .i64 0,.int .i64 0,.map none] 110)=w3 at *
 have gr:GrM w3 (fun k=>v.heap.size<=k/\k<w3.heap.size) (v.heap.size+2) dg lg cg P G Grp.new (gmem v.heap.size) :=
  ⟨str,⟨amb.congr (fun k hk=>rfl),fun b z _ e=>(by cases e),⟨Nat.le_refl _,by show v.heap.size<_;omega⟩⟩,⟨ama.congr (fun k hk=>rfl),⟨by show v.heap.size<=v.heap.size+1;omega,by show v.heap.size+1<_;omega⟩⟩,fun N e=>(by cases e),fun pb e=>(by cases e),fun _ b _=>rfl,⟨by omega,by omega⟩,by show v.heap.size≠v.heap.size+1;omega,fun e=>(by cases e),fun e=>(by cases e),fun k hk=>hk.2,h.ll.pg,hda⟩
 have hlt:∀ k,(Sc k\/Sl k\/Sd k)->k<u.heap.size:=fun k hk=>by
  rcases hk with x | x | x
  ·exact h.cc.lt k x
  ·exact h.ll.lt k x
  ·exact h.dd.lt x
 refine⟨fun k=>(v.heap.size<=k/\k<w3.heap.size)\/Sc k\/Sl k\/Sd k,⟨_,Sc,Sl,Sd,gmem v.heap.size,mk,ml,gr,h.cc.kept (fun k hk=>bb.block k (h.cc.lt k hk)) (fun _ x=>x) (fun k hk=>Nat.lt_of_lt_of_le (h.cc.lt k hk) bb.size),h.ll.kept (fun k hk=>bb.block k (h.ll.lt k hk)) (fun _ x=>x) (fun k hk=>Nat.lt_of_lt_of_le (h.ll.lt k hk) bb.size),h.dd.below bb,
  fun k hk x=>by have:=hlt k (.inl x);omega,fun k hk x=>by have:=hlt k (.inr (.inl x));omega,fun k hk x=>by have:=hlt k (.inr (.inr x));omega,h.cl,h.cd,h.ld,fun k=>Iff.rfl,h.bd,h.nd,h.tab.kept (bb.block 1 h.tab.lt),?_,hs⟩,⟨⟨bb.os,bb.tape,bb.output,bb.size,fun k hk _=>bb.block k hk⟩,fun k hk x=>?_⟩⟩
 ·rintro (x | x)
  ·have:=h.tab.lt;omega
  ·exact h.z0 ((h.all 1).2 x)
 ·rcases x with x | x
  ·omega
  ·exact(h.all k).2 x
theorem ahX {u S cg lg dg P G C L D}(h:Tri u S cg lg dg P G C L D)(hs:Seen (gmem 0) G L)(hda:(G.ib:Int)<=P 11/\P 11<=(G.n:Int)) :
  Calls Tryz.prog 18 #[.pointer (some ⟨dg,0,none⟩),.pointer (some ⟨lg,0,none⟩),.pointer (some ⟨cg,0,none⟩),Pv P] u fun e w'=>∃ g,e=.returned (.tuple #[.pointer (some ⟨g,0,none⟩),.int .i64 0])/\Hid (∃ S',Gv w' S' g cg lg dg P G Grp.new C L D/\Nx S u S' w'/\u.heap.size<=g):=by
 have hpg:PG P G:=by obtain⟨_,_,_,_,_,h⟩:=h;exact h.ll.pg
 have HK:=hide (Kp.start u P)
 have K1:Hid (∀ w,Calls Tryz.prog 46 #[Pv P] w fun e w'=>e=.returned (.int .i64 0)/\Below w.heap.size w w'):=fun w=>by
  have:=check_any P w
  rwa [hpg.chk] at this
 have KL:Hid (∀ w1,Below u.heap.size u w1->∃ S',Gv (((w1.alloc (.map #[] 0)).alloc (.map #[] 0)).alloc (.cells #[.pointer (some ⟨dg,0,none⟩),.pointer (some ⟨lg,0,none⟩),.pointer (some ⟨cg,0,none⟩),.int .i64 (P 0),.int .i64 (P 1),.int .i64 (P 2),.int .i64 (P 3),.int .i64 (P 4),.int .i64 (P 5),.int .i64 (P 6),.int .i64 (P 7),.int .i64 (P 8),.int .i64 (P 9),.int .i64 (P 10),.int .i64 (P 11),.pointer none,.map (some w1.heap.size),.map (some (w1.heap.size+1)),.int .i64 0,.int .i64 0,.int .i64 0,.map none] 110)) S' (w1.heap.size+2) cg lg dg P G Grp.new C L D/\Nx S u S' (((w1.alloc (.map #[] 0)).alloc (.map #[] 0)).alloc (.cells #[.pointer (some ⟨dg,0,none⟩),.pointer (some ⟨lg,0,none⟩),.pointer (some ⟨cg,0,none⟩),.int .i64 (P 0),.int .i64 (P 1),.int .i64 (P 2),.int .i64 (P 3),.int .i64 (P 4),.int .i64 (P 5),.int .i64 (P 6),.int .i64 (P 7),.int .i64 (P 8),.int .i64 (P 9),.int .i64 (P 10),.int .i64 (P 11),.pointer none,.map (some w1.heap.size),.map (some (w1.heap.size+1)),.int .i64 0,.int .i64 0,.int .i64 0,.map none] 110))/\u.heap.size<=w1.heap.size+2):=fun w1 hb=>by
  obtain⟨S',g1,x1⟩:=adT h hs hda hb
  exact⟨S',g1,x1,by have:=hb.size;omega⟩
 have hmm:=@run_makeMap Tryz.prog
 clear h hs hda hpg
 obtain⟨f0,f1,f2,f3,f4,f5,f6,f7,f8,f9,f10,f11⟩:=(ah HK).cells
 go_enter Tryz.func18,Tryz.ntmps18
 go_wp2_with fail
 go_at_call 46
 refine(ah K1 _).mono ?_
 rintro e w1 ⟨rfl,hb⟩
 replace HK:=hide ((ah HK).call hb)
 clear f0 f1 f2 f3 f4 f5 f6 f7 f8 f9 f10 f11 K1 hb
 obtain⟨f0,f1,f2,f3,f4,f5,f6,f7,f8,f9,f10,f11⟩:=(ah HK).cells
 have Z:=hide (ah KL w1 (ah HK).2)
 clear KL HK
 go_wp2_with fail
 go_ret2
 exact⟨_,rfl,ah Z⟩
end Go.Proofs.YtefdkpbmeoakgaaGreatDoor
