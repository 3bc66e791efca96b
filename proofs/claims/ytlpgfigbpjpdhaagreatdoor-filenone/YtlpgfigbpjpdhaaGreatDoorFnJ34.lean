/- Joined: OLog, ORead, OApply, OComm, OEnA, OEnd, OPub, ARead, ONew. -/
import Derived.Test.YtlpgfigbpjpdhaaGreatDoorFnJ33
import Derived.Test.YtlpgfigbpjpdhaaGreatDoorFnCOpenH
import Derived.Test.YtlpgfigbpjpdhaaGreatDoorFnJ30
import Derived.Test.YtlpgfigbpjpdhaaGreatDoorFnGColl
import Derived.Test.YtlpgfigbpjpdhaaGreatDoorFnJ18
import Derived.Test.YtlpgfigbpjpdhaaGreatDoorFnJ3
import Derived.Deep.RegionHeld3
import Derived.Test.YtlpgfigbpjpdhaaGreatDoorFnJ19
/- amq: what is pending in the log, as the group has it. -/
namespace Go.Proofs.YtlpgfigbpjpdhaaGreatDoor
set_option maxRecDepth 100000
set_option maxHeartbeats 8000000
open Go.RowKit Go.Shelf Go.Maps
set_option linter.unusedVariables false
theorem acE (G:Geo)(Q:Nat->Option (List Int)){b:Nat}(hb:b<G.n):setW (fun _=>none) (ig G Q) b=Q b:=by
 have key:∀ (l:List Nat) (R:Nat->Option (List Int)),(∀ x∈l,(Q x).isSome=true)->setW R (l.map (fun x=>(x,(Q x).getD []))) b=if b∈l then Q b else R b:=by
  intro l
  induction l with
  | nil=>intro R _;rfl
  | cons x r ih =>
   intro R hx
   show setW _ (r.map _) b=_
   rw[ih _ (fun y hy=>hx y (List.mem_cons_of_mem _ hy))]
   by_cases h1:b∈r
   ·rw[if_pos h1,if_pos (List.mem_cons_of_mem _ h1)]
   ·rw[if_neg h1]
    by_cases h2:b=x
    ·subst h2
     rw[if_pos (show b∈b::r by simp)]
     show (if b=b then some ((Q b).getD []) else R b)=Q b
     rw[if_pos rfl]
     obtain⟨z,hz⟩:=Option.isSome_iff_exists.1 (hx b (by simp))
     rw[hz];rfl
    ·rw[if_neg (show ¬ b∈x::r by simp[h1,h2])]
     show (if b=x then _ else R b)=R b
     rw[if_neg h2]
 unfold ig
 rw[key _ _ (fun x hx=>(kK.1 hx).2)]
 by_cases h:b∈bD G Q
 ·rw[if_pos h]
 ·rw[if_neg h]
  cases e:Q b with
  | none=>rfl
  | some z=>exact absurd (kK.2 ⟨hb,by rw[e];rfl⟩) h
theorem jd.llk {u u':World}{S Sg Sg' Sc Sl Sd:Nat->Prop}{g cg lg dg P G X C L D m mk ml}(h:jd u S Sg Sc Sl Sd g cg lg dg P G X C L D m mk ml)(hx:Nx Sg u Sg' u'):LgM u' Sl lg dg P G L ml :=
 h.ll.kept (fun k hk=>(hx.keep (h.ll.lt k hk) (fun x=>h.gl k x hk)).1) (fun _ x=>x) (fun k hk=>(hx.keep (h.ll.lt k hk) (fun x=>h.gl k x hk)).2.2)
theorem GrM.ake {u S g dg lg cg P G X m}(h:GrM u S g dg lg cg P G X m)(H:Hd){nb:Nat}(hm:gy (kB G.blk) u nb G.n (fun _=>none))(hS:S nb)(n1:nb≠m.lb)(n2:nb≠m.fb)(n3:∀ N,X.N=some N->nb≠m.nb) :
  GrM ((((u.setCell ⟨g,18,none⟩ (.int .i64 (H.seq:Int))).setCell ⟨g,19,none⟩ (.int .i64 (H.tail:Int))).setCell ⟨g,20,none⟩ (.int .i64 (H.used:Int))).setCell ⟨g,21,none⟩ (.map (some nb))) S g dg lg cg P G X { m with hc:=H,pb:=some nb,Qc:=fun _=>none }:=by
 have h1:=h.yD X { m with hc:=⟨H.seq,m.hc.tail,m.hc.used⟩ } 18 (.int .i64 (H.seq:Int)) (fun j hj=>by
  rcases rZ j hj with rfl | rfl | rfl | ⟨h1,h2⟩ | rfl | rfl | rfl | rfl | rfl | rfl | rfl
  ·simp[dD]
  ·simp[dD]
  ·simp[dD]
  ·simp[dD,show ¬ j=0 by omega,show ¬ j=1 by omega,show ¬ j=2 by omega,h2,show ¬ j=18 by omega]
  all_goals simp[dD,Hd.fn]) ⟨rfl,rfl⟩ ⟨rfl,rfl,rfl⟩ (fun N e=>by have ho:=h.opS 18 (.int .i64 (H.seq:Int)) e;exact⟨ho.str,ho.nts,ho.so,ho.nl,ho.nf,ho.np⟩) (fun pb e=>h.aiN 18 _ e) h.pno
 have m1:=hm.kept (Below.heap_setCell u ⟨g,18,none⟩ (.int .i64 (H.seq:Int)) nb (fun e=>hm.ner h.str e.symm))
 generalize u.setCell ⟨g,18,none⟩ (.int .i64 (H.seq:Int))=u1 at *
 have h2:=h1.yD X { m with hc:=⟨H.seq,H.tail,m.hc.used⟩ } 19 (.int .i64 (H.tail:Int)) (fun j hj=>by
  rcases rZ j hj with rfl | rfl | rfl | ⟨h1,h2⟩ | rfl | rfl | rfl | rfl | rfl | rfl | rfl
  ·simp[dD]
  ·simp[dD]
  ·simp[dD]
  ·simp[dD,show ¬ j=0 by omega,show ¬ j=1 by omega,show ¬ j=2 by omega,h2,show ¬ j=19 by omega]
  all_goals simp[dD,Hd.fn]) ⟨rfl,rfl⟩ ⟨rfl,rfl,rfl⟩ (fun N e=>by have ho:=h1.opS 19 (.int .i64 (H.tail:Int)) e;exact⟨ho.str,ho.nts,ho.so,ho.nl,ho.nf,ho.np⟩) (fun pb e=>h1.aiN 19 _ e) h.pno
 have m2:=m1.kept (Below.heap_setCell u1 ⟨g,19,none⟩ (.int .i64 (H.tail:Int)) nb (fun e=>m1.ner h1.str e.symm))
 generalize u1.setCell ⟨g,19,none⟩ (.int .i64 (H.tail:Int))=u2 at *
 have h3:=h2.yD X { m with hc:=H } 20 (.int .i64 (H.used:Int)) (fun j hj=>by
  rcases rZ j hj with rfl | rfl | rfl | ⟨h1,h2⟩ | rfl | rfl | rfl | rfl | rfl | rfl | rfl
  ·simp[dD]
  ·simp[dD]
  ·simp[dD]
  ·simp[dD,show ¬ j=0 by omega,show ¬ j=1 by omega,show ¬ j=2 by omega,h2,show ¬ j=20 by omega]
  all_goals simp[dD,Hd.fn]) ⟨rfl,rfl⟩ ⟨rfl,rfl,rfl⟩ (fun N e=>by have ho:=h2.opS 20 (.int .i64 (H.used:Int)) e;exact⟨ho.str,ho.nts,ho.so,ho.nl,ho.nf,ho.np⟩) (fun pb e=>h2.aiN 20 _ e) h.pno
 have m3:=m2.kept (Below.heap_setCell u2 ⟨g,20,none⟩ (.int .i64 (H.used:Int)) nb (fun e=>m2.ner h2.str e.symm))
 generalize u2.setCell ⟨g,20,none⟩ (.int .i64 (H.used:Int))=u3 at *
 have m4:=m3.kept (Below.heap_setCell u3 ⟨g,21,none⟩ (.map (some nb)) nb (fun e=>m3.ner h3.str e.symm))
 refine h3.yD X { m with hc:=H,pb:=some nb,Qc:=fun _=>none } 21 (.map (some nb)) (fun j hj=>?_) ⟨rfl,rfl⟩ ⟨rfl,rfl,rfl⟩ (fun N e=>?_) (fun pb e=>?_) (fun e=>by cases e)
 ·rcases rZ j hj with rfl | rfl | rfl | ⟨h1,h2⟩ | rfl | rfl | rfl | rfl | rfl | rfl | rfl
  ·simp[dD]
  ·simp[dD]
  ·simp[dD]
  ·simp[dD,show ¬ j=0 by omega,show ¬ j=1 by omega,show ¬ j=2 by omega,h2,show ¬ j=21 by omega]
  all_goals simp[dD]
 ·have ho:=h3.opS 21 (.map (some nb)) e
  exact⟨ho.str,ho.nts,ho.so,ho.nl,ho.nf,fun e2=>n3 N e (by have e3:some nb=some m.nb:=e2;exact Option.some.inj e3)⟩
 ·cases e
  exact⟨⟨m4.congr (fun k hk=>rfl),fun b z _ e=>(by cases e),hS⟩,n1,n2⟩
structure InJ (u:World) (Sg:Nat->Prop) (g dg lg cg:Nat) (P:Nat->Int) (G:Geo) (X:Grp) (L:Lg) (nb B:Nat) (v:Value) (V:List Wr) (k:Nat) (wr:World) (Sg':Nat->Prop) (m':ae7):Prop where
 gr:GrM wr Sg' g dg lg cg P G X m'
 nx:Nx Sg u Sg' wr
 hc:m'.hc=L.h
 pb:m'.pb=some nb
 qc:m'.Qc=setW (fun _=>none) ((ig G L.Q).take k)
 gw:Gw B wr v V
 nl:nb<B
 bl:B<=wr.heap.size
 ub:u.heap.size<=B
 is:wl V=ig G L.Q
 dl:∀ x∈V,x.dl=G.blk/\0<=x.b
theorem InJ.block {u Sg g dg lg cg P G X L nb B v V k wr Sg' m'}(h:InJ u Sg g dg lg cg P G X L nb B v V k wr Sg' m')(hk:k<V.length) :
  ∃ b:Nat,(wat V k).b=(b:Int)/\b<G.n:=by
 have h0:=(h.dl _ (xR hk)).2
 refine⟨(wat V k).b.toNat,by omega,?_⟩
 have hm:((wat V k).b.toNat,(wat V k).z)∈wl V:=List.mem_map.2 ⟨wat V k,xR hk,rfl⟩
 rw[h.is] at hm
 unfold ig at hm
 obtain⟨b,hb,e⟩:=List.mem_map.1 hm
 have e1:b=(wat V k).b.toNat:=by simpa using congrArg Prod.fst e
 rw[← e1]
 exact(kK.1 hb).1
theorem InJ.step {u Sg g dg lg cg P G X L nb B v V k wr Sg' m'}(h:InJ u Sg g dg lg cg P G X L nb B v V k wr Sg' m')(hk:k<V.length){b:Nat}(hb:(wat V k).b=(b:Int))(hbn:b<G.n){w1:World}(hw:Below wr.heap.size wr w1) :
  ∃ w2,(Instr.mapUpdate 119 (.map (some nb)) (.int .i64 (b:Int)) (.slice (wat V k).da (wat V k).dl (wat V k).dc)).run Tryz.prog w1=.ok () w2/\∃ Sg2 m2,InJ u Sg g dg lg cg P G X L nb B v V (k+1) w2 Sg2 m2:=by
 have hs:=hw.size
 have hbl:=h.bl
 have hub:=h.ub
 have hG:=h.gr.pg.ok
 obtain⟨ow,by1,dl1,dl2⟩:=(h.gw.below hw).row k hk
 obtain⟨q,eq,ra,q1,q2⟩:=ow.rowAt dl1 by1 (S:=fun j=>Sg' j\/(B<=j/\j<w1.heap.size)) (fun j h1 h2=>.inr ⟨h1,h2⟩)
 have edl:=(h.dl _ (xR hk)).1
 have g1:GrM w1 (fun j=>Sg' j\/(B<=j/\j<w1.heap.size)) g dg lg cg P G X m':=h.gr.kept (fun j hj=>hw.block j (h.gr.lt j hj)) (fun j hj=>.inl hj) (fun j hj=>by
  rcases hj with x | x
  ·exact Nat.lt_of_lt_of_le (h.gr.lt j x) hs
  ·exact x.2)
 rw[edl] at ra
 obtain⟨w2,r2,p2,T⟩:=(g1.pen nb h.pb).put hG.n2 hbn ra
 have g2:=g1.aml h.pb T p2
 rw[eq,edl]
 refine⟨w2,r2,_,_,g2,?_,h.hc,h.pb,?_,?_,h.nl,by rw[T.sz];omega,h.ub,h.is,h.dl⟩
 ·have n1:=h.nx.below' hw
  refine⟨⟨T.gr.os.trans n1.fr.os,T.gr.tape.trans n1.fr.tape,T.gr.output.trans n1.fr.output,by rw[T.sz];exact n1.fr.size,fun j hj hn=>(T.other (Nat.lt_of_lt_of_le hj n1.fr.size) (fun e=>hn (n1.sub j hj (by rw[e];exact(h.gr.pen nb h.pb).sm)))).trans (n1.fr.block j hj hn)⟩,fun j hj x=>?_⟩
  rcases x with x | x
  ·exact h.nx.sub j hj x
  ·omega
 ·show (fun j=>if j=b then some (wat V k).z else m'.Qc j)=_
  rw[h.qc,← h.is,acD hk b hb]
 ·exact(h.gw.below hw).kept (fun j hj hl=>T.other hl (by have:=h.nl;omega))
theorem akI (h:Hd):Hv h.fn=.agg #[.int .i64 (h.seq:Int),.int .i64 (h.tail:Int),.int .i64 (h.used:Int)]:=rfl
theorem ak4 {a b:Hd}(h:a≠b):¬ ∀ k,k<3->a.fn k=b.fn k:=fun hk=>h (by
 have h0:a.seq=b.seq:=by have:=hk 0 (by omega);simp[Hd.fn] at this;omega
 have h1:a.tail=b.tail:=by have:=hk 1 (by omega);simp[Hd.fn] at this;omega
 have h2:a.used=b.used:=by have:=hk 2 (by omega);simp[Hd.fn] at this;omega
 cases a;cases b
 simp only[Hd.mk.injEq]
 exact⟨h0,h1,h2⟩)
def InA (u:World) (S Sg Sc Sl Sd:Nat->Prop) (g cg lg dg:Nat) (P:Nat->Int) (G:Geo) (X:Grp) (C:Cac) (L:Lg) (D:Dev) (mk:nR) (ml:ae5) (v:Option Nat) (w':World):Prop :=
 ∃ S' Sg' m',jd w' S' Sg' Sc Sl Sd g cg lg dg P G X C L D m' mk ml/\Nx S u S' w'/\m'.pb=v/\∀ b,b<G.n->m'.Qc b=L.Q b
theorem InJ.done {u S Sg Sc Sl Sd g cg lg dg P G X C L D m mk ml}(h:jd u S Sg Sc Sl Sd g cg lg dg P G X C L D m mk ml){nb B:Nat}{v:Value}{V:List Wr}{wr:World}{Sg':Nat->Prop}{m':ae7}(hJ:InJ u Sg g dg lg cg P G X L nb B v V V.length wr Sg' m') :
  InA u S Sg Sc Sl Sd g cg lg dg P G X C L D mk ml (some nb) wr:=by
 have hq:∀ b,b<G.n->m'.Qc b=L.Q b:=fun b hb=>by
  rw[hJ.qc,List.take_of_length_le (by rw[← hJ.is,acj];omega),acE G L.Q hb]
 obtain⟨S',a1,x1,_⟩:=h.own hJ.gr hJ.nx (.inl ⟨hJ.hc,hq⟩)
 exact⟨S',Sg',m',a1,x1,hJ.pb,hq⟩
theorem jd.akf {u S Sg Sc Sl Sd g cg lg dg P G X C L D m mk ml}(h:jd u S Sg Sc Sl Sd g cg lg dg P G X C L D m mk ml){v:World}(hv:Below u.heap.size u v) :
  ((((v.alloc (.map #[] 0)).setCell ⟨g,18,none⟩ (.int .i64 (L.h.seq:Int))).setCell ⟨g,19,none⟩ (.int .i64 (L.h.tail:Int))).setCell ⟨g,20,none⟩ (.int .i64 (L.h.used:Int))).cell? ⟨g,21,none⟩=some (.map m.pb) /\
  (((((v.alloc (.map #[] 0)).setCell ⟨g,18,none⟩ (.int .i64 (L.h.seq:Int))).setCell ⟨g,19,none⟩ (.int .i64 (L.h.tail:Int))).setCell ⟨g,20,none⟩ (.int .i64 (L.h.used:Int))).setCell ⟨g,21,none⟩ (.map (some v.heap.size))).cell? ⟨g,1,none⟩=some (.pointer (some ⟨lg,0,none⟩)) /\
  Hid (Calls Tryz.prog 189 #[.pointer (some ⟨lg,0,none⟩)] (((((v.alloc (.map #[] 0)).setCell ⟨g,18,none⟩ (.int .i64 (L.h.seq:Int))).setCell ⟨g,19,none⟩ (.int .i64 (L.h.tail:Int))).setCell ⟨g,20,none⟩ (.int .i64 (L.h.used:Int))).setCell ⟨g,21,none⟩ (.map (some v.heap.size)))
   fun e w'=>∃ a c V,e=.returned (.slice a V.length c)/\Hid (∃ B Sg' m',InJ u Sg g dg lg cg P G X L v.heap.size B (.slice a V.length c) V 0 w' Sg' m')):=by
 have hs:=hv.size
 have b1:Below v.heap.size v (v.alloc (.map #[] 0)):=(Below.refl _ _).alloc (Nat.le_refl _) _
 have z1:(v.alloc (.map #[] 0)).heap.size=v.heap.size+1:=by simp
 have b2:=hv.trans (b1.mono hs)
 have hm:=gy.made (kB G.blk) v G.n
 have g1:=h.gr.grow b2
 have x1:=yS Sg b2
 have n1:v.heap.size≠m.lb:=by have:=h.gr.log.map.lt;omega
 have n2:v.heap.size≠m.fb:=by have:=h.gr.fre.map.lt;omega
 have g2:=g1.ake L.h hm (.inr ⟨hs,by omega⟩) n1 n2 (fun N e=>by have:=(h.gr.opn N e).nts.map.lt;omega)
 have c21:((((v.alloc (.map #[] 0)).setCell ⟨g,18,none⟩ (.int .i64 (L.h.seq:Int))).setCell ⟨g,19,none⟩ (.int .i64 (L.h.tail:Int))).setCell ⟨g,20,none⟩ (.int .i64 (L.h.used:Int))).cell? ⟨g,21,none⟩=some (.map m.pb):=(((g1.str.set 18 _).set 19 _).set 20 _).cell (i:=21) (by omega)
 have x2:Nx Sg u (exS Sg u (v.alloc (.map #[] 0))) (((((v.alloc (.map #[] 0)).setCell ⟨g,18,none⟩ (.int .i64 (L.h.seq:Int))).setCell ⟨g,19,none⟩ (.int .i64 (L.h.tail:Int))).setCell ⟨g,20,none⟩ (.int .i64 (L.h.used:Int))).setCell ⟨g,21,none⟩ (.map (some v.heap.size))) :=
  (((x1.trans (lU g1.sg _)).trans (lU g1.sg _)).trans (lU g1.sg _)).trans (lU g1.sg _)
 have z2:(((((v.alloc (.map #[] 0)).setCell ⟨g,18,none⟩ (.int .i64 (L.h.seq:Int))).setCell ⟨g,19,none⟩ (.int .i64 (L.h.tail:Int))).setCell ⟨g,20,none⟩ (.int .i64 (L.h.used:Int))).setCell ⟨g,21,none⟩ (.map (some v.heap.size))).heap.size=v.heap.size+1:=by simp[World.setCell]
 generalize (((((v.alloc (.map #[] 0)).setCell ⟨g,18,none⟩ (.int .i64 (L.h.seq:Int))).setCell ⟨g,19,none⟩ (.int .i64 (L.h.tail:Int))).setCell ⟨g,20,none⟩ (.int .i64 (L.h.used:Int))).setCell ⟨g,21,none⟩ (.map (some v.heap.size)))=w4 at *
 refine⟨c21,g2.cells.2.1,(yP lg dg Sl P G L ml w4 (h.llk x2)).mono ?_⟩
 rintro e w5 ⟨vv,V,rfl,Y⟩
 obtain⟨gw,is,dl,bw⟩:=ah Y
 obtain⟨a,c,rfl,_,_⟩:=gw.shape
 refine⟨a,c,V,rfl,w4.heap.size,_,_,g2.kept (fun j hj=>bw.block j (g2.lt j hj)) (fun _ x=>x) (fun j hj=>Nat.lt_of_lt_of_le (g2.lt j hj) bw.size),x2.below' bw,rfl,rfl,rfl,gw,by omega,bw.size,by omega,is,dl⟩
theorem wP {u S Sg Sc Sl Sd g cg lg dg P G X C L D m mk ml}(h:jd u S Sg Sc Sl Sd g cg lg dg P G X C L D m mk ml) :
  Calls Tryz.prog 209 #[.pointer (some ⟨g,0,none⟩)] u fun e w'=>∃ v,e=.returned (.map v)/\Hid (InA u S Sg Sc Sl Sd g cg lg dg P G X C L D mk ml v w'):=by
 have c1:=h.gr.cells.2.1
 have KH:=hide (ab9 lg dg Sl P G L ml u h.ll)
 rw[akI] at KH
 have HC:Hid (∀ w1,Below u.heap.size u w1->w1.cell? ⟨g,18,none⟩=some (.int .i64 (m.hc.seq:Int))/\w1.cell? ⟨g,19,none⟩=some (.int .i64 (m.hc.tail:Int))/\w1.cell? ⟨g,20,none⟩=some (.int .i64 (m.hc.used:Int))/\w1.cell? ⟨g,21,none⟩=some (.map m.pb)/\(∀ k,w1.frozen? ⟨g,k,none⟩=false)/\w1.cell? ⟨g,1,none⟩=some (.pointer (some ⟨lg,0,none⟩))):=fun w1 hb=>by
  have:=(h.below hb).gr.cells
  exact⟨this.2.2.2.2.2.2.2.1,this.2.2.2.2.2.2.2.2.1,this.2.2.2.2.2.2.2.2.2.1,this.2.2.2.2.2.2.2.2.2.2.1,this.2.2.2.2.2.2.2.2.2.2.2,this.2.1⟩
 have hB:∀ w1:World,Below u.heap.size u w1->Below u.heap.size u (w1.alloc (.cells #[.int .i64 (L.h.seq:Int),.int .i64 (L.h.tail:Int),.int .i64 (L.h.used:Int)] 118)):=fun w1 hb=>hb.alloc hb.size _
 by_cases he:m.hc=L.h
 ·have q:∀ w:World,(binOp .neq 118 (.agg #[.int .i64 (L.h.seq:Int),.int .i64 (L.h.tail:Int),.int .i64 (L.h.used:Int)]) (.agg #[.int .i64 (m.hc.seq:Int),.int .i64 (m.hc.tail:Int),.int .i64 (m.hc.used:Int)])).run Tryz.prog w=.ok (.bool false) w:=fun w=>wu (P:=L.h.fn) (Q:=m.hc.fn) (fun k _=>by rw[he]) w
  have Z:Hid (∀ w',Below u.heap.size u w'->InA u S Sg Sc Sl Sd g cg lg dg P G X C L D mk ml m.pb w'):=fun w' hb=>by
   refine⟨S,Sg,m,h.below hb,(Nx.refl S u).below' hb,rfl,?_⟩
   rcases h.seen with h1 | h1
   ·exact h1.2
   ·exact absurd he h1.ne
  have HBB:=hide hB
  clear h he hB
  generalize (L.h.seq:Int)=l1 at *
  generalize (L.h.tail:Int)=l2 at *
  generalize (L.h.used:Int)=l3 at *
  generalize (m.hc.seq:Int)=l4 at *
  generalize (m.hc.tail:Int)=l5 at *
  generalize (m.hc.used:Int)=l6 at *
  go_enter Tryz.func209,Tryz.ntmps209
  go_wp2_with fail
  go_at_call 246
  refine(ah KH).mono ?_
  rintro e w1 ⟨rfl,hb1⟩
  have B2:=hide (ah HBB w1 hb1)
  have BX:=hide (Bl.new w1 #[.int .i64 l1,.int .i64 l2,.int .i64 l3] 118)
  clear KH HBB hb1 c1
  go_upto_region 2 with fail
  change Code.wp _ _ _ _ (w1.alloc (.cells #[.int .i64 l1,.int .i64 l2,.int .i64 l3] 118))
  generalize w1.alloc (.cells #[.int .i64 l1,.int .i64 l2,.int .i64 l3] 118)=w2 at *
  generalize w1.heap.size=gb at *
  obtain⟨e1,e2,e3,e4,_,_⟩:=ah HC w2 (ah B2)
  have x1:=(ah BX).cell 0 (.int .i64 l1) rfl
  have x2:=(ah BX).cell 1 (.int .i64 l2) rfl
  have x3:=(ah BX).cell 2 (.int .i64 l3) rfl
  have ZZ:Hid (∀ n,InA u S Sg Sc Sl Sd g cg lg dg P G X C L D mk ml m.pb (w2.drewN n)):=fun n=>ah Z _ (below_drewN (ah B2) n)
  clear HC B2 BX Z
  generalize m.pb=pb at *
  go_quiet (fail)
  rename_i nq
  have e4':(w2.drewN nq).cell? ⟨g,21,none⟩=some (.map pb):=e4
  have ZQ:=hide (ah ZZ nq)
  clear e1 e2 e3 e4 x1 x2 x3 ZZ q
  generalize w2.drewN nq=w3 at *
  go_wp2_with fail
  go_ret
  exact⟨_,rfl,ah ZQ⟩
 ·have q:∀ w:World,(binOp .neq 118 (.agg #[.int .i64 (L.h.seq:Int),.int .i64 (L.h.tail:Int),.int .i64 (L.h.used:Int)]) (.agg #[.int .i64 (m.hc.seq:Int),.int .i64 (m.hc.tail:Int),.int .i64 (m.hc.used:Int)])).run Tryz.prog w=.ok (.bool true) w:=fun w=>uf (P:=L.h.fn) (Q:=m.hc.fn) (ak4 (fun e=>he e.symm)) w
  have HBB:=hide hB
  have KL:Hid (∀ v,Below u.heap.size u v->_):=fun v hv=>h.akf hv
  have KD:Hid (∀ nb B v V wr Sg' m',InJ u Sg g dg lg cg P G X L nb B v V V.length wr Sg' m'->InA u S Sg Sc Sl Sd g cg lg dg P G X C L D mk ml (some nb) wr):=fun nb B v V wr Sg' m' hJ=>InJ.done h hJ
  have hmm:=@run_makeMap Tryz.prog
  clear h he hB
  generalize (L.h.seq:Int)=l1 at *
  generalize (L.h.tail:Int)=l2 at *
  generalize (L.h.used:Int)=l3 at *
  generalize (m.hc.seq:Int)=l4 at *
  generalize (m.hc.tail:Int)=l5 at *
  generalize (m.hc.used:Int)=l6 at *
  go_enter Tryz.func209,Tryz.ntmps209
  go_wp2_with fail
  go_at_call 246
  refine(ah KH).mono ?_
  rintro e w1 ⟨rfl,hb1⟩
  have B2:=hide (ah HBB w1 hb1)
  have BX:=hide (Bl.new w1 #[.int .i64 l1,.int .i64 l2,.int .i64 l3] 118)
  clear KH HBB hb1 c1
  go_upto_region 2 with fail
  change Code.wp _ _ _ _ (w1.alloc (.cells #[.int .i64 l1,.int .i64 l2,.int .i64 l3] 118))
  generalize w1.alloc (.cells #[.int .i64 l1,.int .i64 l2,.int .i64 l3] 118)=w2 at *
  generalize w1.heap.size=gb at *
  obtain⟨e1,e2,e3,e4,e5,_⟩:=ah HC w2 (ah B2)
  have x1:=(ah BX).cell 0 (.int .i64 l1) rfl
  have x2:=(ah BX).cell 1 (.int .i64 l2) rfl
  have x3:=(ah BX).cell 2 (.int .i64 l3) rfl
  go_quiet (fail)
  rename_i nq
  have B3:Hid (Below u.heap.size u (w2.drewN nq)):=below_drewN (ah B2) nq
  have BY:Hid (Bl (w2.drewN nq) gb #[.int .i64 l1,.int .i64 l2,.int .i64 l3] 118):=ah BX
  clear e1 e2 e3 e4 e5 x1 x2 x3 q B2 BX
  generalize w2.drewN nq=w3 at *
  obtain⟨y21,y1,KP⟩:=ah KL w3 (ah B3)
  obtain⟨e1,e2,e3,e4,e5,_⟩:=ah HC (w3.alloc (.map #[] 0)) ((ah B3).alloc (ah B3).size _)
  have x1:=(ah BY).cell 0 (.int .i64 l1) rfl
  have x2:=(ah BY).cell 1 (.int .i64 l2) rfl
  have x3:=(ah BY).cell 2 (.int .i64 l3) rfl
  clear HC KL BY
  go_upto_region 4 with fail
  change Code.wp _ _ _ _ (((((w3.alloc (.map #[] 0)).setCell ⟨g,18,none⟩ (.int .i64 l1)).setCell ⟨g,19,none⟩ (.int .i64 l2)).setCell ⟨g,20,none⟩ (.int .i64 l3)).setCell ⟨g,21,none⟩ (.map (some w3.heap.size)))
  clear e1 e2 e3 e4 e5 x1 x2 x3 y21 hmm
  generalize (((((w3.alloc (.map #[] 0)).setCell ⟨g,18,none⟩ (.int .i64 l1)).setCell ⟨g,19,none⟩ (.int .i64 l2)).setCell ⟨g,20,none⟩ (.int .i64 l3)).setCell ⟨g,21,none⟩ (.map (some w3.heap.size)))=w4 at *
  generalize w3.heap.size=nb at *
  clear B3
  go_wp2_with fail
  go_at_call 189
  refine(ah KP).mono ?_
  rintro e w5 ⟨a,c,V,rfl,Y⟩
  obtain⟨B,Sg1,m1,hJ1⟩:=ah Y
  have Y1:Hid (∃ Sg' m',InJ u Sg g dg lg cg P G X L nb B (.slice a V.length c) V 0 w5 Sg' m'):=⟨Sg1,m1,hJ1⟩
  have hnp:V.length<=4096:=by
   have h1:=congrArg List.length hJ1.is
   rw[acj,oQ] at h1
   have h2:=kL G L.Q
   have h3:=hJ1.gr.pg.ok.n2
   omega
  clear KP Y hJ1 y1
  have KD1:Hid (∀ wr,(∃ Sg' m',InJ u Sg g dg lg cg P G X L nb B (.slice a V.length c) V V.length wr Sg' m')->InA u S Sg Sc Sl Sd g cg lg dg P G X C L D mk ml (some nb) wr/\wr.cell? ⟨g,21,none⟩=some (.map (some nb))):=fun wr ⟨Sg',m',hJ⟩=>⟨ah KD _ _ _ _ _ _ _ hJ,by rw[hJ.gr.cells.2.2.2.2.2.2.2.2.2.2.1,hJ.pb]⟩
  have KS1:Hid (∀ k wr,(∃ Sg' m',InJ u Sg g dg lg cg P G X L nb B (.slice a V.length c) V k wr Sg' m')->k<V.length->∃ kb off b,a=some ⟨kb,off,none⟩/\wr.cell? ⟨kb,off+k*2,none⟩=some (.int .i64 ((b:Nat):Int))/\wr.cell? ⟨kb,off+k*2+1,none⟩=some (.slice (wat V k).da (wat V k).dl (wat V k).dc) /\
    ∀ w1,Below wr.heap.size wr w1->w1.cell? ⟨g,21,none⟩=some (.map (some nb))/\∃ w2,(Instr.mapUpdate 119 (.map (some nb)) (.int .i64 ((b:Nat):Int)) (.slice (wat V k).da (wat V k).dl (wat V k).dc)).run Tryz.prog w1.drew=.ok () w2/\Hid (∃ Sg' m',InJ u Sg g dg lg cg P G X L nb B (.slice a V.length c) V (k+1) w2 Sg' m')):=by
   rintro k wr ⟨Sg',m',hJ⟩ hk
   obtain⟨b,hb,hbn⟩:=hJ.block hk
   obtain⟨wh,_⟩:=hJ.gw.has
   obtain⟨kb,off,ea,_,hc⟩:=wh.cel (by omega)
   obtain⟨c1,c2⟩:=hc k hk
   rw[hb] at c1
   refine⟨kb,off,b,ea,c1,c2,fun w1 hw=>?_⟩
   obtain⟨w2,r2,J2⟩:=hJ.step hk hb hbn (w1:=w1.drew) hw.drew
   refine⟨?_,w2,r2,J2⟩
   have e21:=hJ.gr.cells.2.2.2.2.2.2.2.2.2.2.1
   rw[hJ.pb] at e21
   exact(hw.cell (p:=⟨g,21,none⟩) (hJ.gr.lt _ hJ.gr.sg)).trans e21
  clear KD
  generalize hVl:V.length=np at *
  clear hVl
  go_wp2_with fail
  go_loopw [31] (fun i wr=>∃ k:Nat,k<=np/\i=.int .i64 (k:Int)/\Hid (∃ Sg' m',InJ u Sg g dg lg cg P G X L nb B (.slice a np c) V k wr Sg' m')) (fun i _=>np - (intOf i).toNat)
  case atStart=>exact⟨0,Nat.zero_le _,rfl,Y1⟩
  case round =>
   obtain⟨k,hk,rfl,hJ⟩:=hrel
   clear Y1
   by_cases hlt:k<np
   ·obtain⟨kb,off,b,ea,x1,x2,KX⟩:=ah KS1 _ _ (ah hJ) hlt
    obtain⟨y21,w2,r2,Z⟩:=KX (wr.alloc (.cells #[.int .i64 (b:Int),.slice (wat V k).da (wat V k).dl (wat V k).dc] 97)) ((Below.refl _ wr).alloc (Nat.le_refl _) _)
    have BX:=hide (Bl.new wr #[.int .i64 (b:Int),.slice (wat V k).da (wat V k).dl (wat V k).dc] 97)
    clear KS1 KD1 hJ KX
    subst ea
    generalize (wat V k).da=da at *
    generalize (wat V k).dl=dl at *
    generalize (wat V k).dc=dc at *
    generalize (b:Int)=bi at *
    go_upto_region 7 with fail
    change Code.wp _ _ _ _ (wr.alloc (.cells #[.int .i64 bi,.slice da dl dc] 97))
    generalize wr.alloc (.cells #[.int .i64 bi,.slice da dl dc] 97)=ub at *
    generalize wr.heap.size=gb at *
    have z1:=(ah BX).cell 0 (.int .i64 bi) rfl
    have z2:=(ah BX).cell 1 (.slice da dl dc) rfl
    clear BX x1 x2
    go_region
    go_wp2_with fail
    go_roundw
    case rel=>exact⟨k+1,by omega,by go_num,Z⟩
    case measure=>simp[intOf];omega
   ·have ek:k=np:=by omega
    rw[ek] at hJ
    obtain⟨Z,c21⟩:=ah KD1 _ (ah hJ)
    have HZ:=hide Z
    clear KS1 KD1 hJ Z
    go_wp2_with fail
    go_ret
    exact⟨_,rfl,ah HZ⟩
theorem ak1 (C:Cac)(D:Dev)(b:Nat):(C.gtD D b).n=D.n/\(C.gtD D b).blk=D.blk:=by
 unfold Cac.gtD
 split
 ·exact⟨rfl,rfl⟩
 ·exact aaY C D
theorem akk (C:Cac)(D:Dev)(b:Nat):(C.ptD D b).n=D.n/\(C.ptD D b).blk=D.blk:=by
 unfold Cac.ptD
 split
 ·exact⟨rfl,rfl⟩
 ·exact aaY C D
def grE (X:Grp) (C:Cac) (L:Lg) (D:Dev) (b:Nat):Int:=match X.Q b with | some _=>0 | none=>match L.Q b with | some _=>0 | none=>C.gtE D b
def grZ (X:Grp) (C:Cac) (L:Lg) (D:Dev) (b:Nat):List Int:=match X.Q b with | some z=>z | none=>match L.Q b with | some z=>z | none=>C.gtZ D b
def grC (X:Grp) (C:Cac) (L:Lg) (D:Dev) (b:Nat):Cac:=match X.Q b with | some _=>C | none=>match L.Q b with | some _=>C | none=>C.gtC D b
def grD (X:Grp) (C:Cac) (L:Lg) (D:Dev) (b:Nat):Dev:=match X.Q b with | some _=>D | none=>match L.Q b with | some _=>D | none=>C.gtD D b
theorem InA.look {u S Sg Sc Sl Sd g cg lg dg P G X C L D mk ml v w'}(h:InA u S Sg Sc Sl Sd g cg lg dg P G X C L D mk ml v w'){b:Nat}(hb:b<G.n){z:List Int}(e:L.Q b=some z) :
  ∃ r:Nat×Nat,(Instr.lookup 119 (.map v) (.int .i64 (b:Int)) true).run Tryz.prog w'=.ok (.tuple #[.slice (some ⟨r.1,0,none⟩) G.blk r.2,.bool true]) w'/\Has w' (some ⟨r.1,0,none⟩) G.blk z/\∀ x∈z,0<=x/\x<=255:=by
 obtain⟨S',Sg',m',a1,x1,e1,hq⟩:=h
 have hn:=a1.gr.pg.ok.n2
 have hk:=a1.gr.pg.ok.blk
 have hqb:=hq b hb
 rw[e] at hqb
 cases hv:m'.pb with
 | none=>rw[a1.gr.pno hv b hb] at hqb;cases hqb
 | some pb =>
  have hp:=a1.gr.pen pb hv
  have r:=hp.look hn hb hqb
  rw[← e1,hv]
  exact⟨m'.PA b,r,((hp.row b z hb hqb).row (by omega)).has,(hp.row b z hb hqb).byt⟩
theorem InA.fC {u S Sg Sc Sl Sd g cg lg dg P G X C L D mk ml v w'}(h:InA u S Sg Sc Sl Sd g cg lg dg P G X C L D mk ml v w'){b:Nat}(hb:b<G.n)(e:L.Q b=none) :
  (Instr.lookup 119 (.map v) (.int .i64 (b:Int)) true).run Tryz.prog w'=.ok (.tuple #[.slice none 0 0,.bool false]) w':=by
 obtain⟨S',Sg',m',a1,x1,e1,hq⟩:=h
 have hn:=a1.gr.pg.ok.n2
 have hqb:=hq b hb
 rw[e] at hqb
 cases hv:m'.pb with
 | none =>
  rw[← e1,hv]
  exact Maps.look_nil (w:=w') true law3 Tryz.underlying119 (ace w') (dw (k:=b) (by omega))
 | some pb =>
  rw[← e1,hv]
  exact(a1.gr.pen pb hv).fC hn hb hqb
theorem qy {u}{x:Addr}{blk cap:Nat}{z}(hr:Has u (some x) blk z)(hb:blk<=4096):Calls Tryz.prog 128 #[.slice (some x) blk cap] u fun e w'=>∃ a c,e=.returned (.slice a blk c)/\Hid (Own u.heap.size w' a blk c z/\Below u.heap.size u w'):=by
 refine(fF x blk cap z u hr (by omega)).mono ?_
 rintro e w' ⟨a,c,rfl,h1,h2⟩
 exact⟨a,c,rfl,h1,h2⟩
theorem afM {u S g cg lg dg P G X C L D}(h:Gv u S g cg lg dg P G X C L D){b:Nat}(hb:b<G.n)(he:grE X C L D b=0) :
  Calls Tryz.prog 140 #[.pointer (some ⟨g,0,none⟩),.int .i64 (b:Int)] u fun e w'=>∃ a c,e=.returned (.tuple #[.slice a G.blk c,.int .i64 0]) /\
   Hid (∃ S',Own u.heap.size w' a G.blk c (grZ X C L D b)/\Gv w' S' g cg lg dg P G X (grC X C L D b) L (grD X C L D b)/\Nx S u S' w'/\∀ k,a=some ⟨k,0,none⟩->¬ S' k):=by
 obtain⟨Sg,Sc,Sl,Sd,m,mk,ml,h⟩:=h
 have K1:=fU h.gr (b:Int) 0
 unfold uT at K1
 rw[if_neg (by omega)] at K1
 replace K1:=hide K1
 have c16:=h.gr.cells.2.2.2.2.2.1
 have c2:=h.gr.cells.2.2.1
 have hn:=h.gr.pg.ok.n2
 have hbk:=h.gr.pg.ok.blk
 unfold grE at he
 unfold grZ grC grD
 cases hq:X.Q b with
 | some z =>
  simp only
  have lk:=h.gr.log.look hn hb hq
  have hrow:=h.gr.log.row b z hb hq
  have KC:Hid (Calls Tryz.prog 128 #[.slice (some ⟨(m.LA b).1,0,none⟩) G.blk (m.LA b).2] u fun e w'=>∃ a c,e=.returned (.slice a G.blk c)/\Hid (∃ S',Own u.heap.size w' a G.blk c z/\Gv w' S' g cg lg dg P G X C L D/\Nx S u S' w'/\∀ k,a=some ⟨k,0,none⟩->¬ S' k)):=by
   refine(qy (hrow.row (by omega)).has (by omega)).mono ?_
   rintro e w' ⟨a,c,rfl,Y⟩
   obtain⟨o1,b1⟩:=ah Y
   refine⟨a,c,rfl,S,o1,(h.below b1).gv,(Nx.refl S u).below' b1,fun k ek hs=>?_⟩
   have:=h.lt hs
   have:=(o1.lt ek).2.1
   omega
  clear h hrow he hq
  unfold rv at lk
  generalize (m.LA b).1=r1 at *
  generalize (m.LA b).2=r2 at *
  generalize m.lb=lb at *
  generalize (b:Int)=bi at *
  go_enter Tryz.func140,Tryz.ntmps140
  go_wp2_with (first | (go_at_call 185;refine(ah K1).mono ?_;rintro e w' ⟨rfl,rfl⟩;clear K1) | (go_at_call 128;refine(ah KC).mono ?_;rintro e w' ⟨a,c,rfl,Z⟩;clear KC))
  go_ret2
  exact⟨a,c,rfl,Z⟩
 | none =>
  rw[hq] at he
  simp only at he ⊢
  have lk:=h.gr.log.fC hn hb hq
  have KI:=hide (wP h)
  have HC:Hid (∀ v w1,InA u S Sg Sc Sl Sd g cg lg dg P G X C L D mk ml v w1->w1.cell? ⟨g,2,none⟩=some (.pointer (some ⟨cg,0,none⟩))):=fun v w1 hI=>by
   obtain⟨S',Sg',m',a1,_⟩:=hI
   exact a1.gr.cells.2.2.1
  cases hl:L.Q b with
  | some z =>
   simp only
   have KL:Hid (∀ v w1,InA u S Sg Sc Sl Sd g cg lg dg P G X C L D mk ml v w1->∃ r1 r2,(Instr.lookup 119 (.map v) (.int .i64 (b:Int)) true).run Tryz.prog w1=.ok (.tuple #[.slice (some ⟨r1,0,none⟩) G.blk r2,.bool true]) w1 /\
     Hid (Calls Tryz.prog 128 #[.slice (some ⟨r1,0,none⟩) G.blk r2] w1 fun e w'=>∃ a c,e=.returned (.slice a G.blk c)/\Hid (∃ S',Own u.heap.size w' a G.blk c z/\Gv w' S' g cg lg dg P G X C L D/\Nx S u S' w'/\∀ k,a=some ⟨k,0,none⟩->¬ S' k))):=fun v w1 hI=>by
    obtain⟨r,lr,hr,_⟩:=hI.look hb hl
    refine⟨r.1,r.2,lr,(qy hr (by omega)).mono ?_⟩
    rintro e w' ⟨a,c,rfl,Y⟩
    obtain⟨o1,b1⟩:=ah Y
    obtain⟨S',Sg',m',a1,x1,_⟩:=hI
    refine⟨a,c,rfl,S',o1.base x1.fr.size,(a1.below b1).gv,x1.below' b1,fun k ek hs=>?_⟩
    have:=a1.lt hs
    have:=(o1.lt ek).2.1
    omega
   clear h he hq hl HC
   generalize m.lb=lb at *
   generalize (b:Int)=bi at *
   go_enter Tryz.func140,Tryz.ntmps140
   go_wp2_with (first | (go_at_call 185;refine(ah K1).mono ?_;rintro e w' ⟨rfl,rfl⟩;clear K1) | (go_at_call 209;refine(ah KI).mono ?_;rintro e w1 ⟨v,rfl,Y⟩;obtain⟨r1,r2,lr,KC⟩:=ah KL v w1 (ah Y);clear KI KL Y lk c16 c2) | (go_at_call 128;refine(ah KC).mono ?_;rintro e w' ⟨a,c,rfl,Z⟩;clear KC))
   go_ret2
   exact⟨a,c,rfl,Z⟩
  | none =>
   rw[hl] at he
   simp only at he ⊢
   have KL:Hid (∀ v w1,InA u S Sg Sc Sl Sd g cg lg dg P G X C L D mk ml v w1->(Instr.lookup 119 (.map v) (.int .i64 (b:Int)) true).run Tryz.prog w1=.ok (.tuple #[.slice none 0 0,.bool false]) w1 /\
     Hid (Calls Tryz.prog 210 #[.pointer (some ⟨cg,0,none⟩),.int .i64 (b:Int)] w1 fun e w'=>∃ a c,e=.returned (.tuple #[.slice a G.blk c,.int .i64 0])/\Hid (∃ S',Own u.heap.size w' a G.blk c (C.gtZ D b)/\Gv w' S' g cg lg dg P G X (C.gtC D b) L (C.gtD D b)/\Nx S u S' w'/\∀ k,a=some ⟨k,0,none⟩->¬ S' k))):=fun v w1 hI=>by
    refine⟨hI.fC hb hl,?_⟩
    obtain⟨S',Sg',m',a1,x1,_⟩:=hI
    refine(ah0 cg dg b _ C D w1 a1.kv.kv (by rw[a1.nd];exact hb) he).mono ?_
    rintro e w' ⟨a,c,rfl,Y⟩
    obtain⟨S2,o1,k1,x2,n2⟩:=ah Y
    obtain⟨S3,Sc3,Sd3,mk3,a3,x3,n3⟩:=a1.cache k1 x2 (ak1 C D b)
    rw[a1.bd] at o1 ⊢
    refine⟨a,c,rfl,S3,o1.base x1.fr.size,a3.gv,x1.trans x3,fun k ek hs=>?_⟩
    rcases n3 k hs with y | y
    ·exact n2 k ek y
    ·have:=(o1.lt ek).2.1
     omega
   clear h he hq hl
   generalize m.lb=lb at *
   generalize (b:Int)=bi at *
   go_enter Tryz.func140,Tryz.ntmps140
   go_wp2_with (first | (go_at_call 185;refine(ah K1).mono ?_;rintro e w' ⟨rfl,rfl⟩;clear K1) | (go_at_call 209;refine(ah KI).mono ?_;rintro e w1 ⟨v,rfl,Y⟩;obtain⟨lr,KC⟩:=ah KL v w1 (ah Y);have c2':=ah HC v w1 (ah Y);clear KI KL Y lk c16 c2 HC) | (go_at_call 210;refine(ah KC).mono ?_;rintro e w' ⟨a,c,rfl,Z⟩;clear KC))
   go_ret2
   exact⟨a,c,rfl,Z⟩
def Cac.cl (C:Cac) (b:Nat) (zs:List Int):Cac:=match C.L b with | some l=>C.set b ⟨zs,false,l.p⟩ | none=>C
def Cac.dr (C:Cac) (b:Nat):Cac:=match C.L b with | some l=>if 0<l.p then C else C.del b | none=>C
theorem ad3 (g dg b:Nat)(S:Nat->Prop)(C:Cac)(D:Dev)(w:World)(h:Kv w S g dg C D)(hb:b<D.n) :
  Calls Tryz.prog 129 #[.pointer (some ⟨g,0,none⟩),.int .i64 b] w fun e w'=>∃ eE,e=.returned (.int .i64 eE)/\∃ S',Kv w' S' g dg (C.dr b) D/\Nx S w S' w':=by
 unfold Cac.dr
 cases hl:C.L b with
 | some l =>
  simp only
  by_cases hp:0<l.p
  ·rw[if_pos hp]
   refine(aee g dg b l S C D w h hb hl hp).mono ?_
   rintro e w' ⟨rfl,rfl⟩
   exact⟨_,rfl,S,h,Nx.refl _ _⟩
  ·rw[if_neg hp]
   refine(aed g dg b l S C D w h hb hl hp).mono ?_
   rintro e w' ⟨rfl,S',k,x⟩
   exact⟨_,rfl,S',k,x⟩
 | none =>
  refine(ahT g dg b S C D w h hb hl).mono ?_
  rintro e w' ⟨rfl,rfl⟩
  exact⟨_,rfl,S,h,Nx.refl _ _⟩
def alz:Wl->Cac->Cac
 | [],C=>C
 | x::r,C=>alz r (C.cl x.1 x.2)
def alp (G:Geo) (C:Cac) (L:Lg) (D:Dev):Cac:=if aic G L D=0 then alz (ig G L.Q) C else C
def coE (C:Cac) (D:Dev):Int:=ale (C.those D.n aea) C D
def coC (C:Cac) (D:Dev):Cac:=alg (C.those D.n aea) C D
def coD (C:Cac) (D:Dev):Dev:=alf (C.those D.n aea) C D
def vOf (G:Geo) (W:Wl):List Wr:=W.map (fun x=>⟨(x.1:Int),none,G.blk,0,x.2⟩)
def cmm (G:Geo) (X:Grp) (C:Cac) (L:Lg) (D:Dev):Int×Cac×Lg×Dev :=
 if coE C D≠0 then (coE C D,coC C D,L,coD C D)
 else if (bD G X.Q).length=0 then ((coD C D).wE,coC C D,L,(coD C D).fD)
 else if G.lg - L.h.used<G.uses (bD G X.Q).length then
  (if aic G L (coD C D)≠0 then (aic G L (coD C D),alp G (coC C D) L (coD C D),ags G L (coD C D),agt G L (coD C D))
   else (als G (ags G L (coD C D)) (vOf G (ig G X.Q)) (agt G L (coD C D)),alp G (coC C D) L (coD C D),alr G (ags G L (coD C D)) (vOf G (ig G X.Q)) (agt G L (coD C D)),alu G (ags G L (coD C D)) (vOf G (ig G X.Q)) (agt G L (coD C D))))
 else (als G L (vOf G (ig G X.Q)) (coD C D),coC C D,alr G L (vOf G (ig G X.Q)) (coD C D),alu G L (vOf G (ig G X.Q)) (coD C D))
def Grp.clr (X:Grp):Grp:={ X with Q:=fun _=>none,F:=fun _=>false }
def ntZ (N:Nat->Option Nt) (b:Nat):List Int:=match N b with | some t=>t.z | none=>[]
def ahk (N:Nat->Option Nt):List Nat->Cac->Dev->Int
 | [],_,_=>0
 | b::r,C,D=>if C.ptE D b=0 then ahk N r (C.ptC D b (ntZ N b)) (C.ptD D b) else C.ptE D b
def air (N:Nat->Option Nt):List Nat->Cac->Dev->Cac
 | [],C,_=>C
 | b::r,C,D=>if C.ptE D b=0 then air N r (C.ptC D b (ntZ N b)) (C.ptD D b) else C.ptC D b (ntZ N b)
def aiq (N:Nat->Option Nt):List Nat->Cac->Dev->Dev
 | [],_,D=>D
 | b::r,C,D=>if C.ptE D b=0 then aiq N r (C.ptC D b (ntZ N b)) (C.ptD D b) else C.ptD D b
def mY (N:Nat->Option Nt):List Nat->(Nat->Option (List Int))->(Nat->Option (List Int))
 | [],Q=>Q
 | b::r,Q=>mY N r (fun j=>if j=b then some (ntZ N b) else Q j)
def uF:List Nat->Cac->Cac
 | [],C=>C
 | b::r,C=>uF r (C.dr b)
def zF:List Nat->(Nat->Option (List Int))->(Nat->Option (List Int))
 | [],Q=>Q
 | b::r,Q=>zF r (fun j=>if j=b then none else Q j)
def adR:List Nat->(Nat->Bool)->(Nat->Bool)
 | [],F=>F
 | b::r,F=>adR r (fun j=>if j=b then true else F j)
def enR (G:Geo) (X:Grp) (N:Nat->Option Nt) (C:Cac) (L:Lg) (D:Dev):Int×Grp×Cac×Lg×Dev :=
 if G.lg<G.uses ((bD G X.Q).length+(aO (isM N X.Q) G.n).length) then ((cmm G X C L D).1,(if (cmm G X C L D).1=0 then X.clr else X),(cmm G X C L D).2.1,(cmm G X C L D).2.2.1,(cmm G X C L D).2.2.2) else (0,X,C,L,D)
def enT (G:Geo) (X:Grp) (N:Nat->Option Nt) (C:Cac) (L:Lg) (D:Dev):Int×Grp×Cac×Lg×Dev :=
 if ahk N (aO (isK N 2) G.n) C D≠0 then (ahk N (aO (isK N 2) G.n) C D,{ X with N:=none },air N (aO (isK N 2) G.n) C D,L,aiq N (aO (isK N 2) G.n) C D)
 else (0,{ X with Q:=zF (aO (isK N 3) G.n) (mY N (aO (isK N 1) G.n) X.Q),F:=adR (aO (isK N 3) G.n) X.F,N:=none },uF (aO (isK N 3) G.n) (air N (aO (isK N 2) G.n) C D),L,aiq N (aO (isK N 2) G.n) C D)
def aeC (G:Geo) (X:Grp) (N:Nat->Option Nt) (C:Cac) (L:Lg) (D:Dev):Int×Grp×Cac×Lg×Dev :=
 if G.lg<G.uses (aO (isK N 1) G.n).length then (5,{ X with N:=none },C,L,D)
 else if (enR G X N C L D).1≠0 then ((enR G X N C L D).1,{ (enR G X N C L D).2.1 with N:=none },(enR G X N C L D).2.2.1,(enR G X N C L D).2.2.2.1,(enR G X N C L D).2.2.2.2)
 else enT G (enR G X N C L D).2.1 N (enR G X N C L D).2.2.1 (enR G X N C L D).2.2.2.1 (enR G X N C L D).2.2.2.2
theorem Out.nxi {S S':Nat->Prop}{w w':World}{a len zs}(h:iK w a len zs)(hx:Nx S w S' w')(ho:Out S len a):Out S' len a:=fun hp x e hs=>by
 obtain⟨b,off,e2,_⟩:=h.2 hp
 rw[e] at e2
 cases e2
 exact ho hp _ e (hx.sub _ (h.lt hp e) hs)
def Ls (w:World) (S:Nat->Prop) (a:Option Addr) (zs:List Int):Prop:=iK w a zs.length zs/\Out S zs.length a
theorem Ls.nx {S S':Nat->Prop}{w w':World}{a zs}(h:Ls w S a zs)(hx:Nx S w S' w'):Ls w' S' a zs:=⟨h.1.nx hx h.2,Out.nxi h.1 hx h.2⟩
theorem Ls.of {B w}{S:Nat->Prop}{a:Option Addr}{n c:Nat}{zs}(h:Gr B w (.slice a n c) zs)(hB:∀ k,S k->k<B):n=zs.length/\Ls w S a zs:=by
 obtain⟨hi,hn⟩:=adJ h
 subst hn
 refine⟨rfl,hi,fun hp x e hs=>?_⟩
 have h2:B<=x.block:=by
  obtain⟨_,h2⟩:=h
  rcases h2 with ⟨e2,h0⟩ | ⟨g,cap,cur,e2,hb,_⟩
  ·omega
  ·cases e2
   cases e
   exact hb
 have:=hB _ hs
 omega
theorem Ls.at {w S a}{l:List Nat}(h:Ls w S a (l.map (fun b:Nat=>(b:Int)))){k:Nat}(hk:k<l.length):∃ kb off b,a=some ⟨kb,off,none⟩/\w.cell? ⟨kb,off+k,none⟩=some (.int .i64 ((b:Nat):Int))/\l[k]?=some b:=by
 obtain⟨h1,h2⟩:=h
 rw[List.length_map] at h1
 obtain⟨kb,off,e,hc⟩:=h1.2 (by omega)
 refine⟨kb,off,l[k],e,?_,List.getElem?_eq_getElem hk⟩
 rw[hc k hk]
 simp[List.getElem?_eq_getElem hk]
structure EnV (u:World) (S:Nat->Prop) (g cg lg dg:Nat) (P:Nat->Int) (G:Geo) (X:Grp) (C:Cac) (L:Lg) (D:Dev) (bx:Nat) (a6:Option Addr) (l6:List Int) (w:World) (S':Nat->Prop):Prop where
 gv:Gv w S' g cg lg dg P G X C L D
 nx:Nx S u S' w
 bo:Bl w bx #[.pointer (some ⟨g,0,none⟩)] 26
 bn:¬ S' bx
 ls:Ls w S' a6 l6
theorem EnV.next {u S g cg lg dg P G}{X X':Grp}{C C':Cac}{L L':Lg}{D D':Dev}{bx a6 l6}{w w':World}{S' S2:Nat->Prop}(h:EnV u S g cg lg dg P G X C L D bx a6 l6 w S')(hg:Gv w' S2 g cg lg dg P G X' C' L' D')(hx:Nx S' w S2 w'):EnV u S g cg lg dg P G X' C' L' D' bx a6 l6 w' S2:=by
 obtain⟨k1,k2,_⟩:=hx.keep h.bo.lt h.bn
 exact⟨hg,h.nx.trans hx,k1.trans h.bo,k2,h.ls.nx hx⟩
theorem EnV.below {u S g cg lg dg P G X C L D bx a6 l6}{w w':World}{S'}(h:EnV u S g cg lg dg P G X C L D bx a6 l6 w S')(hb:Below w.heap.size w w'):EnV u S g cg lg dg P G X C L D bx a6 l6 w' S' :=
 h.next (h.gv.below hb) ((Nx.refl S' w).below' hb)
theorem Gv.gr {u S g cg lg dg P G X C L D}(h:Gv u S g cg lg dg P G X C L D):∃ Sg m,GrM u Sg g dg lg cg P G X m/\∀ k,Sg k->S k:=by
 obtain⟨Sg,Sc,Sl,Sd,m,mk,ml,h⟩:=h
 exact⟨Sg,m,h.gr,fun k hk=>(h.all k).2 (.inl hk)⟩
theorem agh {u S g cg lg dg P G X C L D}(h:Gv u S g cg lg dg P G X C L D){N:Nat->Option Nt}(eN:X.N=some N) :
  u.cell? ⟨X.o,0,none⟩=some (.pointer (some ⟨g,0,none⟩))/\Hid (Calls Tryz.prog 68 #[.pointer (some ⟨X.o,0,none⟩),.func (.func 69) #[] #[]] (u.alloc (zC g 26)) fun e w2=>∃ a6 c6,e=.returned (.slice a6 (aO (isK N 1) G.n).length c6) /\
   Hid (Calls Tryz.prog 68 #[.pointer (some ⟨X.o,0,none⟩),.func (.func 70) #[] #[.pointer (some ⟨u.heap.size,0,none⟩)]] w2 fun e w3=>∃ a7 c7,e=.returned (.slice a7 (aO (isM N X.Q) G.n).length c7)/\Hid (∃ S',EnV u S g cg lg dg P G X C L D u.heap.size a6 (nN (isK N 1) G.n) w3 S'))):=by
 have b1:Below u.heap.size u (u.alloc (zC g 26)):=(Below.refl _ _).alloc (Nat.le_refl _) _
 have BX:=Bl.new u #[.pointer (some ⟨g,0,none⟩)] 26
 have hlt:∀ k,S k->k<u.heap.size:=fun k hk=>h.lt hk
 obtain⟨Sg,m,hg,hSg⟩:=h.gr
 obtain⟨Sg1,m1,hg1,_⟩:=(h.below b1).gr
 have h1:=h.below b1
 have z1:(u.alloc (zC g 26)).heap.size=u.heap.size+1:=by simp
 generalize u.alloc (zC g 26)=w1 at *
 refine⟨(hg.opn N eN).str.cell (i:=0) (by omega),(aaK hg1 eN).mono ?_⟩
 rintro e w2 ⟨v,rfl,g2,b2⟩
 obtain⟨a6,c6,rfl⟩:=g2.shape
 rw[nV]
 have h2:=h1.below b2
 obtain⟨Sg2,m2,hg2,_⟩:=h2.gr
 have BX2:=BX.call b2
 refine⟨a6,c6,rfl,(aaJ hg2 eN u.heap.size (BX2.cell 0 _ rfl) BX2.lt).mono ?_⟩
 rintro e w3 ⟨v7,rfl,g3,b3⟩
 obtain⟨a7,c7,rfl⟩:=g3.shape
 rw[nV]
 have g2':=g2.later b3
 obtain⟨_,ls⟩:=Ls.of g2' (S:=S) (fun k hk=>by have:=hlt k hk;omega)
 exact⟨a7,c7,rfl,S,h2.below b3,(((Nx.refl S u).below' b1).below' b2).below' b3,BX2.call b3,fun x=>by have:=hlt _ x;omega,ls⟩
theorem EnV.ask {u S g cg lg dg P G X C L D bx a6 l6 w S'}(h:EnV u S g cg lg dg P G X C L D bx a6 l6 w S') :
  ∃ lb,(∀ v,Below w.heap.size w v->Hid (Below w.heap.size w v)/\v.cell? ⟨bx,0,none⟩=some (.pointer (some ⟨g,0,none⟩))/\v.cell? ⟨g,6,none⟩=some (.int .i64 (G.lg:Int))/\v.cell? ⟨g,16,none⟩=some (.map (some lb))/\∀ ty,(Builtin.len_ #[119] ty #[.map (some lb)]).run Tryz.prog v=.ok (.int .i64 ((bD G X.Q).length:Int)) v) /\
   (∀ (n:Nat) v,n<=4096->Below w.heap.size w v->Calls Tryz.prog 71 #[.pointer (some ⟨g,0,none⟩),.int .i64 (n:Int)] v fun e w'=>e=.returned (.int .i64 (G.uses n:Int))/\Hid (Below w.heap.size w w')):=by
 obtain⟨Sg,m,hg,_⟩:=h.gv.gr
 refine⟨m.lb,fun v hv=>?_,fun n v hn hv=>?_⟩
 ·have h1:=h.below hv
  have hgv:=hg.kept (u':=v) (S':=Sg) (fun k hk=>hv.block k (hg.lt k hk)) (fun _ x=>x) (fun k hk=>Nat.lt_of_lt_of_le (hg.lt k hk) hv.size)
  have c6:=hgv.cells.2.2.2.1 3 (by omega)
  rw[hgv.pg.p3] at c6
  exact⟨hv,h1.bo.cell 0 _ rfl,c6,hgv.cells.2.2.2.2.2.1,fun ty=>hgv.log.len ty⟩
 ·have hgv:=hg.kept (u':=v) (S':=Sg) (fun k hk=>hv.block k (hg.lt k hk)) (fun _ x=>x) (fun k hk=>Nat.lt_of_lt_of_le (hg.lt k hk) hv.size)
  refine(adI hgv n hn).mono ?_
  rintro e w' ⟨rfl,hb⟩
  exact⟨rfl,hv.trans (hb.mono hv.size)⟩
theorem EnV.ai3 {u S g cg lg dg P G X C L D bx a6 l6 w S'}(h:EnV u S g cg lg dg P G X C L D bx a6 l6 w S'){N:Nat->Option Nt}(eN:X.N=some N) :
  Calls Tryz.prog 68 #[.pointer (some ⟨X.o,0,none⟩),.func (.func 73) #[] #[]] w fun e w'=>∃ a c,e=.returned (.slice a (aO (isK N 2) G.n).length c)/\Hid (EnV u S g cg lg dg P G X C L D bx a6 l6 w' S'/\Ls w' S' a (nN (isK N 2) G.n)):=by
 obtain⟨Sg,m,hg,_⟩:=h.gv.gr
 refine(aaI hg eN).mono ?_
 rintro e w' ⟨v,rfl,g2,b2⟩
 obtain⟨a,c,rfl⟩:=g2.shape
 obtain⟨hn,ls⟩:=Ls.of g2 (S:=S') (fun k hk=>h.gv.lt hk)
 rw[nV]
 exact⟨a,c,rfl,h.below b2,ls⟩
theorem EnV.ai2 {u S g cg lg dg P G X C L D bx a6 l6 w S'}(h:EnV u S g cg lg dg P G X C L D bx a6 l6 w S'){N:Nat->Option Nt}(eN:X.N=some N) :
  Calls Tryz.prog 68 #[.pointer (some ⟨X.o,0,none⟩),.func (.func 75) #[] #[]] w fun e w'=>∃ a c,e=.returned (.slice a (aO (isK N 3) G.n).length c)/\Hid (EnV u S g cg lg dg P G X C L D bx a6 l6 w' S'/\Ls w' S' a (nN (isK N 3) G.n)):=by
 obtain⟨Sg,m,hg,_⟩:=h.gv.gr
 refine(aaH hg eN).mono ?_
 rintro e w' ⟨v,rfl,g2,b2⟩
 obtain⟨a,c,rfl⟩:=g2.shape
 obtain⟨hn,ls⟩:=Ls.of g2 (S:=S') (fun k hk=>h.gv.lt hk)
 rw[nV]
 exact⟨a,c,rfl,h.below b2,ls⟩
structure EnP (u:World) (S:Nat->Prop) (g cg lg dg:Nat) (P:Nat->Int) (G:Geo) (X:Grp) (N:Nat->Option Nt) (L:Lg) (bx:Nat) (a6:Option Addr) (l6:List Int) (a3:Option Addr) (eE:Int) (eC:Cac) (eD:Dev) (k:Nat) (w:World) (S':Nat->Prop) (C:Cac) (D:Dev):Prop where
 en:EnV u S g cg lg dg P G X C L D bx a6 l6 w S'
 ls:Ls w S' a3 (nN (isK N 2) G.n)
 rE:ahk N ((aO (isK N 2) G.n).drop k) C D=eE
 rC:air N ((aO (isK N 2) G.n).drop k) C D=eC
 rD:aiq N ((aO (isK N 2) G.n).drop k) C D=eD
theorem ajb {N}{k b:Nat}(h:isK N k b=true):∃ t,N b=some t/\t.k=k/\ntZ N b=t.z:=by
 obtain⟨t,e,hk⟩:=jI h
 exact⟨t,e,hk,by simp[ntZ,e]⟩
theorem EnP.step {u S g cg lg dg P G X N L bx a6 l6 a3 eE eC eD k w S' C D}(h:EnP u S g cg lg dg P G X N L bx a6 l6 a3 eE eC eD k w S' C D)(eN:X.N=some N)(hk:k<(aO (isK N 2) G.n).length) :
  ∃ kb off b,a3=some ⟨kb,off,none⟩/\w.cell? ⟨kb,off+k,none⟩=some (.int .i64 ((b:Nat):Int))/\w.cell? ⟨bx,0,none⟩=some (.pointer (some ⟨g,0,none⟩))/\w.cell? ⟨g,2,none⟩=some (.pointer (some ⟨cg,0,none⟩))/\∃ nb r1 r2,w.cell? ⟨X.o,1,none⟩=some (.map (some nb)) /\
   (Instr.lookup 133 (.map (some nb)) (.int .i64 (b:Int)) false).run Tryz.prog w.drew=.ok (.agg #[.int .i64 2,.slice (some ⟨r1,0,none⟩) G.blk r2]) w.drew /\
   Hid (Calls Tryz.prog 74 #[.pointer (some ⟨cg,0,none⟩),.int .i64 (b:Int),.slice (some ⟨r1,0,none⟩) G.blk r2] w.drew fun e w2=>∃ e2,e=.returned (.int .i64 e2)/\(e2=0->Hid (∃ S2 C2 D2,EnP u S g cg lg dg P G X N L bx a6 l6 a3 eE eC eD (k+1) w2 S2 C2 D2))/\(e2≠0->Hid (e2=eE/\∃ S2,EnV u S g cg lg dg P G X eC L eD bx a6 l6 w2 S2))):=by
 obtain⟨kb,off,b,ea,c1,hb⟩:=h.ls.at hk
 obtain⟨hbn,hbk⟩:=kQ.1 (List.mem_of_getElem? hb)
 obtain⟨t,et,tk,tz⟩:=ajb hbk
 obtain⟨Sg,Sc,Sl,Sd,m,mk,ml,z⟩:=h.en.gv
 have z1:=z.below ((Below.refl _ w).drew)
 have hG:=z.gr.pg.ok
 have hbb:=hG.blk
 have o1:=z.gr.opn N eN
 have o2:=z1.gr.opn N eN
 have lk:=o2.nts.at hG.n2 hbn et
 unfold nv at lk
 simp only[tk] at lk
 have hrow:=o2.nts.row b t hbn et (by omega)
 have hd:(aO (isK N 2) G.n).drop k=b::(aO (isK N 2) G.n).drop (k+1):=by
  rw[List.drop_eq_getElem_cons hk]
  congr 1
  rw[List.getElem?_eq_getElem hk] at hb
  exact Option.some.inj hb
 have rE:=h.rE
 have rC:=h.rC
 have rD:=h.rD
 rw[hd] at rE rC rD
 unfold ahk at rE
 unfold air at rC
 unfold aiq at rD
 refine⟨kb,off,b,ea,c1,h.en.bo.cell 0 _ rfl,z.gr.cells.2.2.1,m.nb,(m.NA b).1,(m.NA b).2,o1.str.cell (i:=1) (by omega),lk,?_⟩
 have hr:Row w.drew.heap.size w.drew (some ⟨(m.NA b).1,0,none⟩) D.blk (m.NA b).2 t.z:=by
  rw[z1.bd]
  exact hrow.row (by omega)
 have hput:=afA cg dg b ⟨(m.NA b).1,0,none⟩ (m.NA b).2 t.z _ C D w.drew z1.kv.kv (by rw[z1.nd];exact hbn) hr (fun _ x ex=>by
  cases ex
  intro hs
  rcases hs with hs | hs
  ·exact z1.gc _ hrow.mem hs
  ·exact z1.gd _ hrow.mem hs)
 rw[z1.bd] at hput
 refine hput.mono ?_
 rintro e w2 ⟨rfl,S1,k1,x1⟩
 obtain⟨S2,Sc2,Sd2,mk2,a2,x2,_⟩:=z1.cache k1 x1 (akk C D b)
 have e2:EnV u S g cg lg dg P G X (C.ptC D b t.z) L (C.ptD D b) bx a6 l6 w2 S2:=(h.en.below ((Below.refl _ w).drew)).next a2.gv x2
 have l2:Ls w2 S2 a3 (nN (isK N 2) G.n):=(h.ls.nx ((Nx.refl S' w).below' ((Below.refl _ w).drew))).nx x2
 rw[tz] at rE rC rD
 refine⟨_,rfl,fun h0=>?_,fun h0=>?_⟩
 ·rw[if_pos h0] at rE rC rD
  exact⟨S2,_,_,e2,l2,rE,rC,rD⟩
 ·rw[if_neg h0] at rE rC rD
  rw[← rE,← rC,← rD]
  exact⟨rfl,S2,e2⟩
structure EnQ (u:World) (S:Nat->Prop) (g cg lg dg:Nat) (P:Nat->Int) (G:Geo) (X:Grp) (N:Nat->Option Nt) (C:Cac) (L:Lg) (D:Dev) (bx:Nat) (a6:Option Addr) (eQ:Nat->Option (List Int)) (k:Nat) (w:World) (S':Nat->Prop) (Q:Nat->Option (List Int)):Prop where
 en:EnV u S g cg lg dg P G { X with Q:=Q } C L D bx a6 (nN (isK N 1) G.n) w S'
 rQ:mY N ((aO (isK N 1) G.n).drop k) Q=eQ
theorem EnQ.step {u S g cg lg dg P G X N C L D bx a6 eQ k w S' Q}(h:EnQ u S g cg lg dg P G X N C L D bx a6 eQ k w S' Q)(eN:X.N=some N)(hk:k<(aO (isK N 1) G.n).length) :
  ∃ kb off b,a6=some ⟨kb,off,none⟩/\w.cell? ⟨kb,off+k,none⟩=some (.int .i64 ((b:Nat):Int))/\w.cell? ⟨bx,0,none⟩=some (.pointer (some ⟨g,0,none⟩))/\∃ lb nb r1 r2,w.cell? ⟨g,16,none⟩=some (.map (some lb))/\w.cell? ⟨X.o,1,none⟩=some (.map (some nb)) /\
   (Instr.lookup 133 (.map (some nb)) (.int .i64 (b:Int)) false).run Tryz.prog w.drew=.ok (.agg #[.int .i64 1,.slice (some ⟨r1,0,none⟩) G.blk r2]) w.drew /\
   ∃ w2,(Instr.mapUpdate 119 (.map (some lb)) (.int .i64 (b:Int)) (.slice (some ⟨r1,0,none⟩) G.blk r2)).run Tryz.prog w.drew=.ok () w2/\Hid (∃ S2 Q2,EnQ u S g cg lg dg P G X N C L D bx a6 eQ (k+1) w2 S2 Q2):=by
 obtain⟨kb,off,b,ea,c1,hb⟩:=h.en.ls.at hk
 obtain⟨hbn,hbk⟩:=kQ.1 (List.mem_of_getElem? hb)
 obtain⟨t,et,tk,tz⟩:=ajb hbk
 obtain⟨Sg,Sc,Sl,Sd,m,mk,ml,z⟩:=h.en.gv
 have z1:=z.below ((Below.refl _ w).drew)
 have hG:=z.gr.pg.ok
 have o1:=z.gr.opn N eN
 have o2:=z1.gr.opn N eN
 have lk:=o2.nts.at hG.n2 hbn et
 unfold nv at lk
 simp only[tk] at lk
 have hrow:=o2.nts.row b t hbn et (by omega)
 have hd:(aO (isK N 1) G.n).drop k=b::(aO (isK N 1) G.n).drop (k+1):=by
  rw[List.drop_eq_getElem_cons hk]
  congr 1
  rw[List.getElem?_eq_getElem hk] at hb
  exact Option.some.inj hb
 have rQ:=h.rQ
 rw[hd] at rQ
 unfold mY at rQ
 obtain⟨w2,r2,l2,T⟩:=z1.gr.log.put hG.n2 hbn hrow
 have g2:=z1.gr.alj T l2
 obtain⟨S2,a2,x2,_⟩:=z1.own g2 (T.nx z1.gr.log.sm) z1.seen
 refine⟨kb,off,b,ea,c1,h.en.bo.cell 0 _ rfl,m.lb,m.nb,(m.NA b).1,(m.NA b).2,z.gr.cells.2.2.2.2.2.1,o1.str.cell (i:=1) (by omega),lk,w2,r2,S2,_,(h.en.below ((Below.refl _ w).drew)).next a2.gv x2,?_⟩
 rw[tz] at rQ
 exact rQ
theorem afO {u S g cg lg dg P G X C L D}(h:Gv u S g cg lg dg P G X C L D){b:Nat}(hb:b<G.n) :
  Calls Tryz.prog 76 #[.pointer (some ⟨g,0,none⟩),.int .i64 (b:Int)] u fun e w'=>e=.returned (.tuple #[])/\Hid (∃ S',Gv w' S' g cg lg dg P G { X with Q:=fun j=>if j=b then none else X.Q j,F:=fun j=>if j=b then true else X.F j } (C.dr b) L D/\Nx S u S' w'):=by
 obtain⟨Sg,Sc,Sl,Sd,m,mk,ml,h⟩:=h
 have hn:=h.gr.pg.ok.n2
 have c2:=h.gr.cells.2.2.1
 have KD:Hid (Calls Tryz.prog 129 #[.pointer (some ⟨cg,0,none⟩),.int .i64 (b:Int)] u fun e w1=>∃ eE,e=.returned (.int .i64 eE)/\w1.cell? ⟨g,16,none⟩=some (.map (some m.lb))/\∃ w2,Hid (∀ ty,(Builtin.delete_ #[119,3] ty #[.map (some m.lb),.int .i64 (b:Int)]).run Tryz.prog w1=.ok (.tuple #[]) w2)/\w2.cell? ⟨g,17,none⟩=some (.map (some m.fb))/\∃ w3,Hid ((Instr.mapUpdate 126 (.map (some m.fb)) (.int .i64 (b:Int)) (.agg #[])).run Tryz.prog w2=.ok () w3) /\
   Hid (∃ S',Gv w3 S' g cg lg dg P G { X with Q:=fun j=>if j=b then none else X.Q j,F:=fun j=>if j=b then true else X.F j } (C.dr b) L D/\Nx S u S' w3)):=by
  refine(ad3 cg dg b _ C D u h.kv.kv (by rw[h.nd];exact hb)).mono ?_
  rintro e w1 ⟨eE,rfl,S1,k1,x1⟩
  obtain⟨S2,Sc2,Sd2,mk2,a2,x2,_⟩:=h.cache k1 x1 ⟨rfl,rfl⟩
  obtain⟨w2,r2,l2,T2⟩:=a2.gr.log.del hn hb
  have g2:=a2.gr.alj T2 l2
  obtain⟨w3,r3,l3,T3⟩:=g2.fre.put hn hb
  have g3:=g2.am6 T3 l3
  obtain⟨S3,a3,x3,_⟩:=a2.own g3 ((T2.nx a2.gr.log.sm).trans (T3.nx g2.fre.sm)) a2.seen
  exact⟨eE,rfl,a2.gr.cells.2.2.2.2.2.1,w2,r2,g2.cells.2.2.2.2.2.2.1,w3,r3,S3,a3.gv,x2.trans x3⟩
 clear h hn
 generalize m.lb=lb at *
 generalize m.fb=fb at *
 generalize { X with Q:=fun j=>if j=b then none else X.Q j,F:=fun j=>if j=b then true else X.F j }=X' at *
 generalize C.dr b=C' at *
 generalize (b:Int)=bi at *
 go_enter Tryz.func76,Tryz.ntmps76
 go_wp2_with fail
 go_at_call 129
 refine(ah KD).mono ?_
 rintro e w1 ⟨eE,rfl,x1,w2,r2,x2,w3,r3,Z⟩
 clear KD c2
 go_wp2_with (first | (at_delete;refine fA 119 3 rfl _ _ rfl _ _ rfl rfl (ah r2) ?_;clear r2) | (at_mapUpdate;refine dJ 126 rfl _ _ _ rfl _ _ _ rfl rfl rfl (ah r3) ?_;clear r3))
 go_end0
 exact⟨rfl,Z⟩
structure EnF (u:World) (S:Nat->Prop) (g cg lg dg:Nat) (P:Nat->Int) (G:Geo) (X:Grp) (N:Nat->Option Nt) (L:Lg) (D:Dev) (bx:Nat) (a6:Option Addr) (l6:List Int) (a4:Option Addr) (eQ:Nat->Option (List Int)) (eF:Nat->Bool) (eC:Cac) (k:Nat) (w:World) (S':Nat->Prop) (Q:Nat->Option (List Int)) (F:Nat->Bool) (C:Cac):Prop where
 en:EnV u S g cg lg dg P G { X with Q:=Q,F:=F } C L D bx a6 l6 w S'
 ls:Ls w S' a4 (nN (isK N 3) G.n)
 rQ:zF ((aO (isK N 3) G.n).drop k) Q=eQ
 rF:adR ((aO (isK N 3) G.n).drop k) F=eF
 rC:uF ((aO (isK N 3) G.n).drop k) C=eC
theorem EnF.step {u S g cg lg dg P G X N L D bx a6 l6 a4 eQ eF eC k w S' Q F C}(h:EnF u S g cg lg dg P G X N L D bx a6 l6 a4 eQ eF eC k w S' Q F C)(hk:k<(aO (isK N 3) G.n).length) :
  ∃ kb off b,a4=some ⟨kb,off,none⟩/\w.cell? ⟨kb,off+k,none⟩=some (.int .i64 ((b:Nat):Int))/\w.cell? ⟨bx,0,none⟩=some (.pointer (some ⟨g,0,none⟩)) /\
   Hid (Calls Tryz.prog 76 #[.pointer (some ⟨g,0,none⟩),.int .i64 (b:Int)] w fun e w2=>e=.returned (.tuple #[])/\Hid (∃ S2 Q2 F2 C2,EnF u S g cg lg dg P G X N L D bx a6 l6 a4 eQ eF eC (k+1) w2 S2 Q2 F2 C2)):=by
 obtain⟨kb,off,b,ea,c1,hb⟩:=h.ls.at hk
 obtain⟨hbn,hbk⟩:=kQ.1 (List.mem_of_getElem? hb)
 have hd:(aO (isK N 3) G.n).drop k=b::(aO (isK N 3) G.n).drop (k+1):=by
  rw[List.drop_eq_getElem_cons hk]
  congr 1
  rw[List.getElem?_eq_getElem hk] at hb
  exact Option.some.inj hb
 have rQ:=h.rQ
 have rF:=h.rF
 have rC:=h.rC
 rw[hd] at rQ rF rC
 unfold zF at rQ
 unfold adR at rF
 unfold uF at rC
 refine⟨kb,off,b,ea,c1,h.en.bo.cell 0 _ rfl,(afO h.en.gv hbn).mono ?_⟩
 rintro e w2 ⟨rfl,Y⟩
 obtain⟨S2,g2,x2⟩:=ah Y
 exact⟨rfl,S2,_,_,_,h.en.next g2 x2,h.ls.nx x2,rQ,rF,rC⟩
theorem afU (w:World)(k:Int)(a:Option Addr)(n c:Nat):(Instr.field 143 (.agg #[.int .i64 k,.slice a n c]) 1).run Tryz.prog w=.ok (.slice a n c) w:=by kernel_rfl
theorem afV (w:World)(k:Int)(a:Option Addr)(n c:Nat):(Instr.field 143 (.agg #[.int .i64 k,.slice a n c]) 0).run Tryz.prog w=.ok (.int .i64 k) w:=by kernel_rfl
theorem aa4 (p q:Nat->Bool):∀ (l:List Nat),(∀ x,¬ (p x=true/\q x=true))->(l.filter p).length+(l.filter q).length<=l.length
 | [],_=>by simp
 | x::r,h=>by
  have ih:=aa4 p q r h
  have hx:=h x
  cases hp:p x<;>cases hq:q x<;>simp[hp,hq] at hx ⊢<;>omega
def EnS (u:World) (S:Nat->Prop) (g cg lg dg:Nat) (P:Nat->Int) (G:Geo) (o:Nat) (R:Int×Grp×Cac×Lg×Dev) (eE:Int) (w':World):Prop :=
 eE=R.1/\∃ X' S',X'.o=o/\(∃ N',X'.N=some N')/\R.2.1={ X' with N:=none }/\Gv w' S' g cg lg dg P G X' R.2.2.1 R.2.2.2.1 R.2.2.2.2/\Nx S u S' w'
def EnJ (u:World) (S:Nat->Prop) (g cg lg dg:Nat) (P:Nat->Int) (G:Geo) (o:Nat) (R:Int×Grp×Cac×Lg×Dev) (a':Act) (w':World):Prop :=
 ∃ eE:Int,EnS u S g cg lg dg P G o R eE w'/\∃ f:Nat->Value,a'={ tmps:=#[.pointer (some ⟨o,0,none⟩),f 1,f 2,f 3,f 4,.int .i64 eE,f 6,f 7,f 8,f 9,f 10,f 11,f 12,f 13,f 14,f 15,f 16,f 17,f 18,f 19,f 20,f 21,f 22,f 23,f 24,f 25,f 26,f 27,f 28,f 29,f 30,f 31,f 32,f 33,f 34,f 35,f 36,f 37,f 38,f 39,f 40,f 41,f 42,f 43,f 44,f 45,f 46,f 47,f 48,f 49,f 50,f 51,f 52,f 53,f 54,f 55,f 56,f 57,f 58,f 59,f 60,f 61,f 62,f 63,f 64,f 65,f 66,f 67,f 68,f 69,f 70,f 71,f 72,f 73,f 74,f 75,f 76,f 77,f 78,f 79,f 80,f 81,f 82,f 83,f 84,f 85,f 86,f 87,f 88,f 89,f 90,f 91,f 92,f 93,f 94,f 95,f 96,f 97,f 98,f 99,f 100,f 101,f 102,f 103,f 104,f 105,f 106,f 107,f 108,f 109,f 110,f 111,f 112,f 113],defers:=[] }
theorem EnJ.mk {u S g cg lg dg P G o R eE w'}(h:EnS u S g cg lg dg P G o R eE w'){u1 u2 u3 u4 u6 u7 u8 u9 u10 u11 u12 u13 u14 u15 u16 u17 u18 u19 u20 u21 u22 u23 u24 u25 u26 u27 u28 u29 u30 u31 u32 u33 u34 u35 u36 u37 u38 u39 u40 u41 u42 u43 u44 u45 u46 u47 u48 u49 u50 u51 u52 u53 u54 u55 u56 u57 u58 u59 u60 u61 u62 u63 u64 u65 u66 u67 u68 u69 u70 u71 u72 u73 u74 u75 u76 u77 u78 u79 u80 u81 u82 u83 u84 u85 u86 u87 u88 u89 u90 u91 u92 u93 u94 u95 u96 u97 u98 u99 ala akZ akY akX akW u105 akV akU akT akS akR akQ akP akO:Value} :
  EnJ u S g cg lg dg P G o R { tmps:=#[.pointer (some ⟨o,0,none⟩),u1,u2,u3,u4,.int .i64 eE,u6,u7,u8,u9,u10,u11,u12,u13,u14,u15,u16,u17,u18,u19,u20,u21,u22,u23,u24,u25,u26,u27,u28,u29,u30,u31,u32,u33,u34,u35,u36,u37,u38,u39,u40,u41,u42,u43,u44,u45,u46,u47,u48,u49,u50,u51,u52,u53,u54,u55,u56,u57,u58,u59,u60,u61,u62,u63,u64,u65,u66,u67,u68,u69,u70,u71,u72,u73,u74,u75,u76,u77,u78,u79,u80,u81,u82,u83,u84,u85,u86,u87,u88,u89,u90,u91,u92,u93,u94,u95,u96,u97,u98,u99,ala,akZ,akY,akX,akW,u105,akV,akU,akT,akS,akR,akQ,akP,akO],defers:=[] } w':=⟨eE,h,fun k=>[undef,u1,u2,u3,u4,undef,u6,u7,u8,u9,u10,u11,u12,u13,u14,u15,u16,u17,u18,u19,u20,u21,u22,u23,u24,u25,u26,u27,u28,u29,u30,u31,u32,u33,u34,u35,u36,u37,u38,u39,u40,u41,u42,u43,u44,u45,u46,u47,u48,u49,u50,u51,u52,u53,u54,u55,u56,u57,u58,u59,u60,u61,u62,u63,u64,u65,u66,u67,u68,u69,u70,u71,u72,u73,u74,u75,u76,u77,u78,u79,u80,u81,u82,u83,u84,u85,u86,u87,u88,u89,u90,u91,u92,u93,u94,u95,u96,u97,u98,u99,ala,akZ,akY,akX,akW,u105,akV,akU,akT,akS,akR,akQ,akP,akO].getD k undef,rfl⟩
def EnM (u:World) (S:Nat->Prop) (g cg lg dg:Nat) (P:Nat->Int) (G:Geo) (o:Nat) (N:Nat->Option Nt) (R:Int×Grp×Cac×Lg×Dev) (bx:Nat) (a6:Option Addr) (w:World):Prop :=
 ∃ X1 C1 L1 D1 S1,EnV u S g cg lg dg P G X1 C1 L1 D1 bx a6 (nN (isK N 1) G.n) w S1/\X1.N=some N/\X1.o=o/\R=enT G X1 N C1 L1 D1
def EnO (u:World) (S:Nat->Prop) (g cg lg dg:Nat) (P:Nat->Int) (G:Geo) (o:Nat) (N:Nat->Option Nt) (R:Int×Grp×Cac×Lg×Dev) (bx:Nat) (a6:Option Addr) (k:Nat) (w:World):Prop :=
 ∃ X1 C1 L1 D1 eQ S1 Q1,EnQ u S g cg lg dg P G X1 N C1 L1 D1 bx a6 eQ k w S1 Q1/\X1.N=some N/\X1.o=o/\R=(0,{ X1 with Q:=zF (aO (isK N 3) G.n) eQ,F:=adR (aO (isK N 3) G.n) X1.F,N:=none },uF (aO (isK N 3) G.n) C1,L1,D1)
def EnG (u:World) (S:Nat->Prop) (g cg lg dg:Nat) (P:Nat->Int) (G:Geo) (o:Nat) (N:Nat->Option Nt) (R:Int×Grp×Cac×Lg×Dev) (bx:Nat) (a6 a4:Option Addr) (k:Nat) (w:World):Prop :=
 ∃ X1 L1 D1 eQ eF eC S1 Q1 F1 C1,EnF u S g cg lg dg P G X1 N L1 D1 bx a6 (nN (isK N 1) G.n) a4 eQ eF eC k w S1 Q1 F1 C1/\X1.N=some N/\X1.o=o/\R=(0,{ X1 with Q:=eQ,F:=eF,N:=none },eC,L1,D1)
def EnD (u:World) (S:Nat->Prop) (g cg lg dg:Nat) (P:Nat->Int) (G:Geo) (o:Nat) (N:Nat->Option Nt) (R:Int×Grp×Cac×Lg×Dev) (bx:Nat) (a6 a3:Option Addr) (k:Nat) (w:World):Prop :=
 ∃ X1 L1 eE eC eD S1 C1 D1,EnP u S g cg lg dg P G X1 N L1 bx a6 (nN (isK N 1) G.n) a3 eE eC eD k w S1 C1 D1/\X1.N=some N/\X1.o=o/\(eE≠0->R=(eE,{ X1 with N:=none },eC,L1,eD))/\(eE=0->R=(0,{ X1 with Q:=zF (aO (isK N 3) G.n) (mY N (aO (isK N 1) G.n) X1.Q),F:=adR (aO (isK N 3) G.n) X1.F,N:=none },uF (aO (isK N 3) G.n) eC,L1,eD))
theorem EnM.data {u S g cg lg dg P G o N R bx a6 w}(h:EnM u S g cg lg dg P G o N R bx a6 w) :
  Calls Tryz.prog 68 #[.pointer (some ⟨o,0,none⟩),.func (.func 73) #[] #[]] w fun e w'=>∃ a c,e=.returned (.slice a (aO (isK N 2) G.n).length c)/\Hid (EnD u S g cg lg dg P G o N R bx a6 a 0 w'):=by
 obtain⟨X1,C1,L1,D1,S1,hV,hN,ho,hR⟩:=h
 rw[← ho]
 refine(hV.ai3 hN).mono ?_
 rintro e w' ⟨a,c,rfl,Y⟩
 obtain⟨e1,l1⟩:=ah Y
 refine⟨a,c,rfl,X1,L1,_,_,_,S1,C1,D1,⟨e1,l1,rfl,rfl,rfl⟩,hN,rfl,fun hne=>?_,fun h0=>?_⟩
 ·rw[List.drop_zero] at hne ⊢
  rw[hR]
  unfold enT
  rw[if_pos hne]
 ·rw[List.drop_zero] at h0 ⊢
  rw[hR]
  unfold enT
  rw[if_neg (by omega)]
theorem EnD.step {u S g cg lg dg P G o N R bx a6 a3 k w}(h:EnD u S g cg lg dg P G o N R bx a6 a3 k w)(hk:k<(aO (isK N 2) G.n).length) :
  ∃ kb off b,a3=some ⟨kb,off,none⟩/\w.cell? ⟨kb,off+k,none⟩=some (.int .i64 ((b:Nat):Int))/\w.cell? ⟨bx,0,none⟩=some (.pointer (some ⟨g,0,none⟩))/\w.cell? ⟨g,2,none⟩=some (.pointer (some ⟨cg,0,none⟩))/\∃ nb r1 r2,w.cell? ⟨o,1,none⟩=some (.map (some nb)) /\
   (Instr.lookup 133 (.map (some nb)) (.int .i64 (b:Int)) false).run Tryz.prog w.drew=.ok (.agg #[.int .i64 2,.slice (some ⟨r1,0,none⟩) G.blk r2]) w.drew /\
   Hid (Calls Tryz.prog 74 #[.pointer (some ⟨cg,0,none⟩),.int .i64 (b:Int),.slice (some ⟨r1,0,none⟩) G.blk r2] w.drew fun e w2=>∃ e2,e=.returned (.int .i64 e2)/\(e2=0->Hid (EnD u S g cg lg dg P G o N R bx a6 a3 (k+1) w2))/\(e2≠0->Hid (EnS u S g cg lg dg P G o R e2 w2))):=by
 obtain⟨X1,L1,eE,eC,eD,S1,C1,D1,hP,hN,ho,h7,h0⟩:=h
 obtain⟨kb,off,b,ea,c1,c2,c3,nb,r1,r2,c4,lk,KP⟩:=hP.step hN hk
 rw[ho] at c4
 refine⟨kb,off,b,ea,c1,c2,c3,nb,r1,r2,c4,lk,(ah KP).mono ?_⟩
 rintro e w2 ⟨e2,rfl,Z0,Z7⟩
 refine⟨e2,rfl,fun he=>?_,fun he=>?_⟩
 ·obtain⟨S2,C2,D2,hP2⟩:=ah (Z0 he)
  exact⟨X1,L1,eE,eC,eD,S2,C2,D2,hP2,hN,ho,h7,h0⟩
 ·obtain⟨e3,S2,hV⟩:=ah (Z7 he)
  rw[h7 (by omega)]
  exact⟨e3,X1,S2,ho,⟨N,hN⟩,rfl,hV.gv,hV.nx⟩
theorem EnD.done {u:World}{S:Nat->Prop}{g cg lg dg:Nat}{P:Nat->Int}{G:Geo}{o:Nat}{N:Nat->Option Nt}{R:Int×Grp×Cac×Lg×Dev}{bx:Nat}{a6 a3:Option Addr}{w:World}(h:EnD u S g cg lg dg P G o N R bx a6 a3 (aO (isK N 2) G.n).length w):EnO u S g cg lg dg P G o N R bx a6 0 w:=by
 obtain⟨X1,L1,eE,eC,eD,S1,C1,D1,hP,hN,ho,h7,h0⟩:=h
 have rE:=hP.rE
 have rC:=hP.rC
 have rD:=hP.rD
 rw[List.drop_length] at rE rC rD
 unfold ahk at rE
 unfold air at rC
 unfold aiq at rD
 subst rC rD
 refine⟨X1,C1,L1,D1,_,S1,X1.Q,⟨hP.en,rfl⟩,hN,ho,?_⟩
 rw[h0 rE.symm,List.drop_zero]
theorem EnO.step {u S g cg lg dg P G o N R bx a6 k w}(h:EnO u S g cg lg dg P G o N R bx a6 k w)(hk:k<(aO (isK N 1) G.n).length) :
  ∃ kb off b,a6=some ⟨kb,off,none⟩/\w.cell? ⟨kb,off+k,none⟩=some (.int .i64 ((b:Nat):Int))/\w.cell? ⟨bx,0,none⟩=some (.pointer (some ⟨g,0,none⟩))/\∃ lb nb r1 r2,w.cell? ⟨g,16,none⟩=some (.map (some lb))/\w.cell? ⟨o,1,none⟩=some (.map (some nb)) /\
   (Instr.lookup 133 (.map (some nb)) (.int .i64 (b:Int)) false).run Tryz.prog w.drew=.ok (.agg #[.int .i64 1,.slice (some ⟨r1,0,none⟩) G.blk r2]) w.drew /\
   ∃ w2,(Instr.mapUpdate 119 (.map (some lb)) (.int .i64 (b:Int)) (.slice (some ⟨r1,0,none⟩) G.blk r2)).run Tryz.prog w.drew=.ok () w2/\Hid (EnO u S g cg lg dg P G o N R bx a6 (k+1) w2):=by
 obtain⟨X1,C1,L1,D1,eQ,S1,Q1,hQ,hN,ho,hR⟩:=h
 obtain⟨kb,off,b,ea,c1,c2,lb,nb,r1,r2,c3,c4,lk,w2,r3,Z⟩:=hQ.step hN hk
 rw[ho] at c4
 obtain⟨S2,Q2,hQ2⟩:=ah Z
 exact⟨kb,off,b,ea,c1,c2,lb,nb,r1,r2,c3,c4,lk,w2,r3,X1,C1,L1,D1,eQ,S2,Q2,hQ2,hN,ho,hR⟩
theorem EnO.done {u:World}{S:Nat->Prop}{g cg lg dg:Nat}{P:Nat->Int}{G:Geo}{o:Nat}{N:Nat->Option Nt}{R:Int×Grp×Cac×Lg×Dev}{bx:Nat}{a6:Option Addr}{w:World}(h:EnO u S g cg lg dg P G o N R bx a6 (aO (isK N 1) G.n).length w) :
  Calls Tryz.prog 68 #[.pointer (some ⟨o,0,none⟩),.func (.func 75) #[] #[]] w fun e w'=>∃ a c,e=.returned (.slice a (aO (isK N 3) G.n).length c)/\Hid (EnG u S g cg lg dg P G o N R bx a6 a 0 w'):=by
 obtain⟨X1,C1,L1,D1,eQ,S1,Q1,hQ,hN,ho,hR⟩:=h
 subst ho
 have rQ:=hQ.rQ
 rw[List.drop_length] at rQ
 unfold mY at rQ
 subst rQ
 refine(hQ.en.ai2 (show ({ X1 with Q:=Q1 }:Grp).N=some N from hN)).mono ?_
 rintro e w' ⟨a,c,rfl,Y⟩
 obtain⟨e1,l1⟩:=ah Y
 exact⟨a,c,rfl,X1,L1,D1,_,_,_,S1,Q1,X1.F,C1,⟨e1,l1,rfl,rfl,rfl⟩,hN,rfl,by rw[hR,List.drop_zero]⟩
theorem EnG.step {u S g cg lg dg P G o N R bx a6 a4 k w}(h:EnG u S g cg lg dg P G o N R bx a6 a4 k w)(hk:k<(aO (isK N 3) G.n).length) :
  ∃ kb off b,a4=some ⟨kb,off,none⟩/\w.cell? ⟨kb,off+k,none⟩=some (.int .i64 ((b:Nat):Int))/\w.cell? ⟨bx,0,none⟩=some (.pointer (some ⟨g,0,none⟩)) /\
   Hid (Calls Tryz.prog 76 #[.pointer (some ⟨g,0,none⟩),.int .i64 (b:Int)] w fun e w2=>e=.returned (.tuple #[])/\Hid (EnG u S g cg lg dg P G o N R bx a6 a4 (k+1) w2)):=by
 obtain⟨X1,L1,D1,eQ,eF,eC,S1,Q1,F1,C1,hF,hN,ho,hR⟩:=h
 obtain⟨kb,off,b,ea,c1,c2,KF⟩:=hF.step hk
 refine⟨kb,off,b,ea,c1,c2,(ah KF).mono ?_⟩
 rintro e w2 ⟨rfl,Z⟩
 obtain⟨S2,Q2,F2,C2,hF2⟩:=ah Z
 exact⟨rfl,X1,L1,D1,eQ,eF,eC,S2,Q2,F2,C2,hF2,hN,ho,hR⟩
theorem EnG.done {u:World}{S:Nat->Prop}{g cg lg dg:Nat}{P:Nat->Int}{G:Geo}{o:Nat}{N:Nat->Option Nt}{R:Int×Grp×Cac×Lg×Dev}{bx:Nat}{a6 a4:Option Addr}{w:World}(h:EnG u S g cg lg dg P G o N R bx a6 a4 (aO (isK N 3) G.n).length w):EnS u S g cg lg dg P G o R 0 w:=by
 obtain⟨X1,L1,D1,eQ,eF,eC,S1,Q1,F1,C1,hF,hN,ho,hR⟩:=h
 have rQ:=hF.rQ
 have rF:=hF.rF
 have rC:=hF.rC
 rw[List.drop_length] at rQ rF rC
 unfold zF at rQ
 unfold adR at rF
 unfold uF at rC
 subst rQ rF rC
 rw[hR]
 exact⟨rfl,{ X1 with Q:=Q1,F:=F1 },S1,ho,⟨N,hN⟩,rfl,hF.en.gv,hF.en.nx⟩
theorem abn {u S g cg lg dg P G X C L D}(h:Gv u S g cg lg dg P G X C L D){N:Nat->Option Nt}(eN:X.N=some N){b:Nat}(hb:b<G.n){t:Nt}(et:N b=some t)(hk:t.k=1\/t.k=2) :
  Calls Tryz.prog 85 #[.pointer (some ⟨X.o,0,none⟩),.int .i64 (b:Int)] u fun e w'=>∃ a c,e=.returned (.tuple #[.slice a G.blk c,.int .i64 0])/\Hid (∃ S',Own u.heap.size w' a G.blk c t.z/\Gv w' S' g cg lg dg P G X C L D/\Nx S u S' w'/\∀ k,a=some ⟨k,0,none⟩->¬ S' k):=by
 obtain⟨Sg,Sc,Sl,Sd,m,mk,ml,z⟩:=h
 have K1:=hide (bZ z.gr eN)
 have hG:=z.gr.pg.ok
 have hbk:=hG.blk
 have o1:=z.gr.opn N eN
 have c1:u.cell? ⟨X.o,1,none⟩=some (.map (some m.nb)):=o1.str.cell (i:=1) (by omega)
 have lk:=o1.nts.at hG.n2 hb et
 have e3:¬ t.k=3:=by omega
 unfold nv at lk
 simp only[if_neg e3] at lk
 unfold rv at lk
 have hrow:=o1.nts.row b t hb et e3
 have B0:Below u.heap.size u (u.alloc (.cells #[.int .i64 (t.k:Int),.slice (some ⟨(m.NA b).1,0,none⟩) G.blk (m.NA b).2] 143)):=(Below.refl _ _).alloc (Nat.le_refl _) _
 have BX:=hide (Bl.new u #[.int .i64 (t.k:Int),.slice (some ⟨(m.NA b).1,0,none⟩) G.blk (m.NA b).2] 143)
 have KC:Hid (Calls Tryz.prog 128 #[.slice (some ⟨(m.NA b).1,0,none⟩) G.blk (m.NA b).2] (u.alloc (.cells #[.int .i64 (t.k:Int),.slice (some ⟨(m.NA b).1,0,none⟩) G.blk (m.NA b).2] 143)) fun e w'=>∃ a c,e=.returned (.slice a G.blk c)/\Hid (∃ S',Own u.heap.size w' a G.blk c t.z/\Gv w' S' g cg lg dg P G X C L D/\Nx S u S' w'/\∀ k,a=some ⟨k,0,none⟩->¬ S' k)):=by
  refine(qy ((hrow.row (by omega)).has.later B0) (by omega)).mono ?_
  rintro e w' ⟨a,c,rfl,Y⟩
  obtain⟨ow,b1⟩:=ah Y
  have bb:=B0.trans (b1.mono B0.size)
  refine⟨a,c,rfl,S,ow.base B0.size,(z.below bb).gv,(Nx.refl S u).below' bb,fun k ek hs=>?_⟩
  have:=z.lt hs
  have:=(ow.base B0.size).lt ek
  omega
 have hkk:(t.k:Int)=1\/(t.k:Int)=2:=by omega
 clear z o1 hrow B0 hk e3 hbk et hb
 generalize (m.NA b).1=r1 at *
 generalize (m.NA b).2=r2 at *
 generalize m.nb=nb at *
 generalize X.o=o at *
 generalize (b:Int)=bi at *
 generalize (t.k:Int)=tk at *
 go_enter Tryz.func85,Tryz.ntmps85
 go_wp2_with fail
 go_at_call 51
 refine(ah K1).mono ?_
 rintro e w1 ⟨rfl,rfl⟩
 clear K1
 go_upto_region 5 with fail
 change Code.wp _ _ _ _ (u.alloc (.cells #[.int .i64 tk,.slice (some ⟨r1,0,none⟩) G.blk r2] 143))
 generalize u.alloc (.cells #[.int .i64 tk,.slice (some ⟨r1,0,none⟩) G.blk r2] 143)=w2 at *
 generalize hgb:u.heap.size=gb at *
 have HGB:=hide hgb
 clear hgb
 have x0:=(ah BX).cell 0 (.int .i64 tk) rfl
 have x1:=(ah BX).cell 1 (.slice (some ⟨r1,0,none⟩) G.blk r2) rfl
 clear BX lk c1
 rcases hkk with rfl | rfl
 ·go_wp2_with (go_at_call 128;refine(ah KC).mono ?_;rintro e w' ⟨a,c,rfl,Z⟩;clear KC)
  go_ret2
  exact⟨a,c,rfl,by rw[ah HGB];exact Z⟩
 ·go_wp2_with (go_at_call 128;refine(ah KC).mono ?_;rintro e w' ⟨a,c,rfl,Z⟩;clear KC)
  go_ret2
  exact⟨a,c,rfl,by rw[ah HGB];exact Z⟩
theorem yR {u S g cg lg dg P G X C L D}(h:Gv u S g cg lg dg P G X C L D){N:Nat->Option Nt}(eN:X.N=some N){b:Nat}(hb:b<G.n)(et:∀ t,N b=some t->t.k=3)(he:grE X C L D b=0) :
  Calls Tryz.prog 85 #[.pointer (some ⟨X.o,0,none⟩),.int .i64 (b:Int)] u fun e w'=>∃ a c,e=.returned (.tuple #[.slice a G.blk c,.int .i64 0])/\Hid (∃ S',Own u.heap.size w' a G.blk c (grZ X C L D b)/\Gv w' S' g cg lg dg P G X (grC X C L D b) L (grD X C L D b)/\Nx S u S' w'/\∀ k,a=some ⟨k,0,none⟩->¬ S' k):=by
 obtain⟨Sg,Sc,Sl,Sd,m,mk,ml,z⟩:=h
 have K1:=hide (bZ z.gr eN)
 have hG:=z.gr.pg.ok
 have o1:=z.gr.opn N eN
 have c0:u.cell? ⟨X.o,0,none⟩=some (.pointer (some ⟨g,0,none⟩)):=o1.str.cell (i:=0) (by omega)
 have c1:u.cell? ⟨X.o,1,none⟩=some (.map (some m.nb)):=o1.str.cell (i:=1) (by omega)
 have lk:∃ tk:Int,(tk=0\/tk=3)/\(Instr.lookup 133 (.map (some m.nb)) (.int .i64 (b:Int)) false).run Tryz.prog u=.ok (.agg #[.int .i64 tk,.slice none 0 0]) u:=by
  cases hN:N b with
  | none=>exact⟨0,.inl rfl,o1.nts.aad hG.n2 hb hN⟩
  | some t =>
   have:=o1.nts.at hG.n2 hb hN
   have hk:=et t hN
   unfold nv at this
   rw[hk] at this
   simp only[if_true] at this
   exact⟨3,.inr rfl,this⟩
 obtain⟨tk,hkk,lk⟩:=lk
 have B0:Below u.heap.size u (u.alloc (.cells #[.int .i64 tk,.slice none 0 0] 143)):=(Below.refl _ _).alloc (Nat.le_refl _) _
 have BX:=hide (Bl.new u #[.int .i64 tk,.slice none 0 0] 143)
 have c0':(u.alloc (.cells #[.int .i64 tk,.slice none 0 0] 143)).cell? ⟨X.o,0,none⟩=some (.pointer (some ⟨g,0,none⟩)):=by
  have:=B0.block X.o (z.gr.lt _ o1.so)
  simp only[World.cell?] at c0 ⊢
  rw[this];exact c0
 have KC:Hid (Calls Tryz.prog 140 #[.pointer (some ⟨g,0,none⟩),.int .i64 (b:Int)] (u.alloc (.cells #[.int .i64 tk,.slice none 0 0] 143)) fun e w'=>∃ a c,e=.returned (.tuple #[.slice a G.blk c,.int .i64 0])/\Hid (∃ S',Own u.heap.size w' a G.blk c (grZ X C L D b)/\Gv w' S' g cg lg dg P G X (grC X C L D b) L (grD X C L D b)/\Nx S u S' w'/\∀ k,a=some ⟨k,0,none⟩->¬ S' k)):=by
  refine(afM (z.below B0).gv hb he).mono ?_
  rintro e w' ⟨a,c,rfl,Y⟩
  obtain⟨S',ow,g1,x1,n1⟩:=ah Y
  exact⟨a,c,rfl,S',ow.base B0.size,g1,((Nx.refl S u).below' B0).trans x1,n1⟩
 clear z o1 B0 et hb he
 generalize grZ X C L D b=rz at *
 generalize grC X C L D b=rc at *
 generalize grD X C L D b=rd at *
 generalize m.nb=nb at *
 generalize X.o=o at *
 generalize (b:Int)=bi at *
 go_enter Tryz.func85,Tryz.ntmps85
 go_wp2_with fail
 go_at_call 51
 refine(ah K1).mono ?_
 rintro e w1 ⟨rfl,rfl⟩
 clear K1
 go_upto_region 5 with fail
 change Code.wp _ _ _ _ (u.alloc (.cells #[.int .i64 tk,.slice none 0 0] 143))
 generalize u.alloc (.cells #[.int .i64 tk,.slice none 0 0] 143)=w2 at *
 generalize hgb:u.heap.size=gb at *
 have HGB:=hide hgb
 clear hgb
 have x0:=(ah BX).cell 0 (.int .i64 tk) rfl
 have x1:=(ah BX).cell 1 (.slice none 0 0) rfl
 clear BX lk c1 c0
 rcases hkk with rfl | rfl
 ·go_wp2_with (go_at_call 140;refine(ah KC).mono ?_;rintro e w' ⟨a,c,rfl,Z⟩;clear KC)
  go_ret2
  exact⟨a,c,rfl,by rw[ah HGB];exact Z⟩
 ·go_wp2_with (go_at_call 140;refine(ah KC).mono ?_;rintro e w' ⟨a,c,rfl,Z⟩;clear KC)
  go_ret2
  exact⟨a,c,rfl,by rw[ah HGB];exact Z⟩
theorem ad1 {u S g cg lg dg P G X C L D}(h:Gv u S g cg lg dg P G X C L D){N:Nat->Option Nt}(eN:X.N=some N){b:Nat}(hb:b<G.n)(hq:L.Q b=none) :
  Calls Tryz.prog 245 #[.pointer (some ⟨g,0,none⟩),.int .i64 (b:Int)] u fun e w'=>e=.returned (.bool (X.F b||isK N 3 b))/\Hid (∃ S',Gv w' S' g cg lg dg P G X C L D/\Nx S u S' w'):=by
 obtain⟨Sg,Sc,Sl,Sd,m,mk,ml,h⟩:=h
 have hn:=h.gr.pg.ok.n2
 have c17:=h.gr.cells.2.2.2.2.2.2.1
 have lf:=h.gr.fre.look hn hb
 have B0:Below u.heap.size u (u.alloc (.cells #[] 196)):=(Below.refl _ _).alloc (Nat.le_refl _) _
 have KI:=hide (wP (h.below B0))
 have KL:Hid (∀ v w1,InA (u.alloc (.cells #[] 196)) S Sg Sc Sl Sd g cg lg dg P G X C L D mk ml v w1->(Instr.lookup 119 (.map v) (.int .i64 (b:Int)) true).run Tryz.prog w1=.ok (.tuple #[.slice none 0 0,.bool false]) w1/\w1.cell? ⟨g,15,none⟩=some (.pointer (some ⟨X.o,0,none⟩)) /\
   (∃ nb,w1.cell? ⟨X.o,1,none⟩=some (.map (some nb))/\∃ (k:Int) (xa:Option Addr) (xl xc:Nat),(Instr.lookup 133 (.map (some nb)) (.int .i64 (b:Int)) false).run Tryz.prog w1=.ok (.agg #[.int .i64 k,.slice xa xl xc]) w1/\Hid (decide (k=3)=isK N 3 b))/\Hid (∃ S',Gv w1 S' g cg lg dg P G X C L D/\Nx S u S' w1)):=fun v w1 hI=>by
  have l1:=hI.fC hb hq
  obtain⟨S',Sg',m',a1,x1,_⟩:=hI
  have o1:=a1.gr.opn N eN
  have c15:=a1.gr.cells.2.2.2.2.1
  rw[eN] at c15
  refine⟨l1,c15,⟨m'.nb,o1.str.cell (i:=1) (by omega),?_⟩,S',a1.gv,((Nx.refl S u).below' B0).trans x1⟩
  cases hN:N b with
  | none=>exact⟨0,none,0,0,o1.nts.aad hn hb hN,by unfold isK;rw[hN];rfl⟩
  | some t =>
   have:=o1.nts.at hn hb hN
   unfold nv at this
   obtain⟨xa,xl,xc,hx⟩:∃ xa xl xc,(if t.k=3 then Value.slice none 0 0 else rv G.blk (m'.NA b))=.slice xa xl xc:=by
    split
    ·exact⟨_,_,_,rfl⟩
    ·exact⟨_,_,_,rfl⟩
   simp only at this
   rw[hx] at this
   refine⟨(t.k:Int),xa,xl,xc,this,?_⟩
   show decide ((t.k:Int)=3)=_
   rw[wL hN,Bool.eq_iff_iff]
   simp
   omega
 clear h hq B0
 generalize isK N 3 b=q3 at *
 generalize X.o=o at *
 generalize m.fb=fb at *
 generalize (b:Int)=bi at *
 cases hf:X.F b with
 | true =>
  rw[hf] at lf
  clear hf
  go_enter Tryz.func245,Tryz.ntmps245
  go_wp2_with fail
  go_at_call 209
  refine(ah KI).mono ?_
  rintro e w1 ⟨v,rfl,Y⟩
  obtain⟨l1,_,_,Z⟩:=ah KL v w1 (ah Y)
  clear KI KL Y lf c17
  go_wp2_with fail
  go_ret
  exact⟨rfl,Z⟩
 | false =>
  rw[hf] at lf
  clear hf
  go_enter Tryz.func245,Tryz.ntmps245
  go_wp2_with fail
  go_at_call 209
  refine(ah KI).mono ?_
  rintro e w1 ⟨v,rfl,Y⟩
  obtain⟨l1,c15,⟨nb,n1,k,xa,xl,xc,l2,hk⟩,Z⟩:=ah KL v w1 (ah Y)
  clear KI KL Y lf c17
  have fk:∀ w:World,(Instr.field 143 (.agg #[.int .i64 k,.slice xa xl xc]) 0).run Tryz.prog w=.ok (.int .i64 k) w:=fun w=>afV w k xa xl xc
  go_wp2_with fail
  go_ret
  refine⟨?_,Z⟩
  rw[← ah hk]
  rfl
structure amO (u:World) (S Sc Sl Sd:Nat->Prop) (cg lg dg:Nat) (P:Nat->Int) (G:Geo) (C:Cac) (L:Lg) (D:Dev) (mk:nR) (ml:ae5):Prop where
 cc:CcM u Sc cg dg D.n D.blk C mk
 ll:LgM u Sl lg dg P G L ml
 dd:Dv u Sd dg D
 cl:∀ k,Sc k->¬ Sl k
 cd:∀ k,Sc k->¬ Sd k
 ld:∀ k,Sl k->¬ Sd k
 all:∀ k,S k↔(Sc k\/Sl k\/Sd k)
 bd:D.blk=G.blk
 nd:D.n=G.n
 tab:Tab u
 z0:¬ S 0
def Tri (u:World) (S:Nat->Prop) (cg lg dg:Nat) (P:Nat->Int) (G:Geo) (C:Cac) (L:Lg) (D:Dev):Prop:=∃ Sc Sl Sd mk ml,amO u S Sc Sl Sd cg lg dg P G C L D mk ml
theorem ai1 {u w':World}{S S1 Sl Sd:Nat->Prop}{cg lg dg:Nat}{P G}{C:Cac}{L D ml}(h:LvM u S Sl Sd lg dg P G L D ml)(hK:Kv w' S1 cg dg C D)(h1:∀ k,S1 k->Sd k\/u.heap.size<=k)(hb:Below u.heap.size u w') :
  ∃ S',Tri w' S' cg lg dg P G C L D/\Nx S u S' w':=by
 obtain⟨Sc,Sd',mk,c1,d1,dis,a1⟩:=hK
 have hl:∀ k,Sl k->¬ S1 k:=fun k hk hs=>by
  rcases h1 k hs with x | x
  ·exact h.dis k hk x
  ·have:=h.ll.lt k hk;omega
 have z1:¬ S1 0:=fun hs=>by
  rcases h1 0 hs with x | x
  ·exact h.z0 ((h.all 0).2 (.inr x))
  ·have:=h.tab.lt;omega
 refine⟨fun k=>Sc k\/Sl k\/Sd' k,⟨Sc,Sl,Sd',mk,ml,c1,h.ll.kept (fun k hk=>hb.block k (h.ll.lt k hk)) (fun _ x=>x) (fun k hk=>Nat.lt_of_lt_of_le (h.ll.lt k hk) hb.size),d1,fun k hc hk=>hl k hk ((a1 k).2 (.inl hc)),dis,fun k hk hd=>hl k hk ((a1 k).2 (.inr hd)),fun k=>Iff.rfl,h.bd,h.nd,h.tab.kept (hb.block 0 h.tab.lt),?_⟩,⟨⟨hb.os,hb.tape,hb.output,hb.size,fun k hk _=>hb.block k hk⟩,fun k hk x=>?_⟩⟩
 ·rintro (x | x | x)
  ·exact z1 ((a1 0).2 (.inl x))
  ·exact h.z0 ((h.all 0).2 (.inl x))
  ·exact z1 ((a1 0).2 (.inr x))
 ·rcases x with x | x | x
  ·rcases h1 k ((a1 k).2 (.inl x)) with y | y
   ·exact(h.all k).2 (.inr y)
   ·omega
  ·exact(h.all k).2 (.inl x)
  ·rcases h1 k ((a1 k).2 (.inr x)) with y | y
   ·exact(h.all k).2 (.inr y)
   ·omega
def Grp.new:Grp:=⟨fun _=>none,fun _=>false,none,0⟩
def gmem (v:Nat):ae7:=⟨v,fun _=>(0,0),v+1,0,fun _=>(0,0),⟨0,0,0⟩,none,fun _=>(0,0),fun _=>none⟩
theorem adK {u v:World}{S cg lg dg P G C L D}(h:Tri u S cg lg dg P G C L D)(hs:Seen (gmem 0) G L)(hda:(G.ib:Int)<=P 11/\P 11<=(G.n:Int))(hv:Below u.heap.size u v) :
  ∃ S',Gv (((v.alloc (.map #[] 0)).alloc (.map #[] 0)).alloc (.cells #[.pointer (some ⟨dg,0,none⟩),.pointer (some ⟨lg,0,none⟩),.pointer (some ⟨cg,0,none⟩),.int .i64 (P 0),.int .i64 (P 1),.int .i64 (P 2),.int .i64 (P 3),.int .i64 (P 4),.int .i64 (P 5),.int .i64 (P 6),.int .i64 (P 7),.int .i64 (P 8),.int .i64 (P 9),.int .i64 (P 10),.int .i64 (P 11),.pointer none,.map (some v.heap.size),.map (some (v.heap.size+1)),.int .i64 0,.int .i64 0,.int .i64 0,.map none] 128)) S' (v.heap.size+2) cg lg dg P G Grp.new C L D/\Nx S u S' (((v.alloc (.map #[] 0)).alloc (.map #[] 0)).alloc (.cells #[.pointer (some ⟨dg,0,none⟩),.pointer (some ⟨lg,0,none⟩),.pointer (some ⟨cg,0,none⟩),.int .i64 (P 0),.int .i64 (P 1),.int .i64 (P 2),.int .i64 (P 3),.int .i64 (P 4),.int .i64 (P 5),.int .i64 (P 6),.int .i64 (P 7),.int .i64 (P 8),.int .i64 (P 9),.int .i64 (P 10),.int .i64 (P 11),.pointer none,.map (some v.heap.size),.map (some (v.heap.size+1)),.int .i64 0,.int .i64 0,.int .i64 0,.map none] 128)):=by
 obtain⟨Sc,Sl,Sd,mk,ml,h⟩:=h
 have hsz:=hv.size
 have b1:Below v.heap.size v (v.alloc (.map #[] 0)):=(Below.refl _ _).alloc (Nat.le_refl _) _
 have z1:(v.alloc (.map #[] 0)).heap.size=v.heap.size+1:=by simp
 have b2:Below (v.alloc (.map #[] 0)).heap.size (v.alloc (.map #[] 0)) ((v.alloc (.map #[] 0)).alloc (.map #[] 0)):=(Below.refl _ _).alloc (Nat.le_refl _) _
 have z2:((v.alloc (.map #[] 0)).alloc (.map #[] 0)).heap.size=v.heap.size+2:=by simp
 have m1:=gy.made (kB G.blk) v G.n
 have m2:=gy.made kU (v.alloc (.map #[] 0)) G.n
 rw[z1] at m2
 have m1':=m1.kept (b2.block _ (by omega))
 generalize hv2:(v.alloc (.map #[] 0)).alloc (.map #[] 0)=v2 at *
 have b12:Below v.heap.size v v2:=b1.trans (b2.mono b1.size)
 have b3:Below v2.heap.size v2 (v2.alloc (.cells #[.pointer (some ⟨dg,0,none⟩),.pointer (some ⟨lg,0,none⟩),.pointer (some ⟨cg,0,none⟩),.int .i64 (P 0),.int .i64 (P 1),.int .i64 (P 2),.int .i64 (P 3),.int .i64 (P 4),.int .i64 (P 5),.int .i64 (P 6),.int .i64 (P 7),.int .i64 (P 8),.int .i64 (P 9),.int .i64 (P 10),.int .i64 (P 11),.pointer none,.map (some v.heap.size),.map (some (v.heap.size+1)),.int .i64 0,.int .i64 0,.int .i64 0,.map none] 128)):=(Below.refl _ _).alloc (Nat.le_refl _) _
 have z3:(v2.alloc (.cells #[.pointer (some ⟨dg,0,none⟩),.pointer (some ⟨lg,0,none⟩),.pointer (some ⟨cg,0,none⟩),.int .i64 (P 0),.int .i64 (P 1),.int .i64 (P 2),.int .i64 (P 3),.int .i64 (P 4),.int .i64 (P 5),.int .i64 (P 6),.int .i64 (P 7),.int .i64 (P 8),.int .i64 (P 9),.int .i64 (P 10),.int .i64 (P 11),.pointer none,.map (some v.heap.size),.map (some (v.heap.size+1)),.int .i64 0,.int .i64 0,.int .i64 0,.map none] 128)).heap.size=v.heap.size+3:=by simp[z2]
 have str:=World.rowIs_alloc v2 #[.pointer (some ⟨dg,0,none⟩),.pointer (some ⟨lg,0,none⟩),.pointer (some ⟨cg,0,none⟩),.int .i64 (P 0),.int .i64 (P 1),.int .i64 (P 2),.int .i64 (P 3),.int .i64 (P 4),.int .i64 (P 5),.int .i64 (P 6),.int .i64 (P 7),.int .i64 (P 8),.int .i64 (P 9),.int .i64 (P 10),.int .i64 (P 11),.pointer none,.map (some v.heap.size),.map (some (v.heap.size+1)),.int .i64 0,.int .i64 0,.int .i64 0,.map none] 128 (dD dg lg cg P Grp.new (gmem v.heap.size)) (fun i hi=>by
  have h22:i<22:=by simpa using hi
  have:i=0\/i=1\/i=2\/i=3\/i=4\/i=5\/i=6\/i=7\/i=8\/i=9\/i=10\/i=11\/i=12\/i=13\/i=14\/i=15\/i=16\/i=17\/i=18\/i=19\/i=20\/i=21:=by omega
  rcases this with rfl | rfl | rfl | rfl | rfl | rfl | rfl | rfl | rfl | rfl | rfl | rfl | rfl | rfl | rfl | rfl | rfl | rfl | rfl | rfl | rfl | rfl<;>rfl)
 rw[z2] at str
 have amn:=m1'.kept (b3.block _ (by omega))
 have amm:=m2.kept (b3.block _ (by omega))
 have bb:Below u.heap.size u (v2.alloc (.cells #[.pointer (some ⟨dg,0,none⟩),.pointer (some ⟨lg,0,none⟩),.pointer (some ⟨cg,0,none⟩),.int .i64 (P 0),.int .i64 (P 1),.int .i64 (P 2),.int .i64 (P 3),.int .i64 (P 4),.int .i64 (P 5),.int .i64 (P 6),.int .i64 (P 7),.int .i64 (P 8),.int .i64 (P 9),.int .i64 (P 10),.int .i64 (P 11),.pointer none,.map (some v.heap.size),.map (some (v.heap.size+1)),.int .i64 0,.int .i64 0,.int .i64 0,.map none] 128)):=(hv.trans (b12.mono hsz)).trans (b3.mono (by omega))
 generalize v2.alloc (.cells #[.pointer (some ⟨dg,0,none⟩),.pointer (some ⟨lg,0,none⟩),.pointer (some ⟨cg,0,none⟩),.int .i64 (P 0),.int .i64 (P 1),.int .i64 (P 2),.int .i64 (P 3),.int .i64 (P 4),.int .i64 (P 5),.int .i64 (P 6),.int .i64 (P 7),.int .i64 (P 8),.int .i64 (P 9),.int .i64 (P 10),.int .i64 (P 11),.pointer none,.map (some v.heap.size),.map (some (v.heap.size+1)),.int .i64 0,.int .i64 0,.int .i64 0,.map none] 128)=w3 at *
 have gr:GrM w3 (fun k=>v.heap.size<=k/\k<w3.heap.size) (v.heap.size+2) dg lg cg P G Grp.new (gmem v.heap.size) :=
  ⟨str,⟨amn.congr (fun k hk=>rfl),fun b z _ e=>(by cases e),⟨Nat.le_refl _,by show v.heap.size<_;omega⟩⟩,⟨amm.congr (fun k hk=>rfl),⟨by show v.heap.size<=v.heap.size+1;omega,by show v.heap.size+1<_;omega⟩⟩,fun N e=>(by cases e),fun pb e=>(by cases e),fun _ b _=>rfl,⟨by omega,by omega⟩,by show v.heap.size≠v.heap.size+1;omega,fun e=>(by cases e),fun e=>(by cases e),fun k hk=>hk.2,h.ll.pg,hda⟩
 have hlt:∀ k,(Sc k\/Sl k\/Sd k)->k<u.heap.size:=fun k hk=>by
  rcases hk with x | x | x
  ·exact h.cc.lt k x
  ·exact h.ll.lt k x
  ·exact h.dd.lt x
 refine⟨fun k=>(v.heap.size<=k/\k<w3.heap.size)\/Sc k\/Sl k\/Sd k,⟨_,Sc,Sl,Sd,gmem v.heap.size,mk,ml,gr,h.cc.kept (fun k hk=>bb.block k (h.cc.lt k hk)) (fun _ x=>x) (fun k hk=>Nat.lt_of_lt_of_le (h.cc.lt k hk) bb.size),h.ll.kept (fun k hk=>bb.block k (h.ll.lt k hk)) (fun _ x=>x) (fun k hk=>Nat.lt_of_lt_of_le (h.ll.lt k hk) bb.size),h.dd.below bb,
  fun k hk x=>by have:=hlt k (.inl x);omega,fun k hk x=>by have:=hlt k (.inr (.inl x));omega,fun k hk x=>by have:=hlt k (.inr (.inr x));omega,h.cl,h.cd,h.ld,fun k=>Iff.rfl,h.bd,h.nd,h.tab.kept (bb.block 0 h.tab.lt),?_,hs⟩,⟨⟨bb.os,bb.tape,bb.output,bb.size,fun k hk _=>bb.block k hk⟩,fun k hk x=>?_⟩⟩
 ·rintro (x | x)
  ·have:=h.tab.lt;omega
  ·exact h.z0 ((h.all 0).2 x)
 ·rcases x with x | x
  ·omega
  ·exact(h.all k).2 x
theorem ahK {u S cg lg dg P G C L D}(h:Tri u S cg lg dg P G C L D)(hs:Seen (gmem 0) G L)(hda:(G.ib:Int)<=P 11/\P 11<=(G.n:Int)) :
  Calls Tryz.prog 24 #[.pointer (some ⟨dg,0,none⟩),.pointer (some ⟨lg,0,none⟩),.pointer (some ⟨cg,0,none⟩),Pv P] u fun e w'=>∃ g,e=.returned (.tuple #[.pointer (some ⟨g,0,none⟩),.int .i64 0])/\Hid (∃ S',Gv w' S' g cg lg dg P G Grp.new C L D/\Nx S u S' w'/\u.heap.size<=g):=by
 have hpg:PG P G:=by obtain⟨_,_,_,_,_,h⟩:=h;exact h.ll.pg
 have HK:=hide (Kp.start u P)
 have K1:Hid (∀ w,Calls Tryz.prog 62 #[Pv P] w fun e w'=>e=.returned (.int .i64 0)/\Below w.heap.size w w'):=fun w=>by
  have:=check_any P w
  rwa [hpg.chk] at this
 have KL:Hid (∀ w1,Below u.heap.size u w1->∃ S',Gv (((w1.alloc (.map #[] 0)).alloc (.map #[] 0)).alloc (.cells #[.pointer (some ⟨dg,0,none⟩),.pointer (some ⟨lg,0,none⟩),.pointer (some ⟨cg,0,none⟩),.int .i64 (P 0),.int .i64 (P 1),.int .i64 (P 2),.int .i64 (P 3),.int .i64 (P 4),.int .i64 (P 5),.int .i64 (P 6),.int .i64 (P 7),.int .i64 (P 8),.int .i64 (P 9),.int .i64 (P 10),.int .i64 (P 11),.pointer none,.map (some w1.heap.size),.map (some (w1.heap.size+1)),.int .i64 0,.int .i64 0,.int .i64 0,.map none] 128)) S' (w1.heap.size+2) cg lg dg P G Grp.new C L D/\Nx S u S' (((w1.alloc (.map #[] 0)).alloc (.map #[] 0)).alloc (.cells #[.pointer (some ⟨dg,0,none⟩),.pointer (some ⟨lg,0,none⟩),.pointer (some ⟨cg,0,none⟩),.int .i64 (P 0),.int .i64 (P 1),.int .i64 (P 2),.int .i64 (P 3),.int .i64 (P 4),.int .i64 (P 5),.int .i64 (P 6),.int .i64 (P 7),.int .i64 (P 8),.int .i64 (P 9),.int .i64 (P 10),.int .i64 (P 11),.pointer none,.map (some w1.heap.size),.map (some (w1.heap.size+1)),.int .i64 0,.int .i64 0,.int .i64 0,.map none] 128))/\u.heap.size<=w1.heap.size+2):=fun w1 hb=>by
  obtain⟨S',g1,x1⟩:=adK h hs hda hb
  exact⟨S',g1,x1,by have:=hb.size;omega⟩
 have hmm:=@run_makeMap Tryz.prog
 clear h hs hda hpg
 obtain⟨f0,f1,f2,f3,f4,f5,f6,f7,f8,f9,f10,f11⟩:=(ah HK).cells
 go_enter Tryz.func24,Tryz.ntmps24
 go_wp2_with fail
 go_at_call 62
 refine(ah K1 _).mono ?_
 rintro e w1 ⟨rfl,hb⟩
 replace HK:=hide ((ah HK).call hb)
 clear f0 f1 f2 f3 f4 f5 f6 f7 f8 f9 f10 f11 K1 hb
 obtain⟨f0,f1,f2,f3,f4,f5,f6,f7,f8,f9,f10,f11⟩:=(ah HK).cells
 have Z:=hide (ah KL w1 (ah HK).2)
 clear KL HK
 go_wp2_with fail
 go_ret2
 exact⟨_,rfl,ah Z⟩
end Go.Proofs.YtlpgfigbpjpdhaaGreatDoor
