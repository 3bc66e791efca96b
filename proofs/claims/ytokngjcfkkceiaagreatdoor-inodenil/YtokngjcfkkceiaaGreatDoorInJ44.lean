/- Joined: OLog, ORead, OList, OApply, OComm, OEnA, OEnd, OPub, ARead, ONew. -/
import Derived.Test.YtokngjcfkkceiaaGreatDoorInJ43
import Derived.Test.YtokngjcfkkceiaaGreatDoorInCOpenH
import Derived.Test.YtokngjcfkkceiaaGreatDoorInJ41
import Derived.Test.YtokngjcfkkceiaaGreatDoorInGColl
import Derived.Test.YtokngjcfkkceiaaGreatDoorInJ24
import Derived.Test.YtokngjcfkkceiaaGreatDoorInGScope
import Derived.Deep.RegionHeld3
import Derived.Test.YtokngjcfkkceiaaGreatDoorInKNew
/- inLog: what is pending in the log, as the group has it. -/
namespace Go.Proofs.YtokngjcfkkceiaaGreatDoor
set_option maxRecDepth 100000
set_option maxHeartbeats 8000000
open Go.RowKit Go.Shelf Go.Maps
set_option linter.unusedVariables false

theorem setW_pend (G:Geo)(Q:Nat→Option (List Int)){b:Nat}(hb:b<G.n):setW (fun _=>none) (pendW G Q) b=Q b:=by
 have key:∀ (l:List Nat) (R:Nat→Option (List Int)),(∀ x∈l,(Q x).isSome=true)→setW R (l.map (fun x=>(x,(Q x).getD []))) b=if b∈l then Q b else R b:=by
  intro l
  induction l with
  | nil=>intro R _;rfl
  | cons x r ih =>
   intro R hx
   show setW _ (r.map _) b=_
   rw[ih _ (fun y hy=>hx y (List.mem_cons_of_mem _ hy))]
   by_cases h1:b∈r
   ·rw[if_pos h1,if_pos (List.mem_cons_of_mem _ h1)]
   ·rw[if_neg h1]
    by_cases h2:b=x
    ·subst h2
     rw[if_pos (show b∈b::r by simp)]
     show (if b=b then some ((Q b).getD []) else R b)=Q b
     rw[if_pos rfl]
     obtain⟨z,hz⟩:=Option.isSome_iff_exists.1 (hx b (by simp))
     rw[hz];rfl
    ·rw[if_neg (show ¬ b∈x::r by simp[h1,h2])]
     show (if b=x then _ else R b)=R b
     rw[if_neg h2]
 unfold pendW
 rw[key _ _ (fun x hx=>(pendL_mem.1 hx).2)]
 by_cases h:b∈pendL G Q
 ·rw[if_pos h]
 ·rw[if_neg h]
  cases e:Q b with
  | none=>rfl
  | some z=>exact absurd (pendL_mem.2 ⟨hb,by rw[e];rfl⟩) h

theorem AllM.llk {u u':World}{S Sg Sg' Sc Sl Sd:Nat→Prop}{g cg lg dg:Nat}{P:Nat→Int}{G:Geo}{X:Grp}{C:Cac}{L:Lg}{D:Dev}{m:GMem}{mk:KMem}{ml:LMem}(h:AllM u S Sg Sc Sl Sd g cg lg dg P G X C L D m mk ml)(hx:Nx Sg u Sg' u'):LgM u' Sl lg dg P G L ml :=
 h.ll.kept (fun k hk=>(hx.keep (h.ll.lt k hk) (fun x=>h.gl k x hk)).1) (fun _ x=>x) (fun k hk=>(hx.keep (h.ll.lt k hk) (fun x=>h.gl k x hk)).2.2)

theorem GrM.seenS {u:World}{S:Nat→Prop}{g dg lg cg:Nat}{P:Nat→Int}{G:Geo}{X:Grp}{m:GMem}(h:GrM u S g dg lg cg P G X m)(H:Hd){nb:Nat}(hm:MapX (kB G.blk) u nb G.n (fun _=>none))(hS:S nb)(n1:nb≠m.lb)(n2:nb≠m.fb)(n3:∀ N,X.N=some N→nb≠m.nb) :
  GrM ((((u.setCell ⟨g,18,none⟩ (.int .i64 (H.seq:Int))).setCell ⟨g,19,none⟩ (.int .i64 (H.tail:Int))).setCell ⟨g,20,none⟩ (.int .i64 (H.used:Int))).setCell ⟨g,21,none⟩ (.map (some nb))) S g dg lg cg P G X { m with hc:=H,pb:=some nb,Qc:=fun _=>none }:=by
 have h1:=h.setG X { m with hc:=⟨H.seq,m.hc.tail,m.hc.used⟩ } 18 (.int .i64 (H.seq:Int)) (fun j hj=>by
  rcases cell22 j hj with rfl | rfl | rfl | ⟨h1,h2⟩ | rfl | rfl | rfl | rfl | rfl | rfl | rfl
  ·simp[ucell]
  ·simp[ucell]
  ·simp[ucell]
  ·simp[ucell,show ¬ j=0 by omega,show ¬ j=1 by omega,show ¬ j=2 by omega,h2,show ¬ j=18 by omega]
  all_goals simp[ucell,Hd.fn]) ⟨rfl,rfl⟩ ⟨rfl,rfl,rfl⟩ (fun N e=>by have ho:=h.opS 18 (.int .i64 (H.seq:Int)) e;exact⟨ho.str,ho.nts,ho.so,ho.nl,ho.nf,ho.np⟩) (fun pb e=>h.penS 18 _ e) h.pno
 have m1:=hm.kept (Below.heap_setCell u ⟨g,18,none⟩ (.int .i64 (H.seq:Int)) nb (fun e=>hm.ner h.str e.symm))
 generalize u.setCell ⟨g,18,none⟩ (.int .i64 (H.seq:Int))=u1 at *
 have h2:=h1.setG X { m with hc:=⟨H.seq,H.tail,m.hc.used⟩ } 19 (.int .i64 (H.tail:Int)) (fun j hj=>by
  rcases cell22 j hj with rfl | rfl | rfl | ⟨h1,h2⟩ | rfl | rfl | rfl | rfl | rfl | rfl | rfl
  ·simp[ucell]
  ·simp[ucell]
  ·simp[ucell]
  ·simp[ucell,show ¬ j=0 by omega,show ¬ j=1 by omega,show ¬ j=2 by omega,h2,show ¬ j=19 by omega]
  all_goals simp[ucell,Hd.fn]) ⟨rfl,rfl⟩ ⟨rfl,rfl,rfl⟩ (fun N e=>by have ho:=h1.opS 19 (.int .i64 (H.tail:Int)) e;exact⟨ho.str,ho.nts,ho.so,ho.nl,ho.nf,ho.np⟩) (fun pb e=>h1.penS 19 _ e) h.pno
 have m2:=m1.kept (Below.heap_setCell u1 ⟨g,19,none⟩ (.int .i64 (H.tail:Int)) nb (fun e=>m1.ner h1.str e.symm))
 generalize u1.setCell ⟨g,19,none⟩ (.int .i64 (H.tail:Int))=u2 at *
 have h3:=h2.setG X { m with hc:=H } 20 (.int .i64 (H.used:Int)) (fun j hj=>by
  rcases cell22 j hj with rfl | rfl | rfl | ⟨h1,h2⟩ | rfl | rfl | rfl | rfl | rfl | rfl | rfl
  ·simp[ucell]
  ·simp[ucell]
  ·simp[ucell]
  ·simp[ucell,show ¬ j=0 by omega,show ¬ j=1 by omega,show ¬ j=2 by omega,h2,show ¬ j=20 by omega]
  all_goals simp[ucell,Hd.fn]) ⟨rfl,rfl⟩ ⟨rfl,rfl,rfl⟩ (fun N e=>by have ho:=h2.opS 20 (.int .i64 (H.used:Int)) e;exact⟨ho.str,ho.nts,ho.so,ho.nl,ho.nf,ho.np⟩) (fun pb e=>h2.penS 20 _ e) h.pno
 have m3:=m2.kept (Below.heap_setCell u2 ⟨g,20,none⟩ (.int .i64 (H.used:Int)) nb (fun e=>m2.ner h2.str e.symm))
 generalize u2.setCell ⟨g,20,none⟩ (.int .i64 (H.used:Int))=u3 at *
 have m4:=m3.kept (Below.heap_setCell u3 ⟨g,21,none⟩ (.map (some nb)) nb (fun e=>m3.ner h3.str e.symm))
 refine h3.setG X { m with hc:=H,pb:=some nb,Qc:=fun _=>none } 21 (.map (some nb)) (fun j hj=>?_) ⟨rfl,rfl⟩ ⟨rfl,rfl,rfl⟩ (fun N e=>?_) (fun pb e=>?_) (fun e=>by cases e)
 ·rcases cell22 j hj with rfl | rfl | rfl | ⟨h1,h2⟩ | rfl | rfl | rfl | rfl | rfl | rfl | rfl
  ·simp[ucell]
  ·simp[ucell]
  ·simp[ucell]
  ·simp[ucell,show ¬ j=0 by omega,show ¬ j=1 by omega,show ¬ j=2 by omega,h2,show ¬ j=21 by omega]
  all_goals simp[ucell]
 ·have ho:=h3.opS 21 (.map (some nb)) e
  exact⟨ho.str,ho.nts,ho.so,ho.nl,ho.nf,fun e2=>n3 N e (by have e3:some nb=some m.nb:=e2;exact Option.some.inj e3)⟩
 ·cases e
  exact⟨⟨m4.congr (fun k hk=>rfl),fun b z _ e=>(by cases e),hS⟩,n1,n2⟩

structure InJ (u:World) (Sg:Nat→Prop) (g dg lg cg:Nat) (P:Nat→Int) (G:Geo) (X:Grp) (L:Lg) (nb B:Nat) (v:Value) (V:List Wr) (k:Nat) (wr:World) (Sg':Nat→Prop) (m':GMem):Prop where
 gr:GrM wr Sg' g dg lg cg P G X m'
 nx:Nx Sg u Sg' wr
 hc:m'.hc=L.h
 pb:m'.pb=some nb
 qc:m'.Qc=setW (fun _=>none) ((pendW G L.Q).take k)
 gw:Gw B wr v V
 nl:nb<B
 bl:B≤wr.heap.size
 ub:u.heap.size≤B
 is:wl V=pendW G L.Q
 dl:∀ x∈V,x.dl=G.blk∧0≤x.b

theorem InJ.block {u:World}{Sg:Nat→Prop}{g dg lg cg:Nat}{P:Nat→Int}{G:Geo}{X:Grp}{L:Lg}{nb B:Nat}{v:Value}{V:List Wr}{k:Nat}{wr:World}{Sg':Nat→Prop}{m':GMem}(h:InJ u Sg g dg lg cg P G X L nb B v V k wr Sg' m')(hk:k<V.length) :
  ∃ b:Nat,(wat V k).b=(b:Int)∧b<G.n:=by
 have h0:=(h.dl _ (wat_mem hk)).2
 refine⟨(wat V k).b.toNat,by omega,?_⟩
 have hm:((wat V k).b.toNat,(wat V k).z)∈wl V:=List.mem_map.2 ⟨wat V k,wat_mem hk,rfl⟩
 rw[h.is] at hm
 unfold pendW at hm
 obtain⟨b,hb,e⟩:=List.mem_map.1 hm
 have e1:b=(wat V k).b.toNat:=by simpa using congrArg Prod.fst e
 rw[← e1]
 exact(pendL_mem.1 hb).1

theorem InJ.step {u:World}{Sg:Nat→Prop}{g dg lg cg:Nat}{P:Nat→Int}{G:Geo}{X:Grp}{L:Lg}{nb B:Nat}{v:Value}{V:List Wr}{k:Nat}{wr:World}{Sg':Nat→Prop}{m':GMem}(h:InJ u Sg g dg lg cg P G X L nb B v V k wr Sg' m')(hk:k<V.length){b:Nat}(hb:(wat V k).b=(b:Int))(hbn:b<G.n){w1:World}(hw:Below wr.heap.size wr w1) :
  ∃ w2,(Instr.mapUpdate 78 (.map (some nb)) (.int .i64 (b:Int)) (.slice (wat V k).da (wat V k).dl (wat V k).dc)).run Tryz.prog w1=.ok () w2∧∃ Sg2 m2,InJ u Sg g dg lg cg P G X L nb B v V (k+1) w2 Sg2 m2:=by
 have hs:=hw.size
 have hbl:=h.bl
 have hub:=h.ub
 have hG:=h.gr.pg.ok
 obtain⟨ow,by1,dl1,dl2⟩:=(h.gw.below hw).row k hk
 obtain⟨q,eq,ra,q1,q2⟩:=ow.rowAt dl1 by1 (S:=fun j=>Sg' j∨(B≤j∧j<w1.heap.size)) (fun j h1 h2=>.inr ⟨h1,h2⟩)
 have edl:=(h.dl _ (wat_mem hk)).1
 have g1:GrM w1 (fun j=>Sg' j∨(B≤j∧j<w1.heap.size)) g dg lg cg P G X m':=h.gr.kept (fun j hj=>hw.block j (h.gr.lt j hj)) (fun j hj=>.inl hj) (fun j hj=>by
  rcases hj with x | x
  ·exact Nat.lt_of_lt_of_le (h.gr.lt j x) hs
  ·exact x.2)
 rw[edl] at ra
 obtain⟨w2,r2,p2,T⟩:=(g1.pen nb h.pb).put hG.n2 hbn ra
 have g2:=g1.penT h.pb T p2
 rw[eq,edl]
 refine⟨w2,r2,_,_,g2,?_,h.hc,h.pb,?_,?_,h.nl,by rw[T.sz];omega,h.ub,h.is,h.dl⟩
 ·have n1:=h.nx.below' hw
  refine⟨⟨T.gr.os.trans n1.fr.os,T.gr.tape.trans n1.fr.tape,T.gr.output.trans n1.fr.output,by rw[T.sz];exact n1.fr.size,fun j hj hn=>(T.other (Nat.lt_of_lt_of_le hj n1.fr.size) (fun e=>hn (n1.sub j hj (by rw[e];exact(h.gr.pen nb h.pb).sm)))).trans (n1.fr.block j hj hn)⟩,fun j hj x=>?_⟩
  rcases x with x | x
  ·exact h.nx.sub j hj x
  ·omega
 ·show (fun j=>if j=b then some (wat V k).z else m'.Qc j)=_
  rw[h.qc,← h.is,setW_snoc hk b hb]
 ·exact(h.gw.below hw).kept (fun j hj hl=>T.other hl (by have:=h.nl;omega))

theorem Hv_is (h:Hd):Hv h.fn=.agg #[.int .i64 (h.seq:Int),.int .i64 (h.tail:Int),.int .i64 (h.used:Int)]:=rfl

theorem fn_ne {a b:Hd}(h:a≠b):¬ ∀ k,k<3→a.fn k=b.fn k:=fun hk=>h (by
 have h0:a.seq=b.seq:=by have:=hk 0 (by omega);simp[Hd.fn] at this;omega
 have h1:a.tail=b.tail:=by have:=hk 1 (by omega);simp[Hd.fn] at this;omega
 have h2:a.used=b.used:=by have:=hk 2 (by omega);simp[Hd.fn] at this;omega
 cases a;cases b
 simp only[Hd.mk.injEq]
 exact⟨h0,h1,h2⟩)

def InA (u:World) (S Sg Sc Sl Sd:Nat→Prop) (g cg lg dg:Nat) (P:Nat→Int) (G:Geo) (X:Grp) (C:Cac) (L:Lg) (D:Dev) (mk:KMem) (ml:LMem) (v:Option Nat) (w':World):Prop :=
 ∃ S' Sg' m',AllM w' S' Sg' Sc Sl Sd g cg lg dg P G X C L D m' mk ml∧Nx S u S' w'∧m'.pb=v∧∀ b,b<G.n→m'.Qc b=L.Q b

theorem InJ.done {u:World}{S Sg Sc Sl Sd:Nat→Prop}{g cg lg dg:Nat}{P:Nat→Int}{G:Geo}{X:Grp}{C:Cac}{L:Lg}{D:Dev}{m:GMem}{mk:KMem}{ml:LMem}(h:AllM u S Sg Sc Sl Sd g cg lg dg P G X C L D m mk ml){nb B:Nat}{v:Value}{V:List Wr}{wr:World}{Sg':Nat→Prop}{m':GMem}(hJ:InJ u Sg g dg lg cg P G X L nb B v V V.length wr Sg' m') :
  InA u S Sg Sc Sl Sd g cg lg dg P G X C L D mk ml (some nb) wr:=by
 have hq:∀ b,b<G.n→m'.Qc b=L.Q b:=fun b hb=>by
  rw[hJ.qc,List.take_of_length_le (by rw[← hJ.is,wl_len];omega),setW_pend G L.Q hb]
 obtain⟨S',a1,x1,_⟩:=h.own hJ.gr hJ.nx (.inl ⟨hJ.hc,hq⟩)
 exact⟨S',Sg',m',a1,x1,hJ.pb,hq⟩

theorem AllM.seenL {u:World}{S Sg Sc Sl Sd:Nat→Prop}{g cg lg dg:Nat}{P:Nat→Int}{G:Geo}{X:Grp}{C:Cac}{L:Lg}{D:Dev}{m:GMem}{mk:KMem}{ml:LMem}(h:AllM u S Sg Sc Sl Sd g cg lg dg P G X C L D m mk ml){v:World}(hv:Below u.heap.size u v) :
  ((((v.alloc (.map #[] 0)).setCell ⟨g,18,none⟩ (.int .i64 (L.h.seq:Int))).setCell ⟨g,19,none⟩ (.int .i64 (L.h.tail:Int))).setCell ⟨g,20,none⟩ (.int .i64 (L.h.used:Int))).cell? ⟨g,21,none⟩=some (.map m.pb) ∧
  (((((v.alloc (.map #[] 0)).setCell ⟨g,18,none⟩ (.int .i64 (L.h.seq:Int))).setCell ⟨g,19,none⟩ (.int .i64 (L.h.tail:Int))).setCell ⟨g,20,none⟩ (.int .i64 (L.h.used:Int))).setCell ⟨g,21,none⟩ (.map (some v.heap.size))).cell? ⟨g,1,none⟩=some (.pointer (some ⟨lg,0,none⟩)) ∧
  Hid (Calls Tryz.prog 115 #[.pointer (some ⟨lg,0,none⟩)] (((((v.alloc (.map #[] 0)).setCell ⟨g,18,none⟩ (.int .i64 (L.h.seq:Int))).setCell ⟨g,19,none⟩ (.int .i64 (L.h.tail:Int))).setCell ⟨g,20,none⟩ (.int .i64 (L.h.used:Int))).setCell ⟨g,21,none⟩ (.map (some v.heap.size)))
   fun e w'=>∃ a c V,e=.returned (.slice a V.length c)∧Hid (∃ B Sg' m',InJ u Sg g dg lg cg P G X L v.heap.size B (.slice a V.length c) V 0 w' Sg' m')):=by
 have hs:=hv.size
 have b1:Below v.heap.size v (v.alloc (.map #[] 0)):=(Below.refl _ _).alloc (Nat.le_refl _) _
 have z1:(v.alloc (.map #[] 0)).heap.size=v.heap.size+1:=by simp
 have b2:=hv.trans (b1.mono hs)
 have hm:=MapX.made (kB G.blk) v G.n
 have g1:=h.gr.grow b2
 have x1:=nx_grow Sg b2
 have n1:v.heap.size≠m.lb:=by have:=h.gr.log.map.lt;omega
 have n2:v.heap.size≠m.fb:=by have:=h.gr.fre.map.lt;omega
 have g2:=g1.seenS L.h hm (.inr ⟨hs,by omega⟩) n1 n2 (fun N e=>by have:=(h.gr.opn N e).nts.map.lt;omega)
 have c21:((((v.alloc (.map #[] 0)).setCell ⟨g,18,none⟩ (.int .i64 (L.h.seq:Int))).setCell ⟨g,19,none⟩ (.int .i64 (L.h.tail:Int))).setCell ⟨g,20,none⟩ (.int .i64 (L.h.used:Int))).cell? ⟨g,21,none⟩=some (.map m.pb):=(((g1.str.set 18 _).set 19 _).set 20 _).cell (i:=21) (by omega)
 have x2:Nx Sg u (exS Sg u (v.alloc (.map #[] 0))) (((((v.alloc (.map #[] 0)).setCell ⟨g,18,none⟩ (.int .i64 (L.h.seq:Int))).setCell ⟨g,19,none⟩ (.int .i64 (L.h.tail:Int))).setCell ⟨g,20,none⟩ (.int .i64 (L.h.used:Int))).setCell ⟨g,21,none⟩ (.map (some v.heap.size))) :=
  (((x1.trans (nx_cell g1.sg _)).trans (nx_cell g1.sg _)).trans (nx_cell g1.sg _)).trans (nx_cell g1.sg _)
 have z2:(((((v.alloc (.map #[] 0)).setCell ⟨g,18,none⟩ (.int .i64 (L.h.seq:Int))).setCell ⟨g,19,none⟩ (.int .i64 (L.h.tail:Int))).setCell ⟨g,20,none⟩ (.int .i64 (L.h.used:Int))).setCell ⟨g,21,none⟩ (.map (some v.heap.size))).heap.size=v.heap.size+1:=by simp[World.setCell]
 generalize (((((v.alloc (.map #[] 0)).setCell ⟨g,18,none⟩ (.int .i64 (L.h.seq:Int))).setCell ⟨g,19,none⟩ (.int .i64 (L.h.tail:Int))).setCell ⟨g,20,none⟩ (.int .i64 (L.h.used:Int))).setCell ⟨g,21,none⟩ (.map (some v.heap.size)))=w4 at *
 refine⟨c21,g2.cells.2.1,(pending_any lg dg Sl P G L ml w4 (h.llk x2)).mono ?_⟩
 rintro e w5 ⟨vv,V,rfl,Y⟩
 obtain⟨gw,is,dl,bw⟩:=unhide Y
 obtain⟨a,c,rfl,_,_⟩:=gw.shape
 refine⟨a,c,V,rfl,w4.heap.size,_,_,g2.kept (fun j hj=>bw.block j (g2.lt j hj)) (fun _ x=>x) (fun j hj=>Nat.lt_of_lt_of_le (g2.lt j hj) bw.size),x2.below' bw,rfl,rfl,rfl,gw,by omega,bw.size,by omega,is,dl⟩

theorem inLog_any {u:World}{S Sg Sc Sl Sd:Nat→Prop}{g cg lg dg:Nat}{P:Nat→Int}{G:Geo}{X:Grp}{C:Cac}{L:Lg}{D:Dev}{m:GMem}{mk:KMem}{ml:LMem}(h:AllM u S Sg Sc Sl Sd g cg lg dg P G X C L D m mk ml) :
  Calls Tryz.prog 86 #[.pointer (some ⟨g,0,none⟩)] u fun e w'=>∃ v,e=.returned (.map v)∧Hid (InA u S Sg Sc Sl Sd g cg lg dg P G X C L D mk ml v w'):=by
 have c1:=h.gr.cells.2.1
 have KH:=hide (header_any lg dg Sl P G L ml u h.ll)
 rw[Hv_is] at KH
 have HC:Hid (∀ w1,Below u.heap.size u w1→w1.cell? ⟨g,18,none⟩=some (.int .i64 (m.hc.seq:Int))∧w1.cell? ⟨g,19,none⟩=some (.int .i64 (m.hc.tail:Int))∧w1.cell? ⟨g,20,none⟩=some (.int .i64 (m.hc.used:Int))∧w1.cell? ⟨g,21,none⟩=some (.map m.pb)∧(∀ k,w1.frozen? ⟨g,k,none⟩=false)∧w1.cell? ⟨g,1,none⟩=some (.pointer (some ⟨lg,0,none⟩))):=fun w1 hb=>by
  have:=(h.below hb).gr.cells
  exact⟨this.2.2.2.2.2.2.2.1,this.2.2.2.2.2.2.2.2.1,this.2.2.2.2.2.2.2.2.2.1,this.2.2.2.2.2.2.2.2.2.2.1,this.2.2.2.2.2.2.2.2.2.2.2,this.2.1⟩
 have hB:∀ w1:World,Below u.heap.size u w1→Below u.heap.size u (w1.alloc (.cells #[.int .i64 (L.h.seq:Int),.int .i64 (L.h.tail:Int),.int .i64 (L.h.used:Int)] 81)):=fun w1 hb=>hb.alloc hb.size _
 by_cases he:m.hc=L.h
 ·have q:∀ w:World,(binOp .neq 81 (.agg #[.int .i64 (L.h.seq:Int),.int .i64 (L.h.tail:Int),.int .i64 (L.h.used:Int)]) (.agg #[.int .i64 (m.hc.seq:Int),.int .i64 (m.hc.tail:Int),.int .i64 (m.hc.used:Int)])).run Tryz.prog w=.ok (.bool false) w:=fun w=>neq_plan_noH (P:=L.h.fn) (Q:=m.hc.fn) (fun k _=>by rw[he]) w
  have Z:Hid (∀ w',Below u.heap.size u w'→InA u S Sg Sc Sl Sd g cg lg dg P G X C L D mk ml m.pb w'):=fun w' hb=>by
   refine⟨S,Sg,m,h.below hb,(Nx.refl S u).below' hb,rfl,?_⟩
   rcases h.seen with h1 | h1
   ·exact h1.2
   ·exact absurd he h1.ne
  have HBB:=hide hB
  clear h he hB
  generalize (L.h.seq:Int)=l1 at *
  generalize (L.h.tail:Int)=l2 at *
  generalize (L.h.used:Int)=l3 at *
  generalize (m.hc.seq:Int)=l4 at *
  generalize (m.hc.tail:Int)=l5 at *
  generalize (m.hc.used:Int)=l6 at *
  go_enter Tryz.func86,Tryz.ntmps86
  go_wp2_with fail
  go_at_call 138
  refine(unhide KH).mono ?_
  rintro e w1 ⟨rfl,hb1⟩
  have B2:=hide (unhide HBB w1 hb1)
  have BX:=hide (Bl.new w1 #[.int .i64 l1,.int .i64 l2,.int .i64 l3] 81)
  clear KH HBB hb1 c1
  go_upto_region 2 with fail
  change Code.wp _ _ _ _ (w1.alloc (.cells #[.int .i64 l1,.int .i64 l2,.int .i64 l3] 81))
  generalize w1.alloc (.cells #[.int .i64 l1,.int .i64 l2,.int .i64 l3] 81)=w2 at *
  generalize w1.heap.size=gb at *
  obtain⟨e1,e2,e3,e4,_,_⟩:=unhide HC w2 (unhide B2)
  have x1:=(unhide BX).cell 0 (.int .i64 l1) rfl
  have x2:=(unhide BX).cell 1 (.int .i64 l2) rfl
  have x3:=(unhide BX).cell 2 (.int .i64 l3) rfl
  have ZZ:Hid (∀ n,InA u S Sg Sc Sl Sd g cg lg dg P G X C L D mk ml m.pb (w2.drewN n)):=fun n=>unhide Z _ (below_drewN (unhide B2) n)
  clear HC B2 BX Z
  generalize m.pb=pb at *
  go_quiet (fail)
  rename_i nq
  have e4':(w2.drewN nq).cell? ⟨g,21,none⟩=some (.map pb):=e4
  have ZQ:=hide (unhide ZZ nq)
  clear e1 e2 e3 e4 x1 x2 x3 ZZ q
  generalize w2.drewN nq=w3 at *
  go_wp2_with fail
  go_ret
  exact⟨_,rfl,unhide ZQ⟩
 ·have q:∀ w:World,(binOp .neq 81 (.agg #[.int .i64 (L.h.seq:Int),.int .i64 (L.h.tail:Int),.int .i64 (L.h.used:Int)]) (.agg #[.int .i64 (m.hc.seq:Int),.int .i64 (m.hc.tail:Int),.int .i64 (m.hc.used:Int)])).run Tryz.prog w=.ok (.bool true) w:=fun w=>neq_plan_yesH (P:=L.h.fn) (Q:=m.hc.fn) (fn_ne (fun e=>he e.symm)) w
  have HBB:=hide hB
  have KL:Hid (∀ v,Below u.heap.size u v→_):=fun v hv=>h.seenL hv
  have KD:Hid (∀ nb B v V wr Sg' m',InJ u Sg g dg lg cg P G X L nb B v V V.length wr Sg' m'→InA u S Sg Sc Sl Sd g cg lg dg P G X C L D mk ml (some nb) wr):=fun nb B v V wr Sg' m' hJ=>InJ.done h hJ
  have hmm:=@run_makeMap Tryz.prog
  clear h he hB
  generalize (L.h.seq:Int)=l1 at *
  generalize (L.h.tail:Int)=l2 at *
  generalize (L.h.used:Int)=l3 at *
  generalize (m.hc.seq:Int)=l4 at *
  generalize (m.hc.tail:Int)=l5 at *
  generalize (m.hc.used:Int)=l6 at *
  go_enter Tryz.func86,Tryz.ntmps86
  go_wp2_with fail
  go_at_call 138
  refine(unhide KH).mono ?_
  rintro e w1 ⟨rfl,hb1⟩
  have B2:=hide (unhide HBB w1 hb1)
  have BX:=hide (Bl.new w1 #[.int .i64 l1,.int .i64 l2,.int .i64 l3] 81)
  clear KH HBB hb1 c1
  go_upto_region 2 with fail
  change Code.wp _ _ _ _ (w1.alloc (.cells #[.int .i64 l1,.int .i64 l2,.int .i64 l3] 81))
  generalize w1.alloc (.cells #[.int .i64 l1,.int .i64 l2,.int .i64 l3] 81)=w2 at *
  generalize w1.heap.size=gb at *
  obtain⟨e1,e2,e3,e4,e5,_⟩:=unhide HC w2 (unhide B2)
  have x1:=(unhide BX).cell 0 (.int .i64 l1) rfl
  have x2:=(unhide BX).cell 1 (.int .i64 l2) rfl
  have x3:=(unhide BX).cell 2 (.int .i64 l3) rfl
  go_quiet (fail)
  rename_i nq
  have B3:Hid (Below u.heap.size u (w2.drewN nq)):=below_drewN (unhide B2) nq
  have BY:Hid (Bl (w2.drewN nq) gb #[.int .i64 l1,.int .i64 l2,.int .i64 l3] 81):=unhide BX
  clear e1 e2 e3 e4 e5 x1 x2 x3 q B2 BX
  generalize w2.drewN nq=w3 at *
  obtain⟨y21,y1,KP⟩:=unhide KL w3 (unhide B3)
  obtain⟨e1,e2,e3,e4,e5,_⟩:=unhide HC (w3.alloc (.map #[] 0)) ((unhide B3).alloc (unhide B3).size _)
  have x1:=(unhide BY).cell 0 (.int .i64 l1) rfl
  have x2:=(unhide BY).cell 1 (.int .i64 l2) rfl
  have x3:=(unhide BY).cell 2 (.int .i64 l3) rfl
  clear HC KL BY
  go_upto_region 4 with fail
  change Code.wp _ _ _ _ (((((w3.alloc (.map #[] 0)).setCell ⟨g,18,none⟩ (.int .i64 l1)).setCell ⟨g,19,none⟩ (.int .i64 l2)).setCell ⟨g,20,none⟩ (.int .i64 l3)).setCell ⟨g,21,none⟩ (.map (some w3.heap.size)))
  clear e1 e2 e3 e4 e5 x1 x2 x3 y21 hmm
  generalize (((((w3.alloc (.map #[] 0)).setCell ⟨g,18,none⟩ (.int .i64 l1)).setCell ⟨g,19,none⟩ (.int .i64 l2)).setCell ⟨g,20,none⟩ (.int .i64 l3)).setCell ⟨g,21,none⟩ (.map (some w3.heap.size)))=w4 at *
  generalize w3.heap.size=nb at *
  clear B3
  go_wp2_with fail
  go_at_call 115
  refine(unhide KP).mono ?_
  rintro e w5 ⟨a,c,V,rfl,Y⟩
  obtain⟨B,Sg1,m1,hJ1⟩:=unhide Y
  have Y1:Hid (∃ Sg' m',InJ u Sg g dg lg cg P G X L nb B (.slice a V.length c) V 0 w5 Sg' m'):=⟨Sg1,m1,hJ1⟩
  have hnp:V.length≤4096:=by
   have h1:=congrArg List.length hJ1.is
   rw[wl_len,pendW_len] at h1
   have h2:=pendL_len G L.Q
   have h3:=hJ1.gr.pg.ok.n2
   omega
  clear KP Y hJ1 y1
  have KD1:Hid (∀ wr,(∃ Sg' m',InJ u Sg g dg lg cg P G X L nb B (.slice a V.length c) V V.length wr Sg' m')→InA u S Sg Sc Sl Sd g cg lg dg P G X C L D mk ml (some nb) wr∧wr.cell? ⟨g,21,none⟩=some (.map (some nb))):=fun wr ⟨Sg',m',hJ⟩=>⟨unhide KD _ _ _ _ _ _ _ hJ,by rw[hJ.gr.cells.2.2.2.2.2.2.2.2.2.2.1,hJ.pb]⟩
  have KS1:Hid (∀ k wr,(∃ Sg' m',InJ u Sg g dg lg cg P G X L nb B (.slice a V.length c) V k wr Sg' m')→k<V.length→∃ kb off b,a=some ⟨kb,off,none⟩∧wr.cell? ⟨kb,off+k*2,none⟩=some (.int .i64 ((b:Nat):Int))∧wr.cell? ⟨kb,off+k*2+1,none⟩=some (.slice (wat V k).da (wat V k).dl (wat V k).dc) ∧
    ∀ w1,Below wr.heap.size wr w1→w1.cell? ⟨g,21,none⟩=some (.map (some nb))∧∃ w2,(Instr.mapUpdate 78 (.map (some nb)) (.int .i64 ((b:Nat):Int)) (.slice (wat V k).da (wat V k).dl (wat V k).dc)).run Tryz.prog w1.drew=.ok () w2∧Hid (∃ Sg' m',InJ u Sg g dg lg cg P G X L nb B (.slice a V.length c) V (k+1) w2 Sg' m')):=by
   rintro k wr ⟨Sg',m',hJ⟩ hk
   obtain⟨b,hb,hbn⟩:=hJ.block hk
   obtain⟨wh,_⟩:=hJ.gw.has
   obtain⟨kb,off,ea,_,hc⟩:=wh.cel (by omega)
   obtain⟨c1,c2⟩:=hc k hk
   rw[hb] at c1
   refine⟨kb,off,b,ea,c1,c2,fun w1 hw=>?_⟩
   obtain⟨w2,r2,J2⟩:=hJ.step hk hb hbn (w1:=w1.drew) hw.drew
   refine⟨?_,w2,r2,J2⟩
   have e21:=hJ.gr.cells.2.2.2.2.2.2.2.2.2.2.1
   rw[hJ.pb] at e21
   exact(hw.cell (p:=⟨g,21,none⟩) (hJ.gr.lt _ hJ.gr.sg)).trans e21
  clear KD
  generalize hVl:V.length=np at *
  clear hVl
  go_wp2_with fail
  go_loopw [31] (fun i wr=>∃ k:Nat,k≤np∧i=.int .i64 (k:Int)∧Hid (∃ Sg' m',InJ u Sg g dg lg cg P G X L nb B (.slice a np c) V k wr Sg' m')) (fun i _=>np - (intOf i).toNat)
  case atStart=>exact⟨0,Nat.zero_le _,rfl,Y1⟩
  case round =>
   obtain⟨k,hk,rfl,hJ⟩:=hrel
   clear Y1
   by_cases hlt:k<np
   ·obtain⟨kb,off,b,ea,x1,x2,KX⟩:=unhide KS1 _ _ (unhide hJ) hlt
    obtain⟨y21,w2,r2,Z⟩:=KX (wr.alloc (.cells #[.int .i64 (b:Int),.slice (wat V k).da (wat V k).dl (wat V k).dc] 171)) ((Below.refl _ wr).alloc (Nat.le_refl _) _)
    have BX:=hide (Bl.new wr #[.int .i64 (b:Int),.slice (wat V k).da (wat V k).dl (wat V k).dc] 171)
    clear KS1 KD1 hJ KX
    subst ea
    generalize (wat V k).da=da at *
    generalize (wat V k).dl=dl at *
    generalize (wat V k).dc=dc at *
    generalize (b:Int)=bi at *
    go_upto_region 7 with fail
    change Code.wp _ _ _ _ (wr.alloc (.cells #[.int .i64 bi,.slice da dl dc] 171))
    generalize wr.alloc (.cells #[.int .i64 bi,.slice da dl dc] 171)=ub at *
    generalize wr.heap.size=gb at *
    have z1:=(unhide BX).cell 0 (.int .i64 bi) rfl
    have z2:=(unhide BX).cell 1 (.slice da dl dc) rfl
    clear BX x1 x2
    go_region
    go_wp2_with fail
    go_roundw
    case rel=>exact⟨k+1,by omega,by go_num,Z⟩
    case measure=>simp[intOf];omega
   ·have ek:k=np:=by omega
    rw[ek] at hJ
    obtain⟨Z,c21⟩:=unhide KD1 _ (unhide hJ)
    have HZ:=hide Z
    clear KS1 KD1 hJ Z
    go_wp2_with fail
    go_ret
    exact⟨_,rfl,unhide HZ⟩

theorem gtD_n (C:Cac)(D:Dev)(b:Nat):(C.gtD D b).n=D.n∧(C.gtD D b).blk=D.blk:=by
 unfold Cac.gtD
 split
 ·exact⟨rfl,rfl⟩
 ·exact rmD_n C D

theorem ptD_n (C:Cac)(D:Dev)(b:Nat):(C.ptD D b).n=D.n∧(C.ptD D b).blk=D.blk:=by
 unfold Cac.ptD
 split
 ·exact⟨rfl,rfl⟩
 ·exact rmD_n C D

def grE (X:Grp) (C:Cac) (L:Lg) (D:Dev) (b:Nat):Int:=match X.Q b with | some _=>0 | none=>match L.Q b with | some _=>0 | none=>C.gtE D b

def grZ (X:Grp) (C:Cac) (L:Lg) (D:Dev) (b:Nat):List Int:=match X.Q b with | some z=>z | none=>match L.Q b with | some z=>z | none=>C.gtZ D b

def grC (X:Grp) (C:Cac) (L:Lg) (D:Dev) (b:Nat):Cac:=match X.Q b with | some _=>C | none=>match L.Q b with | some _=>C | none=>C.gtC D b

def grD (X:Grp) (C:Cac) (L:Lg) (D:Dev) (b:Nat):Dev:=match X.Q b with | some _=>D | none=>match L.Q b with | some _=>D | none=>C.gtD D b

theorem InA.look {u:World}{S Sg Sc Sl Sd:Nat→Prop}{g cg lg dg:Nat}{P:Nat→Int}{G:Geo}{X:Grp}{C:Cac}{L:Lg}{D:Dev}{mk:KMem}{ml:LMem}{v:Option Nat}{w':World}(h:InA u S Sg Sc Sl Sd g cg lg dg P G X C L D mk ml v w'){b:Nat}(hb:b<G.n){z:List Int}(e:L.Q b=some z) :
  ∃ r:Nat×Nat,(Instr.lookup 78 (.map v) (.int .i64 (b:Int)) true).run Tryz.prog w'=.ok (.tuple #[.slice (some ⟨r.1,0,none⟩) G.blk r.2,.bool true]) w'∧Has w' (some ⟨r.1,0,none⟩) G.blk z∧∀ x∈z,0≤x∧x≤255:=by
 obtain⟨S',Sg',m',a1,x1,e1,hq⟩:=h
 have hn:=a1.gr.pg.ok.n2
 have hk:=a1.gr.pg.ok.blk
 have hqb:=hq b hb
 rw[e] at hqb
 cases hv:m'.pb with
 | none=>rw[a1.gr.pno hv b hb] at hqb;cases hqb
 | some pb =>
  have hp:=a1.gr.pen pb hv
  have r:=hp.look hn hb hqb
  rw[← e1,hv]
  exact⟨m'.PA b,r,((hp.row b z hb hqb).row (by omega)).has,(hp.row b z hb hqb).byt⟩

theorem InA.look_no {u:World}{S Sg Sc Sl Sd:Nat→Prop}{g cg lg dg:Nat}{P:Nat→Int}{G:Geo}{X:Grp}{C:Cac}{L:Lg}{D:Dev}{mk:KMem}{ml:LMem}{v:Option Nat}{w':World}(h:InA u S Sg Sc Sl Sd g cg lg dg P G X C L D mk ml v w'){b:Nat}(hb:b<G.n)(e:L.Q b=none) :
  (Instr.lookup 78 (.map v) (.int .i64 (b:Int)) true).run Tryz.prog w'=.ok (.tuple #[.slice none 0 0,.bool false]) w':=by
 obtain⟨S',Sg',m',a1,x1,e1,hq⟩:=h
 have hn:=a1.gr.pg.ok.n2
 have hqb:=hq b hb
 rw[e] at hqb
 cases hv:m'.pb with
 | none =>
  rw[← e1,hv]
  exact Maps.look_nil (w:=w') true law3 Tryz.underlying78 (zeroRB w') (key_small (k:=b) (by omega))
 | some pb =>
  rw[← e1,hv]
  exact(a1.gr.pen pb hv).look_no hn hb hqb

theorem clone_row {u:World}{x:Addr}{blk cap:Nat}{z:List Int}(hr:Has u (some x) blk z)(hb:blk≤4096):Calls Tryz.prog 113 #[.slice (some x) blk cap] u fun e w'=>∃ a c,e=.returned (.slice a blk c)∧Hid (Own u.heap.size w' a blk c z∧Below u.heap.size u w'):=by
 refine(bclone_any x blk cap z u hr (by omega)).mono ?_
 rintro e w' ⟨a,c,rfl,h1,h2⟩
 exact⟨a,c,rfl,h1,h2⟩

theorem gread_ok {u:World}{S:Nat→Prop}{g cg lg dg:Nat}{P:Nat→Int}{G:Geo}{X:Grp}{C:Cac}{L:Lg}{D:Dev}(h:Gv u S g cg lg dg P G X C L D){b:Nat}(hb:b<G.n)(he:grE X C L D b=0) :
  Calls Tryz.prog 140 #[.pointer (some ⟨g,0,none⟩),.int .i64 (b:Int)] u fun e w'=>∃ a c,e=.returned (.tuple #[.slice a G.blk c,.int .i64 0]) ∧
   Hid (∃ S',Own u.heap.size w' a G.blk c (grZ X C L D b)∧Gv w' S' g cg lg dg P G X (grC X C L D b) L (grD X C L D b)∧Nx S u S' w'∧∀ k,a=some ⟨k,0,none⟩→¬ S' k):=by
 obtain⟨Sg,Sc,Sl,Sd,m,mk,ml,h⟩:=h
 have K1:=refusesBlock_any h.gr (b:Int) 0
 unfold rngE at K1
 rw[if_neg (by omega)] at K1
 replace K1:=hide K1
 have c16:=h.gr.cells.2.2.2.2.2.1
 have c2:=h.gr.cells.2.2.1
 have hn:=h.gr.pg.ok.n2
 have hbk:=h.gr.pg.ok.blk
 unfold grE at he
 unfold grZ grC grD
 cases hq:X.Q b with
 | some z =>
  simp only
  have lk:=h.gr.log.look hn hb hq
  have hrow:=h.gr.log.row b z hb hq
  have KC:Hid (Calls Tryz.prog 113 #[.slice (some ⟨(m.LA b).1,0,none⟩) G.blk (m.LA b).2] u fun e w'=>∃ a c,e=.returned (.slice a G.blk c)∧Hid (∃ S',Own u.heap.size w' a G.blk c z∧Gv w' S' g cg lg dg P G X C L D∧Nx S u S' w'∧∀ k,a=some ⟨k,0,none⟩→¬ S' k)):=by
   refine(clone_row (hrow.row (by omega)).has (by omega)).mono ?_
   rintro e w' ⟨a,c,rfl,Y⟩
   obtain⟨o1,b1⟩:=unhide Y
   refine⟨a,c,rfl,S,o1,(h.below b1).gv,(Nx.refl S u).below' b1,fun k ek hs=>?_⟩
   have:=h.lt hs
   have:=(o1.lt ek).2.1
   omega
  clear h hrow he hq
  unfold rv at lk
  generalize (m.LA b).1=r1 at *
  generalize (m.LA b).2=r2 at *
  generalize m.lb=lb at *
  generalize (b:Int)=bi at *
  go_enter Tryz.func140,Tryz.ntmps140
  go_wp2_with (first | (go_at_call 141;refine(unhide K1).mono ?_;rintro e w' ⟨rfl,rfl⟩;clear K1) | (go_at_call 113;refine(unhide KC).mono ?_;rintro e w' ⟨a,c,rfl,Z⟩;clear KC))
  go_ret2
  exact⟨a,c,rfl,Z⟩
 | none =>
  rw[hq] at he
  simp only at he ⊢
  have lk:=h.gr.log.look_no hn hb hq
  have KI:=hide (inLog_any h)
  have HC:Hid (∀ v w1,InA u S Sg Sc Sl Sd g cg lg dg P G X C L D mk ml v w1→w1.cell? ⟨g,2,none⟩=some (.pointer (some ⟨cg,0,none⟩))):=fun v w1 hI=>by
   obtain⟨S',Sg',m',a1,_⟩:=hI
   exact a1.gr.cells.2.2.1
  cases hl:L.Q b with
  | some z =>
   simp only
   have KL:Hid (∀ v w1,InA u S Sg Sc Sl Sd g cg lg dg P G X C L D mk ml v w1→∃ r1 r2,(Instr.lookup 78 (.map v) (.int .i64 (b:Int)) true).run Tryz.prog w1=.ok (.tuple #[.slice (some ⟨r1,0,none⟩) G.blk r2,.bool true]) w1 ∧
     Hid (Calls Tryz.prog 113 #[.slice (some ⟨r1,0,none⟩) G.blk r2] w1 fun e w'=>∃ a c,e=.returned (.slice a G.blk c)∧Hid (∃ S',Own u.heap.size w' a G.blk c z∧Gv w' S' g cg lg dg P G X C L D∧Nx S u S' w'∧∀ k,a=some ⟨k,0,none⟩→¬ S' k))):=fun v w1 hI=>by
    obtain⟨r,lr,hr,_⟩:=hI.look hb hl
    refine⟨r.1,r.2,lr,(clone_row hr (by omega)).mono ?_⟩
    rintro e w' ⟨a,c,rfl,Y⟩
    obtain⟨o1,b1⟩:=unhide Y
    obtain⟨S',Sg',m',a1,x1,_⟩:=hI
    refine⟨a,c,rfl,S',o1.base x1.fr.size,(a1.below b1).gv,x1.below' b1,fun k ek hs=>?_⟩
    have:=a1.lt hs
    have:=(o1.lt ek).2.1
    omega
   clear h he hq hl HC
   generalize m.lb=lb at *
   generalize (b:Int)=bi at *
   go_enter Tryz.func140,Tryz.ntmps140
   go_wp2_with (first | (go_at_call 141;refine(unhide K1).mono ?_;rintro e w' ⟨rfl,rfl⟩;clear K1) | (go_at_call 86;refine(unhide KI).mono ?_;rintro e w1 ⟨v,rfl,Y⟩;obtain⟨r1,r2,lr,KC⟩:=unhide KL v w1 (unhide Y);clear KI KL Y lk c16 c2) | (go_at_call 113;refine(unhide KC).mono ?_;rintro e w' ⟨a,c,rfl,Z⟩;clear KC))
   go_ret2
   exact⟨a,c,rfl,Z⟩
  | none =>
   rw[hl] at he
   simp only at he ⊢
   have KL:Hid (∀ v w1,InA u S Sg Sc Sl Sd g cg lg dg P G X C L D mk ml v w1→(Instr.lookup 78 (.map v) (.int .i64 (b:Int)) true).run Tryz.prog w1=.ok (.tuple #[.slice none 0 0,.bool false]) w1 ∧
     Hid (Calls Tryz.prog 190 #[.pointer (some ⟨cg,0,none⟩),.int .i64 (b:Int)] w1 fun e w'=>∃ a c,e=.returned (.tuple #[.slice a G.blk c,.int .i64 0])∧Hid (∃ S',Own u.heap.size w' a G.blk c (C.gtZ D b)∧Gv w' S' g cg lg dg P G X (C.gtC D b) L (C.gtD D b)∧Nx S u S' w'∧∀ k,a=some ⟨k,0,none⟩→¬ S' k))):=fun v w1 hI=>by
    refine⟨hI.look_no hb hl,?_⟩
    obtain⟨S',Sg',m',a1,x1,_⟩:=hI
    refine(kget_ok cg dg b _ C D w1 a1.kv.kv (by rw[a1.nd];exact hb) he).mono ?_
    rintro e w' ⟨a,c,rfl,Y⟩
    obtain⟨S2,o1,k1,x2,n2⟩:=unhide Y
    obtain⟨S3,Sc3,Sd3,mk3,a3,x3,n3⟩:=a1.cache k1 x2 (gtD_n C D b)
    rw[a1.bd] at o1 ⊢
    refine⟨a,c,rfl,S3,o1.base x1.fr.size,a3.gv,x1.trans x3,fun k ek hs=>?_⟩
    rcases n3 k hs with y | y
    ·exact n2 k ek y
    ·have:=(o1.lt ek).2.1
     omega
   clear h he hq hl
   generalize m.lb=lb at *
   generalize (b:Int)=bi at *
   go_enter Tryz.func140,Tryz.ntmps140
   go_wp2_with (first | (go_at_call 141;refine(unhide K1).mono ?_;rintro e w' ⟨rfl,rfl⟩;clear K1) | (go_at_call 86;refine(unhide KI).mono ?_;rintro e w1 ⟨v,rfl,Y⟩;obtain⟨lr,KC⟩:=unhide KL v w1 (unhide Y);have c2':=unhide HC v w1 (unhide Y);clear KI KL Y lk c16 c2 HC) | (go_at_call 190;refine(unhide KC).mono ?_;rintro e w' ⟨a,c,rfl,Z⟩;clear KC))
   go_ret2
   exact⟨a,c,rfl,Z⟩

def blkL (n:Nat) (Q:Nat→Option (List Int)):List Nat:=lstX (fun b=>(Q b).isSome) n

def blkI (n:Nat) (Q:Nat→Option (List Int)):List Int:=(blkL n Q).map (fun b:Nat=>(b:Int))

theorem blocks_any {u:World}{S:Nat→Prop}{g dg lg cg:Nat}{P:Nat→Int}{G:Geo}{X:Grp}{m:GMem}(h:GrM u S g dg lg cg P G X m) :
  Calls Tryz.prog 160 #[.pointer (some ⟨g,0,none⟩)] u fun e w'=>∃ v,e=.returned v∧Hid (Gr u.heap.size w' v (blkI G.n X.Q)∧Below u.heap.size u w'):=by
 have c16:=h.cells.2.2.2.2.2.1
 have KK:=keys_sorted G.blk m.lb G.n _ u h.log.map.toB h.pg.ok.n2
 have e1:keysI G.n (fun b=>(X.Q b).map fun _=>m.LA b)=blkI G.n X.Q:=by
  unfold keysI blkI blkL lstX keysB
  congr 1
  refine List.filter_congr (fun b _=>?_)
  cases hq:X.Q b<;>simp[hq]
 rw[e1] at KK
 replace KK:=hide KK
 clear h e1
 generalize m.lb=lb at *
 go_enter Tryz.func160,Tryz.ntmps160
 go_wp2_with fail
 go_at_call 167
 refine(unhide KK).mono ?_
 rintro e w1 ⟨rfl,K2⟩
 clear KK
 go_wp2_with fail
 go_at_call 99
 refine(unhide K2).mono ?_
 rintro e w2 ⟨kv,rfl,X⟩
 clear K2
 go_wp2_with fail
 go_ret
 exact⟨_,rfl,X⟩

def Gl (B:Nat) (u:World) (v:Value) (V:List Wr):Prop:=u.ownsRow B 171 2 v V.length (cellsW V)

theorem Gl.nil (B:Nat)(u:World):Gl B u (.slice none 0 0) []:=World.ownsRow_nil u B _ 2

theorem Gl.shape {B:Nat}{u:World}{v:Value}{V:List Wr}(h:Gl B u v V):∃ a c,v=.slice a V.length c∧V.length≤c∧c≤maxLen:=by
 obtain⟨h1,h2⟩:=h
 rcases h2 with ⟨rfl,h0⟩ | ⟨g,cap,cur,rfl,hb,hg,r1,r2,_⟩
 ·exact⟨none,0,by rw[h0],by omega,by unfold maxLen;omega⟩
 ·exact⟨_,cap,rfl,r1,r2⟩

theorem Gl.later {B:Nat}{u u':World}{v:Value}{V:List Wr}(h:Gl B u v V)(hb:Below u.heap.size u u'):Gl B u' v V :=
 ownsRow_other h (fun k e=>by
  obtain⟨_,cur,h2⟩:=ownsRow_blk2 h e
  exact hb.block k (Array.getElem?_eq_some_iff.1 h2).1)

theorem Gl.has {B:Nat}{u:World}{a:Option Addr}{c:Nat}{V:List Wr}(h:Gl B u (.slice a V.length c) V)(hr:∀ j,j<V.length→Row u.heap.size u (wat V j).da (wat V j).dl (wat V j).dc (wat V j).z):WHas u a V.length V:=by
 refine⟨rfl,fun hp=>?_,hr⟩
 obtain⟨h1,h2⟩:=h
 rcases h2 with ⟨_,h0⟩ | ⟨g,cap,cur,e,hb,hg,r1,r2,r3,r4⟩
 ·omega
 ·cases e
  refine⟨g,0,rfl,(Array.getElem?_eq_some_iff.1 hg).1,fun j hj=>?_⟩
  obtain⟨c1,c2⟩:=cellsW_at V j hj
  rw[← r4,List.getElem?_take_of_lt (by omega)] at c1 c2
  rw[Nat.zero_add]
  exact⟨by simp only[World.cell?,hg];simpa using c1,by simp only[World.cell?,hg];simpa using c2⟩

theorem Gl.one {B:Nat}{u:World}{v:Value}{V:List Wr}(h:Gl B u v V)(hB:B≤u.heap.size)(hl:V.length≤100000)(x:Wr) :
  ∃ v' w',(∀ ty,(Builtin.append_ #[115,115] ty #[v,.slice (some ⟨u.heap.size,0,none⟩) 1 1]).run Tryz.prog (u.alloc (.cells #[.int .i64 x.b,.slice x.da x.dl x.dc] 171))=.ok v' w')∧Gl B w' v' (V++[x])∧Below B u w' ∧
   (∀ (k:Nat) (t:TypeId) (c:Array Value) (q:Nat×Nat),t≠171→u.heap[k]?=some (Obj.cells c t q)→w'.heap[k]?=u.heap[k]?):=by
 obtain⟨i0,hi,hz0,hz1,hz2⟩:=info_parts infoW
 have hb:Below u.heap.size u (u.alloc (.cells #[.int .i64 x.b,.slice x.da x.dl x.dc] 171)):=(Below.refl _ _).alloc (Nat.le_refl _) _
 have h1:=h.later hb
 have hnw:=Bl.new u #[.int .i64 x.b,.slice x.da x.dl x.dc] 171
 obtain⟨v',w',hrun,ho,hg,_⟩:=run_append_own (P:=Tryz.prog) (u.alloc (.cells #[.int .i64 x.b,.slice x.da x.dl x.dc] 171)) B 115 0 171 i0 (.agg #[.int .i64 0,.slice none 0 0]) 2 32 Tryz.underlying115 hi hz0 hz1 hz2 rfl (by decide) v V.length (cellsW V) h1 ⟨u.heap.size,0,none⟩ 1 1 [.int .i64 x.b,.slice x.da x.dl x.dc] rfl (by
   intro j z hj
   rw[World.add_zero_spot,Nat.zero_add]
   have hj2:j<2:=by have:=(List.getElem?_eq_some_iff.1 hj).1;simpa using this
   refine hnw.cell j z ?_
   simpa using hj) (by intro z hz;simp at hz;rcases hz with rfl | rfl<;>rfl) (by unfold maxLen;omega) (by omega) (Nat.le_trans hB hb.size)
 refine⟨v',w',fun ty=>hrun,?_,(hb.mono hB).grown hg (Nat.le_trans hB hb.size) (fun k e=>(ownsRow_blk2 h e).1),fun k t c q ht hh=>?_⟩
 ·unfold Gl
  rw[cellsW_append,List.length_append]
  exact ho
 ·have hk:=(Array.getElem?_eq_some_iff.1 hh).1
  refine(hg.block k (Nat.lt_of_lt_of_le hk hb.size) (fun e=>?_)).trans (hb.block k hk)
  obtain⟨_,cur,hc⟩:=ownsRow_blk2 h e.symm
  rw[hc] at hh
  cases hh
  exact ht rfl

def lstV (G:Geo) (Q:Nat→Option (List Int)) (A:Nat→Nat×Nat) (k:Nat):List Wr:=((pendL G Q).take k).map (fun b:Nat=>⟨(b:Int),some ⟨(A b).1,0,none⟩,G.blk,(A b).2,(Q b).getD []⟩)

theorem lstV_len {G:Geo}{Q:Nat→Option (List Int)}{A:Nat→Nat×Nat}{k:Nat}(hk:k≤(pendL G Q).length):(lstV G Q A k).length=k:=by simp[lstV];omega

theorem lstV_succ {G:Geo}{Q:Nat→Option (List Int)}{A:Nat→Nat×Nat}{k b:Nat}(hb:(pendL G Q)[k]?=some b):lstV G Q A (k+1)=lstV G Q A k++[⟨(b:Int),some ⟨(A b).1,0,none⟩,G.blk,(A b).2,(Q b).getD []⟩]:=by
 have hk:=(List.getElem?_eq_some_iff.1 hb).1
 have e:(pendL G Q)[k]=b:=(List.getElem?_eq_some_iff.1 hb).2
 unfold lstV
 rw[List.take_succ_eq_append_getElem hk,e,List.map_append]
 rfl

theorem lstV_mem {G:Geo}{Q:Nat→Option (List Int)}{A:Nat→Nat×Nat}{k:Nat}{x:Wr}(h:x∈lstV G Q A k):∃ b z,b<G.n∧Q b=some z∧x=⟨(b:Int),some ⟨(A b).1,0,none⟩,G.blk,(A b).2,z⟩:=by
 unfold lstV at h
 obtain⟨b,hb,rfl⟩:=List.mem_map.1 h
 obtain⟨h1,h2⟩:=pendL_mem.1 (List.mem_of_mem_take hb)
 obtain⟨z,hz⟩:=Option.isSome_iff_exists.1 h2
 exact⟨b,z,h1,hz,by rw[hz];rfl⟩

structure LsI (w:World) (G:Geo) (Q:Nat→Option (List Int)) (A:Nat→Nat×Nat) (kv:Value) (k:Nat) (v:Value) (u:World):Prop where
 gl:Gl w.heap.size u v (lstV G Q A k)
 bel:Below w.heap.size w u
 key:Gr w.heap.size u kv (blkI G.n Q)

theorem LsI.step {w u:World}{G:Geo}{Q:Nat→Option (List Int)}{A:Nat→Nat×Nat}{kv v:Value}{k:Nat}(h:LsI w G Q A kv k v u)(hn:G.n≤4096){b:Nat}(hb:(pendL G Q)[k]?=some b) :
  ∃ v' w2,(∀ ty,(Builtin.append_ #[115,115] ty #[v,.slice (some ⟨u.heap.size,0,none⟩) 1 1]).run Tryz.prog (u.alloc (.cells #[.int .i64 (b:Int),.slice (some ⟨(A b).1,0,none⟩) G.blk (A b).2] 171))=.ok v' w2)∧LsI w G Q A kv (k+1) v' w2:=by
 have hk:=(List.getElem?_eq_some_iff.1 hb).1
 have hpl:=pendL_len G Q
 obtain⟨v',w2,r2,g2,b2,k2⟩:=h.gl.one h.bel.size (by rw[lstV_len (by omega)];omega) ⟨(b:Int),some ⟨(A b).1,0,none⟩,G.blk,(A b).2,(Q b).getD []⟩
 refine⟨v',w2,r2,by rw[lstV_succ hb];exact g2,h.bel.trans b2,?_⟩
 have kg:=h.key
 obtain⟨k3,k4⟩:=kg
 refine⟨k3,?_⟩
 rcases k4 with k4 | ⟨q,cap,cur,e,x1,x2,x3⟩
 ·exact .inl k4
 ·exact .inr ⟨q,cap,cur,e,x1,(k2 q 3 cur (0,0) (by decide) x2).trans x2,x3⟩

theorem blkI_pend (G:Geo)(Q:Nat→Option (List Int)):blkI G.n Q=(pendL G Q).map (fun b:Nat=>(b:Int)):=rfl

theorem list_any {u:World}{S:Nat→Prop}{g dg lg cg:Nat}{P:Nat→Int}{G:Geo}{X:Grp}{m:GMem}(h:GrM u S g dg lg cg P G X m) :
  Calls Tryz.prog 110 #[.pointer (some ⟨g,0,none⟩)] u fun e w'=>∃ v,e=.returned v∧Hid (Gl u.heap.size w' v (lstV G X.Q m.LA (pendL G X.Q).length)∧Below u.heap.size u w'):=by
 have KB:=hide (blocks_any h)
 have hn:=h.pg.ok.n2
 have K0:Hid (∀ w2 v,Gr u.heap.size w2 v (blkI G.n X.Q)→Below u.heap.size u w2→∃ a c,v=.slice a (pendL G X.Q).length c∧Hid (LsI u G X.Q m.LA v 0 (.slice none 0 0) w2)):=by
  intro w2 v g2 b2
  obtain⟨a,c,e⟩:=g2.shape
  refine⟨a,c,?_,Gl.nil _ _,b2,g2⟩
  rw[e,blkI_pend,List.length_map]
 have KI:Hid (∀ w1 k a n c v,LsI u G X.Q m.LA (.slice a n c) k v w1→k<n→∃ kb off b,a=some ⟨kb,off,none⟩∧w1.cell? ⟨kb,off+k,none⟩=some (.int .i64 ((b:Nat):Int))∧w1.cell? ⟨g,16,none⟩=some (.map (some m.lb))∧(Instr.lookup 78 (.map (some m.lb)) (.int .i64 (b:Int)) false).run Tryz.prog w1=.ok (.slice (some ⟨(m.LA b).1,0,none⟩) G.blk (m.LA b).2) w1 ∧
   ∃ v' w2,Hid (∀ ty,(Builtin.append_ #[115,115] ty #[v,.slice (some ⟨w1.heap.size,0,none⟩) 1 1]).run Tryz.prog (w1.alloc (.cells #[.int .i64 (b:Int),.slice (some ⟨(m.LA b).1,0,none⟩) G.blk (m.LA b).2] 171))=.ok v' w2)∧Hid (LsI u G X.Q m.LA (.slice a n c) (k+1) v' w2)):=by
  intro w1 k a n c v hP hk
  obtain⟨hi,hnn⟩:=gr_ihas hP.key
  rw[blkI_pend,List.length_map] at hnn
  obtain⟨kb,off,e,hc⟩:=hi.2 (by omega)
  have hk2:k<(pendL G X.Q).length:=by omega
  obtain⟨h1,h2⟩:=pendL_mem.1 (List.getElem_mem hk2)
  obtain⟨z,hz⟩:=Option.isSome_iff_exists.1 h2
  have hg:=h.kept (u':=w1) (S':=S) (fun j hj=>hP.bel.block j (h.lt j hj)) (fun _ x=>x) (fun j hj=>Nat.lt_of_lt_of_le (h.lt j hj) hP.bel.size)
  obtain⟨v',w2,r2,L2⟩:=hP.step hn (List.getElem?_eq_getElem hk2)
  refine⟨kb,off,(pendL G X.Q)[k],e,?_,hg.cells.2.2.2.2.2.1,hg.log.at hn h1 hz,v',w2,r2,L2⟩
  rw[hc k hk,blkI_pend]
  simp[List.getElem?_eq_getElem hk2]
 have KE:Hid (∀ w1 kv v,LsI u G X.Q m.LA kv (pendL G X.Q).length v w1→Hid (Gl u.heap.size w1 v (lstV G X.Q m.LA (pendL G X.Q).length)∧Below u.heap.size u w1)):=fun w1 kv v hP=>⟨hP.gl,hP.bel⟩
 have hnp:(pendL G X.Q).length≤4096:=Nat.le_trans (pendL_len G X.Q) hn
 clear h hn
 generalize (pendL G X.Q).length=np at *
 generalize m.lb=lb at *
 go_enter Tryz.func110,Tryz.ntmps110
 go_wp2_with fail
 go_at_call 160
 refine(unhide KB).mono ?_
 rintro e w2 ⟨kv,rfl,X0⟩
 obtain⟨a,c,rfl,Y⟩:=unhide K0 w2 kv (unhide X0).1 (unhide X0).2
 clear KB K0 X0
 go_wp2_with fail
 go_loopw [3,9] (fun v i wr=>∃ k:Nat,k≤np∧i=.int .i64 (k:Int)∧Hid (LsI u G X.Q m.LA (.slice a np c) k v wr)) (fun _ i _=>np - (intOf i).toNat)
 case atStart=>exact⟨0,Nat.zero_le _,rfl,Y⟩
 case round =>
  rename_i v
  obtain⟨k,hk,rfl,hJ⟩:=hrel
  clear Y
  by_cases hlt:k<np
  ·obtain⟨kb,off,b,ea,x1,x2,x3,v',w3,AP,Z⟩:=unhide KI _ _ _ _ _ _ (unhide hJ) hlt
   clear KI KE hJ
   subst ea
   generalize (m.LA b).1=r1 at *
   generalize (m.LA b).2=r2 at *
   generalize (b:Int)=bi at *
   go_wp2_with (at_builtin;refine wpList_append_run 115 rfl _ _ rfl _ _ _ rfl rfl (unhide AP) ?_;clear AP)
   go_roundw
   case rel=>exact⟨k+1,by omega,by go_num,Z⟩
   case measure=>simp[intOf];omega
  ·have ek:k=np:=by omega
   rw[ek] at hJ
   have Z:=unhide KE _ _ _ (unhide hJ)
   clear KI KE hJ
   go_wp2_with fail
   go_ret
   exact⟨_,rfl,Z⟩

theorem KvM.relayC {w w1:World}{S Sc Sd:Nat→Prop}{g dg:Nat}{C:Cac}{D:Dev}{m:KMem}(h:KvM w S Sc Sd g dg C D m){b:Nat}{l:Ln}(hb:b<D.n)(e:C.L b=some l){a:Option Addr}{c:Nat}{zs:List Int}(ho:Own w.heap.size w1 a D.blk c zs)(hb1:Below w.heap.size w w1)(hz:∀ z∈zs,0≤z∧z≤255) :
  (∃ v,w1.cell? ⟨m.q b,0,none⟩=some v)∧(∀ k,w1.frozen? ⟨m.q b,k,none⟩=false)∧w1.cell? ⟨m.q b,1,none⟩=some (.bool l.d) ∧
   ∃ S2,Kv ((w1.setCell ⟨m.q b,0,none⟩ (.slice a D.blk c)).setCell ⟨m.q b,1,none⟩ (.bool false)) S2 g dg (C.set b ⟨zs,false,l.p⟩) D∧Nx S w S2 ((w1.setCell ⟨m.q b,0,none⟩ (.slice a D.blk c)).setCell ⟨m.q b,1,none⟩ (.bool false)):=by
 have h1:CcM w1 (exS Sc w w1) g dg D.n D.blk C m:=h.cc.kept (fun k hk=>hb1.block k (h.cc.lt k hk)) (fun k hk=>.inl hk) (fun k hk=>by
  rcases hk with hk | hk
  ·exact Nat.lt_of_lt_of_le (h.cc.lt k hk) hb1.size
  ·exact hk.2)
 obtain⟨k,rfl,hr,_⟩:=ho.rowAt (by have:=h.dd.ok.b1;omega) hz (S:=exS Sc w w1) (fun k h1 h2=>.inr ⟨h1,h2⟩)
 obtain⟨x0,x1,_,x3⟩:=h1.line hb e
 have s1:=h1.setL (l':=⟨zs,l.d,l.p⟩) (r':=(k,c)) hb e 0 (.slice (some ⟨k,0,none⟩) D.blk c) (fun i hi=>by
  have:i=0∨i=1∨i=2:=by omega
  rcases this with rfl | rfl | rfl<;>simp[lcell]) hr
 have e1:(C.set b ⟨zs,l.d,l.p⟩).L b=some ⟨zs,l.d,l.p⟩:=by simp[Cac.set]
 have s2:=s1.setL (l':=⟨zs,false,l.p⟩) (r':=(k,c)) hb e1 1 (.bool false) (fun i hi=>by
  have:i=0∨i=1∨i=2:=by omega
  rcases this with rfl | rfl | rfl<;>simp[lcell]) (by have:=s1.row b _ hb e1;simpa using this)
 rw[set_set] at s2
 have hs:exS Sc w w1 (m.q b):=.inl (h.cc.sl b l hb e)
 have hx:Nx Sc w (exS Sc w w1) ((w1.setCell ⟨m.q b,0,none⟩ (.slice (some ⟨k,0,none⟩) D.blk c)).setCell ⟨m.q b,1,none⟩ (.bool false)):=((Nx.grow hb1).trans (Nx.set (p:=⟨m.q b,0,none⟩) hs _)).trans (Nx.set (p:=⟨m.q b,1,none⟩) hs _)
 obtain⟨y1,y2,y3,y4⟩:=Kv.own h.cc.lt h.dd h.dis h.all s2 hx
 exact⟨⟨_,x0⟩,x3,x1,_,y3,y4⟩

theorem kclean_held (g dg b:Nat)(l:Ln)(x:Addr)(cap:Nat)(zs:List Int)(S:Nat→Prop)(C:Cac)(D:Dev)(w:World)(h:Kv w S g dg C D)(hb:b<D.n)(hl:C.L b=some l)(hr:Has w (some x) D.blk zs)(hz:∀ z∈zs,0≤z∧z≤255) :
  Calls Tryz.prog 117 #[.pointer (some ⟨g,0,none⟩),.int .i64 b,.slice (some x) D.blk cap] w fun e w'=>e=.returned (.int .i64 0)∧∃ S',Kv w' S' g dg (C.set b ⟨zs,false,l.p⟩) D∧Nx S w S' w':=by
 obtain⟨Sc,Sd,m,km⟩:=h.open
 have K:=refusesData_cc g dg b (some x) D.blk cap Sc Sd C D m w km.cc km.dd
 rw[refE_ok hb] at K
 replace K:=hide K
 obtain⟨_,_,_,c3,_⟩:=km.cc.cells
 have hlk:=km.cc.map.look km.dd.ok.n2 hb (km.cc.M_some hl)
 have hb2:=km.dd.ok.b2
 have KC:Hid (Calls Tryz.prog 113 #[.slice (some x) D.blk cap] w fun e w1=>∃ a c,e=.returned (.slice a D.blk c)∧(∃ v,w1.cell? ⟨m.q b,0,none⟩=some v)∧(∀ k,w1.frozen? ⟨m.q b,k,none⟩=false)∧w1.cell? ⟨m.q b,1,none⟩=some (.bool l.d) ∧
   Hid (∃ S2,Kv ((w1.setCell ⟨m.q b,0,none⟩ (.slice a D.blk c)).setCell ⟨m.q b,1,none⟩ (.bool false)) S2 g dg (C.set b ⟨zs,false,l.p⟩) D∧Nx S w S2 ((w1.setCell ⟨m.q b,0,none⟩ (.slice a D.blk c)).setCell ⟨m.q b,1,none⟩ (.bool false)))):=by
  refine(bclone_any x D.blk cap zs w hr (by omega)).mono ?_
  rintro e w1 ⟨a,c,rfl,o1,b1⟩
  exact⟨a,c,rfl,km.relayC hb hl o1 b1 hz⟩
 clear h km hb hl hr hz hb2
 generalize m.q b=q at *
 generalize m.mb=mb at *
 generalize D.blk=bb at *
 go_enter Tryz.func117,Tryz.ntmps117
 go_wp2_with fail
 go_at_call 111
 refine(unhide K).mono ?_
 rintro e w' ⟨rfl,rfl⟩
 clear K
 go_wp2_with fail
 go_at_call 113
 refine(unhide KC).mono ?_
 rintro e w1 ⟨a,c,rfl,⟨v,x0⟩,x1,x2,X⟩
 clear KC
 go_wp2_with fail
 go_ret
 exact⟨rfl,unhide X⟩

theorem kclean_no (g dg b:Nat)(x:Addr)(cap:Nat)(S:Nat→Prop)(C:Cac)(D:Dev)(w:World)(h:Kv w S g dg C D)(hb:b<D.n)(hl:C.L b=none) :
  Calls Tryz.prog 117 #[.pointer (some ⟨g,0,none⟩),.int .i64 b,.slice (some x) D.blk cap] w fun e w'=>e=.returned (.int .i64 0)∧w=w':=by
 obtain⟨Sc,Sd,m,km⟩:=h.open
 have K:=refusesData_cc g dg b (some x) D.blk cap Sc Sd C D m w km.cc km.dd
 rw[refE_ok hb] at K
 replace K:=hide K
 obtain⟨_,_,_,c3,_⟩:=km.cc.cells
 have hlk:=km.cc.map.look_no km.dd.ok.n2 hb (by simp[Cac.M,hl])
 clear h km hb hl
 generalize m.mb=mb at *
 generalize D.blk=bb at *
 go_enter Tryz.func117,Tryz.ntmps117
 go_wp2_with (go_at_call 111;refine(unhide K).mono ?_;rintro e w' ⟨rfl,rfl⟩;clear K)
 go_ret
 exact⟨rfl,rfl⟩

def Cac.cl (C:Cac) (b:Nat) (zs:List Int):Cac:=match C.L b with | some l=>C.set b ⟨zs,false,l.p⟩ | none=>C

theorem kclean_any (g dg b:Nat)(x:Addr)(cap:Nat)(zs:List Int)(S:Nat→Prop)(C:Cac)(D:Dev)(w:World)(h:Kv w S g dg C D)(hb:b<D.n)(hr:Has w (some x) D.blk zs)(hz:∀ z∈zs,0≤z∧z≤255) :
  Calls Tryz.prog 117 #[.pointer (some ⟨g,0,none⟩),.int .i64 b,.slice (some x) D.blk cap] w fun e w'=>e=.returned (.int .i64 0)∧∃ S',Kv w' S' g dg (C.cl b zs) D∧Nx S w S' w':=by
 unfold Cac.cl
 cases hl:C.L b with
 | some l=>exact kclean_held g dg b l x cap zs S C D w h hb hl hr hz
 | none =>
  refine(kclean_no g dg b x cap S C D w h hb hl).mono ?_
  rintro e w' ⟨rfl,rfl⟩
  exact⟨rfl,S,h,Nx.refl _ _⟩

def Cac.dr (C:Cac) (b:Nat):Cac:=match C.L b with | some l=>if 0<l.p then C else C.del b | none=>C

theorem kdrop_any (g dg b:Nat)(S:Nat→Prop)(C:Cac)(D:Dev)(w:World)(h:Kv w S g dg C D)(hb:b<D.n) :
  Calls Tryz.prog 114 #[.pointer (some ⟨g,0,none⟩),.int .i64 b] w fun e w'=>∃ eE,e=.returned (.int .i64 eE)∧∃ S',Kv w' S' g dg (C.dr b) D∧Nx S w S' w':=by
 unfold Cac.dr
 cases hl:C.L b with
 | some l =>
  simp only
  by_cases hp:0<l.p
  ·rw[if_pos hp]
   refine(drop_busy g dg b l S C D w h hb hl hp).mono ?_
   rintro e w' ⟨rfl,rfl⟩
   exact⟨_,rfl,S,h,Nx.refl _ _⟩
  ·rw[if_neg hp]
   refine(drop_held g dg b l S C D w h hb hl hp).mono ?_
   rintro e w' ⟨rfl,S',k,x⟩
   exact⟨_,rfl,S',k,x⟩
 | none =>
  refine(drop_no g dg b S C D w h hb hl).mono ?_
  rintro e w' ⟨rfl,rfl⟩
  exact⟨_,rfl,S,h,Nx.refl _ _⟩

def clnC:Wl→Cac→Cac
 | [],C=>C
 | x::r,C=>clnC r (C.cl x.1 x.2)

theorem clnC_append (A B:Wl)(C:Cac):clnC (A++B) C=clnC B (clnC A C):=by
 induction A generalizing C with
 | nil=>rfl
 | cons x r ih=>exact ih _

def gapC (G:Geo) (C:Cac) (L:Lg) (D:Dev):Cac:=if aplyE G L D=0 then clnC (pendW G L.Q) C else C

structure ApJ (u:World) (S:Nat→Prop) (g cg lg dg:Nat) (P:Nat→Int) (G:Geo) (X:Grp) (C:Cac) (L':Lg) (D':Dev) (a:Option Addr) (V:List Wr) (k:Nat) (wr:World) (S':Nat→Prop):Prop where
 gv:Gv wr S' g cg lg dg P G X (clnC ((wl V).take k) C) L' D'
 nx:Nx S u S' wr
 has:WHas wr a V.length V
 out:WOut S' a V.length V
 dl:∀ x∈V,x.dl=G.blk∧0≤x.b∧x.b<G.n

theorem clnC_snoc {C:Cac}{V:List Wr}{k:Nat}(hk:k<V.length)(b:Nat)(hb:(wat V k).b=(b:Int)):clnC ((wl V).take (k+1)) C=(clnC ((wl V).take k) C).cl b (wat V k).z:=by
 have hk2:k<(wl V).length:=by rw[wl_len];exact hk
 rw[List.take_succ_eq_append_getElem hk2,clnC_append]
 have e:(wl V)[k]=(b,(wat V k).z):=by
  unfold wl wat at *
  rw[List.getElem?_eq_getElem hk] at hb ⊢
  simp only[List.getElem_map,Option.getD_some] at hb ⊢
  rw[hb]
  simp
 rw[e]
 rfl

theorem ApJ.step {u:World}{S:Nat→Prop}{g cg lg dg:Nat}{P:Nat→Int}{G:Geo}{X:Grp}{C:Cac}{L':Lg}{D':Dev}{a:Option Addr}{V:List Wr}{k:Nat}{wr:World}{S':Nat→Prop}(h:ApJ u S g cg lg dg P G X C L' D' a V k wr S')(hk:k<V.length) :
  ∃ kb off b x,a=some ⟨kb,off,none⟩∧(wat V k).da=some x∧wr.cell? ⟨kb,off+k*2,none⟩=some (.int .i64 ((b:Nat):Int))∧wr.cell? ⟨kb,off+k*2+1,none⟩=some (.slice (some x) (wat V k).dl (wat V k).dc) ∧
   ∀ w1,Below wr.heap.size wr w1→w1.cell? ⟨g,2,none⟩=some (.pointer (some ⟨cg,0,none⟩))∧Hid (Calls Tryz.prog 117 #[.pointer (some ⟨cg,0,none⟩),.int .i64 ((b:Nat):Int),.slice (some x) (wat V k).dl (wat V k).dc] w1 fun e w2=>e=.returned (.int .i64 0)∧Hid (∃ S2,ApJ u S g cg lg dg P G X C L' D' a V (k+1) w2 S2)):=by
 obtain⟨hd1,hd2,hd3⟩:=h.dl _ (wat_mem hk)
 have hG:G.Ok:=by obtain⟨_,_,_,_,_,_,_,z⟩:=h.gv;exact z.gr.pg.ok
 have hbk:=hG.blk
 obtain⟨kb,off,ea,_,hc⟩:=h.has.cel (by omega)
 obtain⟨c1,c2⟩:=hc k hk
 have hrow:=h.has.row k hk
 obtain⟨xb,xo,ex,_⟩:=hrow.2.2.2.2 (by omega)
 have hbb:(wat V k).b=(((wat V k).b.toNat:Nat):Int):=by omega
 rw[hbb] at c1
 rw[ex] at c2
 refine⟨kb,off,(wat V k).b.toNat,⟨xb,xo,none⟩,ea,ex,c1,c2,fun w1 hw=>?_⟩
 obtain⟨Sg,Sc,Sl,Sd,m,mk,ml,z⟩:=h.gv
 have z1:=z.below hw
 refine⟨z1.gr.cells.2.2.1,?_⟩
 have hr1:Has w1 (some ⟨xb,xo,none⟩) G.blk (wat V k).z:=by
  have:=hrow.has.later hw
  rw[ex,hd1] at this
  exact this
 rw[hd1,← z1.bd]
 rw[← z1.bd] at hr1
 refine(kclean_any cg dg (wat V k).b.toNat ⟨xb,xo,none⟩ (wat V k).dc (wat V k).z _ _ D' w1 z1.kv.kv (by rw[z1.nd];omega) hr1 hrow.2.2.2.1).mono ?_
 rintro e w2 ⟨rfl,S1,k1,x1⟩
 obtain⟨S2,Sc2,Sd2,mk2,a2,x2,_⟩:=z1.cache k1 x1 ⟨rfl,rfl⟩
 obtain⟨y1,y2⟩:=(h.has.later hw).nx x2 h.out
 refine⟨rfl,S2,?_,(h.nx.below' hw).trans x2,y1,y2,h.dl⟩
 rw[clnC_snoc hk _ hbb]
 exact a2.gv

theorem ap_start {u:World}{S:Nat→Prop}{g cg lg dg:Nat}{P:Nat→Int}{G:Geo}{X:Grp}{C:Cac}{L:Lg}{D:Dev}(h:Gv u S g cg lg dg P G X C L D) :
  u.cell? ⟨g,1,none⟩=some (.pointer (some ⟨lg,0,none⟩))∧Hid (Calls Tryz.prog 115 #[.pointer (some ⟨lg,0,none⟩)] u fun e w1=>∃ a c V,e=.returned (.slice a V.length c)∧w1.cell? ⟨g,1,none⟩=some (.pointer (some ⟨lg,0,none⟩))∧V.length≤4096∧Hid (wl V=pendW G L.Q) ∧
   Hid (Calls Tryz.prog 116 #[.pointer (some ⟨lg,0,none⟩)] w1 fun e w2=>e=.returned (.int .i64 (aplyE G L D))∧Hid (∃ S2,ApJ u S g cg lg dg P G X C (aplyL G L D) (aplyD G L D) a V 0 w2 S2))):=by
 obtain⟨Sg,Sc,Sl,Sd,m,mk,ml,h⟩:=h
 refine⟨h.gr.cells.2.1,(pending_any lg dg Sl P G L ml u h.ll).mono ?_⟩
 rintro e w1 ⟨v,V,rfl,Y⟩
 obtain⟨gw,is,dl,bw⟩:=unhide Y
 obtain⟨a,c,rfl,_,_⟩:=gw.shape
 have h1:=h.below bw
 have hln:V.length≤4096:=by
  have e1:=congrArg List.length is
  rw[wl_len,pendW_len] at e1
  have:=pendL_len G L.Q
  have:=h.gr.pg.ok.n2
  omega
 refine⟨a,c,V,rfl,h1.gr.cells.2.1,hln,is,(Apply_any lg dg _ P G L D w1 h1.lv.lv).mono ?_⟩
 rintro e w2 ⟨rfl,S1,l1,x1⟩
 obtain⟨S2,Sl2,Sd2,ml2,a2,x2⟩:=h1.wal l1 x1 (aply_foll G L D)
 have ho:WOut S a V.length V:=gw.out (fun k hk=>h.lt hk)
 obtain⟨y1,y2⟩:=gw.has.1.nx x2 ho
 refine⟨rfl,S2,a2.gv,((Nx.refl S u).below' bw).trans x2,y1,y2,fun x hx=>?_⟩
 obtain⟨d1,d2⟩:=dl x hx
 refine⟨d1,d2,?_⟩
 have hm:(x.b.toNat,x.z)∈wl V:=List.mem_map.2 ⟨x,hx,rfl⟩
 rw[is] at hm
 unfold pendW at hm
 obtain⟨b,hb,e⟩:=List.mem_map.1 hm
 have e1:b=x.b.toNat:=by simpa using congrArg Prod.fst e
 have:=(pendL_mem.1 hb).1
 omega

theorem aplyE_two (G:Geo)(L:Lg)(D:Dev):aplyE G L D=0∨aplyE G L D=7:=by
 unfold aplyE
 split
 ·exact .inr rfl
 ·unfold apE
  split
  ·exact .inl rfl
  ·exact runE_two _ _

theorem gapply_any {u:World}{S:Nat→Prop}{g cg lg dg:Nat}{P:Nat→Int}{G:Geo}{X:Grp}{C:Cac}{L:Lg}{D:Dev}(h:Gv u S g cg lg dg P G X C L D) :
  Calls Tryz.prog 65 #[.pointer (some ⟨g,0,none⟩)] u fun e w'=>e=.returned (.int .i64 (aplyE G L D))∧Hid (∃ S',Gv w' S' g cg lg dg P G X (gapC G C L D) (aplyL G L D) (aplyD G L D)∧Nx S u S' w'):=by
 obtain⟨c1,KP⟩:=ap_start h
 have h2:=aplyE_two G L D
 have K7:Hid (aplyE G L D≠0→∀ a V w2,(∃ S2,ApJ u S g cg lg dg P G X C (aplyL G L D) (aplyD G L D) a V 0 w2 S2)→Hid (∃ S',Gv w2 S' g cg lg dg P G X (gapC G C L D) (aplyL G L D) (aplyD G L D)∧Nx S u S' w2)):=fun hne a V w2 ⟨S2,hJ⟩=>by
  unfold gapC
  rw[if_neg hne]
  exact⟨S2,hJ.gv,hJ.nx⟩
 have KE:Hid (aplyE G L D=0→∀ a V w2,wl V=pendW G L.Q→(∃ S2,ApJ u S g cg lg dg P G X C (aplyL G L D) (aplyD G L D) a V V.length w2 S2)→Hid (∃ S',Gv w2 S' g cg lg dg P G X (gapC G C L D) (aplyL G L D) (aplyD G L D)∧Nx S u S' w2)):=fun h0 a V w2 is ⟨S2,hJ⟩=>by
  unfold gapC
  rw[if_pos h0,← is]
  have:=hJ.gv
  rw[List.take_of_length_le (by rw[wl_len];omega)] at this
  exact⟨S2,this,hJ.nx⟩
 clear h
 generalize gapC G C L D=C' at *
 generalize aplyE G L D=eE at *
 generalize aplyL G L D=L' at *
 generalize aplyD G L D=D' at *
 go_enter Tryz.func65,Tryz.ntmps65
 go_wp2_with fail
 go_at_call 115
 refine(unhide KP).mono ?_
 rintro e w1 ⟨a,c,V,rfl,c1',hln,HW,KA⟩
 clear KP c1
 go_wp2_with fail
 go_at_call 116
 refine(unhide KA).mono ?_
 rintro e w2 ⟨rfl,Y⟩
 clear KA c1'
 rcases h2 with rfl | rfl
 ·have KE1:Hid (∀ w2,(∃ S2,ApJ u S g cg lg dg P G X C L' D' a V V.length w2 S2)→Hid (∃ S',Gv w2 S' g cg lg dg P G X C' L' D'∧Nx S u S' w2)):=fun w2 hJ=>unhide KE rfl a V w2 (unhide HW) hJ
  have KS:Hid (∀ k wr,(∃ S2,ApJ u S g cg lg dg P G X C L' D' a V k wr S2)→k<V.length→_):=fun k wr ⟨S2,hJ⟩ hk=>hJ.step hk
  clear KE K7 HW
  generalize hVl:V.length=np at *
  clear hVl
  go_wp2_with fail
  go_loopw [23] (fun i wr=>∃ k:Nat,k≤np∧i=.int .i64 (k:Int)∧Hid (∃ S2,ApJ u S g cg lg dg P G X C L' D' a V k wr S2)) (fun i _=>np - (intOf i).toNat)
  case atStart=>exact⟨0,Nat.zero_le _,rfl,Y⟩
  case round =>
   obtain⟨k,hk,rfl,hJ⟩:=hrel
   clear Y
   by_cases hlt:k<np
   ·obtain⟨kb,off,b,x,ea,ed,x1,x2,KX⟩:=unhide KS _ _ (unhide hJ) hlt
    obtain⟨y2,KC⟩:=KX (wr.alloc (.cells #[.int .i64 (b:Int),.slice (some x) (wat V k).dl (wat V k).dc] 171)).drew (((Below.refl _ wr).alloc (Nat.le_refl _) _).drew)
    have BX:=hide (Bl.new wr #[.int .i64 (b:Int),.slice (some x) (wat V k).dl (wat V k).dc] 171)
    clear KS KE1 hJ KX ed
    subst ea
    generalize (wat V k).dl=dl at *
    generalize (wat V k).dc=dc at *
    generalize (b:Int)=bi at *
    go_upto_region 8 with fail
    change Code.wp _ _ _ _ (wr.alloc (.cells #[.int .i64 bi,.slice (some x) dl dc] 171))
    have y2':(wr.alloc (.cells #[.int .i64 bi,.slice (some x) dl dc] 171)).cell? ⟨g,2,none⟩=some (.pointer (some ⟨cg,0,none⟩)):=y2
    clear y2
    generalize wr.alloc (.cells #[.int .i64 bi,.slice (some x) dl dc] 171)=ub at *
    generalize wr.heap.size=gb at *
    have z1:=(unhide BX).cell 0 (.int .i64 bi) rfl
    have z2:=(unhide BX).cell 1 (.slice (some x) dl dc) rfl
    clear BX x1 x2
    go_region_with (go_at_call 117;refine(unhide KC).mono ?_;rintro e w3 ⟨rfl,Z⟩)
    all_goals
     clear KC y2' z1 z2
     go_wp2_with fail
     go_roundw
     case rel=>exact⟨k+1,by omega,by go_num,Z⟩
     case measure=>simp[intOf];omega
   ·have ek:k=np:=by omega
    rw[ek] at hJ
    have Z:=unhide KE1 _ (unhide hJ)
    clear KS KE1 hJ
    go_wp2_with fail
    go_ret
    exact⟨rfl,Z⟩
 ·have Z:=unhide K7 (by omega) _ _ _ (unhide Y)
  clear K7 KE HW Y
  go_wp2_with fail
  go_ret
  exact⟨rfl,Z⟩

def coE (C:Cac) (D:Dev):Int:=outE (C.those D.n fDirty) C D

def coC (C:Cac) (D:Dev):Cac:=outC (C.those D.n fDirty) C D

def coD (C:Cac) (D:Dev):Dev:=outD (C.those D.n fDirty) C D

theorem outD_n:∀ (l:List Nat) (C:Cac) (D:Dev),(outD l C D).n=D.n∧(outD l C D).blk=D.blk
 | [],C,D=>⟨rfl,rfl⟩
 | b::r,C,D=>by
  unfold outD
  split
  ·have h:=outD_n r (C.wbC D b) (C.wbD D b)
   have h2:=wbD_n C D b
   exact⟨h.1.trans h2.1,h.2.trans h2.2⟩
  ·exact wbD_n C D b

def vOf (G:Geo) (W:Wl):List Wr:=W.map (fun x=>⟨(x.1:Int),none,G.blk,0,x.2⟩)

theorem cmt_congr {G:Geo}{L:Lg}{V V':List Wr}{D:Dev}(h1:wv V=wv V')(h2:wl V=wl V'):cmtE G L V D=cmtE G L V' D∧cmtL G L V D=cmtL G L V' D∧cmtD G L V D=cmtD G L V' D:=by
 have h3:V.length=V'.length:=by have:=congrArg List.length h2;rwa [wl_len,wl_len] at this
 unfold cmtE cmtL cmtD
 rw[h1,h2,h3]
 exact⟨rfl,rfl,rfl⟩

theorem lstV_wv (G:Geo)(Q:Nat→Option (List Int))(A:Nat→Nat×Nat):wv (lstV G Q A (pendL G Q).length)=wv (vOf G (pendW G Q))∧wl (lstV G Q A (pendL G Q).length)=wl (vOf G (pendW G Q)):=by
 refine⟨?_,?_⟩
 ·unfold wv lstV vOf pendW
  rw[List.take_length,List.map_map,List.map_map,List.map_map]
  rfl
 ·unfold wl lstV vOf pendW
  rw[List.take_length,List.map_map,List.map_map,List.map_map]
  rfl

def cmm (G:Geo) (X:Grp) (C:Cac) (L:Lg) (D:Dev):Int×Cac×Lg×Dev :=
 if coE C D≠0 then (coE C D,coC C D,L,coD C D)
 else if (pendL G X.Q).length=0 then ((coD C D).wE,coC C D,L,(coD C D).fD)
 else if G.lg - L.h.used<G.uses (pendL G X.Q).length then
  (if aplyE G L (coD C D)≠0 then (aplyE G L (coD C D),gapC G (coC C D) L (coD C D),aplyL G L (coD C D),aplyD G L (coD C D))
   else (cmtE G (aplyL G L (coD C D)) (vOf G (pendW G X.Q)) (aplyD G L (coD C D)),gapC G (coC C D) L (coD C D),cmtL G (aplyL G L (coD C D)) (vOf G (pendW G X.Q)) (aplyD G L (coD C D)),cmtD G (aplyL G L (coD C D)) (vOf G (pendW G X.Q)) (aplyD G L (coD C D))))
 else (cmtE G L (vOf G (pendW G X.Q)) (coD C D),coC C D,cmtL G L (vOf G (pendW G X.Q)) (coD C D),cmtD G L (vOf G (pendW G X.Q)) (coD C D))

def Grp.clr (X:Grp):Grp:={ X with Q:=fun _=>none,F:=fun _=>false }

def CmS (u:World) (S:Nat→Prop) (g cg lg dg:Nat) (P:Nat→Int) (G:Geo) (X:Grp) (R:Int×Cac×Lg×Dev) (eE:Int) (w':World):Prop :=
 eE=R.1∧∃ S',Gv w' S' g cg lg dg P G X R.2.1 R.2.2.1 R.2.2.2∧Nx S u S' w'

def CmJ (u:World) (S:Nat→Prop) (g cg lg dg:Nat) (P:Nat→Int) (G:Geo) (X:Grp) (R:Int×Cac×Lg×Dev) (a':Act) (w':World):Prop :=
 ∃ eE:Int,CmS u S g cg lg dg P G X R eE w'∧∃ f:Nat→Value,a'={ tmps:=#[.pointer (some ⟨g,0,none⟩),f 1,f 2,.int .i64 eE,f 4,f 5,f 6,f 7,f 8,f 9,f 10,f 11,f 12,f 13,f 14,f 15,f 16,f 17,f 18,f 19,f 20,f 21,f 22,f 23,f 24,f 25,f 26,f 27,f 28,f 29,f 30,f 31,f 32,f 33,f 34,f 35,f 36,f 37,f 38,f 39,f 40,f 41,f 42,f 43,f 44,f 45,f 46,f 47,f 48,f 49,f 50,f 51,f 52,f 53,f 54,f 55,f 56],defers:=[] }

theorem CmJ.mk {u:World}{S:Nat→Prop}{g cg lg dg:Nat}{P:Nat→Int}{G:Geo}{X:Grp}{R:Int×Cac×Lg×Dev}{eE:Int}{w':World}(h:CmS u S g cg lg dg P G X R eE w'){u1 u2 u4 u5 u6 u7 u8 u9 u10 u11 u12 u13 u14 u15 u16 u17 u18 u19 u20 u21 u22 u23 u24 u25 u26 u27 u28 u29 u30 u31 u32 u33 u34 u35 u36 u37 u38 u39 u40 u41 u42 u43 u44 u45 u46 u47 u48 u49 u50 u51 u52 u53 u54 u55 u56:Value} :
  CmJ u S g cg lg dg P G X R { tmps:=#[.pointer (some ⟨g,0,none⟩),u1,u2,.int .i64 eE,u4,u5,u6,u7,u8,u9,u10,u11,u12,u13,u14,u15,u16,u17,u18,u19,u20,u21,u22,u23,u24,u25,u26,u27,u28,u29,u30,u31,u32,u33,u34,u35,u36,u37,u38,u39,u40,u41,u42,u43,u44,u45,u46,u47,u48,u49,u50,u51,u52,u53,u54,u55,u56],defers:=[] } w':=⟨eE,h,fun k=>[undef,u1,u2,undef,u4,u5,u6,u7,u8,u9,u10,u11,u12,u13,u14,u15,u16,u17,u18,u19,u20,u21,u22,u23,u24,u25,u26,u27,u28,u29,u30,u31,u32,u33,u34,u35,u36,u37,u38,u39,u40,u41,u42,u43,u44,u45,u46,u47,u48,u49,u50,u51,u52,u53,u54,u55,u56].getD k undef,rfl⟩

theorem Gv.clr {u:World}{S:Nat→Prop}{g cg lg dg:Nat}{P:Nat→Int}{G:Geo}{X:Grp}{C:Cac}{L:Lg}{D:Dev}(h:Gv u S g cg lg dg P G X C L D) :
  ∃ lb fb w1 w2,u.cell? ⟨g,16,none⟩=some (.map (some lb))∧Hid (∀ ty,(Builtin.clear_ #[78] ty #[.map (some lb)]).run Tryz.prog u=.ok (.tuple #[]) w1)∧w1.cell? ⟨g,17,none⟩=some (.map (some fb))∧Hid (∀ ty,(Builtin.clear_ #[79] ty #[.map (some fb)]).run Tryz.prog w1=.ok (.tuple #[]) w2) ∧
   Hid (∃ S',Gv w2 S' g cg lg dg P G X.clr C L D∧Nx S u S' w2):=by
 obtain⟨Sg,Sc,Sl,Sd,m,mk,ml,h⟩:=h
 obtain⟨w1,r1,l1,T1⟩:=h.gr.log.clear
 have g1:=h.gr.logT T1 l1
 obtain⟨w2,r2,l2,T2⟩:=g1.fre.clear
 have g2:=g1.freT T2 l2
 obtain⟨S',a1,x1,_⟩:=h.own g2 ((T1.nx h.gr.log.sm).trans (T2.nx g1.fre.sm)) h.seen
 exact⟨m.lb,m.fb,w1,w2,h.gr.cells.2.2.2.2.2.1,r1,g1.cells.2.2.2.2.2.2.1,r2,S',a1.gv,x1⟩

theorem cm_all {u:World}{S:Nat→Prop}{g cg lg dg:Nat}{P:Nat→Int}{G:Geo}{X:Grp}{C:Cac}{L:Lg}{D:Dev}(h:Gv u S g cg lg dg P G X C L D) :
  u.cell? ⟨g,2,none⟩=some (.pointer (some ⟨cg,0,none⟩))∧Hid (Calls Tryz.prog 106 #[.pointer (some ⟨cg,0,none⟩)] u fun e w1=>e=.returned (.int .i64 (coE C D))∧Hid (∃ S',Gv w1 S' g cg lg dg P G X (coC C D) L (coD C D)∧Nx S u S' w1)):=by
 obtain⟨Sg,Sc,Sl,Sd,m,mk,ml,h⟩:=h
 refine⟨h.gr.cells.2.2.1,(all_kv cg dg _ C D u h.kv.kv).mono ?_⟩
 rintro e w1 ⟨rfl,S1,k1,x1⟩
 obtain⟨S2,Sc2,Sd2,mk2,a2,x2,_⟩:=h.cache k1 x1 (outD_n _ C D)
 exact⟨rfl,S2,a2.gv,x2⟩

theorem cm_flush {u:World}{S:Nat→Prop}{g cg lg dg:Nat}{P:Nat→Int}{G:Geo}{X:Grp}{C:Cac}{L:Lg}{D:Dev}(h:Gv u S g cg lg dg P G X C L D) :
  u.cell? ⟨g,0,none⟩=some (.pointer (some ⟨dg,0,none⟩))∧Hid (Calls Tryz.prog 107 #[.pointer (some ⟨dg,0,none⟩)] u fun e w1=>e=.returned (.int .i64 D.wE)∧Hid (∃ S',Gv w1 S' g cg lg dg P G X C L D.fD∧Nx S u S' w1)):=by
 obtain⟨Sg,Sc,Sl,Sd,m,mk,ml,h⟩:=h
 refine⟨h.gr.cells.1,(flush_any dg Sd D u h.dd).mono ?_⟩
 rintro e w1 ⟨rfl,d1,x1⟩
 obtain⟨S2,a2,x2⟩:=h.dev d1 x1 (Stp.ap_n .f D)
 exact⟨rfl,S2,a2.gv,x2⟩

theorem cm_list {u:World}{S:Nat→Prop}{g cg lg dg:Nat}{P:Nat→Int}{G:Geo}{X:Grp}{C:Cac}{L:Lg}{D:Dev}(h:Gv u S g cg lg dg P G X C L D){v:World}(hv:Below u.heap.size u v) :
  v.cell? ⟨g,1,none⟩=some (.pointer (some ⟨lg,0,none⟩))∧Hid (Calls Tryz.prog 110 #[.pointer (some ⟨g,0,none⟩)] v fun e w1=>∃ a n c,e=.returned (.slice a n c)∧w1.cell? ⟨g,1,none⟩=some (.pointer (some ⟨lg,0,none⟩)) ∧
   Hid (Calls Tryz.prog 109 #[.pointer (some ⟨lg,0,none⟩),.slice a n c] w1 fun e w2=>e=.returned (.int .i64 (cmtE G L (vOf G (pendW G X.Q)) D))∧w2.cell? ⟨g,1,none⟩=some (.pointer (some ⟨lg,0,none⟩))∧Hid (∃ S',Gv w2 S' g cg lg dg P G X C (cmtL G L (vOf G (pendW G X.Q)) D) (cmtD G L (vOf G (pendW G X.Q)) D)∧Nx S u S' w2))):=by
 obtain⟨Sg,Sc,Sl,Sd,m,mk,ml,h⟩:=h
 have hv1:=h.below hv
 have hG:=h.gr.pg.ok
 have hbk:=hG.blk
 have hn:=hG.n2
 have hs:=hv.size
 refine⟨hv1.gr.cells.2.1,(list_any hv1.gr).mono ?_⟩
 rintro e w1 ⟨vv,rfl,Y⟩
 obtain⟨gl,b1⟩:=unhide Y
 have h1:=hv1.below b1
 have hpl:=pendL_len G X.Q
 have hln:(lstV G X.Q m.LA (pendL G X.Q).length).length=(pendL G X.Q).length:=lstV_len (Nat.le_refl _)
 obtain⟨a,c,rfl,c1,c2⟩:=gl.shape
 obtain⟨e1,e2⟩:=lstV_wv G X.Q m.LA
 have hrow:∀ j,j<(lstV G X.Q m.LA (pendL G X.Q).length).length→∃ b z,b<G.n∧X.Q b=some z∧wat (lstV G X.Q m.LA (pendL G X.Q).length) j=⟨(b:Int),some ⟨(m.LA b).1,0,none⟩,G.blk,(m.LA b).2,z⟩:=fun j hj=>lstV_mem (wat_mem hj)
 have hw:WHas w1 a (lstV G X.Q m.LA (pendL G X.Q).length).length (lstV G X.Q m.LA (pendL G X.Q).length):=gl.has (fun j hj=>by
  obtain⟨b,z,hb,hz,ew⟩:=hrow j hj
  rw[ew]
  exact(h1.gr.log.row b z hb hz).row (by omega))
 have ho:WOut (fun k=>Sl k∨Sd k) a (lstV G X.Q m.LA (pendL G X.Q).length).length (lstV G X.Q m.LA (pendL G X.Q).length):=by
  refine⟨fun hp x ex hx=>?_,fun j hj hp x ex hx=>?_⟩
  ·have h2:=(ownsRow_blk2 gl (k:=x.block) (by rw[ex];rfl)).1
   have h3:x.block<u.heap.size:=by
    rcases hx with hx | hx
    ·exact h.ll.lt _ hx
    ·exact h.dd.lt hx
   omega
  ·obtain⟨b,z,hb,hz,ew⟩:=hrow j hj
   rw[ew] at ex
   cases ex
   have hm:=(h.gr.log.row b z hb hz).mem
   rcases hx with hx | hx
   ·exact h.gl _ hm hx
   ·exact h.gd _ hm hx
 obtain⟨q1,q2,q3⟩:=cmt_congr (G:=G) (L:=L) (D:=D) e1 e2
 have hc2:c≤9223372036854775807:=by unfold maxLen at c2;omega
 refine⟨a,_,c,rfl,h1.gr.cells.2.1,(Commit_any lg dg _ P G L D w1 h1.lv.lv a _ c _ hw ho (by omega) ⟨c1,hc2⟩).mono ?_⟩
 rintro e w2 ⟨rfl,S1,l1,x1⟩
 rw[q2,q3] at l1
 rw[q1]
 obtain⟨S2,Sl2,Sd2,ml2,a2,x2⟩:=h1.wal l1 x1 (cmt_foll hG L _ D)
 exact⟨rfl,a2.gr.cells.2.1,S2,a2.gv,(((Nx.refl S u).below' hv).below' b1).trans x2⟩

theorem cm_room {u:World}{S:Nat→Prop}{g cg lg dg:Nat}{P:Nat→Int}{G:Geo}{X:Grp}{C:Cac}{L:Lg}{D:Dev}(h:Gv u S g cg lg dg P G X C L D) :
  ∃ lb,Hid (∀ v,Below u.heap.size u v→Hid (Below u.heap.size u v)∧v.cell? ⟨g,16,none⟩=some (.map (some lb))∧v.cell? ⟨g,1,none⟩=some (.pointer (some ⟨lg,0,none⟩))∧∀ ty,(Builtin.len_ #[78] ty #[.map (some lb)]).run Tryz.prog v=.ok (.int .i64 ((pendL G X.Q).length:Int)) v) ∧
   Hid (∀ v,Below u.heap.size u v→Calls Tryz.prog 57 #[.pointer (some ⟨g,0,none⟩),.int .i64 ((pendL G X.Q).length:Int)] v fun e w'=>e=.returned (.int .i64 (G.uses (pendL G X.Q).length:Int))∧Hid (Below u.heap.size u w')) ∧
   Hid (∀ v,Below u.heap.size u v→Calls Tryz.prog 108 #[.pointer (some ⟨lg,0,none⟩)] v fun e w'=>e=.returned (.int .i64 ((G.lg - L.h.used:Nat):Int))∧Hid (Below u.heap.size u w')):=by
 obtain⟨Sg,Sc,Sl,Sd,m,mk,ml,h⟩:=h
 have hpl:=pendL_len G X.Q
 have hn:=h.gr.pg.ok.n2
 refine⟨m.lb,fun v hv=>?_,fun v hv=>?_,fun v hv=>?_⟩
 ·have h1:=h.below hv
  exact⟨hv,h1.gr.cells.2.2.2.2.2.1,h1.gr.cells.2.1,fun ty=>h1.gr.log.len ty⟩
 ·refine(guses_any (h.below hv).gr _ (by omega)).mono ?_
  rintro e w' ⟨rfl,hb⟩
  exact⟨rfl,hv.trans (hb.mono hv.size)⟩
 ·refine(room_any lg dg Sl P G L ml v (h.below hv).ll).mono ?_
  rintro e w' ⟨rfl,q,rfl⟩
  exact⟨rfl,below_drewN hv q⟩

theorem gcommit_any {u:World}{S:Nat→Prop}{g cg lg dg:Nat}{P:Nat→Int}{G:Geo}{X:Grp}{C:Cac}{L:Lg}{D:Dev}(h:Gv u S g cg lg dg P G X C L D) :
  Calls Tryz.prog 58 #[.pointer (some ⟨g,0,none⟩)] u fun e w'=>e=.returned (.int .i64 (cmm G X C L D).1)∧Hid (∃ S',Gv w' S' g cg lg dg P G (if (cmm G X C L D).1=0 then X.clr else X) (cmm G X C L D).2.1 (cmm G X C L D).2.2.1 (cmm G X C L D).2.2.2∧Nx S u S' w'):=by
 obtain⟨R,hR⟩:∃ R,R=cmm G X C L D:=⟨_,rfl⟩
 rw[← hR]
 obtain⟨c2,KA⟩:=cm_all h
 have KC:Hid (∀ eE w',CmS u S g cg lg dg P G X R eE w'→eE=0→_):=fun eE w' hs he=>by
  obtain⟨e1,S',gv,nx⟩:=hs
  obtain⟨lb,fb,w1,w2,x1,x2,x3,x4,X4⟩:=gv.clr
  have X5:Hid (∃ S',Gv w2 S' g cg lg dg P G X.clr R.2.1 R.2.2.1 R.2.2.2∧Nx S u S' w2):=by
   obtain⟨S2,g2,n2⟩:=unhide X4
   exact⟨S2,g2,nx.trans n2⟩
  exact(⟨lb,fb,w1,w2,x1,x2,x3,x4,X5⟩:∃ lb fb w1 w2,w'.cell? ⟨g,16,none⟩=some (.map (some lb))∧Hid (∀ ty,(Builtin.clear_ #[78] ty #[.map (some lb)]).run Tryz.prog w'=.ok (.tuple #[]) w1)∧w1.cell? ⟨g,17,none⟩=some (.map (some fb))∧Hid (∀ ty,(Builtin.clear_ #[79] ty #[.map (some fb)]).run Tryz.prog w1=.ok (.tuple #[]) w2)∧Hid (∃ S',Gv w2 S' g cg lg dg P G X.clr R.2.1 R.2.2.1 R.2.2.2∧Nx S u S' w2))
 have K1:Hid (∀ w1,(∃ S',Gv w1 S' g cg lg dg P G X (coC C D) L (coD C D)∧Nx S u S' w1)→coE C D≠0→CmS u S g cg lg dg P G X R (coE C D) w1):=fun w1 hs hne=>by
  have:R=(coE C D,coC C D,L,coD C D):=by rw[hR];unfold cmm;rw[if_pos hne]
  rw[this]
  exact⟨rfl,hs⟩
 have K2:Hid (∀ w1,(∃ S',Gv w1 S' g cg lg dg P G X (coC C D) L (coD C D)∧Nx S u S' w1)→∃ lb,w1.cell? ⟨g,16,none⟩=some (.map (some lb))∧∀ ty,(Builtin.len_ #[78] ty #[.map (some lb)]).run Tryz.prog w1=.ok (.int .i64 ((pendL G X.Q).length:Int)) w1):=fun w1 ⟨S',gv,_⟩=>by
  obtain⟨lb,k1,_,_⟩:=cm_room gv
  obtain⟨_,x1,_,x3⟩:=unhide k1 w1 (Below.refl _ _)
  exact⟨lb,x1,x3⟩
 have K3:Hid (∀ w1,(∃ S',Gv w1 S' g cg lg dg P G X (coC C D) L (coD C D)∧Nx S u S' w1)→coE C D=0→(pendL G X.Q).length=0→w1.cell? ⟨g,0,none⟩=some (.pointer (some ⟨dg,0,none⟩))∧Hid (Calls Tryz.prog 107 #[.pointer (some ⟨dg,0,none⟩)] w1 fun e w2=>∃ e2,e=.returned (.int .i64 e2)∧Hid (CmS u S g cg lg dg P G X R e2 w2))):=fun w1 ⟨S',gv,nx⟩ h0 hq=>by
  have:R=((coD C D).wE,coC C D,L,(coD C D).fD):=by rw[hR];unfold cmm;rw[if_neg (by omega),if_pos hq]
  rw[this]
  obtain⟨x1,x2⟩:=cm_flush gv
  refine⟨x1,(unhide x2).mono ?_⟩
  rintro e w2 ⟨rfl,Y⟩
  obtain⟨S2,g2,n2⟩:=unhide Y
  exact⟨_,rfl,rfl,S2,g2,nx.trans n2⟩
 have K4:Hid (∀ w1,(∃ S',Gv w1 S' g cg lg dg P G X (coC C D) L (coD C D)∧Nx S u S' w1)→∃ lb,Hid (∀ v,Below w1.heap.size w1 v→Hid (Below w1.heap.size w1 v)∧v.cell? ⟨g,16,none⟩=some (.map (some lb))∧v.cell? ⟨g,1,none⟩=some (.pointer (some ⟨lg,0,none⟩))∧∀ ty,(Builtin.len_ #[78] ty #[.map (some lb)]).run Tryz.prog v=.ok (.int .i64 ((pendL G X.Q).length:Int)) v) ∧
   Hid (∀ v,Below w1.heap.size w1 v→Calls Tryz.prog 57 #[.pointer (some ⟨g,0,none⟩),.int .i64 ((pendL G X.Q).length:Int)] v fun e w'=>e=.returned (.int .i64 (G.uses (pendL G X.Q).length:Int))∧Hid (Below w1.heap.size w1 w')) ∧
   Hid (∀ v,Below w1.heap.size w1 v→Calls Tryz.prog 108 #[.pointer (some ⟨lg,0,none⟩)] v fun e w'=>e=.returned (.int .i64 ((G.lg - L.h.used:Nat):Int))∧Hid (Below w1.heap.size w1 w')) ∧
   Hid (∀ v,Below w1.heap.size w1 v→∃ S',Gv v S' g cg lg dg P G X (coC C D) L (coD C D)∧Nx S u S' v)):=fun w1 ⟨S',gv,nx⟩=>by
  obtain⟨lb,k1,k2,k3⟩:=cm_room gv
  exact⟨lb,k1,k2,k3,fun v hv=>⟨S',gv.below hv,nx.below' hv⟩⟩
 have K5:Hid (∀ w1,(∃ S',Gv w1 S' g cg lg dg P G X (coC C D) L (coD C D)∧Nx S u S' w1)→coE C D=0→(pendL G X.Q).length≠0→G.lg - L.h.used<G.uses (pendL G X.Q).length→Calls Tryz.prog 65 #[.pointer (some ⟨g,0,none⟩)] w1 fun e w2=>∃ e2,e=.returned (.int .i64 e2) ∧
   (e2≠0→Hid (CmS u S g cg lg dg P G X R e2 w2))∧(e2=0→Hid (∃ C1 L1 D1,(∃ S',Gv w2 S' g cg lg dg P G X C1 L1 D1∧Nx S u S' w2)∧R=(cmtE G L1 (vOf G (pendW G X.Q)) D1,C1,cmtL G L1 (vOf G (pendW G X.Q)) D1,cmtD G L1 (vOf G (pendW G X.Q)) D1)))):=fun w1 ⟨S',gv,nx⟩ h0 hq hr=>by
  refine(gapply_any gv).mono ?_
  rintro e w2 ⟨rfl,Y⟩
  obtain⟨S2,g2,n2⟩:=unhide Y
  refine⟨_,rfl,fun hne=>?_,fun he=>?_⟩
  ·have:R=(aplyE G L (coD C D),gapC G (coC C D) L (coD C D),aplyL G L (coD C D),aplyD G L (coD C D)):=by rw[hR];unfold cmm;rw[if_neg (by omega),if_neg hq,if_pos hr,if_pos hne]
   rw[this]
   exact⟨rfl,S2,g2,nx.trans n2⟩
  ·refine⟨_,_,_,⟨S2,g2,nx.trans n2⟩,?_⟩
   rw[hR]
   unfold cmm
   rw[if_neg (by omega),if_neg hq,if_pos hr,if_neg (by omega)]
 have K6:Hid (coE C D=0→(pendL G X.Q).length≠0→¬ G.lg - L.h.used<G.uses (pendL G X.Q).length→R=(cmtE G L (vOf G (pendW G X.Q)) (coD C D),coC C D,cmtL G L (vOf G (pendW G X.Q)) (coD C D),cmtD G L (vOf G (pendW G X.Q)) (coD C D))):=fun h0 hq hr=>by
  rw[hR]
  unfold cmm
  rw[if_neg (by omega),if_neg hq,if_neg hr]
 have K7:Hid (∀ C1 L1 D1 w1,(∃ S',Gv w1 S' g cg lg dg P G X C1 L1 D1∧Nx S u S' w1)→R=(cmtE G L1 (vOf G (pendW G X.Q)) D1,C1,cmtL G L1 (vOf G (pendW G X.Q)) D1,cmtD G L1 (vOf G (pendW G X.Q)) D1)→w1.cell? ⟨g,1,none⟩=some (.pointer (some ⟨lg,0,none⟩))∧Hid (Calls Tryz.prog 110 #[.pointer (some ⟨g,0,none⟩)] w1.drew fun e w2=>∃ a n c,e=.returned (.slice a n c)∧w2.cell? ⟨g,1,none⟩=some (.pointer (some ⟨lg,0,none⟩)) ∧
   Hid (Calls Tryz.prog 109 #[.pointer (some ⟨lg,0,none⟩),.slice a n c] w2 fun e w3=>∃ e2,e=.returned (.int .i64 e2)∧Hid (CmS u S g cg lg dg P G X R e2 w3)))):=fun C1 L1 D1 w1 ⟨S',gv,nx⟩ hRR=>by
  obtain⟨x1,x2⟩:=cm_list gv (v:=w1.drew) ((Below.refl _ w1).drew)
  refine⟨x1,(unhide x2).mono ?_⟩
  rintro e w2 ⟨a,n,c,rfl,y1,Y⟩
  refine⟨a,n,c,rfl,y1,(unhide Y).mono ?_⟩
  rintro e w3 ⟨rfl,_,Z⟩
  obtain⟨S2,g2,n2⟩:=unhide Z
  refine⟨_,rfl,?_⟩
  rw[hRR]
  exact⟨rfl,S2,g2,nx.trans n2⟩
 have KF:Hid (∀ eE w',CmS u S g cg lg dg P G X R eE w'→eE≠0→eE=R.1∧∃ S',Gv w' S' g cg lg dg P G (if R.1=0 then X.clr else X) R.2.1 R.2.2.1 R.2.2.2∧Nx S u S' w'):=fun eE w' ⟨e1,hs⟩ hne=>by
  rw[if_neg (by omega)]
  exact⟨e1,hs⟩
 have KZ:Hid (∀ w',CmS u S g cg lg dg P G X R 0 w'→0=R.1∧((∃ S',Gv w' S' g cg lg dg P G X.clr R.2.1 R.2.2.1 R.2.2.2∧Nx S u S' w')↔(∃ S',Gv w' S' g cg lg dg P G (if R.1=0 then X.clr else X) R.2.1 R.2.2.1 R.2.2.2∧Nx S u S' w'))):=fun w' ⟨e1,_⟩=>by
  rw[if_pos e1.symm]
  exact⟨e1,Iff.rfl⟩
 have KW:Hid (∀ w',0=R.1→(∃ S',Gv w' S' g cg lg dg P G X.clr R.2.1 R.2.2.1 R.2.2.2∧Nx S u S' w')→∃ S',Gv w' S' g cg lg dg P G (if R.1=0 then X.clr else X) R.2.1 R.2.2.1 R.2.2.2∧Nx S u S' w'):=fun w' e1 hs=>by
  rw[if_pos e1.symm]
  exact hs
 clear h hR KZ
 generalize (if R.1=0 then X.clr else X)=XX at *
 generalize coE C D=aE at *
 generalize coC C D=C0 at *
 generalize coD C D=D0 at *
 generalize (pendL G X.Q).length=np at *
 generalize hr1:G.lg - L.h.used=rm at *
 generalize G.uses np=ns at *
 clear hr1
 go_enter Tryz.func58,Tryz.ntmps58
 go_wp2
 refine wp_scope_one 0 (CmJ u S g cg lg dg P G X R) (fun _ _=>0) rfl ?_ ?_
 ·intro a' w' hJ
  clear KA K1 K2 K3 K4 K5 K6 K7 c2
  obtain⟨eE,hS,f,rfl⟩:=hJ
  by_cases he:eE=0
  ·subst he
   obtain⟨lb,fb,w1,w2,x1,x2,x3,x4,X5⟩:=unhide KC _ _ hS rfl
   have E1:=hide hS.1
   have r1:=unhide x2
   have r2:=unhide x4
   clear hS KC KF x2 x4
   go_wp2_with fail
   simp only[Exit.jump]
   go_ret
   exact⟨by rw[← unhide E1];rfl,unhide KW _ (unhide E1) (unhide X5)⟩
  ·have Z:=hide (unhide KF _ _ hS he)
   have d1:(eE==0)=false:=by simpa using he
   clear hS KC KF KW
   go_wp2_with fail
   simp only[Exit.jump]
   go_ret
   exact⟨by rw[← (unhide Z).1];rfl,(unhide Z).2⟩
 ·intro N
  have N1:=hide N
  clear N KC KF KW
  go_wp2_with fail
  go_at_call 106
  refine(unhide KA).mono ?_
  rintro e w1 ⟨rfl,Y⟩
  clear KA c2
  by_cases ha:aE=0
  ·subst ha
   obtain⟨lb,x16,xl⟩:=unhide K2 w1 (unhide Y)
   clear K1 K2
   by_cases hq:np=0
   ·obtain⟨x0,KFl⟩:=unhide K3 w1 (unhide Y) rfl hq
    have d0:((np:Int)==0)=true:=by simpa using hq
    clear K3 K4 K5 K6 K7 Y hq
    go_wp2_with fail
    go_at_call 107
    refine(unhide KFl).mono ?_
    rintro e w2 ⟨e2,rfl,Z⟩
    clear KFl x16 xl x0
    go_wp2_with fail
    go_step3
    exact⟨rfl,CmJ.mk (unhide Z)⟩
   ·obtain⟨lb2,B0,KU,KR,KG⟩:=unhide K4 w1 (unhide Y)
    have K50:Hid (∀ v,(∃ S',Gv v S' g cg lg dg P G X C0 L D0∧Nx S u S' v)→rm<ns→_):=fun v hs hr=>unhide K5 v hs rfl hq hr
    have K60:Hid (¬ rm<ns→R=_):=fun hr=>unhide K6 rfl hq hr
    have d0:((np:Int)==0)=false:=by simpa using hq
    have B1:Hid (Below w1.heap.size w1 w1.drew):=(Below.refl _ w1).drew
    clear K3 K4 K5 K6 Y hq
    go_upto_region 5 with fail
    clear x16 xl
    go_cut [34] (fun c wx=>c=.bool (decide (rm<ns))∧Hid (∃ S',Gv wx S' g cg lg dg P G X C0 L D0∧Nx S u S' wx))
    case first =>
     clear K7 K50 K60 N1
     go_region_held3 (fun v=>Hid (Below w1.heap.size w1 v)∧v.cell? ⟨g,16,none⟩=some (.map (some lb2))∧v.cell? ⟨g,1,none⟩=some (.pointer (some ⟨lg,0,none⟩))∧∀ ty,(Builtin.len_ #[78] ty #[.map (some lb2)]).run Tryz.prog v=.ok (.int .i64 (np:Int)) v)
      (with_reducible (first | exact unhide B0 _ (unhide B1) | exact unhide B0 _ (unhide JU) | exact unhide B0 _ (unhide JR)))
      (first
       | (go_at_call 57;refine(unhide KU _ (unhide (‹Hid (Below w1.heap.size w1 _)∧_›).1)).mono ?_;rintro e w3 ⟨rfl,JU⟩)
       | (go_at_call 108;refine(unhide KR _ (unhide (‹Hid (Below w1.heap.size w1 _)∧_›).1)).mono ?_;rintro e w3 ⟨rfl,JR⟩))
     all_goals
      go_wp2_with fail
      go_meet
      first
       | exact⟨rfl,unhide KG _ (unhide JR)⟩
       | exact⟨rfl,unhide KG _ (unhide JU)⟩
    case rest =>
     obtain⟨rfl,Y1⟩:=hcut
     clear B0 B1 KU KR KG d0
     by_cases hr:rm<ns
     ·have d1:decide (rm<ns)=true:=by simpa using hr
      rw[d1]
      have KAp:=hide (unhide K50 _ (unhide Y1) hr)
      clear K50 K60 Y1 d1 hr
      go_wp2_with fail
      go_at_call 65
      refine(unhide KAp).mono ?_
      rintro e w3 ⟨e2,rfl,Z7,Z0⟩
      clear KAp
      by_cases h2:e2=0
      ·subst h2
       obtain⟨C1,L1,D1,Y2,hRR⟩:=unhide (Z0 rfl)
       obtain⟨x1,KL⟩:=unhide K7 C1 L1 D1 w3 Y2 hRR
       clear Z7 Z0 Y2 hRR K7
       go_upto_region 8 with fail
       go_cut [3] (fun c wx=>∃ e2,c=.int .i64 e2∧Hid (CmS u S g cg lg dg P G X R e2 wx))
       case first =>
        clear N1
        go_region_with (first | (go_at_call 110;refine(unhide KL).mono ?_;rintro e w5 ⟨a,n,c,rfl,y1,KC⟩;clear KL) | (go_at_call 109;refine(unhide KC).mono ?_;rintro e w6 ⟨e2,rfl,Z⟩;clear KC))
        all_goals
         go_wp2_with fail
         go_meet
         exact⟨_,rfl,Z⟩
       case rest =>
        obtain⟨e2,rfl,Z⟩:=hcut
        clear KL x1
        go_wp2_with fail
        go_step3
        rename_i hK
        refine hK _ _ ?_
        exact unhide N1 _ _ (CmJ.mk (unhide Z))
      ·have d2:(e2 != 0)=true:=by simpa using h2
       have Z:=hide (unhide (Z7 h2))
       clear Z7 Z0 K7 h2
       go_wp2_with fail
       go_step3
       exact⟨rfl,CmJ.mk (unhide Z)⟩
     ·have d1:decide (rm<ns)=false:=by simpa using hr
      rw[d1]
      obtain⟨x1,KL⟩:=unhide K7 _ _ _ _ (unhide Y1) (unhide K60 hr)
      clear K50 K60 Y1 K7 d1 hr
      go_upto_region 8 with fail
      go_cut [3] (fun c wx=>∃ e2,c=.int .i64 e2∧Hid (CmS u S g cg lg dg P G X R e2 wx))
      case first =>
       clear N1
       go_region_with (first | (go_at_call 110;refine(unhide KL).mono ?_;rintro e w5 ⟨a,n,c,rfl,y1,KC⟩;clear KL) | (go_at_call 109;refine(unhide KC).mono ?_;rintro e w6 ⟨e2,rfl,Z⟩;clear KC))
       all_goals
        go_wp2_with fail
        go_meet
        exact⟨_,rfl,Z⟩
      case rest =>
       obtain⟨e2,rfl,Z⟩:=hcut
       clear KL x1
       go_wp2_with fail
       go_step3
       rename_i hK
       refine hK _ _ ?_
       exact unhide N1 _ _ (CmJ.mk (unhide Z))
  ·have d1:(aE != 0)=true:=by simpa using ha
   have Z:=hide (unhide K1 w1 (unhide Y) ha)
   clear K1 K2 K3 K4 K5 K6 K7 Y ha
   go_wp2_with fail
   go_step3
   exact⟨rfl,CmJ.mk (unhide Z)⟩

def ntZ (N:Nat→Option Nt) (b:Nat):List Int:=match N b with | some t=>t.z | none=>[]

def ptsE (N:Nat→Option Nt):List Nat→Cac→Dev→Int
 | [],_,_=>0
 | b::r,C,D=>if C.ptE D b=0 then ptsE N r (C.ptC D b (ntZ N b)) (C.ptD D b) else C.ptE D b

def ptsC (N:Nat→Option Nt):List Nat→Cac→Dev→Cac
 | [],C,_=>C
 | b::r,C,D=>if C.ptE D b=0 then ptsC N r (C.ptC D b (ntZ N b)) (C.ptD D b) else C.ptC D b (ntZ N b)

def ptsD (N:Nat→Option Nt):List Nat→Cac→Dev→Dev
 | [],_,D=>D
 | b::r,C,D=>if C.ptE D b=0 then ptsD N r (C.ptC D b (ntZ N b)) (C.ptD D b) else C.ptD D b

def ownQ (N:Nat→Option Nt):List Nat→(Nat→Option (List Int))→(Nat→Option (List Int))
 | [],Q=>Q
 | b::r,Q=>ownQ N r (fun j=>if j=b then some (ntZ N b) else Q j)

def freC:List Nat→Cac→Cac
 | [],C=>C
 | b::r,C=>freC r (C.dr b)

def freQ:List Nat→(Nat→Option (List Int))→(Nat→Option (List Int))
 | [],Q=>Q
 | b::r,Q=>freQ r (fun j=>if j=b then none else Q j)

def freF:List Nat→(Nat→Bool)→(Nat→Bool)
 | [],F=>F
 | b::r,F=>freF r (fun j=>if j=b then true else F j)

def enR (G:Geo) (X:Grp) (N:Nat→Option Nt) (C:Cac) (L:Lg) (D:Dev):Int×Grp×Cac×Lg×Dev :=
 if G.lg<G.uses ((pendL G X.Q).length+(lstX (isM N X.Q) G.n).length) then ((cmm G X C L D).1,(if (cmm G X C L D).1=0 then X.clr else X),(cmm G X C L D).2.1,(cmm G X C L D).2.2.1,(cmm G X C L D).2.2.2) else (0,X,C,L,D)

def enT (G:Geo) (X:Grp) (N:Nat→Option Nt) (C:Cac) (L:Lg) (D:Dev):Int×Grp×Cac×Lg×Dev :=
 if ptsE N (lstX (isK N 2) G.n) C D≠0 then (ptsE N (lstX (isK N 2) G.n) C D,{ X with N:=none },ptsC N (lstX (isK N 2) G.n) C D,L,ptsD N (lstX (isK N 2) G.n) C D)
 else (0,{ X with Q:=freQ (lstX (isK N 3) G.n) (ownQ N (lstX (isK N 1) G.n) X.Q),F:=freF (lstX (isK N 3) G.n) X.F,N:=none },freC (lstX (isK N 3) G.n) (ptsC N (lstX (isK N 2) G.n) C D),L,ptsD N (lstX (isK N 2) G.n) C D)

def endR (G:Geo) (X:Grp) (N:Nat→Option Nt) (C:Cac) (L:Lg) (D:Dev):Int×Grp×Cac×Lg×Dev :=
 if G.lg<G.uses (lstX (isK N 1) G.n).length then (5,{ X with N:=none },C,L,D)
 else if (enR G X N C L D).1≠0 then ((enR G X N C L D).1,{ (enR G X N C L D).2.1 with N:=none },(enR G X N C L D).2.2.1,(enR G X N C L D).2.2.2.1,(enR G X N C L D).2.2.2.2)
 else enT G (enR G X N C L D).2.1 N (enR G X N C L D).2.2.1 (enR G X N C L D).2.2.2.1 (enR G X N C L D).2.2.2.2

theorem Out.nxi {S S':Nat→Prop}{w w':World}{a:Option Addr}{len:Nat}{zs:List Int}(h:IHas w a len zs)(hx:Nx S w S' w')(ho:Out S len a):Out S' len a:=fun hp x e hs=>by
 obtain⟨b,off,e2,_⟩:=h.2 hp
 rw[e] at e2
 cases e2
 exact ho hp _ e (hx.sub _ (h.lt hp e) hs)

def Ls (w:World) (S:Nat→Prop) (a:Option Addr) (zs:List Int):Prop:=IHas w a zs.length zs∧Out S zs.length a

theorem Ls.nx {S S':Nat→Prop}{w w':World}{a:Option Addr}{zs:List Int}(h:Ls w S a zs)(hx:Nx S w S' w'):Ls w' S' a zs:=⟨h.1.nx hx h.2,Out.nxi h.1 hx h.2⟩

theorem Ls.of {B:Nat}{w:World}{S:Nat→Prop}{a:Option Addr}{n c:Nat}{zs:List Int}(h:Gr B w (.slice a n c) zs)(hB:∀ k,S k→k<B):n=zs.length∧Ls w S a zs:=by
 obtain⟨hi,hn⟩:=gr_ihas h
 subst hn
 refine⟨rfl,hi,fun hp x e hs=>?_⟩
 have h2:B≤x.block:=by
  obtain⟨_,h2⟩:=h
  rcases h2 with ⟨e2,h0⟩ | ⟨g,cap,cur,e2,hb,_⟩
  ·omega
  ·cases e2
   cases e
   exact hb
 have:=hB _ hs
 omega

theorem Ls.at {w:World}{S:Nat→Prop}{a:Option Addr}{l:List Nat}(h:Ls w S a (l.map (fun b:Nat=>(b:Int)))){k:Nat}(hk:k<l.length):∃ kb off b,a=some ⟨kb,off,none⟩∧w.cell? ⟨kb,off+k,none⟩=some (.int .i64 ((b:Nat):Int))∧l[k]?=some b:=by
 obtain⟨h1,h2⟩:=h
 rw[List.length_map] at h1
 obtain⟨kb,off,e,hc⟩:=h1.2 (by omega)
 refine⟨kb,off,l[k],e,?_,List.getElem?_eq_getElem hk⟩
 rw[hc k hk]
 simp[List.getElem?_eq_getElem hk]

structure EnV (u:World) (S:Nat→Prop) (g cg lg dg:Nat) (P:Nat→Int) (G:Geo) (X:Grp) (C:Cac) (L:Lg) (D:Dev) (bx:Nat) (a6:Option Addr) (l6:List Int) (w:World) (S':Nat→Prop):Prop where
 gv:Gv w S' g cg lg dg P G X C L D
 nx:Nx S u S' w
 bo:Bl w bx #[.pointer (some ⟨g,0,none⟩)] 27
 bn:¬ S' bx
 ls:Ls w S' a6 l6

theorem EnV.next {u:World}{S:Nat→Prop}{g cg lg dg:Nat}{P:Nat→Int}{G:Geo}{X X':Grp}{C C':Cac}{L L':Lg}{D D':Dev}{bx:Nat}{a6:Option Addr}{l6:List Int}{w w':World}{S' S2:Nat→Prop}(h:EnV u S g cg lg dg P G X C L D bx a6 l6 w S')(hg:Gv w' S2 g cg lg dg P G X' C' L' D')(hx:Nx S' w S2 w'):EnV u S g cg lg dg P G X' C' L' D' bx a6 l6 w' S2:=by
 obtain⟨k1,k2,_⟩:=hx.keep h.bo.lt h.bn
 exact⟨hg,h.nx.trans hx,k1.trans h.bo,k2,h.ls.nx hx⟩

theorem EnV.below {u:World}{S:Nat→Prop}{g cg lg dg:Nat}{P:Nat→Int}{G:Geo}{X:Grp}{C:Cac}{L:Lg}{D:Dev}{bx:Nat}{a6:Option Addr}{l6:List Int}{w w':World}{S':Nat→Prop}(h:EnV u S g cg lg dg P G X C L D bx a6 l6 w S')(hb:Below w.heap.size w w'):EnV u S g cg lg dg P G X C L D bx a6 l6 w' S' :=
 h.next (h.gv.below hb) ((Nx.refl S' w).below' hb)

theorem Gv.gr {u:World}{S:Nat→Prop}{g cg lg dg:Nat}{P:Nat→Int}{G:Geo}{X:Grp}{C:Cac}{L:Lg}{D:Dev}(h:Gv u S g cg lg dg P G X C L D):∃ Sg m,GrM u Sg g dg lg cg P G X m∧∀ k,Sg k→S k:=by
 obtain⟨Sg,Sc,Sl,Sd,m,mk,ml,h⟩:=h
 exact⟨Sg,m,h.gr,fun k hk=>(h.all k).2 (.inl hk)⟩

theorem en_start {u:World}{S:Nat→Prop}{g cg lg dg:Nat}{P:Nat→Int}{G:Geo}{X:Grp}{C:Cac}{L:Lg}{D:Dev}(h:Gv u S g cg lg dg P G X C L D){N:Nat→Option Nt}(eN:X.N=some N) :
  u.cell? ⟨X.o,0,none⟩=some (.pointer (some ⟨g,0,none⟩))∧Hid (Calls Tryz.prog 54 #[.pointer (some ⟨X.o,0,none⟩),.func (.func 55) #[] #[]] (u.alloc (.cells #[.pointer (some ⟨g,0,none⟩)] 27)) fun e w2=>∃ a6 c6,e=.returned (.slice a6 (lstX (isK N 1) G.n).length c6) ∧
   Hid (Calls Tryz.prog 54 #[.pointer (some ⟨X.o,0,none⟩),.func (.func 56) #[] #[.pointer (some ⟨u.heap.size,0,none⟩)]] w2 fun e w3=>∃ a7 c7,e=.returned (.slice a7 (lstX (isM N X.Q) G.n).length c7)∧Hid (∃ S',EnV u S g cg lg dg P G X C L D u.heap.size a6 (lstI (isK N 1) G.n) w3 S'))):=by
 have b1:Below u.heap.size u (u.alloc (.cells #[.pointer (some ⟨g,0,none⟩)] 27)):=(Below.refl _ _).alloc (Nat.le_refl _) _
 have BX:=Bl.new u #[.pointer (some ⟨g,0,none⟩)] 27
 have hlt:∀ k,S k→k<u.heap.size:=fun k hk=>h.lt hk
 obtain⟨Sg,m,hg,hSg⟩:=h.gr
 obtain⟨Sg1,m1,hg1,_⟩:=(h.below b1).gr
 have h1:=h.below b1
 have z1:(u.alloc (.cells #[.pointer (some ⟨g,0,none⟩)] 27)).heap.size=u.heap.size+1:=by simp
 generalize u.alloc (.cells #[.pointer (some ⟨g,0,none⟩)] 27)=w1 at *
 refine⟨(hg.opn N eN).str.cell (i:=0) (by omega),(those1_any hg1 eN).mono ?_⟩
 rintro e w2 ⟨v,rfl,g2,b2⟩
 obtain⟨a6,c6,rfl⟩:=g2.shape
 rw[lstI_len]
 have h2:=h1.below b2
 obtain⟨Sg2,m2,hg2,_⟩:=h2.gr
 have BX2:=BX.call b2
 refine⟨a6,c6,rfl,(those2_any hg2 eN u.heap.size (BX2.cell 0 _ rfl) BX2.lt).mono ?_⟩
 rintro e w3 ⟨v7,rfl,g3,b3⟩
 obtain⟨a7,c7,rfl⟩:=g3.shape
 rw[lstI_len]
 have g2':=g2.later b3
 obtain⟨_,ls⟩:=Ls.of g2' (S:=S) (fun k hk=>by have:=hlt k hk;omega)
 exact⟨a7,c7,rfl,S,h2.below b3,(((Nx.refl S u).below' b1).below' b2).below' b3,BX2.call b3,fun x=>by have:=hlt _ x;omega,ls⟩

theorem EnV.ask {u:World}{S:Nat→Prop}{g cg lg dg:Nat}{P:Nat→Int}{G:Geo}{X:Grp}{C:Cac}{L:Lg}{D:Dev}{bx:Nat}{a6:Option Addr}{l6:List Int}{w:World}{S':Nat→Prop}(h:EnV u S g cg lg dg P G X C L D bx a6 l6 w S') :
  ∃ lb,(∀ v,Below w.heap.size w v→Hid (Below w.heap.size w v)∧v.cell? ⟨bx,0,none⟩=some (.pointer (some ⟨g,0,none⟩))∧v.cell? ⟨g,6,none⟩=some (.int .i64 (G.lg:Int))∧v.cell? ⟨g,16,none⟩=some (.map (some lb))∧∀ ty,(Builtin.len_ #[78] ty #[.map (some lb)]).run Tryz.prog v=.ok (.int .i64 ((pendL G X.Q).length:Int)) v) ∧
   (∀ (n:Nat) v,n≤4096→Below w.heap.size w v→Calls Tryz.prog 57 #[.pointer (some ⟨g,0,none⟩),.int .i64 (n:Int)] v fun e w'=>e=.returned (.int .i64 (G.uses n:Int))∧Hid (Below w.heap.size w w')):=by
 obtain⟨Sg,m,hg,_⟩:=h.gv.gr
 refine⟨m.lb,fun v hv=>?_,fun n v hn hv=>?_⟩
 ·have h1:=h.below hv
  have hgv:=hg.kept (u':=v) (S':=Sg) (fun k hk=>hv.block k (hg.lt k hk)) (fun _ x=>x) (fun k hk=>Nat.lt_of_lt_of_le (hg.lt k hk) hv.size)
  have c6:=hgv.cells.2.2.2.1 3 (by omega)
  rw[hgv.pg.p3] at c6
  exact⟨hv,h1.bo.cell 0 _ rfl,c6,hgv.cells.2.2.2.2.2.1,fun ty=>hgv.log.len ty⟩
 ·have hgv:=hg.kept (u':=v) (S':=Sg) (fun k hk=>hv.block k (hg.lt k hk)) (fun _ x=>x) (fun k hk=>Nat.lt_of_lt_of_le (hg.lt k hk) hv.size)
  refine(guses_any hgv n hn).mono ?_
  rintro e w' ⟨rfl,hb⟩
  exact⟨rfl,hv.trans (hb.mono hv.size)⟩

theorem EnV.commit {u:World}{S:Nat→Prop}{g cg lg dg:Nat}{P:Nat→Int}{G:Geo}{X:Grp}{C:Cac}{L:Lg}{D:Dev}{bx:Nat}{a6:Option Addr}{l6:List Int}{w:World}{S':Nat→Prop}(h:EnV u S g cg lg dg P G X C L D bx a6 l6 w S') :
  w.cell? ⟨bx,0,none⟩=some (.pointer (some ⟨g,0,none⟩))∧Hid (Calls Tryz.prog 58 #[.pointer (some ⟨g,0,none⟩)] w fun e w'=>e=.returned (.int .i64 (cmm G X C L D).1)∧Hid (∃ S2,EnV u S g cg lg dg P G (if (cmm G X C L D).1=0 then X.clr else X) (cmm G X C L D).2.1 (cmm G X C L D).2.2.1 (cmm G X C L D).2.2.2 bx a6 l6 w' S2)):=by
 refine⟨h.bo.cell 0 _ rfl,(gcommit_any h.gv).mono ?_⟩
 rintro e w' ⟨rfl,Y⟩
 obtain⟨S2,g2,x2⟩:=unhide Y
 exact⟨rfl,S2,h.next g2 x2⟩

theorem EnV.those3 {u:World}{S:Nat→Prop}{g cg lg dg:Nat}{P:Nat→Int}{G:Geo}{X:Grp}{C:Cac}{L:Lg}{D:Dev}{bx:Nat}{a6:Option Addr}{l6:List Int}{w:World}{S':Nat→Prop}(h:EnV u S g cg lg dg P G X C L D bx a6 l6 w S'){N:Nat→Option Nt}(eN:X.N=some N) :
  Calls Tryz.prog 54 #[.pointer (some ⟨X.o,0,none⟩),.func (.func 59) #[] #[]] w fun e w'=>∃ a c,e=.returned (.slice a (lstX (isK N 2) G.n).length c)∧Hid (EnV u S g cg lg dg P G X C L D bx a6 l6 w' S'∧Ls w' S' a (lstI (isK N 2) G.n)):=by
 obtain⟨Sg,m,hg,_⟩:=h.gv.gr
 refine(those3_any hg eN).mono ?_
 rintro e w' ⟨v,rfl,g2,b2⟩
 obtain⟨a,c,rfl⟩:=g2.shape
 obtain⟨hn,ls⟩:=Ls.of g2 (S:=S') (fun k hk=>h.gv.lt hk)
 rw[lstI_len]
 exact⟨a,c,rfl,h.below b2,ls⟩

theorem EnV.those4 {u:World}{S:Nat→Prop}{g cg lg dg:Nat}{P:Nat→Int}{G:Geo}{X:Grp}{C:Cac}{L:Lg}{D:Dev}{bx:Nat}{a6:Option Addr}{l6:List Int}{w:World}{S':Nat→Prop}(h:EnV u S g cg lg dg P G X C L D bx a6 l6 w S'){N:Nat→Option Nt}(eN:X.N=some N) :
  Calls Tryz.prog 54 #[.pointer (some ⟨X.o,0,none⟩),.func (.func 61) #[] #[]] w fun e w'=>∃ a c,e=.returned (.slice a (lstX (isK N 3) G.n).length c)∧Hid (EnV u S g cg lg dg P G X C L D bx a6 l6 w' S'∧Ls w' S' a (lstI (isK N 3) G.n)):=by
 obtain⟨Sg,m,hg,_⟩:=h.gv.gr
 refine(those4_any hg eN).mono ?_
 rintro e w' ⟨v,rfl,g2,b2⟩
 obtain⟨a,c,rfl⟩:=g2.shape
 obtain⟨hn,ls⟩:=Ls.of g2 (S:=S') (fun k hk=>h.gv.lt hk)
 rw[lstI_len]
 exact⟨a,c,rfl,h.below b2,ls⟩

structure EnP (u:World) (S:Nat→Prop) (g cg lg dg:Nat) (P:Nat→Int) (G:Geo) (X:Grp) (N:Nat→Option Nt) (L:Lg) (bx:Nat) (a6:Option Addr) (l6:List Int) (a3:Option Addr) (eE:Int) (eC:Cac) (eD:Dev) (k:Nat) (w:World) (S':Nat→Prop) (C:Cac) (D:Dev):Prop where
 en:EnV u S g cg lg dg P G X C L D bx a6 l6 w S'
 ls:Ls w S' a3 (lstI (isK N 2) G.n)
 rE:ptsE N ((lstX (isK N 2) G.n).drop k) C D=eE
 rC:ptsC N ((lstX (isK N 2) G.n).drop k) C D=eC
 rD:ptsD N ((lstX (isK N 2) G.n).drop k) C D=eD

theorem isK_z {N:Nat→Option Nt}{k b:Nat}(h:isK N k b=true):∃ t,N b=some t∧t.k=k∧ntZ N b=t.z:=by
 obtain⟨t,e,hk⟩:=isK_some h
 exact⟨t,e,hk,by simp[ntZ,e]⟩

theorem EnP.step {u:World}{S:Nat→Prop}{g cg lg dg:Nat}{P:Nat→Int}{G:Geo}{X:Grp}{N:Nat→Option Nt}{L:Lg}{bx:Nat}{a6:Option Addr}{l6:List Int}{a3:Option Addr}{eE:Int}{eC:Cac}{eD:Dev}{k:Nat}{w:World}{S':Nat→Prop}{C:Cac}{D:Dev}(h:EnP u S g cg lg dg P G X N L bx a6 l6 a3 eE eC eD k w S' C D)(eN:X.N=some N)(hk:k<(lstX (isK N 2) G.n).length) :
  ∃ kb off b,a3=some ⟨kb,off,none⟩∧w.cell? ⟨kb,off+k,none⟩=some (.int .i64 ((b:Nat):Int))∧w.cell? ⟨bx,0,none⟩=some (.pointer (some ⟨g,0,none⟩))∧w.cell? ⟨g,2,none⟩=some (.pointer (some ⟨cg,0,none⟩))∧∃ nb r1 r2,w.cell? ⟨X.o,1,none⟩=some (.map (some nb)) ∧
   (Instr.lookup 84 (.map (some nb)) (.int .i64 (b:Int)) false).run Tryz.prog w.drew=.ok (.agg #[.int .i64 2,.slice (some ⟨r1,0,none⟩) G.blk r2]) w.drew ∧
   Hid (Calls Tryz.prog 60 #[.pointer (some ⟨cg,0,none⟩),.int .i64 (b:Int),.slice (some ⟨r1,0,none⟩) G.blk r2] w.drew fun e w2=>∃ e2,e=.returned (.int .i64 e2)∧(e2=0→Hid (∃ S2 C2 D2,EnP u S g cg lg dg P G X N L bx a6 l6 a3 eE eC eD (k+1) w2 S2 C2 D2))∧(e2≠0→Hid (e2=eE∧∃ S2,EnV u S g cg lg dg P G X eC L eD bx a6 l6 w2 S2))):=by
 obtain⟨kb,off,b,ea,c1,hb⟩:=h.ls.at hk
 obtain⟨hbn,hbk⟩:=mem_lstX.1 (List.mem_of_getElem? hb)
 obtain⟨t,et,tk,tz⟩:=isK_z hbk
 obtain⟨Sg,Sc,Sl,Sd,m,mk,ml,z⟩:=h.en.gv
 have z1:=z.below ((Below.refl _ w).drew)
 have hG:=z.gr.pg.ok
 have hbb:=hG.blk
 have o1:=z.gr.opn N eN
 have o2:=z1.gr.opn N eN
 have lk:=o2.nts.at hG.n2 hbn et
 unfold nv at lk
 simp only[tk] at lk
 have hrow:=o2.nts.row b t hbn et (by omega)
 have hd:(lstX (isK N 2) G.n).drop k=b::(lstX (isK N 2) G.n).drop (k+1):=by
  rw[List.drop_eq_getElem_cons hk]
  congr 1
  rw[List.getElem?_eq_getElem hk] at hb
  exact Option.some.inj hb
 have rE:=h.rE
 have rC:=h.rC
 have rD:=h.rD
 rw[hd] at rE rC rD
 unfold ptsE at rE
 unfold ptsC at rC
 unfold ptsD at rD
 refine⟨kb,off,b,ea,c1,h.en.bo.cell 0 _ rfl,z.gr.cells.2.2.1,m.nb,(m.NA b).1,(m.NA b).2,o1.str.cell (i:=1) (by omega),lk,?_⟩
 have hr:Row w.drew.heap.size w.drew (some ⟨(m.NA b).1,0,none⟩) D.blk (m.NA b).2 t.z:=by
  rw[z1.bd]
  exact hrow.row (by omega)
 have hput:=kput_any cg dg b ⟨(m.NA b).1,0,none⟩ (m.NA b).2 t.z _ C D w.drew z1.kv.kv (by rw[z1.nd];exact hbn) hr (fun _ x ex=>by
  cases ex
  intro hs
  rcases hs with hs | hs
  ·exact z1.gc _ hrow.mem hs
  ·exact z1.gd _ hrow.mem hs)
 rw[z1.bd] at hput
 refine hput.mono ?_
 rintro e w2 ⟨rfl,S1,k1,x1⟩
 obtain⟨S2,Sc2,Sd2,mk2,a2,x2,_⟩:=z1.cache k1 x1 (ptD_n C D b)
 have e2:EnV u S g cg lg dg P G X (C.ptC D b t.z) L (C.ptD D b) bx a6 l6 w2 S2:=(h.en.below ((Below.refl _ w).drew)).next a2.gv x2
 have l2:Ls w2 S2 a3 (lstI (isK N 2) G.n):=(h.ls.nx ((Nx.refl S' w).below' ((Below.refl _ w).drew))).nx x2
 rw[tz] at rE rC rD
 refine⟨_,rfl,fun h0=>?_,fun h0=>?_⟩
 ·rw[if_pos h0] at rE rC rD
  exact⟨S2,_,_,e2,l2,rE,rC,rD⟩
 ·rw[if_neg h0] at rE rC rD
  rw[← rE,← rC,← rD]
  exact⟨rfl,S2,e2⟩

structure EnQ (u:World) (S:Nat→Prop) (g cg lg dg:Nat) (P:Nat→Int) (G:Geo) (X:Grp) (N:Nat→Option Nt) (C:Cac) (L:Lg) (D:Dev) (bx:Nat) (a6:Option Addr) (eQ:Nat→Option (List Int)) (k:Nat) (w:World) (S':Nat→Prop) (Q:Nat→Option (List Int)):Prop where
 en:EnV u S g cg lg dg P G { X with Q:=Q } C L D bx a6 (lstI (isK N 1) G.n) w S'
 rQ:ownQ N ((lstX (isK N 1) G.n).drop k) Q=eQ

theorem EnQ.step {u:World}{S:Nat→Prop}{g cg lg dg:Nat}{P:Nat→Int}{G:Geo}{X:Grp}{N:Nat→Option Nt}{C:Cac}{L:Lg}{D:Dev}{bx:Nat}{a6:Option Addr}{eQ:Nat→Option (List Int)}{k:Nat}{w:World}{S':Nat→Prop}{Q:Nat→Option (List Int)}(h:EnQ u S g cg lg dg P G X N C L D bx a6 eQ k w S' Q)(eN:X.N=some N)(hk:k<(lstX (isK N 1) G.n).length) :
  ∃ kb off b,a6=some ⟨kb,off,none⟩∧w.cell? ⟨kb,off+k,none⟩=some (.int .i64 ((b:Nat):Int))∧w.cell? ⟨bx,0,none⟩=some (.pointer (some ⟨g,0,none⟩))∧∃ lb nb r1 r2,w.cell? ⟨g,16,none⟩=some (.map (some lb))∧w.cell? ⟨X.o,1,none⟩=some (.map (some nb)) ∧
   (Instr.lookup 84 (.map (some nb)) (.int .i64 (b:Int)) false).run Tryz.prog w.drew=.ok (.agg #[.int .i64 1,.slice (some ⟨r1,0,none⟩) G.blk r2]) w.drew ∧
   ∃ w2,(Instr.mapUpdate 78 (.map (some lb)) (.int .i64 (b:Int)) (.slice (some ⟨r1,0,none⟩) G.blk r2)).run Tryz.prog w.drew=.ok () w2∧Hid (∃ S2 Q2,EnQ u S g cg lg dg P G X N C L D bx a6 eQ (k+1) w2 S2 Q2):=by
 obtain⟨kb,off,b,ea,c1,hb⟩:=h.en.ls.at hk
 obtain⟨hbn,hbk⟩:=mem_lstX.1 (List.mem_of_getElem? hb)
 obtain⟨t,et,tk,tz⟩:=isK_z hbk
 obtain⟨Sg,Sc,Sl,Sd,m,mk,ml,z⟩:=h.en.gv
 have z1:=z.below ((Below.refl _ w).drew)
 have hG:=z.gr.pg.ok
 have o1:=z.gr.opn N eN
 have o2:=z1.gr.opn N eN
 have lk:=o2.nts.at hG.n2 hbn et
 unfold nv at lk
 simp only[tk] at lk
 have hrow:=o2.nts.row b t hbn et (by omega)
 have hd:(lstX (isK N 1) G.n).drop k=b::(lstX (isK N 1) G.n).drop (k+1):=by
  rw[List.drop_eq_getElem_cons hk]
  congr 1
  rw[List.getElem?_eq_getElem hk] at hb
  exact Option.some.inj hb
 have rQ:=h.rQ
 rw[hd] at rQ
 unfold ownQ at rQ
 obtain⟨w2,r2,l2,T⟩:=z1.gr.log.put hG.n2 hbn hrow
 have g2:=z1.gr.logT T l2
 obtain⟨S2,a2,x2,_⟩:=z1.own g2 (T.nx z1.gr.log.sm) z1.seen
 refine⟨kb,off,b,ea,c1,h.en.bo.cell 0 _ rfl,m.lb,m.nb,(m.NA b).1,(m.NA b).2,z.gr.cells.2.2.2.2.2.1,o1.str.cell (i:=1) (by omega),lk,w2,r2,S2,_,(h.en.below ((Below.refl _ w).drew)).next a2.gv x2,?_⟩
 rw[tz] at rQ
 exact rQ

theorem free_any {u:World}{S:Nat→Prop}{g cg lg dg:Nat}{P:Nat→Int}{G:Geo}{X:Grp}{C:Cac}{L:Lg}{D:Dev}(h:Gv u S g cg lg dg P G X C L D){b:Nat}(hb:b<G.n) :
  Calls Tryz.prog 62 #[.pointer (some ⟨g,0,none⟩),.int .i64 (b:Int)] u fun e w'=>e=.returned (.tuple #[])∧Hid (∃ S',Gv w' S' g cg lg dg P G { X with Q:=fun j=>if j=b then none else X.Q j,F:=fun j=>if j=b then true else X.F j } (C.dr b) L D∧Nx S u S' w'):=by
 obtain⟨Sg,Sc,Sl,Sd,m,mk,ml,h⟩:=h
 have hn:=h.gr.pg.ok.n2
 have c2:=h.gr.cells.2.2.1
 have KD:Hid (Calls Tryz.prog 114 #[.pointer (some ⟨cg,0,none⟩),.int .i64 (b:Int)] u fun e w1=>∃ eE,e=.returned (.int .i64 eE)∧w1.cell? ⟨g,16,none⟩=some (.map (some m.lb))∧∃ w2,Hid (∀ ty,(Builtin.delete_ #[78,3] ty #[.map (some m.lb),.int .i64 (b:Int)]).run Tryz.prog w1=.ok (.tuple #[]) w2)∧w2.cell? ⟨g,17,none⟩=some (.map (some m.fb))∧∃ w3,Hid ((Instr.mapUpdate 79 (.map (some m.fb)) (.int .i64 (b:Int)) (.agg #[])).run Tryz.prog w2=.ok () w3) ∧
   Hid (∃ S',Gv w3 S' g cg lg dg P G { X with Q:=fun j=>if j=b then none else X.Q j,F:=fun j=>if j=b then true else X.F j } (C.dr b) L D∧Nx S u S' w3)):=by
  refine(kdrop_any cg dg b _ C D u h.kv.kv (by rw[h.nd];exact hb)).mono ?_
  rintro e w1 ⟨eE,rfl,S1,k1,x1⟩
  obtain⟨S2,Sc2,Sd2,mk2,a2,x2,_⟩:=h.cache k1 x1 ⟨rfl,rfl⟩
  obtain⟨w2,r2,l2,T2⟩:=a2.gr.log.del hn hb
  have g2:=a2.gr.logT T2 l2
  obtain⟨w3,r3,l3,T3⟩:=g2.fre.put hn hb
  have g3:=g2.freT T3 l3
  obtain⟨S3,a3,x3,_⟩:=a2.own g3 ((T2.nx a2.gr.log.sm).trans (T3.nx g2.fre.sm)) a2.seen
  exact⟨eE,rfl,a2.gr.cells.2.2.2.2.2.1,w2,r2,g2.cells.2.2.2.2.2.2.1,w3,r3,S3,a3.gv,x2.trans x3⟩
 clear h hn
 generalize m.lb=lb at *
 generalize m.fb=fb at *
 generalize { X with Q:=fun j=>if j=b then none else X.Q j,F:=fun j=>if j=b then true else X.F j }=X' at *
 generalize C.dr b=C' at *
 generalize (b:Int)=bi at *
 go_enter Tryz.func62,Tryz.ntmps62
 go_wp2_with fail
 go_at_call 114
 refine(unhide KD).mono ?_
 rintro e w1 ⟨eE,rfl,x1,w2,r2,x2,w3,r3,Z⟩
 clear KD c2
 go_wp2_with (first | (at_delete;refine wpList_delete_run 78 3 rfl _ _ rfl _ _ rfl rfl (unhide r2) ?_;clear r2) | (at_mapUpdate;refine wpList_mapUpdate_run 79 rfl _ _ _ rfl _ _ _ rfl rfl rfl (unhide r3) ?_;clear r3))
 go_end0
 exact⟨rfl,Z⟩

structure EnF (u:World) (S:Nat→Prop) (g cg lg dg:Nat) (P:Nat→Int) (G:Geo) (X:Grp) (N:Nat→Option Nt) (L:Lg) (D:Dev) (bx:Nat) (a6:Option Addr) (l6:List Int) (a4:Option Addr) (eQ:Nat→Option (List Int)) (eF:Nat→Bool) (eC:Cac) (k:Nat) (w:World) (S':Nat→Prop) (Q:Nat→Option (List Int)) (F:Nat→Bool) (C:Cac):Prop where
 en:EnV u S g cg lg dg P G { X with Q:=Q,F:=F } C L D bx a6 l6 w S'
 ls:Ls w S' a4 (lstI (isK N 3) G.n)
 rQ:freQ ((lstX (isK N 3) G.n).drop k) Q=eQ
 rF:freF ((lstX (isK N 3) G.n).drop k) F=eF
 rC:freC ((lstX (isK N 3) G.n).drop k) C=eC

theorem EnF.step {u:World}{S:Nat→Prop}{g cg lg dg:Nat}{P:Nat→Int}{G:Geo}{X:Grp}{N:Nat→Option Nt}{L:Lg}{D:Dev}{bx:Nat}{a6:Option Addr}{l6:List Int}{a4:Option Addr}{eQ:Nat→Option (List Int)}{eF:Nat→Bool}{eC:Cac}{k:Nat}{w:World}{S':Nat→Prop}{Q:Nat→Option (List Int)}{F:Nat→Bool}{C:Cac}(h:EnF u S g cg lg dg P G X N L D bx a6 l6 a4 eQ eF eC k w S' Q F C)(hk:k<(lstX (isK N 3) G.n).length) :
  ∃ kb off b,a4=some ⟨kb,off,none⟩∧w.cell? ⟨kb,off+k,none⟩=some (.int .i64 ((b:Nat):Int))∧w.cell? ⟨bx,0,none⟩=some (.pointer (some ⟨g,0,none⟩)) ∧
   Hid (Calls Tryz.prog 62 #[.pointer (some ⟨g,0,none⟩),.int .i64 (b:Int)] w fun e w2=>e=.returned (.tuple #[])∧Hid (∃ S2 Q2 F2 C2,EnF u S g cg lg dg P G X N L D bx a6 l6 a4 eQ eF eC (k+1) w2 S2 Q2 F2 C2)):=by
 obtain⟨kb,off,b,ea,c1,hb⟩:=h.ls.at hk
 obtain⟨hbn,hbk⟩:=mem_lstX.1 (List.mem_of_getElem? hb)
 have hd:(lstX (isK N 3) G.n).drop k=b::(lstX (isK N 3) G.n).drop (k+1):=by
  rw[List.drop_eq_getElem_cons hk]
  congr 1
  rw[List.getElem?_eq_getElem hk] at hb
  exact Option.some.inj hb
 have rQ:=h.rQ
 have rF:=h.rF
 have rC:=h.rC
 rw[hd] at rQ rF rC
 unfold freQ at rQ
 unfold freF at rF
 unfold freC at rC
 refine⟨kb,off,b,ea,c1,h.en.bo.cell 0 _ rfl,(free_any h.en.gv hbn).mono ?_⟩
 rintro e w2 ⟨rfl,Y⟩
 obtain⟨S2,g2,x2⟩:=unhide Y
 exact⟨rfl,S2,_,_,_,h.en.next g2 x2,h.ls.nx x2,rQ,rF,rC⟩

theorem fld_note (w:World)(k:Int)(a:Option Addr)(n c:Nat):(Instr.field 123 (.agg #[.int .i64 k,.slice a n c]) 1).run Tryz.prog w=.ok (.slice a n c) w:=by kernel_rfl

theorem fld_kind (w:World)(k:Int)(a:Option Addr)(n c:Nat):(Instr.field 123 (.agg #[.int .i64 k,.slice a n c]) 0).run Tryz.prog w=.ok (.int .i64 k) w:=by kernel_rfl

theorem filt_two (p q:Nat→Bool):∀ (l:List Nat),(∀ x,¬ (p x=true∧q x=true))→(l.filter p).length+(l.filter q).length≤l.length
 | [],_=>by simp
 | x::r,h=>by
  have ih:=filt_two p q r h
  have hx:=h x
  cases hp:p x<;>cases hq:q x<;>simp[hp,hq] at hx ⊢<;>omega

def EnS (u:World) (S:Nat→Prop) (g cg lg dg:Nat) (P:Nat→Int) (G:Geo) (o:Nat) (R:Int×Grp×Cac×Lg×Dev) (eE:Int) (w':World):Prop :=
 eE=R.1∧∃ X' S',X'.o=o∧(∃ N',X'.N=some N')∧R.2.1={ X' with N:=none }∧Gv w' S' g cg lg dg P G X' R.2.2.1 R.2.2.2.1 R.2.2.2.2∧Nx S u S' w'

def EnJ (u:World) (S:Nat→Prop) (g cg lg dg:Nat) (P:Nat→Int) (G:Geo) (o:Nat) (R:Int×Grp×Cac×Lg×Dev) (a':Act) (w':World):Prop :=
 ∃ eE:Int,EnS u S g cg lg dg P G o R eE w'∧∃ f:Nat→Value,a'={ tmps:=#[.pointer (some ⟨o,0,none⟩),f 1,f 2,f 3,f 4,.int .i64 eE,f 6,f 7,f 8,f 9,f 10,f 11,f 12,f 13,f 14,f 15,f 16,f 17,f 18,f 19,f 20,f 21,f 22,f 23,f 24,f 25,f 26,f 27,f 28,f 29,f 30,f 31,f 32,f 33,f 34,f 35,f 36,f 37,f 38,f 39,f 40,f 41,f 42,f 43,f 44,f 45,f 46,f 47,f 48,f 49,f 50,f 51,f 52,f 53,f 54,f 55,f 56,f 57,f 58,f 59,f 60,f 61,f 62,f 63,f 64,f 65,f 66,f 67,f 68,f 69,f 70,f 71,f 72,f 73,f 74,f 75,f 76,f 77,f 78,f 79,f 80,f 81,f 82,f 83,f 84,f 85,f 86,f 87,f 88,f 89,f 90,f 91,f 92,f 93,f 94,f 95,f 96,f 97,f 98,f 99,f 100,f 101,f 102,f 103,f 104,f 105,f 106,f 107,f 108,f 109,f 110,f 111,f 112,f 113],defers:=[] }

theorem EnJ.mk {u:World}{S:Nat→Prop}{g cg lg dg:Nat}{P:Nat→Int}{G:Geo}{o:Nat}{R:Int×Grp×Cac×Lg×Dev}{eE:Int}{w':World}(h:EnS u S g cg lg dg P G o R eE w'){u1 u2 u3 u4 u6 u7 u8 u9 u10 u11 u12 u13 u14 u15 u16 u17 u18 u19 u20 u21 u22 u23 u24 u25 u26 u27 u28 u29 u30 u31 u32 u33 u34 u35 u36 u37 u38 u39 u40 u41 u42 u43 u44 u45 u46 u47 u48 u49 u50 u51 u52 u53 u54 u55 u56 u57 u58 u59 u60 u61 u62 u63 u64 u65 u66 u67 u68 u69 u70 u71 u72 u73 u74 u75 u76 u77 u78 u79 u80 u81 u82 u83 u84 u85 u86 u87 u88 u89 u90 u91 u92 u93 u94 u95 u96 u97 u98 u99 u100 u101 u102 u103 u104 u105 u106 u107 u108 u109 u110 u111 u112 u113:Value} :
  EnJ u S g cg lg dg P G o R { tmps:=#[.pointer (some ⟨o,0,none⟩),u1,u2,u3,u4,.int .i64 eE,u6,u7,u8,u9,u10,u11,u12,u13,u14,u15,u16,u17,u18,u19,u20,u21,u22,u23,u24,u25,u26,u27,u28,u29,u30,u31,u32,u33,u34,u35,u36,u37,u38,u39,u40,u41,u42,u43,u44,u45,u46,u47,u48,u49,u50,u51,u52,u53,u54,u55,u56,u57,u58,u59,u60,u61,u62,u63,u64,u65,u66,u67,u68,u69,u70,u71,u72,u73,u74,u75,u76,u77,u78,u79,u80,u81,u82,u83,u84,u85,u86,u87,u88,u89,u90,u91,u92,u93,u94,u95,u96,u97,u98,u99,u100,u101,u102,u103,u104,u105,u106,u107,u108,u109,u110,u111,u112,u113],defers:=[] } w':=⟨eE,h,fun k=>[undef,u1,u2,u3,u4,undef,u6,u7,u8,u9,u10,u11,u12,u13,u14,u15,u16,u17,u18,u19,u20,u21,u22,u23,u24,u25,u26,u27,u28,u29,u30,u31,u32,u33,u34,u35,u36,u37,u38,u39,u40,u41,u42,u43,u44,u45,u46,u47,u48,u49,u50,u51,u52,u53,u54,u55,u56,u57,u58,u59,u60,u61,u62,u63,u64,u65,u66,u67,u68,u69,u70,u71,u72,u73,u74,u75,u76,u77,u78,u79,u80,u81,u82,u83,u84,u85,u86,u87,u88,u89,u90,u91,u92,u93,u94,u95,u96,u97,u98,u99,u100,u101,u102,u103,u104,u105,u106,u107,u108,u109,u110,u111,u112,u113].getD k undef,rfl⟩

def EnM (u:World) (S:Nat→Prop) (g cg lg dg:Nat) (P:Nat→Int) (G:Geo) (o:Nat) (N:Nat→Option Nt) (R:Int×Grp×Cac×Lg×Dev) (bx:Nat) (a6:Option Addr) (w:World):Prop :=
 ∃ X1 C1 L1 D1 S1,EnV u S g cg lg dg P G X1 C1 L1 D1 bx a6 (lstI (isK N 1) G.n) w S1∧X1.N=some N∧X1.o=o∧R=enT G X1 N C1 L1 D1

def EnO (u:World) (S:Nat→Prop) (g cg lg dg:Nat) (P:Nat→Int) (G:Geo) (o:Nat) (N:Nat→Option Nt) (R:Int×Grp×Cac×Lg×Dev) (bx:Nat) (a6:Option Addr) (k:Nat) (w:World):Prop :=
 ∃ X1 C1 L1 D1 eQ S1 Q1,EnQ u S g cg lg dg P G X1 N C1 L1 D1 bx a6 eQ k w S1 Q1∧X1.N=some N∧X1.o=o∧R=(0,{ X1 with Q:=freQ (lstX (isK N 3) G.n) eQ,F:=freF (lstX (isK N 3) G.n) X1.F,N:=none },freC (lstX (isK N 3) G.n) C1,L1,D1)

def EnG (u:World) (S:Nat→Prop) (g cg lg dg:Nat) (P:Nat→Int) (G:Geo) (o:Nat) (N:Nat→Option Nt) (R:Int×Grp×Cac×Lg×Dev) (bx:Nat) (a6 a4:Option Addr) (k:Nat) (w:World):Prop :=
 ∃ X1 L1 D1 eQ eF eC S1 Q1 F1 C1,EnF u S g cg lg dg P G X1 N L1 D1 bx a6 (lstI (isK N 1) G.n) a4 eQ eF eC k w S1 Q1 F1 C1∧X1.N=some N∧X1.o=o∧R=(0,{ X1 with Q:=eQ,F:=eF,N:=none },eC,L1,D1)

def EnD (u:World) (S:Nat→Prop) (g cg lg dg:Nat) (P:Nat→Int) (G:Geo) (o:Nat) (N:Nat→Option Nt) (R:Int×Grp×Cac×Lg×Dev) (bx:Nat) (a6 a3:Option Addr) (k:Nat) (w:World):Prop :=
 ∃ X1 L1 eE eC eD S1 C1 D1,EnP u S g cg lg dg P G X1 N L1 bx a6 (lstI (isK N 1) G.n) a3 eE eC eD k w S1 C1 D1∧X1.N=some N∧X1.o=o∧(eE≠0→R=(eE,{ X1 with N:=none },eC,L1,eD))∧(eE=0→R=(0,{ X1 with Q:=freQ (lstX (isK N 3) G.n) (ownQ N (lstX (isK N 1) G.n) X1.Q),F:=freF (lstX (isK N 3) G.n) X1.F,N:=none },freC (lstX (isK N 3) G.n) eC,L1,eD))

theorem EnM.data {u:World}{S:Nat→Prop}{g cg lg dg:Nat}{P:Nat→Int}{G:Geo}{o:Nat}{N:Nat→Option Nt}{R:Int×Grp×Cac×Lg×Dev}{bx:Nat}{a6:Option Addr}{w:World}(h:EnM u S g cg lg dg P G o N R bx a6 w) :
  Calls Tryz.prog 54 #[.pointer (some ⟨o,0,none⟩),.func (.func 59) #[] #[]] w fun e w'=>∃ a c,e=.returned (.slice a (lstX (isK N 2) G.n).length c)∧Hid (EnD u S g cg lg dg P G o N R bx a6 a 0 w'):=by
 obtain⟨X1,C1,L1,D1,S1,hV,hN,ho,hR⟩:=h
 rw[← ho]
 refine(hV.those3 hN).mono ?_
 rintro e w' ⟨a,c,rfl,Y⟩
 obtain⟨e1,l1⟩:=unhide Y
 refine⟨a,c,rfl,X1,L1,_,_,_,S1,C1,D1,⟨e1,l1,rfl,rfl,rfl⟩,hN,rfl,fun hne=>?_,fun h0=>?_⟩
 ·rw[List.drop_zero] at hne ⊢
  rw[hR]
  unfold enT
  rw[if_pos hne]
 ·rw[List.drop_zero] at h0 ⊢
  rw[hR]
  unfold enT
  rw[if_neg (by omega)]

theorem EnD.step {u:World}{S:Nat→Prop}{g cg lg dg:Nat}{P:Nat→Int}{G:Geo}{o:Nat}{N:Nat→Option Nt}{R:Int×Grp×Cac×Lg×Dev}{bx:Nat}{a6 a3:Option Addr}{k:Nat}{w:World}(h:EnD u S g cg lg dg P G o N R bx a6 a3 k w)(hk:k<(lstX (isK N 2) G.n).length) :
  ∃ kb off b,a3=some ⟨kb,off,none⟩∧w.cell? ⟨kb,off+k,none⟩=some (.int .i64 ((b:Nat):Int))∧w.cell? ⟨bx,0,none⟩=some (.pointer (some ⟨g,0,none⟩))∧w.cell? ⟨g,2,none⟩=some (.pointer (some ⟨cg,0,none⟩))∧∃ nb r1 r2,w.cell? ⟨o,1,none⟩=some (.map (some nb)) ∧
   (Instr.lookup 84 (.map (some nb)) (.int .i64 (b:Int)) false).run Tryz.prog w.drew=.ok (.agg #[.int .i64 2,.slice (some ⟨r1,0,none⟩) G.blk r2]) w.drew ∧
   Hid (Calls Tryz.prog 60 #[.pointer (some ⟨cg,0,none⟩),.int .i64 (b:Int),.slice (some ⟨r1,0,none⟩) G.blk r2] w.drew fun e w2=>∃ e2,e=.returned (.int .i64 e2)∧(e2=0→Hid (EnD u S g cg lg dg P G o N R bx a6 a3 (k+1) w2))∧(e2≠0→Hid (EnS u S g cg lg dg P G o R e2 w2))):=by
 obtain⟨X1,L1,eE,eC,eD,S1,C1,D1,hP,hN,ho,h7,h0⟩:=h
 obtain⟨kb,off,b,ea,c1,c2,c3,nb,r1,r2,c4,lk,KP⟩:=hP.step hN hk
 rw[ho] at c4
 refine⟨kb,off,b,ea,c1,c2,c3,nb,r1,r2,c4,lk,(unhide KP).mono ?_⟩
 rintro e w2 ⟨e2,rfl,Z0,Z7⟩
 refine⟨e2,rfl,fun he=>?_,fun he=>?_⟩
 ·obtain⟨S2,C2,D2,hP2⟩:=unhide (Z0 he)
  exact⟨X1,L1,eE,eC,eD,S2,C2,D2,hP2,hN,ho,h7,h0⟩
 ·obtain⟨e3,S2,hV⟩:=unhide (Z7 he)
  rw[h7 (by omega)]
  exact⟨e3,X1,S2,ho,⟨N,hN⟩,rfl,hV.gv,hV.nx⟩

theorem EnD.done {u:World}{S:Nat→Prop}{g cg lg dg:Nat}{P:Nat→Int}{G:Geo}{o:Nat}{N:Nat→Option Nt}{R:Int×Grp×Cac×Lg×Dev}{bx:Nat}{a6 a3:Option Addr}{w:World}(h:EnD u S g cg lg dg P G o N R bx a6 a3 (lstX (isK N 2) G.n).length w):EnO u S g cg lg dg P G o N R bx a6 0 w:=by
 obtain⟨X1,L1,eE,eC,eD,S1,C1,D1,hP,hN,ho,h7,h0⟩:=h
 have rE:=hP.rE
 have rC:=hP.rC
 have rD:=hP.rD
 rw[List.drop_length] at rE rC rD
 unfold ptsE at rE
 unfold ptsC at rC
 unfold ptsD at rD
 subst rC rD
 refine⟨X1,C1,L1,D1,_,S1,X1.Q,⟨hP.en,rfl⟩,hN,ho,?_⟩
 rw[h0 rE.symm,List.drop_zero]

theorem EnO.step {u:World}{S:Nat→Prop}{g cg lg dg:Nat}{P:Nat→Int}{G:Geo}{o:Nat}{N:Nat→Option Nt}{R:Int×Grp×Cac×Lg×Dev}{bx:Nat}{a6:Option Addr}{k:Nat}{w:World}(h:EnO u S g cg lg dg P G o N R bx a6 k w)(hk:k<(lstX (isK N 1) G.n).length) :
  ∃ kb off b,a6=some ⟨kb,off,none⟩∧w.cell? ⟨kb,off+k,none⟩=some (.int .i64 ((b:Nat):Int))∧w.cell? ⟨bx,0,none⟩=some (.pointer (some ⟨g,0,none⟩))∧∃ lb nb r1 r2,w.cell? ⟨g,16,none⟩=some (.map (some lb))∧w.cell? ⟨o,1,none⟩=some (.map (some nb)) ∧
   (Instr.lookup 84 (.map (some nb)) (.int .i64 (b:Int)) false).run Tryz.prog w.drew=.ok (.agg #[.int .i64 1,.slice (some ⟨r1,0,none⟩) G.blk r2]) w.drew ∧
   ∃ w2,(Instr.mapUpdate 78 (.map (some lb)) (.int .i64 (b:Int)) (.slice (some ⟨r1,0,none⟩) G.blk r2)).run Tryz.prog w.drew=.ok () w2∧Hid (EnO u S g cg lg dg P G o N R bx a6 (k+1) w2):=by
 obtain⟨X1,C1,L1,D1,eQ,S1,Q1,hQ,hN,ho,hR⟩:=h
 obtain⟨kb,off,b,ea,c1,c2,lb,nb,r1,r2,c3,c4,lk,w2,r3,Z⟩:=hQ.step hN hk
 rw[ho] at c4
 obtain⟨S2,Q2,hQ2⟩:=unhide Z
 exact⟨kb,off,b,ea,c1,c2,lb,nb,r1,r2,c3,c4,lk,w2,r3,X1,C1,L1,D1,eQ,S2,Q2,hQ2,hN,ho,hR⟩

theorem EnO.done {u:World}{S:Nat→Prop}{g cg lg dg:Nat}{P:Nat→Int}{G:Geo}{o:Nat}{N:Nat→Option Nt}{R:Int×Grp×Cac×Lg×Dev}{bx:Nat}{a6:Option Addr}{w:World}(h:EnO u S g cg lg dg P G o N R bx a6 (lstX (isK N 1) G.n).length w) :
  Calls Tryz.prog 54 #[.pointer (some ⟨o,0,none⟩),.func (.func 61) #[] #[]] w fun e w'=>∃ a c,e=.returned (.slice a (lstX (isK N 3) G.n).length c)∧Hid (EnG u S g cg lg dg P G o N R bx a6 a 0 w'):=by
 obtain⟨X1,C1,L1,D1,eQ,S1,Q1,hQ,hN,ho,hR⟩:=h
 subst ho
 have rQ:=hQ.rQ
 rw[List.drop_length] at rQ
 unfold ownQ at rQ
 subst rQ
 refine(hQ.en.those4 (show ({ X1 with Q:=Q1 }:Grp).N=some N from hN)).mono ?_
 rintro e w' ⟨a,c,rfl,Y⟩
 obtain⟨e1,l1⟩:=unhide Y
 exact⟨a,c,rfl,X1,L1,D1,_,_,_,S1,Q1,X1.F,C1,⟨e1,l1,rfl,rfl,rfl⟩,hN,rfl,by rw[hR,List.drop_zero]⟩

theorem EnG.step {u:World}{S:Nat→Prop}{g cg lg dg:Nat}{P:Nat→Int}{G:Geo}{o:Nat}{N:Nat→Option Nt}{R:Int×Grp×Cac×Lg×Dev}{bx:Nat}{a6 a4:Option Addr}{k:Nat}{w:World}(h:EnG u S g cg lg dg P G o N R bx a6 a4 k w)(hk:k<(lstX (isK N 3) G.n).length) :
  ∃ kb off b,a4=some ⟨kb,off,none⟩∧w.cell? ⟨kb,off+k,none⟩=some (.int .i64 ((b:Nat):Int))∧w.cell? ⟨bx,0,none⟩=some (.pointer (some ⟨g,0,none⟩)) ∧
   Hid (Calls Tryz.prog 62 #[.pointer (some ⟨g,0,none⟩),.int .i64 (b:Int)] w fun e w2=>e=.returned (.tuple #[])∧Hid (EnG u S g cg lg dg P G o N R bx a6 a4 (k+1) w2)):=by
 obtain⟨X1,L1,D1,eQ,eF,eC,S1,Q1,F1,C1,hF,hN,ho,hR⟩:=h
 obtain⟨kb,off,b,ea,c1,c2,KF⟩:=hF.step hk
 refine⟨kb,off,b,ea,c1,c2,(unhide KF).mono ?_⟩
 rintro e w2 ⟨rfl,Z⟩
 obtain⟨S2,Q2,F2,C2,hF2⟩:=unhide Z
 exact⟨rfl,X1,L1,D1,eQ,eF,eC,S2,Q2,F2,C2,hF2,hN,ho,hR⟩

theorem EnG.done {u:World}{S:Nat→Prop}{g cg lg dg:Nat}{P:Nat→Int}{G:Geo}{o:Nat}{N:Nat→Option Nt}{R:Int×Grp×Cac×Lg×Dev}{bx:Nat}{a6 a4:Option Addr}{w:World}(h:EnG u S g cg lg dg P G o N R bx a6 a4 (lstX (isK N 3) G.n).length w):EnS u S g cg lg dg P G o R 0 w:=by
 obtain⟨X1,L1,D1,eQ,eF,eC,S1,Q1,F1,C1,hF,hN,ho,hR⟩:=h
 have rQ:=hF.rQ
 have rF:=hF.rF
 have rC:=hF.rC
 rw[List.drop_length] at rQ rF rC
 unfold freQ at rQ
 unfold freF at rF
 unfold freC at rC
 subst rQ rF rC
 rw[hR]
 exact⟨rfl,{ X1 with Q:=Q1,F:=F1 },S1,ho,⟨N,hN⟩,rfl,hF.en.gv,hF.en.nx⟩

theorem oend_any {u:World}{S:Nat→Prop}{g cg lg dg:Nat}{P:Nat→Int}{G:Geo}{X:Grp}{C:Cac}{L:Lg}{D:Dev}(h:Gv u S g cg lg dg P G X C L D){N:Nat→Option Nt}(eN:X.N=some N) :
  Calls Tryz.prog 18 #[.pointer (some ⟨X.o,0,none⟩)] u fun e w'=>e=.returned (.int .i64 (endR G X N C L D).1)∧Hid (∃ S',Gv w' S' g cg lg dg P G (endR G X N C L D).2.1 (endR G X N C L D).2.2.1 (endR G X N C L D).2.2.2.1 (endR G X N C L D).2.2.2.2∧Nx S u S' w'∧Over w' S' g X.o):=by
 obtain⟨R,hR⟩:∃ R,R=endR G X N C L D:=⟨_,rfl⟩
 rw[← hR]
 have K0:Hid (Calls Tryz.prog 53 #[.pointer (some ⟨X.o,0,none⟩)] u fun e w'=>e=.returned (.int .i64 0)∧u=w'):=by
  obtain⟨_,_,hg,_⟩:=h.gr
  exact orefuses_open hg eN
 obtain⟨o0,KS⟩:=en_start h eN
 have hn:G.n≤4096:=by obtain⟨_,_,hg,_⟩:=h.gr;exact hg.pg.ok.n2
 have hl1:=lstX_len (isK N 1) G.n
 have hl2:=lstX_len (isK N 2) G.n
 have hl3:=lstX_len (isK N 3) G.n
 have hlm:=lstX_len (isM N X.Q) G.n
 have hlp:=pendL_len G X.Q
 have hls:(pendL G X.Q).length+(lstX (isM N X.Q) G.n).length≤4096:=by
  have:=filt_two (fun b=>(X.Q b).isSome) (isM N X.Q) (List.range G.n) (fun x hx=>by
   obtain⟨h1,h2⟩:=hx
   unfold isM at h2
   cases e:X.Q x<;>simp[e] at h1 h2)
  rw[List.length_range] at this
  unfold pendL lstX
  omega
 have KL:Hid (∀ a6 w,(∃ S',EnV u S g cg lg dg P G X C L D u.heap.size a6 (lstI (isK N 1) G.n) w S')→G.lg<G.uses (lstX (isK N 1) G.n).length→EnS u S g cg lg dg P G X.o R 5 w):=fun a6 w ⟨S',hV⟩ hlt=>by
  have:R=(5,{ X with N:=none },C,L,D):=by rw[hR];unfold endR;rw[if_pos hlt]
  rw[this]
  exact⟨rfl,X,S',rfl,⟨N,eN⟩,rfl,hV.gv,hV.nx⟩
 have KA:Hid (∀ a6 w,(∃ S',EnV u S g cg lg dg P G X C L D u.heap.size a6 (lstI (isK N 1) G.n) w S')→∃ lb,Hid (∀ v,Below w.heap.size w v→Hid (Below w.heap.size w v)∧v.cell? ⟨u.heap.size,0,none⟩=some (.pointer (some ⟨g,0,none⟩))∧v.cell? ⟨g,6,none⟩=some (.int .i64 (G.lg:Int))∧v.cell? ⟨g,16,none⟩=some (.map (some lb))∧∀ ty,(Builtin.len_ #[78] ty #[.map (some lb)]).run Tryz.prog v=.ok (.int .i64 ((pendL G X.Q).length:Int)) v) ∧
   Hid (∀ (n:Nat) v,n≤4096→Below w.heap.size w v→Calls Tryz.prog 57 #[.pointer (some ⟨g,0,none⟩),.int .i64 (n:Int)] v fun e w'=>e=.returned (.int .i64 (G.uses n:Int))∧Hid (Below w.heap.size w w'))∧Hid (∀ v,Below w.heap.size w v→∃ S',EnV u S g cg lg dg P G X C L D u.heap.size a6 (lstI (isK N 1) G.n) v S')):=fun a6 w ⟨S',hV⟩=>by
  obtain⟨lb,k1,k2⟩:=hV.ask
  exact⟨lb,k1,k2,fun v hv=>⟨S',hV.below hv⟩⟩
 have KM0:Hid (∀ a6 w,(∃ S',EnV u S g cg lg dg P G X C L D u.heap.size a6 (lstI (isK N 1) G.n) w S')→¬ G.lg<G.uses (lstX (isK N 1) G.n).length→¬ G.lg<G.uses ((pendL G X.Q).length+(lstX (isM N X.Q) G.n).length)→EnM u S g cg lg dg P G X.o N R u.heap.size a6 w):=fun a6 w ⟨S',hV⟩ h1 h2=>by
  refine⟨X,C,L,D,S',hV,eN,rfl,?_⟩
  have e1:enR G X N C L D=(0,X,C,L,D):=by unfold enR;rw[if_neg h2]
  rw[hR]
  unfold endR
  rw[if_neg h1,e1,if_neg (by simp)]
 have KM1:Hid (∀ a6 w,(∃ S',EnV u S g cg lg dg P G X C L D u.heap.size a6 (lstI (isK N 1) G.n) w S')→¬ G.lg<G.uses (lstX (isK N 1) G.n).length→G.lg<G.uses ((pendL G X.Q).length+(lstX (isM N X.Q) G.n).length)→w.cell? ⟨u.heap.size,0,none⟩=some (.pointer (some ⟨g,0,none⟩))∧Hid (Calls Tryz.prog 58 #[.pointer (some ⟨g,0,none⟩)] w fun e w'=>∃ e2,e=.returned (.int .i64 e2)∧(e2=0→Hid (EnM u S g cg lg dg P G X.o N R u.heap.size a6 w'))∧(e2≠0→Hid (EnS u S g cg lg dg P G X.o R e2 w')))):=fun a6 w ⟨S',hV⟩ h1 h2=>by
  obtain⟨x1,x2⟩:=hV.commit
  refine⟨x1,(unhide x2).mono ?_⟩
  rintro e w' ⟨rfl,Y⟩
  obtain⟨S2,hV2⟩:=unhide Y
  have e1:enR G X N C L D=((cmm G X C L D).1,(if (cmm G X C L D).1=0 then X.clr else X),(cmm G X C L D).2.1,(cmm G X C L D).2.2.1,(cmm G X C L D).2.2.2):=by unfold enR;rw[if_pos h2]
  refine⟨_,rfl,fun h0=>?_,fun h0=>?_⟩
  ·rw[if_pos h0] at hV2 e1
   refine⟨X.clr,_,_,_,S2,hV2,eN,rfl,?_⟩
   rw[hR]
   unfold endR
   rw[if_neg h1,e1,if_neg (by simpa using h0)]
  ·rw[if_neg h0] at hV2 e1
   have:R=((cmm G X C L D).1,{ X with N:=none },(cmm G X C L D).2.1,(cmm G X C L D).2.2.1,(cmm G X C L D).2.2.2):=by
    rw[hR]
    unfold endR
    rw[if_neg h1,e1,if_pos (by simpa using h0)]
   rw[this]
   exact⟨rfl,X,S2,rfl,⟨N,eN⟩,rfl,hV2.gv,hV2.nx⟩
 have KD:Hid (∀ a6 w,EnM u S g cg lg dg P G X.o N R u.heap.size a6 w→_):=fun a6 w hM=>hM.data
 have KD1:Hid (∀ a6 a3 k w,EnD u S g cg lg dg P G X.o N R u.heap.size a6 a3 k w→k<(lstX (isK N 2) G.n).length→_):=fun a6 a3 k w hD hk=>hD.step hk
 have KD2:Hid (∀ a6 a3 w,EnD u S g cg lg dg P G X.o N R u.heap.size a6 a3 (lstX (isK N 2) G.n).length w→EnO u S g cg lg dg P G X.o N R u.heap.size a6 0 w):=fun a6 a3 w hD=>hD.done
 have KO1:Hid (∀ a6 k w,EnO u S g cg lg dg P G X.o N R u.heap.size a6 k w→k<(lstX (isK N 1) G.n).length→_):=fun a6 k w hD hk=>hD.step hk
 have KO2:Hid (∀ a6 w,EnO u S g cg lg dg P G X.o N R u.heap.size a6 (lstX (isK N 1) G.n).length w→_):=fun a6 w hD=>hD.done
 have KG1:Hid (∀ a6 a4 k w,EnG u S g cg lg dg P G X.o N R u.heap.size a6 a4 k w→k<(lstX (isK N 3) G.n).length→_):=fun a6 a4 k w hD hk=>hD.step hk
 have KG2:Hid (∀ a6 a4 w,EnG u S g cg lg dg P G X.o N R u.heap.size a6 a4 (lstX (isK N 3) G.n).length w→EnS u S g cg lg dg P G X.o R 0 w):=fun a6 a4 w hD=>hD.done
 have KE:Hid (∀ eE w',EnS u S g cg lg dg P G X.o R eE w'→eE=R.1∧Hid (Calls Tryz.prog 63 #[.pointer (some ⟨X.o,0,none⟩)] w' fun e w2=>e=.returned (.tuple #[])∧Hid (∃ S',Gv w2 S' g cg lg dg P G R.2.1 R.2.2.1 R.2.2.2.1 R.2.2.2.2∧Nx S u S' w2∧Over w2 S' g X.o))):=fun eE w' ⟨e1,X',S',ho,⟨N',hN'⟩,hX,gv,nx⟩=>by
  refine⟨e1,?_⟩
  rw[← ho]
  refine(close_any gv hN').mono ?_
  rintro e w2 ⟨rfl,Y⟩
  obtain⟨S2,g2,n2,o2⟩:=unhide Y
  rw[hX]
  exact⟨rfl,S2,g2,nx.trans n2,o2⟩
 have hfd:=fld_note
 have hmf:∀ (fn:Fn) (first cap:Array Value) (w:World),(Instr.makeFunc fn first cap).run Tryz.prog w=.ok (.func fn first cap) w:=fun _ _ _ _=>rfl
 clear h hR eN
 generalize X.o=o at *
 generalize hn1:(lstX (isK N 1) G.n).length=n1 at *
 generalize hn2:(lstX (isK N 2) G.n).length=n2 at *
 generalize hn3:(lstX (isK N 3) G.n).length=n3 at *
 generalize hnm:(lstX (isM N X.Q) G.n).length=nm at *
 generalize hnp:(pendL G X.Q).length=np at *
 clear hn1 hn2 hn3 hnm hnp
 go_enter Tryz.func18,Tryz.ntmps18
 go_wp2
 refine wp_scope_one 0 (EnJ u S g cg lg dg P G o R) (fun _ _=>0) rfl ?_ ?_
 ·intro a' w' hJ
  clear K0 KS KL KA KM0 KM1 KD KD1 KD2 KO1 KO2 KG1 KG2 o0 hmf
  obtain⟨eE,hS,f,rfl⟩:=hJ
  obtain⟨e1,KC⟩:=unhide KE _ _ hS
  have E1:=hide e1
  clear KE hS e1
  go_wp2_with fail
  go_at_call 63
  refine(unhide KC).mono ?_
  rintro e w2 ⟨rfl,Z⟩
  clear KC
  go_wp2_with fail
  simp only[Exit.jump]
  go_ret
  exact⟨by rw[← unhide E1];rfl,Z⟩
 ·intro N0
  have N1:=hide N0
  clear N0 KE
  go_wp2_with fail
  go_at_call 53
  refine(unhide K0).mono ?_
  rintro e w' ⟨rfl,rfl⟩
  clear K0
  go_wp2_with fail
  go_at_call 54
  refine(unhide KS).mono ?_
  rintro e w2 ⟨a6,c6,rfl,KS2⟩
  clear KS
  go_wp2_with fail
  go_at_call 54
  refine(unhide KS2).mono ?_
  rintro e w3 ⟨a7,c7,rfl,Y3⟩
  obtain⟨lb,B0,KU,KG⟩:=unhide KA a6 w3 (unhide Y3)
  have KL1:Hid (∀ v,Below w3.heap.size w3 v→G.lg<G.uses n1→EnS u S g cg lg dg P G o R 5 v):=fun v hv hlt=>unhide KL a6 v (unhide KG v hv) hlt
  have KN0:Hid (∀ v,Below w3.heap.size w3 v→¬ G.lg<G.uses n1→¬ G.lg<G.uses (np+nm)→EnM u S g cg lg dg P G o N R u.heap.size a6 v):=fun v hv h1 h2=>unhide KM0 a6 v (unhide KG v hv) h1 h2
  have KN1:Hid (∀ v,Below w3.heap.size w3 v→¬ G.lg<G.uses n1→G.lg<G.uses (np+nm)→_):=fun v hv h1 h2=>unhide KM1 a6 v (unhide KG v hv) h1 h2
  have KU1:Hid (∀ v,Below w3.heap.size w3 v→Calls Tryz.prog 57 #[.pointer (some ⟨g,0,none⟩),.int .i64 (n1:Int)] v fun e w'=>e=.returned (.int .i64 (G.uses n1:Int))∧Hid (Below w3.heap.size w3 w')):=fun v hv=>unhide KU n1 v (by omega) hv
  have KU2:Hid (∀ v,Below w3.heap.size w3 v→Calls Tryz.prog 57 #[.pointer (some ⟨g,0,none⟩),.int .i64 ((np:Int)+(nm:Int))] v fun e w'=>e=.returned (.int .i64 (G.uses (np+nm):Int))∧Hid (Below w3.heap.size w3 w')):=fun v hv=>by
   have:=unhide KU (np+nm) v hls hv
   rw[Int.natCast_add] at this
   exact this
  have hw:IntKind.i64.wrap ((np:Int)+(nm:Int))=(np:Int)+(nm:Int):=by rw[IntKind.wrap_i64];omega
  have BB:Hid (∀ v,Below w3.heap.size w3 v→Below w3.heap.size w3 v.drew):=fun v hv=>hv.drew
  have B1:Hid (Below w3.heap.size w3 w3.drew):=(Below.refl _ w3).drew
  have HN1:Hid (n1≤4096):=by show n1≤4096;omega
  have HN2:Hid (n2≤4096):=by show n2≤4096;omega
  have HN3:Hid (n3≤4096):=by show n3≤4096;omega
  clear KS2 Y3 KL KA KM0 KM1 KU KG o0 hl1 hl2 hl3 hlm hlp hls hn hmf
  generalize u.heap.size=bx at *
  generalize G.uses n1=s1 at *
  generalize G.uses (np+nm)=s2 at *
  generalize G.lg=glg at *
  go_upto_region 7 with fail
  go_cut [37] (fun c wx=>c=.bool (decide (glg<s1))∧Hid (Below w3.heap.size w3 wx))
  case first=>as_aux_lemma =>
   clear KL1 KN0 KN1 KU2 KD KD1 KD2 KO1 KO2 KG1 KG2 N1 BB hw
   go_region_held3 (fun v=>Hid (Below w3.heap.size w3 v)∧v.cell? ⟨bx,0,none⟩=some (.pointer (some ⟨g,0,none⟩))∧v.cell? ⟨g,6,none⟩=some (.int .i64 (glg:Int))∧v.cell? ⟨g,16,none⟩=some (.map (some lb))∧∀ ty,(Builtin.len_ #[78] ty #[.map (some lb)]).run Tryz.prog v=.ok (.int .i64 (np:Int)) v)
    (with_reducible (first | exact unhide B0 _ (unhide B1) | exact unhide B0 _ (unhide JU)))
    ((go_at_call 57;refine(unhide KU1 _ (unhide (‹Hid (Below w3.heap.size w3 _)∧_›).1)).mono ?_;rintro e w4 ⟨rfl,JU⟩))
   all_goals
    go_wp2_with fail
    go_meet
    exact⟨rfl,JU⟩
  case rest =>
   obtain⟨rfl,B2⟩:=hcut
   rename_i wx
   clear KU1 B1
   by_cases h1:glg<s1
   ·have d1:decide (glg<s1)=true:=by simpa using h1
    rw[d1]
    have Z:=hide (unhide KL1 _ (unhide B2) h1)
    clear KL1 KN0 KN1 KU2 KD KD1 KD2 KO1 KO2 KG1 KG2 BB B0 B2 h1 d1
    go_wp2_with fail
    go_step3
    exact⟨rfl,EnJ.mk (unhide Z)⟩
   ·have d1:decide (glg<s1)=false:=by simpa using h1
    rw[d1]
    have H1:=hide h1
    have B3:=hide (unhide BB _ (unhide B2))
    clear KL1 BB d1 h1
    go_upto_region 9 with fail
    go_cut [53] (fun c wy=>c=.bool (decide (glg<s2))∧Hid (Below w3.heap.size w3 wy))
    case first=>as_aux_lemma =>
     clear KN0 KN1 KD KD1 KD2 KO1 KO2 KG1 KG2 N1 H1 B2
     go_region_held3 (fun v=>Hid (Below w3.heap.size w3 v)∧v.cell? ⟨bx,0,none⟩=some (.pointer (some ⟨g,0,none⟩))∧v.cell? ⟨g,6,none⟩=some (.int .i64 (glg:Int))∧v.cell? ⟨g,16,none⟩=some (.map (some lb))∧∀ ty,(Builtin.len_ #[78] ty #[.map (some lb)]).run Tryz.prog v=.ok (.int .i64 (np:Int)) v)
      (with_reducible (first | exact unhide B0 _ (unhide B3) | exact unhide B0 _ (unhide JU)))
      ((go_at_call 57;refine(unhide KU2 _ (unhide (‹Hid (Below w3.heap.size w3 _)∧_›).1)).mono ?_;rintro e w4 ⟨rfl,JU⟩))
     all_goals
      go_wp2_with fail
      go_meet
      exact⟨rfl,JU⟩
    case rest =>
     obtain⟨rfl,B4⟩:=hcut
     rename_i wy
     clear KU2 B0 B2 B3 hw
     go_upto_if 53 with fail
     go_cut [5] (fun c wz=>c=.int .i64 0∧Hid (EnM u S g cg lg dg P G o N R bx a6 wz))
     case first =>
      clear KD KD1 KD2 KO1 KO2 KG1 KG2
      by_cases h2:glg<s2
      ·have d2:decide (glg<s2)=true:=by simpa using h2
       rw[d2]
       obtain⟨x0,KC⟩:=unhide KN1 _ (unhide B4) (unhide H1) h2
       clear KN0 KN1 H1 B4 h2 d2
       go_wp2_with fail
       go_at_call 58
       refine(unhide KC).mono ?_
       rintro e w5 ⟨e2,rfl,Z0,Z7⟩
       clear KC x0
       by_cases h3:e2=0
       ·subst h3
        have Z:=Z0 rfl
        clear Z0 Z7 N1
        go_wp2_with fail
        go_meet
        exact⟨rfl,Z⟩
       ·have d3:(e2 != 0)=true:=by simpa using h3
        have Z:=hide (unhide (Z7 h3))
        clear Z0 Z7 N1 h3
        go_wp2_with fail
        go_step3
        exact⟨rfl,EnJ.mk (unhide Z)⟩
      ·have d2:decide (glg<s2)=false:=by simpa using h2
       rw[d2]
       have Z:=hide (unhide KN0 _ (unhide B4) (unhide H1) h2)
       clear KN0 KN1 H1 B4 h2 d2 N1
       go_wp2_with fail
       go_meet
       exact⟨rfl,unhide Z⟩
     case rest =>
      obtain⟨rfl,Y5⟩:=hcut
      rename_i wz
      clear KN0 KN1 H1 B4
      have KD0:=hide (unhide KD a6 _ (unhide Y5))
      clear KD Y5
      go_wp2_with fail
      go_at_call 54
      refine(unhide KD0).mono ?_
      rintro e w6 ⟨a3,c3,rfl,Y6⟩
      clear KD0
      have KP1:Hid (∀ k w,EnD u S g cg lg dg P G o N R bx a6 a3 k w→k<n2→_):=fun k w hD hk=>unhide KD1 a6 a3 k w hD hk
      have KP2:Hid (∀ w,EnD u S g cg lg dg P G o N R bx a6 a3 n2 w→EnO u S g cg lg dg P G o N R bx a6 0 w):=fun w hD=>unhide KD2 a6 a3 w hD
      clear KD1 KD2
      go_wp2_with fail
      go_loopw [5,61] (fun c i wr=>c=.int .i64 0∧∃ k:Nat,k≤n2∧i=.int .i64 (k:Int)∧Hid (EnD u S g cg lg dg P G o N R bx a6 a3 k wr)) (fun _ i _=>n2 - (intOf i).toNat)
      case atStart=>exact⟨rfl,0,Nat.zero_le _,rfl,Y6⟩
      case round =>
       obtain⟨rfl,k,hk,rfl,hJ⟩:=hrel
       have hn2:=unhide HN2
       clear Y6
       by_cases hlt:k<n2
       ·obtain⟨kb,off,b,ea,x1,x2,x3,nb,r1,r2,x4,lk,KP⟩:=unhide KP1 k wr (unhide hJ) hlt
        clear KP1 KP2 KO1 KO2 KG1 KG2 hJ N1
        subst ea
        generalize (b:Int)=bi at *
        go_upto_region 15 with fail
        go_region_with (go_at_call 60;refine(unhide KP).mono ?_;rintro e w7 ⟨e2,rfl,Z0,Z7⟩)
        all_goals
         clear KP x1 x2 x3 x4 lk
         by_cases h3:e2=0
         ·subst h3
          have Z:=Z0 rfl
          clear Z0 Z7
          go_wp2_with fail
          go_roundw
          case rel=>exact⟨rfl,k+1,by omega,by go_num,Z⟩
          case measure=>simp[intOf];omega
         ·have d3:(e2 != 0)=true:=by simpa using h3
          have Z:=hide (unhide (Z7 h3))
          clear Z0 Z7 h3
          go_wp2_with fail
          go_step3
          exact⟨rfl,EnJ.mk (unhide Z)⟩
       ·have ek:k=n2:=by omega
        rw[ek] at hJ
        have Y7:=hide (unhide KP2 wr (unhide hJ))
        clear KP1 KP2 hJ hn2 HN2
        go_wp2_with fail
        go_loopw [83] (fun i wr=>∃ k:Nat,k≤n1∧i=.int .i64 (k:Int)∧Hid (EnO u S g cg lg dg P G o N R bx a6 k wr)) (fun i _=>n1 - (intOf i).toNat)
        case atStart=>exact⟨0,Nat.zero_le _,rfl,Y7⟩
        case round =>
         obtain⟨k2,hk2,rfl,hJ⟩:=hrel
         have hn1:=unhide HN1
         clear Y7
         by_cases hlt:k2<n1
         ·obtain⟨kb,off,b,ea,x1,x2,lb2,nb,r1,r2,x3,x4,lk,w8,rr,Z⟩:=unhide KO1 a6 k2 _ (unhide hJ) hlt
          clear KO1 KO2 KG1 KG2 hJ N1
          subst ea
          generalize (b:Int)=bi at *
          go_upto_region 21 with fail
          go_region
          clear x1 x2 x3 x4 lk rr
          go_wp2_with fail
          go_roundw
          case rel=>exact⟨k2+1,by omega,by go_num,Z⟩
          case measure=>simp[intOf];omega
         ·have ek2:k2=n1:=by omega
          rw[ek2] at hJ
          have KO:=hide (unhide KO2 a6 _ (unhide hJ))
          clear KO1 KO2 hJ hn1 HN1
          go_wp2_with fail
          go_at_call 54
          refine(unhide KO).mono ?_
          rintro e w9 ⟨a4,c4,rfl,Y9⟩
          clear KO
          go_wp2_with fail
          go_loopw [103] (fun i wr=>∃ k:Nat,k≤n3∧i=.int .i64 (k:Int)∧Hid (EnG u S g cg lg dg P G o N R bx a6 a4 k wr)) (fun i _=>n3 - (intOf i).toNat)
          case atStart=>exact⟨0,Nat.zero_le _,rfl,Y9⟩
          case round =>
           obtain⟨k3,hk3,rfl,hJ⟩:=hrel
           have hn3:=unhide HN3
           clear Y9
           by_cases hlt:k3<n3
           ·obtain⟨kb,off,b,ea,x1,x2,KF⟩:=unhide KG1 a6 a4 k3 _ (unhide hJ) hlt
            clear KG1 KG2 hJ N1
            subst ea
            generalize (b:Int)=bi at *
            go_wp2_with fail
            go_at_call 62
            refine(unhide KF).mono ?_
            rintro e w10 ⟨rfl,Z⟩
            clear KF x1 x2
            go_wp2_with fail
            go_roundw
            case rel=>exact⟨k3+1,by omega,by go_num,Z⟩
            case measure=>simp[intOf];omega
           ·have ek3:k3=n3:=by omega
            rw[ek3] at hJ
            have Z:=hide (unhide KG2 a6 a4 _ (unhide hJ))
            clear KG1 KG2 hJ
            go_wp2_with fail
            go_step3
            rename_i hK
            refine hK _ _ ?_
            exact unhide N1 _ _ (EnJ.mk (unhide Z))

theorem oread_note {u:World}{S:Nat→Prop}{g cg lg dg:Nat}{P:Nat→Int}{G:Geo}{X:Grp}{C:Cac}{L:Lg}{D:Dev}(h:Gv u S g cg lg dg P G X C L D){N:Nat→Option Nt}(eN:X.N=some N){b:Nat}(hb:b<G.n){t:Nt}(et:N b=some t)(hk:t.k=1∨t.k=2) :
  Calls Tryz.prog 92 #[.pointer (some ⟨X.o,0,none⟩),.int .i64 (b:Int)] u fun e w'=>∃ a c,e=.returned (.tuple #[.slice a G.blk c,.int .i64 0])∧Hid (∃ S',Own u.heap.size w' a G.blk c t.z∧Gv w' S' g cg lg dg P G X C L D∧Nx S u S' w'∧∀ k,a=some ⟨k,0,none⟩→¬ S' k):=by
 obtain⟨Sg,Sc,Sl,Sd,m,mk,ml,z⟩:=h
 have K1:=hide (orefuses_open z.gr eN)
 have hG:=z.gr.pg.ok
 have hbk:=hG.blk
 have o1:=z.gr.opn N eN
 have c1:u.cell? ⟨X.o,1,none⟩=some (.map (some m.nb)):=o1.str.cell (i:=1) (by omega)
 have lk:=o1.nts.at hG.n2 hb et
 have e3:¬ t.k=3:=by omega
 unfold nv at lk
 simp only[if_neg e3] at lk
 unfold rv at lk
 have hrow:=o1.nts.row b t hb et e3
 have B0:Below u.heap.size u (u.alloc (.cells #[.int .i64 (t.k:Int),.slice (some ⟨(m.NA b).1,0,none⟩) G.blk (m.NA b).2] 123)):=(Below.refl _ _).alloc (Nat.le_refl _) _
 have BX:=hide (Bl.new u #[.int .i64 (t.k:Int),.slice (some ⟨(m.NA b).1,0,none⟩) G.blk (m.NA b).2] 123)
 have KC:Hid (Calls Tryz.prog 113 #[.slice (some ⟨(m.NA b).1,0,none⟩) G.blk (m.NA b).2] (u.alloc (.cells #[.int .i64 (t.k:Int),.slice (some ⟨(m.NA b).1,0,none⟩) G.blk (m.NA b).2] 123)) fun e w'=>∃ a c,e=.returned (.slice a G.blk c)∧Hid (∃ S',Own u.heap.size w' a G.blk c t.z∧Gv w' S' g cg lg dg P G X C L D∧Nx S u S' w'∧∀ k,a=some ⟨k,0,none⟩→¬ S' k)):=by
  refine(clone_row ((hrow.row (by omega)).has.later B0) (by omega)).mono ?_
  rintro e w' ⟨a,c,rfl,Y⟩
  obtain⟨ow,b1⟩:=unhide Y
  have bb:=B0.trans (b1.mono B0.size)
  refine⟨a,c,rfl,S,ow.base B0.size,(z.below bb).gv,(Nx.refl S u).below' bb,fun k ek hs=>?_⟩
  have:=z.lt hs
  have:=(ow.base B0.size).lt ek
  omega
 have hkk:(t.k:Int)=1∨(t.k:Int)=2:=by omega
 clear z o1 hrow B0 hk e3 hbk et hb
 generalize (m.NA b).1=r1 at *
 generalize (m.NA b).2=r2 at *
 generalize m.nb=nb at *
 generalize X.o=o at *
 generalize (b:Int)=bi at *
 generalize (t.k:Int)=tk at *
 go_enter Tryz.func92,Tryz.ntmps92
 go_wp2_with fail
 go_at_call 53
 refine(unhide K1).mono ?_
 rintro e w1 ⟨rfl,rfl⟩
 clear K1
 go_upto_region 5 with fail
 change Code.wp _ _ _ _ (u.alloc (.cells #[.int .i64 tk,.slice (some ⟨r1,0,none⟩) G.blk r2] 123))
 generalize u.alloc (.cells #[.int .i64 tk,.slice (some ⟨r1,0,none⟩) G.blk r2] 123)=w2 at *
 generalize hgb:u.heap.size=gb at *
 have HGB:=hide hgb
 clear hgb
 have x0:=(unhide BX).cell 0 (.int .i64 tk) rfl
 have x1:=(unhide BX).cell 1 (.slice (some ⟨r1,0,none⟩) G.blk r2) rfl
 clear BX lk c1
 rcases hkk with rfl | rfl
 ·go_wp2_with (go_at_call 113;refine(unhide KC).mono ?_;rintro e w' ⟨a,c,rfl,Z⟩;clear KC)
  go_ret2
  exact⟨a,c,rfl,by rw[unhide HGB];exact Z⟩
 ·go_wp2_with (go_at_call 113;refine(unhide KC).mono ?_;rintro e w' ⟨a,c,rfl,Z⟩;clear KC)
  go_ret2
  exact⟨a,c,rfl,by rw[unhide HGB];exact Z⟩

theorem oread_plain {u:World}{S:Nat→Prop}{g cg lg dg:Nat}{P:Nat→Int}{G:Geo}{X:Grp}{C:Cac}{L:Lg}{D:Dev}(h:Gv u S g cg lg dg P G X C L D){N:Nat→Option Nt}(eN:X.N=some N){b:Nat}(hb:b<G.n)(et:∀ t,N b=some t→t.k=3)(he:grE X C L D b=0) :
  Calls Tryz.prog 92 #[.pointer (some ⟨X.o,0,none⟩),.int .i64 (b:Int)] u fun e w'=>∃ a c,e=.returned (.tuple #[.slice a G.blk c,.int .i64 0])∧Hid (∃ S',Own u.heap.size w' a G.blk c (grZ X C L D b)∧Gv w' S' g cg lg dg P G X (grC X C L D b) L (grD X C L D b)∧Nx S u S' w'∧∀ k,a=some ⟨k,0,none⟩→¬ S' k):=by
 obtain⟨Sg,Sc,Sl,Sd,m,mk,ml,z⟩:=h
 have K1:=hide (orefuses_open z.gr eN)
 have hG:=z.gr.pg.ok
 have o1:=z.gr.opn N eN
 have c0:u.cell? ⟨X.o,0,none⟩=some (.pointer (some ⟨g,0,none⟩)):=o1.str.cell (i:=0) (by omega)
 have c1:u.cell? ⟨X.o,1,none⟩=some (.map (some m.nb)):=o1.str.cell (i:=1) (by omega)
 have lk:∃ tk:Int,(tk=0∨tk=3)∧(Instr.lookup 84 (.map (some m.nb)) (.int .i64 (b:Int)) false).run Tryz.prog u=.ok (.agg #[.int .i64 tk,.slice none 0 0]) u:=by
  cases hN:N b with
  | none=>exact⟨0,.inl rfl,o1.nts.at_no hG.n2 hb hN⟩
  | some t =>
   have:=o1.nts.at hG.n2 hb hN
   have hk:=et t hN
   unfold nv at this
   rw[hk] at this
   simp only[if_true] at this
   exact⟨3,.inr rfl,this⟩
 obtain⟨tk,hkk,lk⟩:=lk
 have B0:Below u.heap.size u (u.alloc (.cells #[.int .i64 tk,.slice none 0 0] 123)):=(Below.refl _ _).alloc (Nat.le_refl _) _
 have BX:=hide (Bl.new u #[.int .i64 tk,.slice none 0 0] 123)
 have c0':(u.alloc (.cells #[.int .i64 tk,.slice none 0 0] 123)).cell? ⟨X.o,0,none⟩=some (.pointer (some ⟨g,0,none⟩)):=by
  have:=B0.block X.o (z.gr.lt _ o1.so)
  simp only[World.cell?] at c0 ⊢
  rw[this];exact c0
 have KC:Hid (Calls Tryz.prog 140 #[.pointer (some ⟨g,0,none⟩),.int .i64 (b:Int)] (u.alloc (.cells #[.int .i64 tk,.slice none 0 0] 123)) fun e w'=>∃ a c,e=.returned (.tuple #[.slice a G.blk c,.int .i64 0])∧Hid (∃ S',Own u.heap.size w' a G.blk c (grZ X C L D b)∧Gv w' S' g cg lg dg P G X (grC X C L D b) L (grD X C L D b)∧Nx S u S' w'∧∀ k,a=some ⟨k,0,none⟩→¬ S' k)):=by
  refine(gread_ok (z.below B0).gv hb he).mono ?_
  rintro e w' ⟨a,c,rfl,Y⟩
  obtain⟨S',ow,g1,x1,n1⟩:=unhide Y
  exact⟨a,c,rfl,S',ow.base B0.size,g1,((Nx.refl S u).below' B0).trans x1,n1⟩
 clear z o1 B0 et hb he
 generalize grZ X C L D b=rz at *
 generalize grC X C L D b=rc at *
 generalize grD X C L D b=rd at *
 generalize m.nb=nb at *
 generalize X.o=o at *
 generalize (b:Int)=bi at *
 go_enter Tryz.func92,Tryz.ntmps92
 go_wp2_with fail
 go_at_call 53
 refine(unhide K1).mono ?_
 rintro e w1 ⟨rfl,rfl⟩
 clear K1
 go_upto_region 5 with fail
 change Code.wp _ _ _ _ (u.alloc (.cells #[.int .i64 tk,.slice none 0 0] 123))
 generalize u.alloc (.cells #[.int .i64 tk,.slice none 0 0] 123)=w2 at *
 generalize hgb:u.heap.size=gb at *
 have HGB:=hide hgb
 clear hgb
 have x0:=(unhide BX).cell 0 (.int .i64 tk) rfl
 have x1:=(unhide BX).cell 1 (.slice none 0 0) rfl
 clear BX lk c1 c0
 rcases hkk with rfl | rfl
 ·go_wp2_with (go_at_call 140;refine(unhide KC).mono ?_;rintro e w' ⟨a,c,rfl,Z⟩;clear KC)
  go_ret2
  exact⟨a,c,rfl,by rw[unhide HGB];exact Z⟩
 ·go_wp2_with (go_at_call 140;refine(unhide KC).mono ?_;rintro e w' ⟨a,c,rfl,Z⟩;clear KC)
  go_ret2
  exact⟨a,c,rfl,by rw[unhide HGB];exact Z⟩

theorem kept_open {u:World}{S:Nat→Prop}{g cg lg dg:Nat}{P:Nat→Int}{G:Geo}{X:Grp}{C:Cac}{L:Lg}{D:Dev}(h:Gv u S g cg lg dg P G X C L D){N:Nat→Option Nt}(eN:X.N=some N){b:Nat}(hb:b<G.n)(hq:L.Q b=none) :
  Calls Tryz.prog 40 #[.pointer (some ⟨g,0,none⟩),.int .i64 (b:Int)] u fun e w'=>e=.returned (.bool (X.F b||isK N 3 b))∧Hid (∃ S',Gv w' S' g cg lg dg P G X C L D∧Nx S u S' w'):=by
 obtain⟨Sg,Sc,Sl,Sd,m,mk,ml,h⟩:=h
 have hn:=h.gr.pg.ok.n2
 have c17:=h.gr.cells.2.2.2.2.2.2.1
 have lf:=h.gr.fre.look hn hb
 have B0:Below u.heap.size u (u.alloc (.cells #[] 153)):=(Below.refl _ _).alloc (Nat.le_refl _) _
 have KI:=hide (inLog_any (h.below B0))
 have KL:Hid (∀ v w1,InA (u.alloc (.cells #[] 153)) S Sg Sc Sl Sd g cg lg dg P G X C L D mk ml v w1→(Instr.lookup 78 (.map v) (.int .i64 (b:Int)) true).run Tryz.prog w1=.ok (.tuple #[.slice none 0 0,.bool false]) w1∧w1.cell? ⟨g,15,none⟩=some (.pointer (some ⟨X.o,0,none⟩)) ∧
   (∃ nb,w1.cell? ⟨X.o,1,none⟩=some (.map (some nb))∧∃ (k:Int) (xa:Option Addr) (xl xc:Nat),(Instr.lookup 84 (.map (some nb)) (.int .i64 (b:Int)) false).run Tryz.prog w1=.ok (.agg #[.int .i64 k,.slice xa xl xc]) w1∧Hid (decide (k=3)=isK N 3 b))∧Hid (∃ S',Gv w1 S' g cg lg dg P G X C L D∧Nx S u S' w1)):=fun v w1 hI=>by
  have l1:=hI.look_no hb hq
  obtain⟨S',Sg',m',a1,x1,_⟩:=hI
  have o1:=a1.gr.opn N eN
  have c15:=a1.gr.cells.2.2.2.2.1
  rw[eN] at c15
  refine⟨l1,c15,⟨m'.nb,o1.str.cell (i:=1) (by omega),?_⟩,S',a1.gv,((Nx.refl S u).below' B0).trans x1⟩
  cases hN:N b with
  | none=>exact⟨0,none,0,0,o1.nts.at_no hn hb hN,by unfold isK;rw[hN];rfl⟩
  | some t =>
   have:=o1.nts.at hn hb hN
   unfold nv at this
   obtain⟨xa,xl,xc,hx⟩:∃ xa xl xc,(if t.k=3 then Value.slice none 0 0 else rv G.blk (m'.NA b))=.slice xa xl xc:=by
    split
    ·exact⟨_,_,_,rfl⟩
    ·exact⟨_,_,_,rfl⟩
   simp only at this
   rw[hx] at this
   refine⟨(t.k:Int),xa,xl,xc,this,?_⟩
   show decide ((t.k:Int)=3)=_
   rw[isK_at hN,Bool.eq_iff_iff]
   simp
   omega
 clear h hq B0
 generalize isK N 3 b=q3 at *
 generalize X.o=o at *
 generalize m.fb=fb at *
 generalize (b:Int)=bi at *
 cases hf:X.F b with
 | true =>
  rw[hf] at lf
  clear hf
  go_enter Tryz.func40,Tryz.ntmps40
  go_wp2_with fail
  go_at_call 86
  refine(unhide KI).mono ?_
  rintro e w1 ⟨v,rfl,Y⟩
  obtain⟨l1,_,_,Z⟩:=unhide KL v w1 (unhide Y)
  clear KI KL Y lf c17
  go_wp2_with fail
  go_ret
  exact⟨rfl,Z⟩
 | false =>
  rw[hf] at lf
  clear hf
  go_enter Tryz.func40,Tryz.ntmps40
  go_wp2_with fail
  go_at_call 86
  refine(unhide KI).mono ?_
  rintro e w1 ⟨v,rfl,Y⟩
  obtain⟨l1,c15,⟨nb,n1,k,xa,xl,xc,l2,hk⟩,Z⟩:=unhide KL v w1 (unhide Y)
  clear KI KL Y lf c17
  have fk:∀ w:World,(Instr.field 123 (.agg #[.int .i64 k,.slice xa xl xc]) 0).run Tryz.prog w=.ok (.int .i64 k) w:=fun w=>fld_kind w k xa xl xc
  go_wp2_with fail
  go_ret
  refine⟨?_,Z⟩
  rw[← unhide hk]
  rfl

structure TriM (u:World) (S Sc Sl Sd:Nat→Prop) (cg lg dg:Nat) (P:Nat→Int) (G:Geo) (C:Cac) (L:Lg) (D:Dev) (mk:KMem) (ml:LMem):Prop where
 cc:CcM u Sc cg dg D.n D.blk C mk
 ll:LgM u Sl lg dg P G L ml
 dd:Dv u Sd dg D
 cl:∀ k,Sc k→¬ Sl k
 cd:∀ k,Sc k→¬ Sd k
 ld:∀ k,Sl k→¬ Sd k
 all:∀ k,S k↔(Sc k∨Sl k∨Sd k)
 bd:D.blk=G.blk
 nd:D.n=G.n
 tab:Tab u
 z0:¬ S 0

def Tri (u:World) (S:Nat→Prop) (cg lg dg:Nat) (P:Nat→Int) (G:Geo) (C:Cac) (L:Lg) (D:Dev):Prop:=∃ Sc Sl Sd mk ml,TriM u S Sc Sl Sd cg lg dg P G C L D mk ml

theorem tri_of {u w':World}{S S1 Sl Sd:Nat→Prop}{cg lg dg:Nat}{P:Nat→Int}{G:Geo}{C:Cac}{L:Lg}{D:Dev}{ml:LMem}(h:LvM u S Sl Sd lg dg P G L D ml)(hK:Kv w' S1 cg dg C D)(h1:∀ k,S1 k→Sd k∨u.heap.size≤k)(hb:Below u.heap.size u w') :
  ∃ S',Tri w' S' cg lg dg P G C L D∧Nx S u S' w':=by
 obtain⟨Sc,Sd',mk,c1,d1,dis,a1⟩:=hK
 have hl:∀ k,Sl k→¬ S1 k:=fun k hk hs=>by
  rcases h1 k hs with x | x
  ·exact h.dis k hk x
  ·have:=h.ll.lt k hk;omega
 have z1:¬ S1 0:=fun hs=>by
  rcases h1 0 hs with x | x
  ·exact h.z0 ((h.all 0).2 (.inr x))
  ·have:=h.tab.lt;omega
 refine⟨fun k=>Sc k∨Sl k∨Sd' k,⟨Sc,Sl,Sd',mk,ml,c1,h.ll.kept (fun k hk=>hb.block k (h.ll.lt k hk)) (fun _ x=>x) (fun k hk=>Nat.lt_of_lt_of_le (h.ll.lt k hk) hb.size),d1,fun k hc hk=>hl k hk ((a1 k).2 (.inl hc)),dis,fun k hk hd=>hl k hk ((a1 k).2 (.inr hd)),fun k=>Iff.rfl,h.bd,h.nd,h.tab.kept (hb.block 0 h.tab.lt),?_⟩,⟨⟨hb.os,hb.tape,hb.output,hb.size,fun k hk _=>hb.block k hk⟩,fun k hk x=>?_⟩⟩
 ·rintro (x | x | x)
  ·exact z1 ((a1 0).2 (.inl x))
  ·exact h.z0 ((h.all 0).2 (.inl x))
  ·exact z1 ((a1 0).2 (.inr x))
 ·rcases x with x | x | x
  ·rcases h1 k ((a1 k).2 (.inl x)) with y | y
   ·exact(h.all k).2 (.inr y)
   ·omega
  ·exact(h.all k).2 (.inl x)
  ·rcases h1 k ((a1 k).2 (.inr x)) with y | y
   ·exact(h.all k).2 (.inr y)
   ·omega

def Grp.new:Grp:=⟨fun _=>none,fun _=>false,none,0⟩

def gmem (v:Nat):GMem:=⟨v,fun _=>(0,0),v+1,0,fun _=>(0,0),⟨0,0,0⟩,none,fun _=>(0,0),fun _=>none⟩

theorem gnew_laid {u v:World}{S:Nat→Prop}{cg lg dg:Nat}{P:Nat→Int}{G:Geo}{C:Cac}{L:Lg}{D:Dev}(h:Tri u S cg lg dg P G C L D)(hs:Seen (gmem 0) G L)(hda:(G.ib:Int)≤P 11∧P 11≤(G.n:Int))(hv:Below u.heap.size u v) :
  ∃ S',Gv (((v.alloc (.map #[] 0)).alloc (.map #[] 0)).alloc (.cells #[.pointer (some ⟨dg,0,none⟩),.pointer (some ⟨lg,0,none⟩),.pointer (some ⟨cg,0,none⟩),.int .i64 (P 0),.int .i64 (P 1),.int .i64 (P 2),.int .i64 (P 3),.int .i64 (P 4),.int .i64 (P 5),.int .i64 (P 6),.int .i64 (P 7),.int .i64 (P 8),.int .i64 (P 9),.int .i64 (P 10),.int .i64 (P 11),.pointer none,.map (some v.heap.size),.map (some (v.heap.size+1)),.int .i64 0,.int .i64 0,.int .i64 0,.map none] 83)) S' (v.heap.size+2) cg lg dg P G Grp.new C L D∧Nx S u S' (((v.alloc (.map #[] 0)).alloc (.map #[] 0)).alloc (.cells #[.pointer (some ⟨dg,0,none⟩),.pointer (some ⟨lg,0,none⟩),.pointer (some ⟨cg,0,none⟩),.int .i64 (P 0),.int .i64 (P 1),.int .i64 (P 2),.int .i64 (P 3),.int .i64 (P 4),.int .i64 (P 5),.int .i64 (P 6),.int .i64 (P 7),.int .i64 (P 8),.int .i64 (P 9),.int .i64 (P 10),.int .i64 (P 11),.pointer none,.map (some v.heap.size),.map (some (v.heap.size+1)),.int .i64 0,.int .i64 0,.int .i64 0,.map none] 83)):=by
 obtain⟨Sc,Sl,Sd,mk,ml,h⟩:=h
 have hsz:=hv.size
 have b1:Below v.heap.size v (v.alloc (.map #[] 0)):=(Below.refl _ _).alloc (Nat.le_refl _) _
 have z1:(v.alloc (.map #[] 0)).heap.size=v.heap.size+1:=by simp
 have b2:Below (v.alloc (.map #[] 0)).heap.size (v.alloc (.map #[] 0)) ((v.alloc (.map #[] 0)).alloc (.map #[] 0)):=(Below.refl _ _).alloc (Nat.le_refl _) _
 have z2:((v.alloc (.map #[] 0)).alloc (.map #[] 0)).heap.size=v.heap.size+2:=by simp
 have m1:=MapX.made (kB G.blk) v G.n
 have m2:=MapX.made kU (v.alloc (.map #[] 0)) G.n
 rw[z1] at m2
 have m1':=m1.kept (b2.block _ (by omega))
 generalize hv2:(v.alloc (.map #[] 0)).alloc (.map #[] 0)=v2 at *
 have b12:Below v.heap.size v v2:=b1.trans (b2.mono b1.size)
 have b3:Below v2.heap.size v2 (v2.alloc (.cells #[.pointer (some ⟨dg,0,none⟩),.pointer (some ⟨lg,0,none⟩),.pointer (some ⟨cg,0,none⟩),.int .i64 (P 0),.int .i64 (P 1),.int .i64 (P 2),.int .i64 (P 3),.int .i64 (P 4),.int .i64 (P 5),.int .i64 (P 6),.int .i64 (P 7),.int .i64 (P 8),.int .i64 (P 9),.int .i64 (P 10),.int .i64 (P 11),.pointer none,.map (some v.heap.size),.map (some (v.heap.size+1)),.int .i64 0,.int .i64 0,.int .i64 0,.map none] 83)):=(Below.refl _ _).alloc (Nat.le_refl _) _
 have z3:(v2.alloc (.cells #[.pointer (some ⟨dg,0,none⟩),.pointer (some ⟨lg,0,none⟩),.pointer (some ⟨cg,0,none⟩),.int .i64 (P 0),.int .i64 (P 1),.int .i64 (P 2),.int .i64 (P 3),.int .i64 (P 4),.int .i64 (P 5),.int .i64 (P 6),.int .i64 (P 7),.int .i64 (P 8),.int .i64 (P 9),.int .i64 (P 10),.int .i64 (P 11),.pointer none,.map (some v.heap.size),.map (some (v.heap.size+1)),.int .i64 0,.int .i64 0,.int .i64 0,.map none] 83)).heap.size=v.heap.size+3:=by simp[z2]
 have str:=World.rowIs_alloc v2 #[.pointer (some ⟨dg,0,none⟩),.pointer (some ⟨lg,0,none⟩),.pointer (some ⟨cg,0,none⟩),.int .i64 (P 0),.int .i64 (P 1),.int .i64 (P 2),.int .i64 (P 3),.int .i64 (P 4),.int .i64 (P 5),.int .i64 (P 6),.int .i64 (P 7),.int .i64 (P 8),.int .i64 (P 9),.int .i64 (P 10),.int .i64 (P 11),.pointer none,.map (some v.heap.size),.map (some (v.heap.size+1)),.int .i64 0,.int .i64 0,.int .i64 0,.map none] 83 (ucell dg lg cg P Grp.new (gmem v.heap.size)) (fun i hi=>by
  have h22:i<22:=by simpa using hi
  have:i=0∨i=1∨i=2∨i=3∨i=4∨i=5∨i=6∨i=7∨i=8∨i=9∨i=10∨i=11∨i=12∨i=13∨i=14∨i=15∨i=16∨i=17∨i=18∨i=19∨i=20∨i=21:=by omega
  rcases this with rfl | rfl | rfl | rfl | rfl | rfl | rfl | rfl | rfl | rfl | rfl | rfl | rfl | rfl | rfl | rfl | rfl | rfl | rfl | rfl | rfl | rfl<;>rfl)
 rw[z2] at str
 have m1'':=m1'.kept (b3.block _ (by omega))
 have m2'':=m2.kept (b3.block _ (by omega))
 have bb:Below u.heap.size u (v2.alloc (.cells #[.pointer (some ⟨dg,0,none⟩),.pointer (some ⟨lg,0,none⟩),.pointer (some ⟨cg,0,none⟩),.int .i64 (P 0),.int .i64 (P 1),.int .i64 (P 2),.int .i64 (P 3),.int .i64 (P 4),.int .i64 (P 5),.int .i64 (P 6),.int .i64 (P 7),.int .i64 (P 8),.int .i64 (P 9),.int .i64 (P 10),.int .i64 (P 11),.pointer none,.map (some v.heap.size),.map (some (v.heap.size+1)),.int .i64 0,.int .i64 0,.int .i64 0,.map none] 83)):=(hv.trans (b12.mono hsz)).trans (b3.mono (by omega))
 generalize v2.alloc (.cells #[.pointer (some ⟨dg,0,none⟩),.pointer (some ⟨lg,0,none⟩),.pointer (some ⟨cg,0,none⟩),.int .i64 (P 0),.int .i64 (P 1),.int .i64 (P 2),.int .i64 (P 3),.int .i64 (P 4),.int .i64 (P 5),.int .i64 (P 6),.int .i64 (P 7),.int .i64 (P 8),.int .i64 (P 9),.int .i64 (P 10),.int .i64 (P 11),.pointer none,.map (some v.heap.size),.map (some (v.heap.size+1)),.int .i64 0,.int .i64 0,.int .i64 0,.map none] 83)=w3 at *
 have gr:GrM w3 (fun k=>v.heap.size≤k∧k<w3.heap.size) (v.heap.size+2) dg lg cg P G Grp.new (gmem v.heap.size) :=
  ⟨str,⟨m1''.congr (fun k hk=>rfl),fun b z _ e=>(by cases e),⟨Nat.le_refl _,by show v.heap.size<_;omega⟩⟩,⟨m2''.congr (fun k hk=>rfl),⟨by show v.heap.size≤v.heap.size+1;omega,by show v.heap.size+1<_;omega⟩⟩,fun N e=>(by cases e),fun pb e=>(by cases e),fun _ b _=>rfl,⟨by omega,by omega⟩,by show v.heap.size≠v.heap.size+1;omega,fun e=>(by cases e),fun e=>(by cases e),fun k hk=>hk.2,h.ll.pg,hda⟩
 have hlt:∀ k,(Sc k∨Sl k∨Sd k)→k<u.heap.size:=fun k hk=>by
  rcases hk with x | x | x
  ·exact h.cc.lt k x
  ·exact h.ll.lt k x
  ·exact h.dd.lt x
 refine⟨fun k=>(v.heap.size≤k∧k<w3.heap.size)∨Sc k∨Sl k∨Sd k,⟨_,Sc,Sl,Sd,gmem v.heap.size,mk,ml,gr,h.cc.kept (fun k hk=>bb.block k (h.cc.lt k hk)) (fun _ x=>x) (fun k hk=>Nat.lt_of_lt_of_le (h.cc.lt k hk) bb.size),h.ll.kept (fun k hk=>bb.block k (h.ll.lt k hk)) (fun _ x=>x) (fun k hk=>Nat.lt_of_lt_of_le (h.ll.lt k hk) bb.size),h.dd.below bb,
  fun k hk x=>by have:=hlt k (.inl x);omega,fun k hk x=>by have:=hlt k (.inr (.inl x));omega,fun k hk x=>by have:=hlt k (.inr (.inr x));omega,h.cl,h.cd,h.ld,fun k=>Iff.rfl,h.bd,h.nd,h.tab.kept (bb.block 0 h.tab.lt),?_,hs⟩,⟨⟨bb.os,bb.tape,bb.output,bb.size,fun k hk _=>bb.block k hk⟩,fun k hk x=>?_⟩⟩
 ·rintro (x | x)
  ·have:=h.tab.lt;omega
  ·exact h.z0 ((h.all 0).2 x)
 ·rcases x with x | x
  ·omega
  ·exact(h.all k).2 x

theorem gnew_ok {u:World}{S:Nat→Prop}{cg lg dg:Nat}{P:Nat→Int}{G:Geo}{C:Cac}{L:Lg}{D:Dev}(h:Tri u S cg lg dg P G C L D)(hs:Seen (gmem 0) G L)(hda:(G.ib:Int)≤P 11∧P 11≤(G.n:Int)) :
  Calls Tryz.prog 29 #[.pointer (some ⟨dg,0,none⟩),.pointer (some ⟨lg,0,none⟩),.pointer (some ⟨cg,0,none⟩),Pv P] u fun e w'=>∃ g,e=.returned (.tuple #[.pointer (some ⟨g,0,none⟩),.int .i64 0])∧Hid (∃ S',Gv w' S' g cg lg dg P G Grp.new C L D∧Nx S u S' w'∧u.heap.size≤g):=by
 have hpg:PG P G:=by obtain⟨_,_,_,_,_,h⟩:=h;exact h.ll.pg
 have HK:=hide (Kp.start u P)
 have K1:Hid (∀ w,Calls Tryz.prog 66 #[Pv P] w fun e w'=>e=.returned (.int .i64 0)∧Below w.heap.size w w'):=fun w=>by
  have:=check_any P w
  rwa [hpg.chk] at this
 have KL:Hid (∀ w1,Below u.heap.size u w1→∃ S',Gv (((w1.alloc (.map #[] 0)).alloc (.map #[] 0)).alloc (.cells #[.pointer (some ⟨dg,0,none⟩),.pointer (some ⟨lg,0,none⟩),.pointer (some ⟨cg,0,none⟩),.int .i64 (P 0),.int .i64 (P 1),.int .i64 (P 2),.int .i64 (P 3),.int .i64 (P 4),.int .i64 (P 5),.int .i64 (P 6),.int .i64 (P 7),.int .i64 (P 8),.int .i64 (P 9),.int .i64 (P 10),.int .i64 (P 11),.pointer none,.map (some w1.heap.size),.map (some (w1.heap.size+1)),.int .i64 0,.int .i64 0,.int .i64 0,.map none] 83)) S' (w1.heap.size+2) cg lg dg P G Grp.new C L D∧Nx S u S' (((w1.alloc (.map #[] 0)).alloc (.map #[] 0)).alloc (.cells #[.pointer (some ⟨dg,0,none⟩),.pointer (some ⟨lg,0,none⟩),.pointer (some ⟨cg,0,none⟩),.int .i64 (P 0),.int .i64 (P 1),.int .i64 (P 2),.int .i64 (P 3),.int .i64 (P 4),.int .i64 (P 5),.int .i64 (P 6),.int .i64 (P 7),.int .i64 (P 8),.int .i64 (P 9),.int .i64 (P 10),.int .i64 (P 11),.pointer none,.map (some w1.heap.size),.map (some (w1.heap.size+1)),.int .i64 0,.int .i64 0,.int .i64 0,.map none] 83))∧u.heap.size≤w1.heap.size+2):=fun w1 hb=>by
  obtain⟨S',g1,x1⟩:=gnew_laid h hs hda hb
  exact⟨S',g1,x1,by have:=hb.size;omega⟩
 have hmm:=@run_makeMap Tryz.prog
 clear h hs hda hpg
 obtain⟨f0,f1,f2,f3,f4,f5,f6,f7,f8,f9,f10,f11⟩:=(unhide HK).cells
 go_enter Tryz.func29,Tryz.ntmps29
 go_wp2_with fail
 go_at_call 66
 refine(unhide K1 _).mono ?_
 rintro e w1 ⟨rfl,hb⟩
 replace HK:=hide ((unhide HK).call hb)
 clear f0 f1 f2 f3 f4 f5 f6 f7 f8 f9 f10 f11 K1 hb
 obtain⟨f0,f1,f2,f3,f4,f5,f6,f7,f8,f9,f10,f11⟩:=(unhide HK).cells
 have Z:=hide (unhide KL w1 (unhide HK).2)
 clear KL HK
 go_wp2_with fail
 go_ret2
 exact⟨_,rfl,unhide Z⟩

end Go.Proofs.YtokngjcfkkceiaaGreatDoor
