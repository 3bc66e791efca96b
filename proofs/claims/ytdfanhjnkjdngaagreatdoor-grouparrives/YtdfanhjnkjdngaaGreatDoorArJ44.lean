/- Joined: OLog, ORead, OList, OApply. -/
import Derived.Test.YtdfanhjnkjdngaaGreatDoorArJ43
import Derived.Test.YtdfanhjnkjdngaaGreatDoorArCOpenH
import Derived.Test.YtdfanhjnkjdngaaGreatDoorArJ40
import Derived.Test.YtdfanhjnkjdngaaGreatDoorArGColl
import Derived.Test.YtdfanhjnkjdngaaGreatDoorArJ25
/- inLog: what is pending in the log, as the group has it. -/
namespace Go.Proofs.YtdfanhjnkjdngaaGreatDoor
set_option maxRecDepth 100000
set_option maxHeartbeats 8000000
open Go.RowKit Go.Shelf Go.Maps
set_option linter.unusedVariables false

theorem setW_pend (G:Geo) (Q:Nat→Option (List Int)) {b:Nat} (hb:b < G.n):setW (fun _=>none) (pendW G Q) b=Q b:=by
 have key:∀ (l:List Nat) (R:Nat→Option (List Int)),(∀ x ∈ l,(Q x).isSome=true)→setW R (l.map (fun x=>(x,(Q x).getD []))) b=if b ∈ l then Q b else R b:=by
  intro l
  induction l with
  | nil=>intro R _; rfl
  | cons x r ih =>
   intro R hx
   show setW _ (r.map _) b=_
   rw [ih _ (fun y hy=>hx y (List.mem_cons_of_mem _ hy))]
   by_cases h1:b ∈ r
   ·rw [if_pos h1,if_pos (List.mem_cons_of_mem _ h1)]
   ·rw [if_neg h1]
    by_cases h2:b=x
    ·subst h2
     rw [if_pos (show b ∈ b :: r by simp)]
     show (if b=b then some ((Q b).getD []) else R b)=Q b
     rw [if_pos rfl]
     obtain ⟨z,hz⟩:=Option.isSome_iff_exists.1 (hx b (by simp))
     rw [hz]; rfl
    ·rw [if_neg (show ¬ b ∈ x :: r by simp [h1,h2])]
     show (if b=x then _ else R b)=R b
     rw [if_neg h2]
 unfold pendW
 rw [key _ _ (fun x hx=>(pendL_mem.1 hx).2)]
 by_cases h:b ∈ pendL G Q
 ·rw [if_pos h]
 ·rw [if_neg h]
  cases e:Q b with
  | none=>rfl
  | some z=>exact absurd (pendL_mem.2 ⟨hb,by rw [e]; rfl⟩) h

theorem AllM.llk {u u':World} {S Sg Sg' Sc Sl Sd:Nat→Prop} {g cg lg dg:Nat} {P:Nat→Int} {G:Geo} {X:Grp} {C:Cac} {L:Lg} {D:Dev} {m:GMem} {mk:KMem} {ml:LMem} (h:AllM u S Sg Sc Sl Sd g cg lg dg P G X C L D m mk ml) (hx:Nx Sg u Sg' u'):LgM u' Sl lg dg P G L ml :=
 h.ll.kept (fun k hk=>(hx.keep (h.ll.lt k hk) (fun x=>h.gl k x hk)).1) (fun _ x=>x) (fun k hk=>(hx.keep (h.ll.lt k hk) (fun x=>h.gl k x hk)).2.2)

theorem GrM.seenS {u:World} {S:Nat→Prop} {g dg lg cg:Nat} {P:Nat→Int} {G:Geo} {X:Grp} {m:GMem} (h:GrM u S g dg lg cg P G X m) (H:Hd) {nb:Nat} (hm:MapX (kB G.blk) u nb G.n (fun _=>none)) (hS:S nb) (n1:nb ≠ m.lb) (n2:nb ≠ m.fb) (n3:∀ N,X.N=some N→nb ≠ m.nb) :
  GrM ((((u.setCell ⟨g,18,none⟩ (.int .i64 (H.seq:Int))).setCell ⟨g,19,none⟩ (.int .i64 (H.tail:Int))).setCell ⟨g,20,none⟩ (.int .i64 (H.used:Int))).setCell ⟨g,21,none⟩ (.map (some nb))) S g dg lg cg P G X { m with hc:=H,pb:=some nb,Qc:=fun _=>none }:=by
 have h1:=h.setG X { m with hc:=⟨H.seq,m.hc.tail,m.hc.used⟩ } 18 (.int .i64 (H.seq:Int)) (fun j hj=>by
  rcases cell22 j hj with rfl | rfl | rfl | ⟨h1,h2⟩ | rfl | rfl | rfl | rfl | rfl | rfl | rfl
  ·simp [ucell]
  ·simp [ucell]
  ·simp [ucell]
  ·simp [ucell,show ¬ j=0 by omega,show ¬ j=1 by omega,show ¬ j=2 by omega,h2,show ¬ j=18 by omega]
  all_goals simp [ucell,Hd.fn]) ⟨rfl,rfl⟩ ⟨rfl,rfl,rfl⟩ (fun N e=>by have ho:=h.opS 18 (.int .i64 (H.seq:Int)) e; exact ⟨ho.str,ho.nts,ho.so,ho.nl,ho.nf,ho.np⟩) (fun pb e=>h.penS 18 _ e) h.pno
 have m1:=hm.kept (Below.heap_setCell u ⟨g,18,none⟩ (.int .i64 (H.seq:Int)) nb (fun e=>hm.ner h.str e.symm))
 generalize u.setCell ⟨g,18,none⟩ (.int .i64 (H.seq:Int))=u1 at *
 have h2:=h1.setG X { m with hc:=⟨H.seq,H.tail,m.hc.used⟩ } 19 (.int .i64 (H.tail:Int)) (fun j hj=>by
  rcases cell22 j hj with rfl | rfl | rfl | ⟨h1,h2⟩ | rfl | rfl | rfl | rfl | rfl | rfl | rfl
  ·simp [ucell]
  ·simp [ucell]
  ·simp [ucell]
  ·simp [ucell,show ¬ j=0 by omega,show ¬ j=1 by omega,show ¬ j=2 by omega,h2,show ¬ j=19 by omega]
  all_goals simp [ucell,Hd.fn]) ⟨rfl,rfl⟩ ⟨rfl,rfl,rfl⟩ (fun N e=>by have ho:=h1.opS 19 (.int .i64 (H.tail:Int)) e; exact ⟨ho.str,ho.nts,ho.so,ho.nl,ho.nf,ho.np⟩) (fun pb e=>h1.penS 19 _ e) h.pno
 have m2:=m1.kept (Below.heap_setCell u1 ⟨g,19,none⟩ (.int .i64 (H.tail:Int)) nb (fun e=>m1.ner h1.str e.symm))
 generalize u1.setCell ⟨g,19,none⟩ (.int .i64 (H.tail:Int))=u2 at *
 have h3:=h2.setG X { m with hc:=H } 20 (.int .i64 (H.used:Int)) (fun j hj=>by
  rcases cell22 j hj with rfl | rfl | rfl | ⟨h1,h2⟩ | rfl | rfl | rfl | rfl | rfl | rfl | rfl
  ·simp [ucell]
  ·simp [ucell]
  ·simp [ucell]
  ·simp [ucell,show ¬ j=0 by omega,show ¬ j=1 by omega,show ¬ j=2 by omega,h2,show ¬ j=20 by omega]
  all_goals simp [ucell,Hd.fn]) ⟨rfl,rfl⟩ ⟨rfl,rfl,rfl⟩ (fun N e=>by have ho:=h2.opS 20 (.int .i64 (H.used:Int)) e; exact ⟨ho.str,ho.nts,ho.so,ho.nl,ho.nf,ho.np⟩) (fun pb e=>h2.penS 20 _ e) h.pno
 have m3:=m2.kept (Below.heap_setCell u2 ⟨g,20,none⟩ (.int .i64 (H.used:Int)) nb (fun e=>m2.ner h2.str e.symm))
 generalize u2.setCell ⟨g,20,none⟩ (.int .i64 (H.used:Int))=u3 at *
 have m4:=m3.kept (Below.heap_setCell u3 ⟨g,21,none⟩ (.map (some nb)) nb (fun e=>m3.ner h3.str e.symm))
 refine h3.setG X { m with hc:=H,pb:=some nb,Qc:=fun _=>none } 21 (.map (some nb)) (fun j hj=>?_) ⟨rfl,rfl⟩ ⟨rfl,rfl,rfl⟩ (fun N e=>?_) (fun pb e=>?_) (fun e=>by cases e)
 ·rcases cell22 j hj with rfl | rfl | rfl | ⟨h1,h2⟩ | rfl | rfl | rfl | rfl | rfl | rfl | rfl
  ·simp [ucell]
  ·simp [ucell]
  ·simp [ucell]
  ·simp [ucell,show ¬ j=0 by omega,show ¬ j=1 by omega,show ¬ j=2 by omega,h2,show ¬ j=21 by omega]
  all_goals simp [ucell]
 ·have ho:=h3.opS 21 (.map (some nb)) e
  exact ⟨ho.str,ho.nts,ho.so,ho.nl,ho.nf,fun e2=>n3 N e (by have e3:some nb=some m.nb:=e2; exact Option.some.inj e3)⟩
 ·cases e
  exact ⟨⟨m4.congr (fun k hk=>rfl),fun b z _ e=>(by cases e),hS⟩,n1,n2⟩

structure InJ (u:World) (Sg:Nat→Prop) (g dg lg cg:Nat) (P:Nat→Int) (G:Geo) (X:Grp) (L:Lg) (nb B:Nat) (v:Value) (V:List Wr) (k:Nat) (wr:World) (Sg':Nat→Prop) (m':GMem):Prop where
 gr:GrM wr Sg' g dg lg cg P G X m'
 nx:Nx Sg u Sg' wr
 hc:m'.hc=L.h
 pb:m'.pb=some nb
 qc:m'.Qc=setW (fun _=>none) ((pendW G L.Q).take k)
 gw:Gw B wr v V
 nl:nb < B
 bl:B ≤ wr.heap.size
 ub:u.heap.size ≤ B
 is:wl V=pendW G L.Q
 dl:∀ x ∈ V,x.dl=G.blk∧0 ≤ x.b

theorem InJ.block {u:World} {Sg:Nat→Prop} {g dg lg cg:Nat} {P:Nat→Int} {G:Geo} {X:Grp} {L:Lg} {nb B:Nat} {v:Value} {V:List Wr} {k:Nat} {wr:World} {Sg':Nat→Prop} {m':GMem} (h:InJ u Sg g dg lg cg P G X L nb B v V k wr Sg' m') (hk:k < V.length) :
  ∃ b:Nat,(wat V k).b=(b:Int)∧b < G.n:=by
 have h0:=(h.dl _ (wat_mem hk)).2
 refine ⟨(wat V k).b.toNat,by omega,?_⟩
 have hm:((wat V k).b.toNat,(wat V k).z) ∈ wl V:=List.mem_map.2 ⟨wat V k,wat_mem hk,rfl⟩
 rw [h.is] at hm
 unfold pendW at hm
 obtain ⟨b,hb,e⟩:=List.mem_map.1 hm
 have e1:b=(wat V k).b.toNat:=by simpa using congrArg Prod.fst e
 rw [← e1]
 exact (pendL_mem.1 hb).1

theorem InJ.step {u:World} {Sg:Nat→Prop} {g dg lg cg:Nat} {P:Nat→Int} {G:Geo} {X:Grp} {L:Lg} {nb B:Nat} {v:Value} {V:List Wr} {k:Nat} {wr:World} {Sg':Nat→Prop} {m':GMem} (h:InJ u Sg g dg lg cg P G X L nb B v V k wr Sg' m') (hk:k < V.length) {b:Nat} (hb:(wat V k).b=(b:Int)) (hbn:b < G.n) {w1:World} (hw:Below wr.heap.size wr w1) :
  ∃ w2,(Instr.mapUpdate 121 (.map (some nb)) (.int .i64 (b:Int)) (.slice (wat V k).da (wat V k).dl (wat V k).dc)).run Tryz.prog w1=.ok () w2∧∃ Sg2 m2,InJ u Sg g dg lg cg P G X L nb B v V (k + 1) w2 Sg2 m2:=by
 have hs:=hw.size
 have hbl:=h.bl
 have hub:=h.ub
 have hG:=h.gr.pg.ok
 obtain ⟨ow,by1,dl1,dl2⟩:=(h.gw.below hw).row k hk
 obtain ⟨q,eq,ra,q1,q2⟩:=ow.rowAt dl1 by1 (S:=fun j=>Sg' j ∨ (B ≤ j∧j < w1.heap.size)) (fun j h1 h2=>.inr ⟨h1,h2⟩)
 have edl:=(h.dl _ (wat_mem hk)).1
 have g1:GrM w1 (fun j=>Sg' j ∨ (B ≤ j∧j < w1.heap.size)) g dg lg cg P G X m':=h.gr.kept (fun j hj=>hw.block j (h.gr.lt j hj)) (fun j hj=>.inl hj) (fun j hj=>by
  rcases hj with x | x
  ·exact Nat.lt_of_lt_of_le (h.gr.lt j x) hs
  ·exact x.2)
 rw [edl] at ra
 obtain ⟨w2,r2,p2,T⟩:=(g1.pen nb h.pb).put hG.n2 hbn ra
 have g2:=g1.penT h.pb T p2
 rw [eq,edl]
 refine ⟨w2,r2,_,_,g2,?_,h.hc,h.pb,?_,?_,h.nl,by rw [T.sz]; omega,h.ub,h.is,h.dl⟩
 ·have n1:=h.nx.below' hw
  refine ⟨⟨T.gr.os.trans n1.fr.os,T.gr.tape.trans n1.fr.tape,T.gr.output.trans n1.fr.output,by rw [T.sz]; exact n1.fr.size,fun j hj hn=>(T.other (Nat.lt_of_lt_of_le hj n1.fr.size) (fun e=>hn (n1.sub j hj (by rw [e]; exact (h.gr.pen nb h.pb).sm)))).trans (n1.fr.block j hj hn)⟩,fun j hj x=>?_⟩
  rcases x with x | x
  ·exact h.nx.sub j hj x
  ·omega
 ·show (fun j=>if j=b then some (wat V k).z else m'.Qc j)=_
  rw [h.qc,← h.is,setW_snoc hk b hb]
 ·exact (h.gw.below hw).kept (fun j hj hl=>T.other hl (by have:=h.nl; omega))

theorem Hv_is (h:Hd):Hv h.fn=.agg #[.int .i64 (h.seq:Int),.int .i64 (h.tail:Int),.int .i64 (h.used:Int)]:=rfl

theorem fn_ne {a b:Hd} (h:a ≠ b):¬ ∀ k,k < 3→a.fn k=b.fn k:=fun hk=>h (by
 have h0:a.seq=b.seq:=by have:=hk 0 (by omega); simp [Hd.fn] at this; omega
 have h1:a.tail=b.tail:=by have:=hk 1 (by omega); simp [Hd.fn] at this; omega
 have h2:a.used=b.used:=by have:=hk 2 (by omega); simp [Hd.fn] at this; omega
 cases a; cases b
 simp only [Hd.mk.injEq]
 exact ⟨h0,h1,h2⟩)

def InA (u:World) (S Sg Sc Sl Sd:Nat→Prop) (g cg lg dg:Nat) (P:Nat→Int) (G:Geo) (X:Grp) (C:Cac) (L:Lg) (D:Dev) (mk:KMem) (ml:LMem) (v:Option Nat) (w':World):Prop :=
 ∃ S' Sg' m',AllM w' S' Sg' Sc Sl Sd g cg lg dg P G X C L D m' mk ml∧Nx S u S' w'∧m'.pb=v∧∀ b,b < G.n→m'.Qc b=L.Q b

theorem InJ.done {u:World} {S Sg Sc Sl Sd:Nat→Prop} {g cg lg dg:Nat} {P:Nat→Int} {G:Geo} {X:Grp} {C:Cac} {L:Lg} {D:Dev} {m:GMem} {mk:KMem} {ml:LMem} (h:AllM u S Sg Sc Sl Sd g cg lg dg P G X C L D m mk ml) {nb B:Nat} {v:Value} {V:List Wr} {wr:World} {Sg':Nat→Prop} {m':GMem} (hJ:InJ u Sg g dg lg cg P G X L nb B v V V.length wr Sg' m') :
  InA u S Sg Sc Sl Sd g cg lg dg P G X C L D mk ml (some nb) wr:=by
 have hq:∀ b,b < G.n→m'.Qc b=L.Q b:=fun b hb=>by
  rw [hJ.qc,List.take_of_length_le (by rw [← hJ.is,wl_len]; omega),setW_pend G L.Q hb]
 obtain ⟨S',a1,x1,_⟩:=h.own hJ.gr hJ.nx (.inl ⟨hJ.hc,hq⟩)
 exact ⟨S',Sg',m',a1,x1,hJ.pb,hq⟩

theorem AllM.seenL {u:World} {S Sg Sc Sl Sd:Nat→Prop} {g cg lg dg:Nat} {P:Nat→Int} {G:Geo} {X:Grp} {C:Cac} {L:Lg} {D:Dev} {m:GMem} {mk:KMem} {ml:LMem} (h:AllM u S Sg Sc Sl Sd g cg lg dg P G X C L D m mk ml) {v:World} (hv:Below u.heap.size u v) :
  ((((v.alloc (.map #[] 0)).setCell ⟨g,18,none⟩ (.int .i64 (L.h.seq:Int))).setCell ⟨g,19,none⟩ (.int .i64 (L.h.tail:Int))).setCell ⟨g,20,none⟩ (.int .i64 (L.h.used:Int))).cell? ⟨g,21,none⟩=some (.map m.pb) ∧
  (((((v.alloc (.map #[] 0)).setCell ⟨g,18,none⟩ (.int .i64 (L.h.seq:Int))).setCell ⟨g,19,none⟩ (.int .i64 (L.h.tail:Int))).setCell ⟨g,20,none⟩ (.int .i64 (L.h.used:Int))).setCell ⟨g,21,none⟩ (.map (some v.heap.size))).cell? ⟨g,1,none⟩=some (.pointer (some ⟨lg,0,none⟩)) ∧
  Hid (Calls Tryz.prog 27 #[.pointer (some ⟨lg,0,none⟩)] (((((v.alloc (.map #[] 0)).setCell ⟨g,18,none⟩ (.int .i64 (L.h.seq:Int))).setCell ⟨g,19,none⟩ (.int .i64 (L.h.tail:Int))).setCell ⟨g,20,none⟩ (.int .i64 (L.h.used:Int))).setCell ⟨g,21,none⟩ (.map (some v.heap.size)))
   fun e w'=>∃ a c V,e=.returned (.slice a V.length c)∧Hid (∃ B Sg' m',InJ u Sg g dg lg cg P G X L v.heap.size B (.slice a V.length c) V 0 w' Sg' m')):=by
 have hs:=hv.size
 have b1:Below v.heap.size v (v.alloc (.map #[] 0)):=(Below.refl _ _).alloc (Nat.le_refl _) _
 have z1:(v.alloc (.map #[] 0)).heap.size=v.heap.size + 1:=by simp
 have b2:=hv.trans (b1.mono hs)
 have hm:=MapX.made (kB G.blk) v G.n
 have g1:=h.gr.grow b2
 have x1:=nx_grow Sg b2
 have n1:v.heap.size ≠ m.lb:=by have:=h.gr.log.map.lt; omega
 have n2:v.heap.size ≠ m.fb:=by have:=h.gr.fre.map.lt; omega
 have g2:=g1.seenS L.h hm (.inr ⟨hs,by omega⟩) n1 n2 (fun N e=>by have:=(h.gr.opn N e).nts.map.lt; omega)
 have c21:((((v.alloc (.map #[] 0)).setCell ⟨g,18,none⟩ (.int .i64 (L.h.seq:Int))).setCell ⟨g,19,none⟩ (.int .i64 (L.h.tail:Int))).setCell ⟨g,20,none⟩ (.int .i64 (L.h.used:Int))).cell? ⟨g,21,none⟩=some (.map m.pb):=(((g1.str.set 18 _).set 19 _).set 20 _).cell (i:=21) (by omega)
 have x2:Nx Sg u (exS Sg u (v.alloc (.map #[] 0))) (((((v.alloc (.map #[] 0)).setCell ⟨g,18,none⟩ (.int .i64 (L.h.seq:Int))).setCell ⟨g,19,none⟩ (.int .i64 (L.h.tail:Int))).setCell ⟨g,20,none⟩ (.int .i64 (L.h.used:Int))).setCell ⟨g,21,none⟩ (.map (some v.heap.size))) :=
  (((x1.trans (nx_cell g1.sg _)).trans (nx_cell g1.sg _)).trans (nx_cell g1.sg _)).trans (nx_cell g1.sg _)
 have z2:(((((v.alloc (.map #[] 0)).setCell ⟨g,18,none⟩ (.int .i64 (L.h.seq:Int))).setCell ⟨g,19,none⟩ (.int .i64 (L.h.tail:Int))).setCell ⟨g,20,none⟩ (.int .i64 (L.h.used:Int))).setCell ⟨g,21,none⟩ (.map (some v.heap.size))).heap.size=v.heap.size + 1:=by simp [World.setCell]
 generalize (((((v.alloc (.map #[] 0)).setCell ⟨g,18,none⟩ (.int .i64 (L.h.seq:Int))).setCell ⟨g,19,none⟩ (.int .i64 (L.h.tail:Int))).setCell ⟨g,20,none⟩ (.int .i64 (L.h.used:Int))).setCell ⟨g,21,none⟩ (.map (some v.heap.size)))=w4 at *
 refine ⟨c21,g2.cells.2.1,(pending_any lg dg Sl P G L ml w4 (h.llk x2)).mono ?_⟩
 rintro e w5 ⟨vv,V,rfl,Y⟩
 obtain ⟨gw,is,dl,bw⟩:=unhide Y
 obtain ⟨a,c,rfl,_,_⟩:=gw.shape
 refine ⟨a,c,V,rfl,w4.heap.size,_,_,g2.kept (fun j hj=>bw.block j (g2.lt j hj)) (fun _ x=>x) (fun j hj=>Nat.lt_of_lt_of_le (g2.lt j hj) bw.size),x2.below' bw,rfl,rfl,rfl,gw,by omega,bw.size,by omega,is,dl⟩

theorem inLog_any {u:World} {S Sg Sc Sl Sd:Nat→Prop} {g cg lg dg:Nat} {P:Nat→Int} {G:Geo} {X:Grp} {C:Cac} {L:Lg} {D:Dev} {m:GMem} {mk:KMem} {ml:LMem} (h:AllM u S Sg Sc Sl Sd g cg lg dg P G X C L D m mk ml) :
  Calls Tryz.prog 194 #[.pointer (some ⟨g,0,none⟩)] u fun e w'=>∃ v,e=.returned (.map v)∧Hid (InA u S Sg Sc Sl Sd g cg lg dg P G X C L D mk ml v w'):=by
 have c1:=h.gr.cells.2.1
 have KH:=hide (header_any lg dg Sl P G L ml u h.ll)
 rw [Hv_is] at KH
 have HC:Hid (∀ w1,Below u.heap.size u w1→w1.cell? ⟨g,18,none⟩=some (.int .i64 (m.hc.seq:Int))∧w1.cell? ⟨g,19,none⟩=some (.int .i64 (m.hc.tail:Int))∧w1.cell? ⟨g,20,none⟩=some (.int .i64 (m.hc.used:Int))∧w1.cell? ⟨g,21,none⟩=some (.map m.pb)∧(∀ k,w1.frozen? ⟨g,k,none⟩=false)∧w1.cell? ⟨g,1,none⟩=some (.pointer (some ⟨lg,0,none⟩))):=fun w1 hb=>by
  have:=(h.below hb).gr.cells
  exact ⟨this.2.2.2.2.2.2.2.1,this.2.2.2.2.2.2.2.2.1,this.2.2.2.2.2.2.2.2.2.1,this.2.2.2.2.2.2.2.2.2.2.1,this.2.2.2.2.2.2.2.2.2.2.2,this.2.1⟩
 have hB:∀ w1:World,Below u.heap.size u w1→Below u.heap.size u (w1.alloc (.cells #[.int .i64 (L.h.seq:Int),.int .i64 (L.h.tail:Int),.int .i64 (L.h.used:Int)] 57)):=fun w1 hb=>hb.alloc hb.size _
 by_cases he:m.hc=L.h
 ·have q:∀ w:World,(binOp .neq 57 (.agg #[.int .i64 (L.h.seq:Int),.int .i64 (L.h.tail:Int),.int .i64 (L.h.used:Int)]) (.agg #[.int .i64 (m.hc.seq:Int),.int .i64 (m.hc.tail:Int),.int .i64 (m.hc.used:Int)])).run Tryz.prog w=.ok (.bool false) w:=fun w=>neq_plan_noH (P:=L.h.fn) (Q:=m.hc.fn) (fun k _=>by rw [he]) w
  have Z:Hid (∀ w',Below u.heap.size u w'→InA u S Sg Sc Sl Sd g cg lg dg P G X C L D mk ml m.pb w'):=fun w' hb=>by
   refine ⟨S,Sg,m,h.below hb,(Nx.refl S u).below' hb,rfl,?_⟩
   rcases h.seen with h1 | h1
   ·exact h1.2
   ·exact absurd he h1.ne
  have HBB:=hide hB
  clear h he hB
  generalize (L.h.seq:Int)=l1 at *
  generalize (L.h.tail:Int)=l2 at *
  generalize (L.h.used:Int)=l3 at *
  generalize (m.hc.seq:Int)=l4 at *
  generalize (m.hc.tail:Int)=l5 at *
  generalize (m.hc.used:Int)=l6 at *
  go_enter Tryz.func194,Tryz.ntmps194
  go_wp2_with fail
  go_at_call 31
  refine (unhide KH).mono ?_
  rintro e w1 ⟨rfl,hb1⟩
  have B2:=hide (unhide HBB w1 hb1)
  have BX:=hide (Bl.new w1 #[.int .i64 l1,.int .i64 l2,.int .i64 l3] 57)
  clear KH HBB hb1 c1
  go_upto_region 2 with fail
  change Code.wp _ _ _ _ (w1.alloc (.cells #[.int .i64 l1,.int .i64 l2,.int .i64 l3] 57))
  generalize w1.alloc (.cells #[.int .i64 l1,.int .i64 l2,.int .i64 l3] 57)=w2 at *
  generalize w1.heap.size=gb at *
  obtain ⟨e1,e2,e3,e4,_,_⟩:=unhide HC w2 (unhide B2)
  have x1:=(unhide BX).cell 0 (.int .i64 l1) rfl
  have x2:=(unhide BX).cell 1 (.int .i64 l2) rfl
  have x3:=(unhide BX).cell 2 (.int .i64 l3) rfl
  have ZZ:Hid (∀ n,InA u S Sg Sc Sl Sd g cg lg dg P G X C L D mk ml m.pb (w2.drewN n)):=fun n=>unhide Z _ (below_drewN (unhide B2) n)
  clear HC B2 BX Z
  generalize m.pb=pb at *
  go_quiet (fail)
  rename_i nq
  have e4':(w2.drewN nq).cell? ⟨g,21,none⟩=some (.map pb):=e4
  have ZQ:=hide (unhide ZZ nq)
  clear e1 e2 e3 e4 x1 x2 x3 ZZ q
  generalize w2.drewN nq=w3 at *
  go_wp2_with fail
  go_ret
  exact ⟨_,rfl,unhide ZQ⟩
 ·have q:∀ w:World,(binOp .neq 57 (.agg #[.int .i64 (L.h.seq:Int),.int .i64 (L.h.tail:Int),.int .i64 (L.h.used:Int)]) (.agg #[.int .i64 (m.hc.seq:Int),.int .i64 (m.hc.tail:Int),.int .i64 (m.hc.used:Int)])).run Tryz.prog w=.ok (.bool true) w:=fun w=>neq_plan_yesH (P:=L.h.fn) (Q:=m.hc.fn) (fn_ne (fun e=>he e.symm)) w
  have HBB:=hide hB
  have KL:Hid (∀ v,Below u.heap.size u v→_):=fun v hv=>h.seenL hv
  have KD:Hid (∀ nb B v V wr Sg' m',InJ u Sg g dg lg cg P G X L nb B v V V.length wr Sg' m'→InA u S Sg Sc Sl Sd g cg lg dg P G X C L D mk ml (some nb) wr):=fun nb B v V wr Sg' m' hJ=>InJ.done h hJ
  have hmm:=@run_makeMap Tryz.prog
  clear h he hB
  generalize (L.h.seq:Int)=l1 at *
  generalize (L.h.tail:Int)=l2 at *
  generalize (L.h.used:Int)=l3 at *
  generalize (m.hc.seq:Int)=l4 at *
  generalize (m.hc.tail:Int)=l5 at *
  generalize (m.hc.used:Int)=l6 at *
  go_enter Tryz.func194,Tryz.ntmps194
  go_wp2_with fail
  go_at_call 31
  refine (unhide KH).mono ?_
  rintro e w1 ⟨rfl,hb1⟩
  have B2:=hide (unhide HBB w1 hb1)
  have BX:=hide (Bl.new w1 #[.int .i64 l1,.int .i64 l2,.int .i64 l3] 57)
  clear KH HBB hb1 c1
  go_upto_region 2 with fail
  change Code.wp _ _ _ _ (w1.alloc (.cells #[.int .i64 l1,.int .i64 l2,.int .i64 l3] 57))
  generalize w1.alloc (.cells #[.int .i64 l1,.int .i64 l2,.int .i64 l3] 57)=w2 at *
  generalize w1.heap.size=gb at *
  obtain ⟨e1,e2,e3,e4,e5,_⟩:=unhide HC w2 (unhide B2)
  have x1:=(unhide BX).cell 0 (.int .i64 l1) rfl
  have x2:=(unhide BX).cell 1 (.int .i64 l2) rfl
  have x3:=(unhide BX).cell 2 (.int .i64 l3) rfl
  go_quiet (fail)
  rename_i nq
  have B3:Hid (Below u.heap.size u (w2.drewN nq)):=below_drewN (unhide B2) nq
  have BY:Hid (Bl (w2.drewN nq) gb #[.int .i64 l1,.int .i64 l2,.int .i64 l3] 57):=unhide BX
  clear e1 e2 e3 e4 e5 x1 x2 x3 q B2 BX
  generalize w2.drewN nq=w3 at *
  obtain ⟨y21,y1,KP⟩:=unhide KL w3 (unhide B3)
  obtain ⟨e1,e2,e3,e4,e5,_⟩:=unhide HC (w3.alloc (.map #[] 0)) ((unhide B3).alloc (unhide B3).size _)
  have x1:=(unhide BY).cell 0 (.int .i64 l1) rfl
  have x2:=(unhide BY).cell 1 (.int .i64 l2) rfl
  have x3:=(unhide BY).cell 2 (.int .i64 l3) rfl
  clear HC KL BY
  go_upto_region 4 with fail
  change Code.wp _ _ _ _ (((((w3.alloc (.map #[] 0)).setCell ⟨g,18,none⟩ (.int .i64 l1)).setCell ⟨g,19,none⟩ (.int .i64 l2)).setCell ⟨g,20,none⟩ (.int .i64 l3)).setCell ⟨g,21,none⟩ (.map (some w3.heap.size)))
  clear e1 e2 e3 e4 e5 x1 x2 x3 y21 hmm
  generalize (((((w3.alloc (.map #[] 0)).setCell ⟨g,18,none⟩ (.int .i64 l1)).setCell ⟨g,19,none⟩ (.int .i64 l2)).setCell ⟨g,20,none⟩ (.int .i64 l3)).setCell ⟨g,21,none⟩ (.map (some w3.heap.size)))=w4 at *
  generalize w3.heap.size=nb at *
  clear B3
  go_wp2_with fail
  go_at_call 27
  refine (unhide KP).mono ?_
  rintro e w5 ⟨a,c,V,rfl,Y⟩
  obtain ⟨B,Sg1,m1,hJ1⟩:=unhide Y
  have Y1:Hid (∃ Sg' m',InJ u Sg g dg lg cg P G X L nb B (.slice a V.length c) V 0 w5 Sg' m'):=⟨Sg1,m1,hJ1⟩
  have hnp:V.length ≤ 4096:=by
   have h1:=congrArg List.length hJ1.is
   rw [wl_len,pendW_len] at h1
   have h2:=pendL_len G L.Q
   have h3:=hJ1.gr.pg.ok.n2
   omega
  clear KP Y hJ1 y1
  have KD1:Hid (∀ wr,(∃ Sg' m',InJ u Sg g dg lg cg P G X L nb B (.slice a V.length c) V V.length wr Sg' m')→InA u S Sg Sc Sl Sd g cg lg dg P G X C L D mk ml (some nb) wr∧wr.cell? ⟨g,21,none⟩=some (.map (some nb))):=fun wr ⟨Sg',m',hJ⟩=>⟨unhide KD _ _ _ _ _ _ _ hJ,by rw [hJ.gr.cells.2.2.2.2.2.2.2.2.2.2.1,hJ.pb]⟩
  have KS1:Hid (∀ k wr,(∃ Sg' m',InJ u Sg g dg lg cg P G X L nb B (.slice a V.length c) V k wr Sg' m')→k < V.length→∃ kb off b,a=some ⟨kb,off,none⟩∧wr.cell? ⟨kb,off + k * 2,none⟩=some (.int .i64 ((b:Nat):Int))∧wr.cell? ⟨kb,off + k * 2 + 1,none⟩=some (.slice (wat V k).da (wat V k).dl (wat V k).dc) ∧
    ∀ w1,Below wr.heap.size wr w1→w1.cell? ⟨g,21,none⟩=some (.map (some nb))∧∃ w2,(Instr.mapUpdate 121 (.map (some nb)) (.int .i64 ((b:Nat):Int)) (.slice (wat V k).da (wat V k).dl (wat V k).dc)).run Tryz.prog w1.drew=.ok () w2∧Hid (∃ Sg' m',InJ u Sg g dg lg cg P G X L nb B (.slice a V.length c) V (k + 1) w2 Sg' m')):=by
   rintro k wr ⟨Sg',m',hJ⟩ hk
   obtain ⟨b,hb,hbn⟩:=hJ.block hk
   obtain ⟨wh,_⟩:=hJ.gw.has
   obtain ⟨kb,off,ea,_,hc⟩:=wh.cel (by omega)
   obtain ⟨c1,c2⟩:=hc k hk
   rw [hb] at c1
   refine ⟨kb,off,b,ea,c1,c2,fun w1 hw=>?_⟩
   obtain ⟨w2,r2,J2⟩:=hJ.step hk hb hbn (w1:=w1.drew) hw.drew
   refine ⟨?_,w2,r2,J2⟩
   have e21:=hJ.gr.cells.2.2.2.2.2.2.2.2.2.2.1
   rw [hJ.pb] at e21
   exact (hw.cell (p:=⟨g,21,none⟩) (hJ.gr.lt _ hJ.gr.sg)).trans e21
  clear KD
  generalize hVl:V.length=np at *
  clear hVl
  go_wp2_with fail
  go_loopw [31] (fun i wr=>∃ k:Nat,k ≤ np∧i=.int .i64 (k:Int)∧Hid (∃ Sg' m',InJ u Sg g dg lg cg P G X L nb B (.slice a np c) V k wr Sg' m')) (fun i _=>np - (intOf i).toNat)
  case atStart=>exact ⟨0,Nat.zero_le _,rfl,Y1⟩
  case round =>
   obtain ⟨k,hk,rfl,hJ⟩:=hrel
   clear Y1
   by_cases hlt:k < np
   ·obtain ⟨kb,off,b,ea,x1,x2,KX⟩:=unhide KS1 _ _ (unhide hJ) hlt
    obtain ⟨y21,w2,r2,Z⟩:=KX (wr.alloc (.cells #[.int .i64 (b:Int),.slice (wat V k).da (wat V k).dl (wat V k).dc] 52)) ((Below.refl _ wr).alloc (Nat.le_refl _) _)
    have BX:=hide (Bl.new wr #[.int .i64 (b:Int),.slice (wat V k).da (wat V k).dl (wat V k).dc] 52)
    clear KS1 KD1 hJ KX
    subst ea
    generalize (wat V k).da=da at *
    generalize (wat V k).dl=dl at *
    generalize (wat V k).dc=dc at *
    generalize (b:Int)=bi at *
    go_upto_region 7 with fail
    change Code.wp _ _ _ _ (wr.alloc (.cells #[.int .i64 bi,.slice da dl dc] 52))
    generalize wr.alloc (.cells #[.int .i64 bi,.slice da dl dc] 52)=ub at *
    generalize wr.heap.size=gb at *
    have z1:=(unhide BX).cell 0 (.int .i64 bi) rfl
    have z2:=(unhide BX).cell 1 (.slice da dl dc) rfl
    clear BX x1 x2
    go_region
    go_wp2_with fail
    go_roundw
    case rel=>exact ⟨k + 1,by omega,by go_num,Z⟩
    case measure=>simp [intOf]; omega
   ·have ek:k=np:=by omega
    rw [ek] at hJ
    obtain ⟨Z,c21⟩:=unhide KD1 _ (unhide hJ)
    have HZ:=hide Z
    clear KS1 KD1 hJ Z
    go_wp2_with fail
    go_ret
    exact ⟨_,rfl,unhide HZ⟩

end Go.Proofs.YtdfanhjnkjdngaaGreatDoor

/- What is read of a group, and by an operation; the group's blocks. -/
namespace Go.Proofs.YtdfanhjnkjdngaaGreatDoor
set_option maxRecDepth 100000
set_option maxHeartbeats 8000000
open Go.RowKit Go.Shelf Go.Maps
set_option linter.unusedVariables false

theorem gtD_n (C:Cac) (D:Dev) (b:Nat):(C.gtD D b).n=D.n∧(C.gtD D b).blk=D.blk:=by
 unfold Cac.gtD
 split
 ·exact ⟨rfl,rfl⟩
 ·exact rmD_n C D

theorem ptD_n (C:Cac) (D:Dev) (b:Nat):(C.ptD D b).n=D.n∧(C.ptD D b).blk=D.blk:=by
 unfold Cac.ptD
 split
 ·exact ⟨rfl,rfl⟩
 ·exact rmD_n C D

def grE (X:Grp) (C:Cac) (L:Lg) (D:Dev) (b:Nat):Int:=match X.Q b with | some _=>0 | none=>match L.Q b with | some _=>0 | none=>C.gtE D b

def grZ (X:Grp) (C:Cac) (L:Lg) (D:Dev) (b:Nat):List Int:=match X.Q b with | some z=>z | none=>match L.Q b with | some z=>z | none=>C.gtZ D b

def grC (X:Grp) (C:Cac) (L:Lg) (D:Dev) (b:Nat):Cac:=match X.Q b with | some _=>C | none=>match L.Q b with | some _=>C | none=>C.gtC D b

def grD (X:Grp) (C:Cac) (L:Lg) (D:Dev) (b:Nat):Dev:=match X.Q b with | some _=>D | none=>match L.Q b with | some _=>D | none=>C.gtD D b

theorem InA.look {u:World} {S Sg Sc Sl Sd:Nat→Prop} {g cg lg dg:Nat} {P:Nat→Int} {G:Geo} {X:Grp} {C:Cac} {L:Lg} {D:Dev} {mk:KMem} {ml:LMem} {v:Option Nat} {w':World} (h:InA u S Sg Sc Sl Sd g cg lg dg P G X C L D mk ml v w') {b:Nat} (hb:b < G.n) {z:List Int} (e:L.Q b=some z) :
  ∃ r:Nat × Nat,(Instr.lookup 121 (.map v) (.int .i64 (b:Int)) true).run Tryz.prog w'=.ok (.tuple #[.slice (some ⟨r.1,0,none⟩) G.blk r.2,.bool true]) w'∧Has w' (some ⟨r.1,0,none⟩) G.blk z∧∀ x ∈ z,0 ≤ x∧x ≤ 255:=by
 obtain ⟨S',Sg',m',a1,x1,e1,hq⟩:=h
 have hn:=a1.gr.pg.ok.n2
 have hk:=a1.gr.pg.ok.blk
 have hqb:=hq b hb
 rw [e] at hqb
 cases hv:m'.pb with
 | none=>rw [a1.gr.pno hv b hb] at hqb; cases hqb
 | some pb =>
  have hp:=a1.gr.pen pb hv
  have r:=hp.look hn hb hqb
  rw [← e1,hv]
  exact ⟨m'.PA b,r,((hp.row b z hb hqb).row (by omega)).has,(hp.row b z hb hqb).byt⟩

theorem InA.look_no {u:World} {S Sg Sc Sl Sd:Nat→Prop} {g cg lg dg:Nat} {P:Nat→Int} {G:Geo} {X:Grp} {C:Cac} {L:Lg} {D:Dev} {mk:KMem} {ml:LMem} {v:Option Nat} {w':World} (h:InA u S Sg Sc Sl Sd g cg lg dg P G X C L D mk ml v w') {b:Nat} (hb:b < G.n) (e:L.Q b=none) :
  (Instr.lookup 121 (.map v) (.int .i64 (b:Int)) true).run Tryz.prog w'=.ok (.tuple #[.slice none 0 0,.bool false]) w':=by
 obtain ⟨S',Sg',m',a1,x1,e1,hq⟩:=h
 have hn:=a1.gr.pg.ok.n2
 have hqb:=hq b hb
 rw [e] at hqb
 cases hv:m'.pb with
 | none =>
  rw [← e1,hv]
  exact Maps.look_nil (w:=w') true law3 Tryz.underlying121 (zeroRB w') (key_small (k:=b) (by omega))
 | some pb =>
  rw [← e1,hv]
  exact (a1.gr.pen pb hv).look_no hn hb hqb

theorem clone_row {u:World} {x:Addr} {blk cap:Nat} {z:List Int} (hr:Has u (some x) blk z) (hb:blk ≤ 4096):Calls Tryz.prog 101 #[.slice (some x) blk cap] u fun e w'=>∃ a c,e=.returned (.slice a blk c)∧Hid (Own u.heap.size w' a blk c z∧Below u.heap.size u w'):=by
 refine (bclone_any x blk cap z u hr (by omega)).mono ?_
 rintro e w' ⟨a,c,rfl,h1,h2⟩
 exact ⟨a,c,rfl,h1,h2⟩

theorem gread_ok {u:World} {S:Nat→Prop} {g cg lg dg:Nat} {P:Nat→Int} {G:Geo} {X:Grp} {C:Cac} {L:Lg} {D:Dev} (h:Gv u S g cg lg dg P G X C L D) {b:Nat} (hb:b < G.n) (he:grE X C L D b=0) :
  Calls Tryz.prog 109 #[.pointer (some ⟨g,0,none⟩),.int .i64 (b:Int)] u fun e w'=>∃ a c,e=.returned (.tuple #[.slice a G.blk c,.int .i64 0]) ∧
   Hid (∃ S',Own u.heap.size w' a G.blk c (grZ X C L D b)∧Gv w' S' g cg lg dg P G X (grC X C L D b) L (grD X C L D b)∧Nx S u S' w'∧∀ k,a=some ⟨k,0,none⟩→¬ S' k):=by
 obtain ⟨Sg,Sc,Sl,Sd,m,mk,ml,h⟩:=h
 have K1:=refusesBlock_any h.gr (b:Int) 0
 unfold rngE at K1
 rw [if_neg (by omega)] at K1
 replace K1:=hide K1
 have c16:=h.gr.cells.2.2.2.2.2.1
 have c2:=h.gr.cells.2.2.1
 have hn:=h.gr.pg.ok.n2
 have hbk:=h.gr.pg.ok.blk
 unfold grE at he
 unfold grZ grC grD
 cases hq:X.Q b with
 | some z =>
  simp only
  have lk:=h.gr.log.look hn hb hq
  have hrow:=h.gr.log.row b z hb hq
  have KC:Hid (Calls Tryz.prog 101 #[.slice (some ⟨(m.LA b).1,0,none⟩) G.blk (m.LA b).2] u fun e w'=>∃ a c,e=.returned (.slice a G.blk c)∧Hid (∃ S',Own u.heap.size w' a G.blk c z∧Gv w' S' g cg lg dg P G X C L D∧Nx S u S' w'∧∀ k,a=some ⟨k,0,none⟩→¬ S' k)):=by
   refine (clone_row (hrow.row (by omega)).has (by omega)).mono ?_
   rintro e w' ⟨a,c,rfl,Y⟩
   obtain ⟨o1,b1⟩:=unhide Y
   refine ⟨a,c,rfl,S,o1,(h.below b1).gv,(Nx.refl S u).below' b1,fun k ek hs=>?_⟩
   have:=h.lt hs
   have:=(o1.lt ek).2.1
   omega
  clear h hrow he hq
  unfold rv at lk
  generalize (m.LA b).1=r1 at *
  generalize (m.LA b).2=r2 at *
  generalize m.lb=lb at *
  generalize (b:Int)=bi at *
  go_enter Tryz.func109,Tryz.ntmps109
  go_wp2_with (first | (go_at_call 193; refine (unhide K1).mono ?_; rintro e w' ⟨rfl,rfl⟩; clear K1) | (go_at_call 101; refine (unhide KC).mono ?_; rintro e w' ⟨a,c,rfl,Z⟩; clear KC))
  go_ret2
  exact ⟨a,c,rfl,Z⟩
 | none =>
  rw [hq] at he
  simp only at he ⊢
  have lk:=h.gr.log.look_no hn hb hq
  have KI:=hide (inLog_any h)
  have HC:Hid (∀ v w1,InA u S Sg Sc Sl Sd g cg lg dg P G X C L D mk ml v w1→w1.cell? ⟨g,2,none⟩=some (.pointer (some ⟨cg,0,none⟩))):=fun v w1 hI=>by
   obtain ⟨S',Sg',m',a1,_⟩:=hI
   exact a1.gr.cells.2.2.1
  cases hl:L.Q b with
  | some z =>
   simp only
   have KL:Hid (∀ v w1,InA u S Sg Sc Sl Sd g cg lg dg P G X C L D mk ml v w1→∃ r1 r2,(Instr.lookup 121 (.map v) (.int .i64 (b:Int)) true).run Tryz.prog w1=.ok (.tuple #[.slice (some ⟨r1,0,none⟩) G.blk r2,.bool true]) w1 ∧
     Hid (Calls Tryz.prog 101 #[.slice (some ⟨r1,0,none⟩) G.blk r2] w1 fun e w'=>∃ a c,e=.returned (.slice a G.blk c)∧Hid (∃ S',Own u.heap.size w' a G.blk c z∧Gv w' S' g cg lg dg P G X C L D∧Nx S u S' w'∧∀ k,a=some ⟨k,0,none⟩→¬ S' k))):=fun v w1 hI=>by
    obtain ⟨r,lr,hr,_⟩:=hI.look hb hl
    refine ⟨r.1,r.2,lr,(clone_row hr (by omega)).mono ?_⟩
    rintro e w' ⟨a,c,rfl,Y⟩
    obtain ⟨o1,b1⟩:=unhide Y
    obtain ⟨S',Sg',m',a1,x1,_⟩:=hI
    refine ⟨a,c,rfl,S',o1.base x1.fr.size,(a1.below b1).gv,x1.below' b1,fun k ek hs=>?_⟩
    have:=a1.lt hs
    have:=(o1.lt ek).2.1
    omega
   clear h he hq hl HC
   generalize m.lb=lb at *
   generalize (b:Int)=bi at *
   go_enter Tryz.func109,Tryz.ntmps109
   go_wp2_with (first | (go_at_call 193; refine (unhide K1).mono ?_; rintro e w' ⟨rfl,rfl⟩; clear K1) | (go_at_call 194; refine (unhide KI).mono ?_; rintro e w1 ⟨v,rfl,Y⟩; obtain ⟨r1,r2,lr,KC⟩:=unhide KL v w1 (unhide Y); clear KI KL Y lk c16 c2) | (go_at_call 101; refine (unhide KC).mono ?_; rintro e w' ⟨a,c,rfl,Z⟩; clear KC))
   go_ret2
   exact ⟨a,c,rfl,Z⟩
  | none =>
   rw [hl] at he
   simp only at he ⊢
   have KL:Hid (∀ v w1,InA u S Sg Sc Sl Sd g cg lg dg P G X C L D mk ml v w1→(Instr.lookup 121 (.map v) (.int .i64 (b:Int)) true).run Tryz.prog w1=.ok (.tuple #[.slice none 0 0,.bool false]) w1 ∧
     Hid (Calls Tryz.prog 195 #[.pointer (some ⟨cg,0,none⟩),.int .i64 (b:Int)] w1 fun e w'=>∃ a c,e=.returned (.tuple #[.slice a G.blk c,.int .i64 0])∧Hid (∃ S',Own u.heap.size w' a G.blk c (C.gtZ D b)∧Gv w' S' g cg lg dg P G X (C.gtC D b) L (C.gtD D b)∧Nx S u S' w'∧∀ k,a=some ⟨k,0,none⟩→¬ S' k))):=fun v w1 hI=>by
    refine ⟨hI.look_no hb hl,?_⟩
    obtain ⟨S',Sg',m',a1,x1,_⟩:=hI
    refine (kget_ok cg dg b _ C D w1 a1.kv.kv (by rw [a1.nd]; exact hb) he).mono ?_
    rintro e w' ⟨a,c,rfl,Y⟩
    obtain ⟨S2,o1,k1,x2,n2⟩:=unhide Y
    obtain ⟨S3,Sc3,Sd3,mk3,a3,x3,n3⟩:=a1.cache k1 x2 (gtD_n C D b)
    rw [a1.bd] at o1 ⊢
    refine ⟨a,c,rfl,S3,o1.base x1.fr.size,a3.gv,x1.trans x3,fun k ek hs=>?_⟩
    rcases n3 k hs with y | y
    ·exact n2 k ek y
    ·have:=(o1.lt ek).2.1
     omega
   clear h he hq hl
   generalize m.lb=lb at *
   generalize (b:Int)=bi at *
   go_enter Tryz.func109,Tryz.ntmps109
   go_wp2_with (first | (go_at_call 193; refine (unhide K1).mono ?_; rintro e w' ⟨rfl,rfl⟩; clear K1) | (go_at_call 194; refine (unhide KI).mono ?_; rintro e w1 ⟨v,rfl,Y⟩; obtain ⟨lr,KC⟩:=unhide KL v w1 (unhide Y); have c2':=unhide HC v w1 (unhide Y); clear KI KL Y lk c16 c2 HC) | (go_at_call 195; refine (unhide KC).mono ?_; rintro e w' ⟨a,c,rfl,Z⟩; clear KC))
   go_ret2
   exact ⟨a,c,rfl,Z⟩

def blkL (n:Nat) (Q:Nat→Option (List Int)):List Nat:=lstX (fun b=>(Q b).isSome) n

def blkI (n:Nat) (Q:Nat→Option (List Int)):List Int:=(blkL n Q).map (fun b:Nat=>(b:Int))

theorem blocks_any {u:World} {S:Nat→Prop} {g dg lg cg:Nat} {P:Nat→Int} {G:Geo} {X:Grp} {m:GMem} (h:GrM u S g dg lg cg P G X m) :
  Calls Tryz.prog 110 #[.pointer (some ⟨g,0,none⟩)] u fun e w'=>∃ v,e=.returned v∧Hid (Gr u.heap.size w' v (blkI G.n X.Q)∧Below u.heap.size u w'):=by
 have c16:=h.cells.2.2.2.2.2.1
 have KK:=keys_sorted G.blk m.lb G.n _ u h.log.map.toB h.pg.ok.n2
 have e1:keysI G.n (fun b=>(X.Q b).map fun _=>m.LA b)=blkI G.n X.Q:=by
  unfold keysI blkI blkL lstX keysB
  congr 1
  refine List.filter_congr (fun b _=>?_)
  cases hq:X.Q b <;> simp [hq]
 rw [e1] at KK
 replace KK:=hide KK
 clear h e1
 generalize m.lb=lb at *
 go_enter Tryz.func110,Tryz.ntmps110
 go_wp2_with fail
 go_at_call 100
 refine (unhide KK).mono ?_
 rintro e w1 ⟨rfl,K2⟩
 clear KK
 go_wp2_with fail
 go_at_call 99
 refine (unhide K2).mono ?_
 rintro e w2 ⟨kv,rfl,X⟩
 clear K2
 go_wp2_with fail
 go_ret
 exact ⟨_,rfl,X⟩

end Go.Proofs.YtdfanhjnkjdngaaGreatDoor

/- The list of the group's blocks and their bytes. -/
namespace Go.Proofs.YtdfanhjnkjdngaaGreatDoor
set_option maxRecDepth 100000
set_option maxHeartbeats 8000000
open Go.RowKit Go.Shelf Go.Maps
set_option linter.unusedVariables false

def Gl (B:Nat) (u:World) (v:Value) (V:List Wr):Prop:=u.ownsRow B 52 2 v V.length (cellsW V)

theorem Gl.nil (B:Nat) (u:World):Gl B u (.slice none 0 0) []:=World.ownsRow_nil u B _ 2

theorem Gl.shape {B:Nat} {u:World} {v:Value} {V:List Wr} (h:Gl B u v V):∃ a c,v=.slice a V.length c∧V.length ≤ c∧c ≤ maxLen:=by
 obtain ⟨h1,h2⟩:=h
 rcases h2 with ⟨rfl,h0⟩ | ⟨g,cap,cur,rfl,hb,hg,r1,r2,_⟩
 ·exact ⟨none,0,by rw [h0],by omega,by unfold maxLen; omega⟩
 ·exact ⟨_,cap,rfl,r1,r2⟩

theorem Gl.later {B:Nat} {u u':World} {v:Value} {V:List Wr} (h:Gl B u v V) (hb:Below u.heap.size u u'):Gl B u' v V :=
 ownsRow_other h (fun k e=>by
  obtain ⟨_,cur,h2⟩:=ownsRow_blk2 h e
  exact hb.block k (Array.getElem?_eq_some_iff.1 h2).1)

theorem Gl.has {B:Nat} {u:World} {a:Option Addr} {c:Nat} {V:List Wr} (h:Gl B u (.slice a V.length c) V) (hr:∀ j,j < V.length→Row u.heap.size u (wat V j).da (wat V j).dl (wat V j).dc (wat V j).z):WHas u a V.length V:=by
 refine ⟨rfl,fun hp=>?_,hr⟩
 obtain ⟨h1,h2⟩:=h
 rcases h2 with ⟨_,h0⟩ | ⟨g,cap,cur,e,hb,hg,r1,r2,r3,r4⟩
 ·omega
 ·cases e
  refine ⟨g,0,rfl,(Array.getElem?_eq_some_iff.1 hg).1,fun j hj=>?_⟩
  obtain ⟨c1,c2⟩:=cellsW_at V j hj
  rw [← r4,List.getElem?_take_of_lt (by omega)] at c1 c2
  rw [Nat.zero_add]
  exact ⟨by simp only [World.cell?,hg]; simpa using c1,by simp only [World.cell?,hg]; simpa using c2⟩

theorem Gl.one {B:Nat} {u:World} {v:Value} {V:List Wr} (h:Gl B u v V) (hB:B ≤ u.heap.size) (hl:V.length ≤ 100000) (x:Wr) :
  ∃ v' w',(∀ ty,(Builtin.append_ #[39,39] ty #[v,.slice (some ⟨u.heap.size,0,none⟩) 1 1]).run Tryz.prog (u.alloc (.cells #[.int .i64 x.b,.slice x.da x.dl x.dc] 52))=.ok v' w')∧Gl B w' v' (V ++ [x])∧Below B u w' ∧
   (∀ (k:Nat) (t:TypeId) (c:Array Value) (q:Nat × Nat),t ≠ 52→u.heap[k]?=some (Obj.cells c t q)→w'.heap[k]?=u.heap[k]?):=by
 obtain ⟨i0,hi,hz0,hz1,hz2⟩:=info_parts infoW
 have hb:Below u.heap.size u (u.alloc (.cells #[.int .i64 x.b,.slice x.da x.dl x.dc] 52)):=(Below.refl _ _).alloc (Nat.le_refl _) _
 have h1:=h.later hb
 have hnw:=Bl.new u #[.int .i64 x.b,.slice x.da x.dl x.dc] 52
 obtain ⟨v',w',hrun,ho,hg,_⟩:=run_append_own (P:=Tryz.prog) (u.alloc (.cells #[.int .i64 x.b,.slice x.da x.dl x.dc] 52)) B 39 0 52 i0 (.agg #[.int .i64 0,.slice none 0 0]) 2 32 Tryz.underlying39 hi hz0 hz1 hz2 rfl (by decide) v V.length (cellsW V) h1 ⟨u.heap.size,0,none⟩ 1 1 [.int .i64 x.b,.slice x.da x.dl x.dc] rfl (by
   intro j z hj
   rw [World.add_zero_spot,Nat.zero_add]
   have hj2:j < 2:=by have:=(List.getElem?_eq_some_iff.1 hj).1; simpa using this
   refine hnw.cell j z ?_
   simpa using hj) (by intro z hz; simp at hz; rcases hz with rfl | rfl <;> rfl) (by unfold maxLen; omega) (by omega) (Nat.le_trans hB hb.size)
 refine ⟨v',w',fun ty=>hrun,?_,(hb.mono hB).grown hg (Nat.le_trans hB hb.size) (fun k e=>(ownsRow_blk2 h e).1),fun k t c q ht hh=>?_⟩
 ·unfold Gl
  rw [cellsW_append,List.length_append]
  exact ho
 ·have hk:=(Array.getElem?_eq_some_iff.1 hh).1
  refine (hg.block k (Nat.lt_of_lt_of_le hk hb.size) (fun e=>?_)).trans (hb.block k hk)
  obtain ⟨_,cur,hc⟩:=ownsRow_blk2 h e.symm
  rw [hc] at hh
  cases hh
  exact ht rfl

def lstV (G:Geo) (Q:Nat→Option (List Int)) (A:Nat→Nat × Nat) (k:Nat):List Wr:=((pendL G Q).take k).map (fun b:Nat=>⟨(b:Int),some ⟨(A b).1,0,none⟩,G.blk,(A b).2,(Q b).getD []⟩)

theorem lstV_len {G:Geo} {Q:Nat→Option (List Int)} {A:Nat→Nat × Nat} {k:Nat} (hk:k ≤ (pendL G Q).length):(lstV G Q A k).length=k:=by simp [lstV]; omega

theorem lstV_succ {G:Geo} {Q:Nat→Option (List Int)} {A:Nat→Nat × Nat} {k b:Nat} (hb:(pendL G Q)[k]?=some b):lstV G Q A (k + 1)=lstV G Q A k ++ [⟨(b:Int),some ⟨(A b).1,0,none⟩,G.blk,(A b).2,(Q b).getD []⟩]:=by
 have hk:=(List.getElem?_eq_some_iff.1 hb).1
 have e:(pendL G Q)[k]=b:=(List.getElem?_eq_some_iff.1 hb).2
 unfold lstV
 rw [List.take_succ_eq_append_getElem hk,e,List.map_append]
 rfl

theorem lstV_mem {G:Geo} {Q:Nat→Option (List Int)} {A:Nat→Nat × Nat} {k:Nat} {x:Wr} (h:x ∈ lstV G Q A k):∃ b z,b < G.n∧Q b=some z∧x=⟨(b:Int),some ⟨(A b).1,0,none⟩,G.blk,(A b).2,z⟩:=by
 unfold lstV at h
 obtain ⟨b,hb,rfl⟩:=List.mem_map.1 h
 obtain ⟨h1,h2⟩:=pendL_mem.1 (List.mem_of_mem_take hb)
 obtain ⟨z,hz⟩:=Option.isSome_iff_exists.1 h2
 exact ⟨b,z,h1,hz,by rw [hz]; rfl⟩

structure LsI (w:World) (G:Geo) (Q:Nat→Option (List Int)) (A:Nat→Nat × Nat) (kv:Value) (k:Nat) (v:Value) (u:World):Prop where
 gl:Gl w.heap.size u v (lstV G Q A k)
 bel:Below w.heap.size w u
 key:Gr w.heap.size u kv (blkI G.n Q)

theorem LsI.step {w u:World} {G:Geo} {Q:Nat→Option (List Int)} {A:Nat→Nat × Nat} {kv v:Value} {k:Nat} (h:LsI w G Q A kv k v u) (hn:G.n ≤ 4096) {b:Nat} (hb:(pendL G Q)[k]?=some b) :
  ∃ v' w2,(∀ ty,(Builtin.append_ #[39,39] ty #[v,.slice (some ⟨u.heap.size,0,none⟩) 1 1]).run Tryz.prog (u.alloc (.cells #[.int .i64 (b:Int),.slice (some ⟨(A b).1,0,none⟩) G.blk (A b).2] 52))=.ok v' w2)∧LsI w G Q A kv (k + 1) v' w2:=by
 have hk:=(List.getElem?_eq_some_iff.1 hb).1
 have hpl:=pendL_len G Q
 obtain ⟨v',w2,r2,g2,b2,k2⟩:=h.gl.one h.bel.size (by rw [lstV_len (by omega)]; omega) ⟨(b:Int),some ⟨(A b).1,0,none⟩,G.blk,(A b).2,(Q b).getD []⟩
 refine ⟨v',w2,r2,by rw [lstV_succ hb]; exact g2,h.bel.trans b2,?_⟩
 have kg:=h.key
 obtain ⟨k3,k4⟩:=kg
 refine ⟨k3,?_⟩
 rcases k4 with k4 | ⟨q,cap,cur,e,x1,x2,x3⟩
 ·exact .inl k4
 ·exact .inr ⟨q,cap,cur,e,x1,(k2 q 3 cur (0,0) (by decide) x2).trans x2,x3⟩

theorem blkI_pend (G:Geo) (Q:Nat→Option (List Int)):blkI G.n Q=(pendL G Q).map (fun b:Nat=>(b:Int)):=rfl

theorem list_any {u:World} {S:Nat→Prop} {g dg lg cg:Nat} {P:Nat→Int} {G:Geo} {X:Grp} {m:GMem} (h:GrM u S g dg lg cg P G X m) :
  Calls Tryz.prog 204 #[.pointer (some ⟨g,0,none⟩)] u fun e w'=>∃ v,e=.returned v∧Hid (Gl u.heap.size w' v (lstV G X.Q m.LA (pendL G X.Q).length)∧Below u.heap.size u w'):=by
 have KB:=hide (blocks_any h)
 have hn:=h.pg.ok.n2
 have K0:Hid (∀ w2 v,Gr u.heap.size w2 v (blkI G.n X.Q)→Below u.heap.size u w2→∃ a c,v=.slice a (pendL G X.Q).length c∧Hid (LsI u G X.Q m.LA v 0 (.slice none 0 0) w2)):=by
  intro w2 v g2 b2
  obtain ⟨a,c,e⟩:=g2.shape
  refine ⟨a,c,?_,Gl.nil _ _,b2,g2⟩
  rw [e,blkI_pend,List.length_map]
 have KI:Hid (∀ w1 k a n c v,LsI u G X.Q m.LA (.slice a n c) k v w1→k < n→∃ kb off b,a=some ⟨kb,off,none⟩∧w1.cell? ⟨kb,off + k,none⟩=some (.int .i64 ((b:Nat):Int))∧w1.cell? ⟨g,16,none⟩=some (.map (some m.lb))∧(Instr.lookup 121 (.map (some m.lb)) (.int .i64 (b:Int)) false).run Tryz.prog w1=.ok (.slice (some ⟨(m.LA b).1,0,none⟩) G.blk (m.LA b).2) w1 ∧
   ∃ v' w2,Hid (∀ ty,(Builtin.append_ #[39,39] ty #[v,.slice (some ⟨w1.heap.size,0,none⟩) 1 1]).run Tryz.prog (w1.alloc (.cells #[.int .i64 (b:Int),.slice (some ⟨(m.LA b).1,0,none⟩) G.blk (m.LA b).2] 52))=.ok v' w2)∧Hid (LsI u G X.Q m.LA (.slice a n c) (k + 1) v' w2)):=by
  intro w1 k a n c v hP hk
  obtain ⟨hi,hnn⟩:=gr_ihas hP.key
  rw [blkI_pend,List.length_map] at hnn
  obtain ⟨kb,off,e,hc⟩:=hi.2 (by omega)
  have hk2:k < (pendL G X.Q).length:=by omega
  obtain ⟨h1,h2⟩:=pendL_mem.1 (List.getElem_mem hk2)
  obtain ⟨z,hz⟩:=Option.isSome_iff_exists.1 h2
  have hg:=h.kept (u':=w1) (S':=S) (fun j hj=>hP.bel.block j (h.lt j hj)) (fun _ x=>x) (fun j hj=>Nat.lt_of_lt_of_le (h.lt j hj) hP.bel.size)
  obtain ⟨v',w2,r2,L2⟩:=hP.step hn (List.getElem?_eq_getElem hk2)
  refine ⟨kb,off,(pendL G X.Q)[k],e,?_,hg.cells.2.2.2.2.2.1,hg.log.at hn h1 hz,v',w2,r2,L2⟩
  rw [hc k hk,blkI_pend]
  simp [List.getElem?_eq_getElem hk2]
 have KE:Hid (∀ w1 kv v,LsI u G X.Q m.LA kv (pendL G X.Q).length v w1→Hid (Gl u.heap.size w1 v (lstV G X.Q m.LA (pendL G X.Q).length)∧Below u.heap.size u w1)):=fun w1 kv v hP=>⟨hP.gl,hP.bel⟩
 have hnp:(pendL G X.Q).length ≤ 4096:=Nat.le_trans (pendL_len G X.Q) hn
 clear h hn
 generalize (pendL G X.Q).length=np at *
 generalize m.lb=lb at *
 go_enter Tryz.func204,Tryz.ntmps204
 go_wp2_with fail
 go_at_call 110
 refine (unhide KB).mono ?_
 rintro e w2 ⟨kv,rfl,X0⟩
 obtain ⟨a,c,rfl,Y⟩:=unhide K0 w2 kv (unhide X0).1 (unhide X0).2
 clear KB K0 X0
 go_wp2_with fail
 go_loopw [3,9] (fun v i wr=>∃ k:Nat,k ≤ np∧i=.int .i64 (k:Int)∧Hid (LsI u G X.Q m.LA (.slice a np c) k v wr)) (fun _ i _=>np - (intOf i).toNat)
 case atStart=>exact ⟨0,Nat.zero_le _,rfl,Y⟩
 case round =>
  rename_i v
  obtain ⟨k,hk,rfl,hJ⟩:=hrel
  clear Y
  by_cases hlt:k < np
  ·obtain ⟨kb,off,b,ea,x1,x2,x3,v',w3,AP,Z⟩:=unhide KI _ _ _ _ _ _ (unhide hJ) hlt
   clear KI KE hJ
   subst ea
   generalize (m.LA b).1=r1 at *
   generalize (m.LA b).2=r2 at *
   generalize (b:Int)=bi at *
   go_wp2_with (at_builtin; refine wpList_append_run 39 rfl _ _ rfl _ _ _ rfl rfl (unhide AP) ?_; clear AP)
   go_roundw
   case rel=>exact ⟨k + 1,by omega,by go_num,Z⟩
   case measure=>simp [intOf]; omega
  ·have ek:k=np:=by omega
   rw [ek] at hJ
   have Z:=unhide KE _ _ _ (unhide hJ)
   clear KI KE hJ
   go_wp2_with fail
   go_ret
   exact ⟨_,rfl,Z⟩

end Go.Proofs.YtdfanhjnkjdngaaGreatDoor

/- The cache's Clean and Drop, whatever it holds; apply: what is pending goes to its places, and the cache is told. -/
namespace Go.Proofs.YtdfanhjnkjdngaaGreatDoor
set_option maxRecDepth 100000
set_option maxHeartbeats 8000000
open Go.RowKit Go.Shelf Go.Maps
set_option linter.unusedVariables false

theorem KvM.relayC {w w1:World} {S Sc Sd:Nat→Prop} {g dg:Nat} {C:Cac} {D:Dev} {m:KMem} (h:KvM w S Sc Sd g dg C D m) {b:Nat} {l:Ln} (hb:b < D.n) (e:C.L b=some l) {a:Option Addr} {c:Nat} {zs:List Int} (ho:Own w.heap.size w1 a D.blk c zs) (hb1:Below w.heap.size w w1) (hz:∀ z ∈ zs,0 ≤ z∧z ≤ 255) :
  (∃ v,w1.cell? ⟨m.q b,0,none⟩=some v)∧(∀ k,w1.frozen? ⟨m.q b,k,none⟩=false)∧w1.cell? ⟨m.q b,1,none⟩=some (.bool l.d) ∧
   ∃ S2,Kv ((w1.setCell ⟨m.q b,0,none⟩ (.slice a D.blk c)).setCell ⟨m.q b,1,none⟩ (.bool false)) S2 g dg (C.set b ⟨zs,false,l.p⟩) D∧Nx S w S2 ((w1.setCell ⟨m.q b,0,none⟩ (.slice a D.blk c)).setCell ⟨m.q b,1,none⟩ (.bool false)):=by
 have h1:CcM w1 (exS Sc w w1) g dg D.n D.blk C m:=h.cc.kept (fun k hk=>hb1.block k (h.cc.lt k hk)) (fun k hk=>.inl hk) (fun k hk=>by
  rcases hk with hk | hk
  ·exact Nat.lt_of_lt_of_le (h.cc.lt k hk) hb1.size
  ·exact hk.2)
 obtain ⟨k,rfl,hr,_⟩:=ho.rowAt (by have:=h.dd.ok.b1; omega) hz (S:=exS Sc w w1) (fun k h1 h2=>.inr ⟨h1,h2⟩)
 obtain ⟨x0,x1,_,x3⟩:=h1.line hb e
 have s1:=h1.setL (l':=⟨zs,l.d,l.p⟩) (r':=(k,c)) hb e 0 (.slice (some ⟨k,0,none⟩) D.blk c) (fun i hi=>by
  have:i=0 ∨ i=1 ∨ i=2:=by omega
  rcases this with rfl | rfl | rfl <;> simp [lcell]) hr
 have e1:(C.set b ⟨zs,l.d,l.p⟩).L b=some ⟨zs,l.d,l.p⟩:=by simp [Cac.set]
 have s2:=s1.setL (l':=⟨zs,false,l.p⟩) (r':=(k,c)) hb e1 1 (.bool false) (fun i hi=>by
  have:i=0 ∨ i=1 ∨ i=2:=by omega
  rcases this with rfl | rfl | rfl <;> simp [lcell]) (by have:=s1.row b _ hb e1; simpa using this)
 rw [set_set] at s2
 have hs:exS Sc w w1 (m.q b):=.inl (h.cc.sl b l hb e)
 have hx:Nx Sc w (exS Sc w w1) ((w1.setCell ⟨m.q b,0,none⟩ (.slice (some ⟨k,0,none⟩) D.blk c)).setCell ⟨m.q b,1,none⟩ (.bool false)):=((Nx.grow hb1).trans (Nx.set (p:=⟨m.q b,0,none⟩) hs _)).trans (Nx.set (p:=⟨m.q b,1,none⟩) hs _)
 obtain ⟨y1,y2,y3,y4⟩:=Kv.own h.cc.lt h.dd h.dis h.all s2 hx
 exact ⟨⟨_,x0⟩,x3,x1,_,y3,y4⟩

theorem kclean_held (g dg b:Nat) (l:Ln) (x:Addr) (cap:Nat) (zs:List Int) (S:Nat→Prop) (C:Cac) (D:Dev) (w:World) (h:Kv w S g dg C D) (hb:b < D.n) (hl:C.L b=some l) (hr:Has w (some x) D.blk zs) (hz:∀ z ∈ zs,0 ≤ z∧z ≤ 255) :
  Calls Tryz.prog 208 #[.pointer (some ⟨g,0,none⟩),.int .i64 b,.slice (some x) D.blk cap] w fun e w'=>e=.returned (.int .i64 0)∧∃ S',Kv w' S' g dg (C.set b ⟨zs,false,l.p⟩) D∧Nx S w S' w':=by
 obtain ⟨Sc,Sd,m,km⟩:=h.open
 have K:=refusesData_cc g dg b (some x) D.blk cap Sc Sd C D m w km.cc km.dd
 rw [refE_ok hb] at K
 replace K:=hide K
 obtain ⟨_,_,_,c3,_⟩:=km.cc.cells
 have hlk:=km.cc.map.look km.dd.ok.n2 hb (km.cc.M_some hl)
 have hb2:=km.dd.ok.b2
 have KC:Hid (Calls Tryz.prog 101 #[.slice (some x) D.blk cap] w fun e w1=>∃ a c,e=.returned (.slice a D.blk c)∧(∃ v,w1.cell? ⟨m.q b,0,none⟩=some v)∧(∀ k,w1.frozen? ⟨m.q b,k,none⟩=false)∧w1.cell? ⟨m.q b,1,none⟩=some (.bool l.d) ∧
   Hid (∃ S2,Kv ((w1.setCell ⟨m.q b,0,none⟩ (.slice a D.blk c)).setCell ⟨m.q b,1,none⟩ (.bool false)) S2 g dg (C.set b ⟨zs,false,l.p⟩) D∧Nx S w S2 ((w1.setCell ⟨m.q b,0,none⟩ (.slice a D.blk c)).setCell ⟨m.q b,1,none⟩ (.bool false)))):=by
  refine (bclone_any x D.blk cap zs w hr (by omega)).mono ?_
  rintro e w1 ⟨a,c,rfl,o1,b1⟩
  exact ⟨a,c,rfl,km.relayC hb hl o1 b1 hz⟩
 clear h km hb hl hr hz hb2
 generalize m.q b=q at *
 generalize m.mb=mb at *
 generalize D.blk=bb at *
 go_enter Tryz.func208,Tryz.ntmps208
 go_wp2_with fail
 go_at_call 205
 refine (unhide K).mono ?_
 rintro e w' ⟨rfl,rfl⟩
 clear K
 go_wp2_with fail
 go_at_call 101
 refine (unhide KC).mono ?_
 rintro e w1 ⟨a,c,rfl,⟨v,x0⟩,x1,x2,X⟩
 clear KC
 go_wp2_with fail
 go_ret
 exact ⟨rfl,unhide X⟩

theorem kclean_no (g dg b:Nat) (x:Addr) (cap:Nat) (S:Nat→Prop) (C:Cac) (D:Dev) (w:World) (h:Kv w S g dg C D) (hb:b < D.n) (hl:C.L b=none) :
  Calls Tryz.prog 208 #[.pointer (some ⟨g,0,none⟩),.int .i64 b,.slice (some x) D.blk cap] w fun e w'=>e=.returned (.int .i64 0)∧w=w':=by
 obtain ⟨Sc,Sd,m,km⟩:=h.open
 have K:=refusesData_cc g dg b (some x) D.blk cap Sc Sd C D m w km.cc km.dd
 rw [refE_ok hb] at K
 replace K:=hide K
 obtain ⟨_,_,_,c3,_⟩:=km.cc.cells
 have hlk:=km.cc.map.look_no km.dd.ok.n2 hb (by simp [Cac.M,hl])
 clear h km hb hl
 generalize m.mb=mb at *
 generalize D.blk=bb at *
 go_enter Tryz.func208,Tryz.ntmps208
 go_wp2_with (go_at_call 205; refine (unhide K).mono ?_; rintro e w' ⟨rfl,rfl⟩; clear K)
 go_ret
 exact ⟨rfl,rfl⟩

def Cac.cl (C:Cac) (b:Nat) (zs:List Int):Cac:=match C.L b with | some l=>C.set b ⟨zs,false,l.p⟩ | none=>C

theorem kclean_any (g dg b:Nat) (x:Addr) (cap:Nat) (zs:List Int) (S:Nat→Prop) (C:Cac) (D:Dev) (w:World) (h:Kv w S g dg C D) (hb:b < D.n) (hr:Has w (some x) D.blk zs) (hz:∀ z ∈ zs,0 ≤ z∧z ≤ 255) :
  Calls Tryz.prog 208 #[.pointer (some ⟨g,0,none⟩),.int .i64 b,.slice (some x) D.blk cap] w fun e w'=>e=.returned (.int .i64 0)∧∃ S',Kv w' S' g dg (C.cl b zs) D∧Nx S w S' w':=by
 unfold Cac.cl
 cases hl:C.L b with
 | some l=>exact kclean_held g dg b l x cap zs S C D w h hb hl hr hz
 | none =>
  refine (kclean_no g dg b x cap S C D w h hb hl).mono ?_
  rintro e w' ⟨rfl,rfl⟩
  exact ⟨rfl,S,h,Nx.refl _ _⟩

def Cac.dr (C:Cac) (b:Nat):Cac:=match C.L b with | some l=>if 0 < l.p then C else C.del b | none=>C

theorem kdrop_any (g dg b:Nat) (S:Nat→Prop) (C:Cac) (D:Dev) (w:World) (h:Kv w S g dg C D) (hb:b < D.n) :
  Calls Tryz.prog 207 #[.pointer (some ⟨g,0,none⟩),.int .i64 b] w fun e w'=>∃ eE,e=.returned (.int .i64 eE)∧∃ S',Kv w' S' g dg (C.dr b) D∧Nx S w S' w':=by
 unfold Cac.dr
 cases hl:C.L b with
 | some l =>
  simp only
  by_cases hp:0 < l.p
  ·rw [if_pos hp]
   refine (drop_busy g dg b l S C D w h hb hl hp).mono ?_
   rintro e w' ⟨rfl,rfl⟩
   exact ⟨_,rfl,S,h,Nx.refl _ _⟩
  ·rw [if_neg hp]
   refine (drop_held g dg b l S C D w h hb hl hp).mono ?_
   rintro e w' ⟨rfl,S',k,x⟩
   exact ⟨_,rfl,S',k,x⟩
 | none =>
  refine (drop_no g dg b S C D w h hb hl).mono ?_
  rintro e w' ⟨rfl,rfl⟩
  exact ⟨_,rfl,S,h,Nx.refl _ _⟩

def clnC:Wl→Cac→Cac
 | [],C=>C
 | x :: r,C=>clnC r (C.cl x.1 x.2)

theorem clnC_append (A B:Wl) (C:Cac):clnC (A ++ B) C=clnC B (clnC A C):=by
 induction A generalizing C with
 | nil=>rfl
 | cons x r ih=>exact ih _

def gapC (G:Geo) (C:Cac) (L:Lg) (D:Dev):Cac:=if aplyE G L D=0 then clnC (pendW G L.Q) C else C

structure ApJ (u:World) (S:Nat→Prop) (g cg lg dg:Nat) (P:Nat→Int) (G:Geo) (X:Grp) (C:Cac) (L':Lg) (D':Dev) (a:Option Addr) (V:List Wr) (k:Nat) (wr:World) (S':Nat→Prop):Prop where
 gv:Gv wr S' g cg lg dg P G X (clnC ((wl V).take k) C) L' D'
 nx:Nx S u S' wr
 has:WHas wr a V.length V
 out:WOut S' a V.length V
 dl:∀ x ∈ V,x.dl=G.blk∧0 ≤ x.b∧x.b < G.n

theorem clnC_snoc {C:Cac} {V:List Wr} {k:Nat} (hk:k < V.length) (b:Nat) (hb:(wat V k).b=(b:Int)):clnC ((wl V).take (k + 1)) C=(clnC ((wl V).take k) C).cl b (wat V k).z:=by
 have hk2:k < (wl V).length:=by rw [wl_len]; exact hk
 rw [List.take_succ_eq_append_getElem hk2,clnC_append]
 have e:(wl V)[k]=(b,(wat V k).z):=by
  unfold wl wat at *
  rw [List.getElem?_eq_getElem hk] at hb ⊢
  simp only [List.getElem_map,Option.getD_some] at hb ⊢
  rw [hb]
  simp
 rw [e]
 rfl

theorem ApJ.step {u:World} {S:Nat→Prop} {g cg lg dg:Nat} {P:Nat→Int} {G:Geo} {X:Grp} {C:Cac} {L':Lg} {D':Dev} {a:Option Addr} {V:List Wr} {k:Nat} {wr:World} {S':Nat→Prop} (h:ApJ u S g cg lg dg P G X C L' D' a V k wr S') (hk:k < V.length) :
  ∃ kb off b x,a=some ⟨kb,off,none⟩∧(wat V k).da=some x∧wr.cell? ⟨kb,off + k * 2,none⟩=some (.int .i64 ((b:Nat):Int))∧wr.cell? ⟨kb,off + k * 2 + 1,none⟩=some (.slice (some x) (wat V k).dl (wat V k).dc) ∧
   ∀ w1,Below wr.heap.size wr w1→w1.cell? ⟨g,2,none⟩=some (.pointer (some ⟨cg,0,none⟩))∧Hid (Calls Tryz.prog 208 #[.pointer (some ⟨cg,0,none⟩),.int .i64 ((b:Nat):Int),.slice (some x) (wat V k).dl (wat V k).dc] w1 fun e w2=>e=.returned (.int .i64 0)∧Hid (∃ S2,ApJ u S g cg lg dg P G X C L' D' a V (k + 1) w2 S2)):=by
 obtain ⟨hd1,hd2,hd3⟩:=h.dl _ (wat_mem hk)
 have hG:G.Ok:=by obtain ⟨_,_,_,_,_,_,_,z⟩:=h.gv; exact z.gr.pg.ok
 have hbk:=hG.blk
 obtain ⟨kb,off,ea,_,hc⟩:=h.has.cel (by omega)
 obtain ⟨c1,c2⟩:=hc k hk
 have hrow:=h.has.row k hk
 obtain ⟨xb,xo,ex,_⟩:=hrow.2.2.2.2 (by omega)
 have hbb:(wat V k).b=(((wat V k).b.toNat:Nat):Int):=by omega
 rw [hbb] at c1
 rw [ex] at c2
 refine ⟨kb,off,(wat V k).b.toNat,⟨xb,xo,none⟩,ea,ex,c1,c2,fun w1 hw=>?_⟩
 obtain ⟨Sg,Sc,Sl,Sd,m,mk,ml,z⟩:=h.gv
 have z1:=z.below hw
 refine ⟨z1.gr.cells.2.2.1,?_⟩
 have hr1:Has w1 (some ⟨xb,xo,none⟩) G.blk (wat V k).z:=by
  have:=hrow.has.later hw
  rw [ex,hd1] at this
  exact this
 rw [hd1,← z1.bd]
 rw [← z1.bd] at hr1
 refine (kclean_any cg dg (wat V k).b.toNat ⟨xb,xo,none⟩ (wat V k).dc (wat V k).z _ _ D' w1 z1.kv.kv (by rw [z1.nd]; omega) hr1 hrow.2.2.2.1).mono ?_
 rintro e w2 ⟨rfl,S1,k1,x1⟩
 obtain ⟨S2,Sc2,Sd2,mk2,a2,x2,_⟩:=z1.cache k1 x1 ⟨rfl,rfl⟩
 obtain ⟨y1,y2⟩:=(h.has.later hw).nx x2 h.out
 refine ⟨rfl,S2,?_,(h.nx.below' hw).trans x2,y1,y2,h.dl⟩
 rw [clnC_snoc hk _ hbb]
 exact a2.gv

theorem ap_start {u:World} {S:Nat→Prop} {g cg lg dg:Nat} {P:Nat→Int} {G:Geo} {X:Grp} {C:Cac} {L:Lg} {D:Dev} (h:Gv u S g cg lg dg P G X C L D) :
  u.cell? ⟨g,1,none⟩=some (.pointer (some ⟨lg,0,none⟩))∧Hid (Calls Tryz.prog 27 #[.pointer (some ⟨lg,0,none⟩)] u fun e w1=>∃ a c V,e=.returned (.slice a V.length c)∧w1.cell? ⟨g,1,none⟩=some (.pointer (some ⟨lg,0,none⟩))∧V.length ≤ 4096∧Hid (wl V=pendW G L.Q) ∧
   Hid (Calls Tryz.prog 17 #[.pointer (some ⟨lg,0,none⟩)] w1 fun e w2=>e=.returned (.int .i64 (aplyE G L D))∧Hid (∃ S2,ApJ u S g cg lg dg P G X C (aplyL G L D) (aplyD G L D) a V 0 w2 S2))):=by
 obtain ⟨Sg,Sc,Sl,Sd,m,mk,ml,h⟩:=h
 refine ⟨h.gr.cells.2.1,(pending_any lg dg Sl P G L ml u h.ll).mono ?_⟩
 rintro e w1 ⟨v,V,rfl,Y⟩
 obtain ⟨gw,is,dl,bw⟩:=unhide Y
 obtain ⟨a,c,rfl,_,_⟩:=gw.shape
 have h1:=h.below bw
 have hln:V.length ≤ 4096:=by
  have e1:=congrArg List.length is
  rw [wl_len,pendW_len] at e1
  have:=pendL_len G L.Q
  have:=h.gr.pg.ok.n2
  omega
 refine ⟨a,c,V,rfl,h1.gr.cells.2.1,hln,is,(Apply_any lg dg _ P G L D w1 h1.lv.lv).mono ?_⟩
 rintro e w2 ⟨rfl,S1,l1,x1⟩
 obtain ⟨S2,Sl2,Sd2,ml2,a2,x2⟩:=h1.wal l1 x1 (aply_foll G L D)
 have ho:WOut S a V.length V:=gw.out (fun k hk=>h.lt hk)
 obtain ⟨y1,y2⟩:=gw.has.1.nx x2 ho
 refine ⟨rfl,S2,a2.gv,((Nx.refl S u).below' bw).trans x2,y1,y2,fun x hx=>?_⟩
 obtain ⟨d1,d2⟩:=dl x hx
 refine ⟨d1,d2,?_⟩
 have hm:(x.b.toNat,x.z) ∈ wl V:=List.mem_map.2 ⟨x,hx,rfl⟩
 rw [is] at hm
 unfold pendW at hm
 obtain ⟨b,hb,e⟩:=List.mem_map.1 hm
 have e1:b=x.b.toNat:=by simpa using congrArg Prod.fst e
 have:=(pendL_mem.1 hb).1
 omega

theorem aplyE_two (G:Geo) (L:Lg) (D:Dev):aplyE G L D=0 ∨ aplyE G L D=7:=by
 unfold aplyE
 split
 ·exact .inr rfl
 ·unfold apE
  split
  ·exact .inl rfl
  ·exact runE_two _ _

theorem gapply_any {u:World} {S:Nat→Prop} {g cg lg dg:Nat} {P:Nat→Int} {G:Geo} {X:Grp} {C:Cac} {L:Lg} {D:Dev} (h:Gv u S g cg lg dg P G X C L D) :
  Calls Tryz.prog 138 #[.pointer (some ⟨g,0,none⟩)] u fun e w'=>e=.returned (.int .i64 (aplyE G L D))∧Hid (∃ S',Gv w' S' g cg lg dg P G X (gapC G C L D) (aplyL G L D) (aplyD G L D)∧Nx S u S' w'):=by
 obtain ⟨c1,KP⟩:=ap_start h
 have h2:=aplyE_two G L D
 have K7:Hid (aplyE G L D ≠ 0→∀ a V w2,(∃ S2,ApJ u S g cg lg dg P G X C (aplyL G L D) (aplyD G L D) a V 0 w2 S2)→Hid (∃ S',Gv w2 S' g cg lg dg P G X (gapC G C L D) (aplyL G L D) (aplyD G L D)∧Nx S u S' w2)):=fun hne a V w2 ⟨S2,hJ⟩=>by
  unfold gapC
  rw [if_neg hne]
  exact ⟨S2,hJ.gv,hJ.nx⟩
 have KE:Hid (aplyE G L D=0→∀ a V w2,wl V=pendW G L.Q→(∃ S2,ApJ u S g cg lg dg P G X C (aplyL G L D) (aplyD G L D) a V V.length w2 S2)→Hid (∃ S',Gv w2 S' g cg lg dg P G X (gapC G C L D) (aplyL G L D) (aplyD G L D)∧Nx S u S' w2)):=fun h0 a V w2 is ⟨S2,hJ⟩=>by
  unfold gapC
  rw [if_pos h0,← is]
  have:=hJ.gv
  rw [List.take_of_length_le (by rw [wl_len]; omega)] at this
  exact ⟨S2,this,hJ.nx⟩
 clear h
 generalize gapC G C L D=C' at *
 generalize aplyE G L D=eE at *
 generalize aplyL G L D=L' at *
 generalize aplyD G L D=D' at *
 go_enter Tryz.func138,Tryz.ntmps138
 go_wp2_with fail
 go_at_call 27
 refine (unhide KP).mono ?_
 rintro e w1 ⟨a,c,V,rfl,c1',hln,HW,KA⟩
 clear KP c1
 go_wp2_with fail
 go_at_call 17
 refine (unhide KA).mono ?_
 rintro e w2 ⟨rfl,Y⟩
 clear KA c1'
 rcases h2 with rfl | rfl
 ·have KE1:Hid (∀ w2,(∃ S2,ApJ u S g cg lg dg P G X C L' D' a V V.length w2 S2)→Hid (∃ S',Gv w2 S' g cg lg dg P G X C' L' D'∧Nx S u S' w2)):=fun w2 hJ=>unhide KE rfl a V w2 (unhide HW) hJ
  have KS:Hid (∀ k wr,(∃ S2,ApJ u S g cg lg dg P G X C L' D' a V k wr S2)→k < V.length→_):=fun k wr ⟨S2,hJ⟩ hk=>hJ.step hk
  clear KE K7 HW
  generalize hVl:V.length=np at *
  clear hVl
  go_wp2_with fail
  go_loopw [23] (fun i wr=>∃ k:Nat,k ≤ np∧i=.int .i64 (k:Int)∧Hid (∃ S2,ApJ u S g cg lg dg P G X C L' D' a V k wr S2)) (fun i _=>np - (intOf i).toNat)
  case atStart=>exact ⟨0,Nat.zero_le _,rfl,Y⟩
  case round =>
   obtain ⟨k,hk,rfl,hJ⟩:=hrel
   clear Y
   by_cases hlt:k < np
   ·obtain ⟨kb,off,b,x,ea,ed,x1,x2,KX⟩:=unhide KS _ _ (unhide hJ) hlt
    obtain ⟨y2,KC⟩:=KX (wr.alloc (.cells #[.int .i64 (b:Int),.slice (some x) (wat V k).dl (wat V k).dc] 52)).drew (((Below.refl _ wr).alloc (Nat.le_refl _) _).drew)
    have BX:=hide (Bl.new wr #[.int .i64 (b:Int),.slice (some x) (wat V k).dl (wat V k).dc] 52)
    clear KS KE1 hJ KX ed
    subst ea
    generalize (wat V k).dl=dl at *
    generalize (wat V k).dc=dc at *
    generalize (b:Int)=bi at *
    go_upto_region 8 with fail
    change Code.wp _ _ _ _ (wr.alloc (.cells #[.int .i64 bi,.slice (some x) dl dc] 52))
    have y2':(wr.alloc (.cells #[.int .i64 bi,.slice (some x) dl dc] 52)).cell? ⟨g,2,none⟩=some (.pointer (some ⟨cg,0,none⟩)):=y2
    clear y2
    generalize wr.alloc (.cells #[.int .i64 bi,.slice (some x) dl dc] 52)=ub at *
    generalize wr.heap.size=gb at *
    have z1:=(unhide BX).cell 0 (.int .i64 bi) rfl
    have z2:=(unhide BX).cell 1 (.slice (some x) dl dc) rfl
    clear BX x1 x2
    go_region_with (go_at_call 208; refine (unhide KC).mono ?_; rintro e w3 ⟨rfl,Z⟩)
    all_goals
     clear KC y2' z1 z2
     go_wp2_with fail
     go_roundw
     case rel=>exact ⟨k + 1,by omega,by go_num,Z⟩
     case measure=>simp [intOf]; omega
   ·have ek:k=np:=by omega
    rw [ek] at hJ
    have Z:=unhide KE1 _ (unhide hJ)
    clear KS KE1 hJ
    go_wp2_with fail
    go_ret
    exact ⟨rfl,Z⟩
 ·have Z:=unhide K7 (by omega) _ _ _ (unhide Y)
  clear K7 KE HW Y
  go_wp2_with fail
  go_ret
  exact ⟨rfl,Z⟩

end Go.Proofs.YtdfanhjnkjdngaaGreatDoor

