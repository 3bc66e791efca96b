/- Joined: OArrA, OArrB, OArrC. -/
import Derived.Test.YtdfanhjnkjdngaaGreatDoorArJ47
import Derived.Test.YtdfanhjnkjdngaaGreatDoorArJ46
import Derived.Test.YtdfanhjnkjdngaaGreatDoorArJ42
import Derived.Test.YtdfanhjnkjdngaaGreatDoorArJ39
import Derived.Test.YtdfanhjnkjdngaaGreatDoorArJ4
import Derived.Test.YtdfanhjnkjdngaaGreatDoorArJ15
import Derived.Test.YtdfanhjnkjdngaaGreatDoorArJ37
import Derived.Deep.Slices
import Derived.SizedLaws
/- GroupArrives: its memory and its calls. -/
namespace Go.Proofs.YtdfanhjnkjdngaaGreatDoor
set_option maxRecDepth 100000
set_option maxHeartbeats 8000000
open Go.RowKit Go.Shelf Go.Maps
set_option linter.unusedVariables false

structure AR (w:World) (g dg:Nat) (out:Bool) (X:Grp) (C:Cac) (L:Lg) (D:Dev) (rows:List (Nat × Obj)) (i:Nat) (H:Nat→Int) (gn cn:Nat) (H2:Nat→Int) (da:Option Addr) (dl dc:Nat) (ds:List Int) (u:World) (S:Nat→Prop):Prop where
 gl:∃ cg lg,GL w.heap.size w g cg lg dg X C L D rows u S
 gs:Gs sG ev X C L D
 sq:L.h.seq ≤ i
 vl:∀ j,16 ≤ j→j < 60→gval X C L D j=fl (H j)
 hv:Own w.heap.size u (some ⟨gn,0,none⟩) 60 cn (hl H2)
 nh:¬ S gn
 rn:∀ x ∈ rows,x.1 ≠ gn
 io:IOwn w.heap.size u da dl dc ds
 ni:∀ q,da=some ⟨q,0,none⟩→¬ S q∧q ≠ gn∧∀ x ∈ rows,x.1 ≠ q
 rg:∀ z ∈ ds,16 ≤ z∧z < 60
 bb:∀ j,0 ≤ H2 j∧H2 j ≤ 255
 h0:0 < w.heap.size

theorem AR.lt {w:World} {g dg:Nat} {out:Bool} {X:Grp} {C:Cac} {L:Lg} {D:Dev} {rows:List (Nat × Obj)} {i:Nat} {H:Nat→Int} {gn cn:Nat} {H2:Nat→Int} {da:Option Addr} {dl dc:Nat} {ds:List Int} {u:World} {S:Nat→Prop} (h:AR w g dg out X C L D rows i H gn cn H2 da dl dc ds u S) {k:Nat} (hk:S k):k < u.heap.size:=by
 obtain ⟨cg,lg,z⟩:=h.gl
 exact z.gv.lt hk

theorem AR.next {w:World} {g dg:Nat} {out:Bool} {X X':Grp} {C C':Cac} {L L':Lg} {D D':Dev} {rows:List (Nat × Obj)} {i i':Nat} {H H':Nat→Int} {gn cn:Nat} {H2:Nat→Int} {da:Option Addr} {dl dc:Nat} {ds:List Int} {u u':World} {S S':Nat→Prop} (h:AR w g dg out X C L D rows i H gn cn H2 da dl dc ds u S) (hg:∃ cg lg,GL w.heap.size w g cg lg dg X' C' L' D' rows u' S') (hx:Nx S u S' u') (hs:Gs sG ev X' C' L' D') (hq:L'.h.seq ≤ i') (hv:∀ j,16 ≤ j→j < 60→gval X' C' L' D' j=fl (H' j)):AR w g dg out X' C' L' D' rows i' H' gn cn H2 da dl dc ds u' S' :=
 have k:=hx.keep (h.hv.lt rfl).1 h.nh
 ⟨hg,hs,hq,hv,h.hv.kept (fun q e=>by cases e; exact k.1),k.2.1,h.rn,h.io.kept (fun q e=>(hx.keep (h.io.lt e).1 (h.ni q e).1).1),fun q e=>⟨(hx.keep (h.io.lt e).1 (h.ni q e).1).2.1,(h.ni q e).2⟩,h.rg,h.bb,h.h0⟩

theorem AR.later {w:World} {g dg:Nat} {out:Bool} {X:Grp} {C:Cac} {L:Lg} {D:Dev} {rows:List (Nat × Obj)} {i:Nat} {H:Nat→Int} {gn cn:Nat} {H2:Nat→Int} {da:Option Addr} {dl dc:Nat} {ds:List Int} {u u':World} {S:Nat→Prop} (h:AR w g dg out X C L D rows i H gn cn H2 da dl dc ds u S) (hb:Below u.heap.size u u'):AR w g dg out X C L D rows i H gn cn H2 da dl dc ds u' S:=by
 obtain ⟨cg,lg,z⟩:=h.gl
 exact h.next ⟨cg,lg,z.later hb⟩ ((Nx.refl S u).below' hb) h.gs h.sq h.vl

theorem AR.turn {w:World} {g cg lg dg:Nat} {X:Grp} {C:Cac} {L:Lg} {D:Dev} {rows:List (Nat × Obj)} {u u':World} {S:Nat→Prop} (z:GL w.heap.size w g cg lg dg X C L D rows u S) (h0:0 < w.heap.size) (hb:Below w.heap.size u u') (hk:∀ k,S k→u'.heap[k]?=u.heap[k]?) (hr:∀ x ∈ rows,u'.heap[x.1]?=u.heap[x.1]?):GL w.heap.size w g cg lg dg X C L D rows u' S:=by
 obtain ⟨Sg,Sc,Sl,Sd,m,mk,ml,az⟩:=z.gv
 exact ⟨(az.keptAll hk (hb.block 0 h0) hb.size).gv,z.ge,z.bel.trans hb,z.sz,fun x hx=>⟨(hr x hx).trans (z.ro x hx).1,(z.ro x hx).2⟩⟩

theorem AR.store {w:World} {g dg:Nat} {out:Bool} {X:Grp} {C:Cac} {L:Lg} {D:Dev} {rows:List (Nat × Obj)} {i:Nat} {H:Nat→Int} {gn cn:Nat} {H2:Nat→Int} {da:Option Addr} {dl dc:Nat} {ds:List Int} {u:World} {S:Nat→Prop} (h:AR w g dg out X C L D rows i H gn cn H2 da dl dc ds u S) {b:Nat} (hb:b < 60) {v:Int} (hv:0 ≤ v∧v ≤ 255) :
  (∃ v0,u.cell? ⟨gn,b,none⟩=some (.int .u8 v0))∧u.frozen? ⟨gn,b,none⟩=false∧AR w g dg out X C L D rows i H gn cn (fun j=>if j=b then v else H2 j) da dl dc ds (u.setCell ⟨gn,b,none⟩ (.int .u8 v)) S:=by
 obtain ⟨cg,lg,z⟩:=h.gl
 obtain ⟨q,e,hq,c1,f1⟩:=h.hv.cell (j:=b) hb
 cases e
 have bb:Below w.heap.size u (u.setCell ⟨gn,b,none⟩ (.int .u8 v)):=(Below.refl _ _).setCell (p:=⟨gn,b,none⟩) hq _
 have kept:∀ j,j ≠ gn→(u.setCell ⟨gn,b,none⟩ (.int .u8 v)).heap[j]?=u.heap[j]?:=fun j hj=>Below.heap_setCell _ _ _ _ hj
 have os:=h.hv.set b v
 rw [hl_set H2 hb] at os
 refine ⟨⟨_,c1⟩,f1,⟨cg,lg,AR.turn z h.h0 bb (fun j hj=>kept j (fun e=>h.nh (by rw [← e]; exact hj))) (fun x hx=>kept x.1 (h.rn x hx))⟩,h.gs,h.sq,h.vl,os,h.nh,h.rn,h.io.kept (fun q e=>kept q (h.ni q e).2.1),h.ni,h.rg,fun j=>?_,h.h0⟩
 show 0 ≤ (if j=b then v else H2 j)∧(if j=b then v else H2 j) ≤ 255
 by_cases ej:j=b
 ·rw [if_pos ej]; exact hv
 ·rw [if_neg ej]; exact h.bb j

theorem AR.app {w:World} {g dg:Nat} {out:Bool} {X:Grp} {C:Cac} {L:Lg} {D:Dev} {rows:List (Nat × Obj)} {i:Nat} {H:Nat→Int} {gn cn:Nat} {H2:Nat→Int} {da:Option Addr} {dl dc:Nat} {ds:List Int} {u:World} {S:Nat→Prop} (h:AR w g dg out X C L D rows i H gn cn H2 da dl dc ds u S) {z:Int} (hz:16 ≤ z∧z < 60) (hl:dl ≤ 10000) :
  ∃ a' c' u',(∀ ty,(Builtin.append_ #[40,40] ty #[.slice da dl dc,.slice (some ⟨u.heap.size,0,none⟩) 1 1]).run Tryz.prog (u.alloc (.cells #[.int .i64 z] 3))=.ok (.slice a' (dl + 1) c') u')∧(AR w g dg out X C L D rows i H gn cn H2 a' (dl + 1) c' (ds ++ [z]) u' S):=by
 have hb:Below u.heap.size u (u.alloc (.cells #[.int .i64 z] 3)):=(Below.refl _ _).alloc (Nat.le_refl _) _
 have h1:=h.later hb
 have B0:=Bl.new u #[.int .i64 z] 3
 obtain ⟨cg,lg,zg⟩:=h1.gl
 have hsz:=zg.bel.size
 have hs1:=hb.size
 obtain ⟨a',c',u',r1,o1,k1,b1,q1⟩:=run_append_intb w.heap.size _ 0 da dl dc ds h1.io hsz u.heap.size z (B0.cell 0 _ rfl) (by omega)
 refine ⟨a',c',u',fun ty=>?_,?_⟩
 ·have hty:(Builtin.append_ #[40,40] ty #[.slice da dl dc,.slice (some ⟨u.heap.size,0,none⟩) 1 1])=(Builtin.append_ #[40,40] 0 #[.slice da dl dc,.slice (some ⟨u.heap.size,0,none⟩) 1 1]):=rfl
  rw [hty]; exact r1
 have hlt:∀ {k},S k→k < (u.alloc (.cells #[.int .i64 z] 3)).heap.size:=fun hk=>h1.lt hk
 have kS:∀ k,S k→u'.heap[k]?=(u.alloc (.cells #[.int .i64 z] 3)).heap[k]?:=fun k hk=>k1 k (hlt hk) (fun q e e2=>(h.ni q e).1 (by rw [← e2]; exact hk))
 have kr:∀ x ∈ rows,u'.heap[x.1]?=(u.alloc (.cells #[.int .i64 z] 3)).heap[x.1]?:=fun x hx=>k1 x.1 (Array.getElem?_eq_some_iff.1 (zg.ro x hx).1).1 (fun q e e2=>(h.ni q e).2.2 x hx e2)
 refine ⟨⟨cg,lg,AR.turn zg h.h0 b1 kS kr⟩,h.gs,h.sq,h.vl,h1.hv.kept (fun q e=>?_),h.nh,h.rn,o1,fun q e=>?_,fun y hy=>?_,h.bb,h.h0⟩
 ·cases e
  exact k1 gn (h1.hv.lt rfl).1 (fun q e e2=>(h.ni q e).2.1 e2.symm)
 ·rcases q1 with ⟨e1,_,_⟩ | ⟨g',e1,hg,_⟩
  ·rw [e1] at e
   exact h.ni q e
  ·rw [e1] at e
   cases e
   refine ⟨fun hs=>?_,fun e=>?_,fun x hx e=>?_⟩
   ·have:=hlt hs; omega
   ·have:=(h1.hv.lt rfl).1; omega
   ·have:=(Array.getElem?_eq_some_iff.1 (zg.ro x hx).1).1; omega
 ·rcases List.mem_append.1 hy with e | e
  ·exact h.rg y e
  ·obtain rfl:=List.mem_singleton.1 e
   exact hz

end Go.Proofs.YtdfanhjnkjdngaaGreatDoor

/- GroupArrives: operations. -/
namespace Go.Proofs.YtdfanhjnkjdngaaGreatDoor
set_option maxRecDepth 100000
set_option maxHeartbeats 8000000
open Go.RowKit Go.Shelf Go.Maps
set_option linter.unusedVariables false

theorem NN.noteD {N:Nat→Option Nt} {H H2:Nat→Int} {k:Nat} (h:NN N H H2 k) {b:Nat} (hb:16 ≤ b∧b < 60) (he:ev b=false) {v:Int} (hv:0 ≤ v∧v ≤ 255):NN (noteN N b ⟨2,fl v⟩) H (fun i=>if i=b then v else H2 i) k:=by
 have h1:=h.note hb hv (t:=2) (.inr ⟨rfl,he⟩)
 refine ⟨h1.kk,h1.nn,?_,h1.bb⟩
 have e1:isK (noteN N b ⟨2,fl v⟩) 1=fun j=>if j=b then false else isK N 1 j:=by
  funext j
  unfold isK noteN
  by_cases ej:j=b
  ·simp [ej]
  ·simp [ej]
 rw [e1]
 have hu:=cnt_upd (isK N 1) b false 60 hb.2
 have hc:=h.cc
 have e2:(lstX (isK N 1) 60).length=cnt (isK N 1) 60:=rfl
 have e3:(lstX (fun j=>if j=b then false else isK N 1 j) 60).length=cnt (fun j=>if j=b then false else isK N 1 j) 60:=rfl
 simp only [Bool.false_eq_true,if_false,Nat.add_zero] at hu
 omega

def ASt (w:World) (g dg:Nat) (out:Bool) (rows:List (Nat × Obj)) (i:Nat) (H:Nat→Int) (gn cn:Nat) (da:Option Addr) (dl dc:Nat) (ds:List Int) (u:World):Prop :=
 ∃ X C L D S,AR w g dg out X C L D rows i H gn cn H da dl dc ds u S∧X.N=none∧(out=true→(∀ j,X.Q j=none)∧C.dirtyIn (ds.map Int.toNat))

def APt (w:World) (g dg o:Nat) (out:Bool) (rows:List (Nat × Obj)) (i:Nat) (H:Nat→Int) (gn cn:Nat) (H2:Nat→Int) (k:Nat) (da:Option Addr) (dl dc:Nat) (ds:List Int) (u:World):Prop :=
 ∃ X C L D S N,AR w g dg out X C L D rows i H gn cn H2 da dl dc ds u S∧X.N=some N∧X.o=o∧NN N H H2 k∧(out=true→(∀ j,X.Q j=none)∧C.dirtyIn (ds.map Int.toNat)∧∀ b t,N b=some t→t.k=2∧b ∈ ds.map Int.toNat)

theorem b_begin {w:World} {g dg:Nat} {out:Bool} {rows:List (Nat × Obj)} {i:Nat} {H:Nat→Int} {gn cn:Nat} {da:Option Addr} {dl dc:Nat} {ds:List Int} {u:World} (h:ASt w g dg out rows i H gn cn da dl dc ds u) :
  Calls Tryz.prog 38 #[.pointer (some ⟨g,0,none⟩)] u fun e u1=>∃ o,e=.returned (.tuple #[.pointer (some ⟨o,0,none⟩),.int .i64 0])∧Hid (APt w g dg o out rows i H gn cn H 0 da dl dc ds u1):=by
 obtain ⟨X,C,L,D,S,h,eN,ho⟩:=h
 obtain ⟨cg,lg,z⟩:=h.gl
 refine (begin_ok z.gv eN).mono ?_
 rintro e u1 ⟨o,rfl,Y⟩
 obtain ⟨S',g1,x1,_⟩:=unhide Y
 refine ⟨o,rfl,_,_,_,_,S',_,h.next ⟨cg,lg,z.next g1 x1⟩ x1 (h.gs.opn rfl) h.sq (fun j h1 h2=>(gval_opn rfl j).trans (h.vl j h1 h2)),rfl,rfl,⟨fun b t e=>(by cases e),fun b _=>rfl,?_,h.bb⟩,fun e=>⟨(ho e).1,(ho e).2,fun b t e=>by cases e⟩⟩
 have:isK (fun _=>none) 1=fun _=>false:=by funext j; rfl
 rw [this]
 decide

theorem b_write {w:World} {g dg o:Nat} {rows:List (Nat × Obj)} {i:Nat} {H:Nat→Int} {gn cn:Nat} {H2:Nat→Int} {k:Nat} {da:Option Addr} {dl dc:Nat} {ds:List Int} {u:World} (h:APt w g dg o false rows i H gn cn H2 k da dl dc ds u) {b:Nat} (hb:16 ≤ b∧b < 60) (he:ev b=true) {v:Int} (hv:0 ≤ v∧v ≤ 255) :
  Calls Tryz.prog 44 #[.int .u8 v] u fun e u1=>∃ q,e=.returned (.slice (some ⟨q,0,none⟩) 64 64) ∧
   Hid (Calls Tryz.prog 43 #[.pointer (some ⟨o,0,none⟩),.int .i64 (b:Int),.slice (some ⟨q,0,none⟩) 64 64] u1 fun e u2=>e=.returned (.int .i64 0)∧(∃ v0,u2.cell? ⟨gn,b,none⟩=some (.int .u8 v0))∧u2.frozen? ⟨gn,b,none⟩=false∧Hid (∀ x ∈ rows,u2.heap[x.1]?=some x.2) ∧
    Hid (APt w g dg o false rows i H gn cn (fun j=>if j=b then v else H2 j) (k + 1) da dl dc ds (u2.setCell ⟨gn,b,none⟩ (.int .u8 v)))):=by
 obtain ⟨X,C,L,D,S,N,h,eN,eo,nn,ho⟩:=h
 refine (gfull_any v u).mono ?_
 rintro e u1 ⟨rfl,B1,b1⟩
 have h1:=h.later b1
 obtain ⟨cg,lg,z⟩:=h1.gl
 have e1:notE sG (b:Int) ((sG.ib:Nat):Int) 64=0:=by
  have h0:rngE sG.n (b:Int) ((sG.ib:Nat):Int)=0:=by
   unfold rngE
   rw [if_neg]
   show ¬ ((b:Int) < 11 ∨ (60:Int) ≤ (b:Int))
   omega
  unfold notE
  rw [if_pos h0,if_pos (show 64=sG.blk from rfl)]
 have:=owrite_any z.gv eN (b:Int) _ 64 64 (fl v) (full_row hv.1 hv.2 B1)
 rw [e1,if_pos rfl,eo] at this
 refine ⟨_,rfl,this.mono ?_⟩
 rintro e u2 ⟨rfl,Y⟩
 obtain ⟨S',g1,x1⟩:=unhide Y
 rw [show (b:Int).toNat=b by simp] at g1
 have h2:=h1.next ⟨cg,lg,z.next g1 x1⟩ x1 (h1.gs.opn rfl) h1.sq (fun j h1' h2=>(gval_opn rfl j).trans (h1.vl j h1' h2))
 obtain ⟨c1,f1,h3⟩:=h2.store hb.2 hv
 obtain ⟨cg2,lg2,z2⟩:=h2.gl
 exact ⟨rfl,c1,f1,fun x hx=>(z2.ro x hx).1,_,_,_,_,S',_,h3,rfl,rfl,nn.note hb hv (.inl ⟨rfl,he⟩),fun e=>by cases e⟩

theorem b_data {w:World} {g dg o:Nat} {out:Bool} {rows:List (Nat × Obj)} {i:Nat} {H:Nat→Int} {gn cn:Nat} {H2:Nat→Int} {k:Nat} {da:Option Addr} {dl dc:Nat} {ds:List Int} {u:World} (h:APt w g dg o out rows i H gn cn H2 k da dl dc ds u) {b:Nat} (hb:16 ≤ b∧b < 60) (he:ev b=false) {v:Int} (hv:0 ≤ v∧v ≤ 255) (hl:dl ≤ 10000) :
  Calls Tryz.prog 44 #[.int .u8 v] u fun e u1=>∃ q,e=.returned (.slice (some ⟨q,0,none⟩) 64 64) ∧
   Hid (Calls Tryz.prog 45 #[.pointer (some ⟨o,0,none⟩),.int .i64 (b:Int),.slice (some ⟨q,0,none⟩) 64 64] u1 fun e u2=>e=.returned (.int .i64 0)∧(∃ v0,u2.cell? ⟨gn,b,none⟩=some (.int .u8 v0))∧u2.frozen? ⟨gn,b,none⟩=false∧Hid (∀ x ∈ rows,u2.heap[x.1]?=some x.2) ∧
    Hid (∃ a' c' u',Hid (∀ ty,(Builtin.append_ #[40,40] ty #[.slice da dl dc,.slice (some ⟨(u2.setCell ⟨gn,b,none⟩ (.int .u8 v)).heap.size,0,none⟩) 1 1]).run Tryz.prog ((u2.setCell ⟨gn,b,none⟩ (.int .u8 v)).alloc (.cells #[.int .i64 (b:Int)] 3))=.ok (.slice a' (dl + 1) c') u') ∧
     Hid (APt w g dg o out rows i H gn cn (fun j=>if j=b then v else H2 j) k a' (dl + 1) c' (ds ++ [(b:Int)]) u'))):=by
 obtain ⟨X,C,L,D,S,N,h,eN,eo,nn,ho⟩:=h
 refine (gfull_any v u).mono ?_
 rintro e u1 ⟨rfl,B1,b1⟩
 have h1:=h.later b1
 obtain ⟨cg,lg,z⟩:=h1.gl
 have s16:sP 11=16:=by
  have e:sP 11=planOf 64 60 6 9 11:=by unfold sP; rw [makeP_ok sP_make]
  rw [e]
  decide
 have e1:notE sG (b:Int) (sP 11) 64=0:=by
  have h0:rngE sG.n (b:Int) (sP 11)=0:=by
   unfold rngE
   rw [if_neg]
   rw [s16]
   show ¬ ((b:Int) < 16 ∨ (60:Int) ≤ (b:Int))
   omega
  unfold notE
  rw [if_pos h0,if_pos (show 64=sG.blk from rfl)]
 have:=odata_any z.gv eN (b:Int) _ 64 64 (fl v) (full_row hv.1 hv.2 B1)
 rw [e1,if_pos rfl,eo] at this
 refine ⟨_,rfl,this.mono ?_⟩
 rintro e u2 ⟨rfl,Y⟩
 obtain ⟨S',g1,x1⟩:=unhide Y
 rw [show (b:Int).toNat=b by simp] at g1
 have h2:=h1.next ⟨cg,lg,z.next g1 x1⟩ x1 (h1.gs.opn rfl) h1.sq (fun j h1' h2=>(gval_opn rfl j).trans (h1.vl j h1' h2))
 obtain ⟨c1,f1,h3⟩:=h2.store hb.2 hv
 obtain ⟨cg2,lg2,z2⟩:=h2.gl
 obtain ⟨a',c',u',r1,h4⟩:=h3.app (z:=(b:Int)) (by omega) hl
 have hin:∀ j ∈ ds.map Int.toNat,j ∈ (ds ++ [(b:Int)]).map Int.toNat:=fun j hj=>by rw [List.map_append]; exact List.mem_append_left _ hj
 refine ⟨rfl,c1,f1,fun x hx=>(z2.ro x hx).1,a',c',u',r1,_,_,_,_,S',_,h4,rfl,rfl,nn.noteD hb he hv,fun e=>⟨(ho e).1,(ho e).2.1.mono hin,fun c t ec=>?_⟩⟩
 unfold noteN at ec
 by_cases ecb:c=b
 ·rw [if_pos ecb] at ec
  cases ec
  exact ⟨rfl,by rw [ecb]; simp⟩
 ·rw [if_neg ecb] at ec
  exact ⟨((ho e).2.2 c t ec).1,hin c ((ho e).2.2 c t ec).2⟩

theorem b_end {w:World} {g dg o:Nat} {out:Bool} {rows:List (Nat × Obj)} {i:Nat} {H:Nat→Int} {gn cn:Nat} {H2:Nat→Int} {k:Nat} {da:Option Addr} {dl dc:Nat} {ds:List Int} {u:World} (h:APt w g dg o out rows i H gn cn H2 k da dl dc ds u) (hk:k ≤ 4) (hi:i ≤ 4000) :
  Calls Tryz.prog 46 #[.pointer (some ⟨o,0,none⟩)] u fun e u'=>e=.returned (.int .i64 0)∧Hid (ASt w g dg out rows (i + 9) H2 gn cn da dl dc ds u'):=by
 obtain ⟨X,C,L,D,S,N,h,eN,eo,nn,ho⟩:=h
 obtain ⟨cg,lg,z⟩:=h.gl
 subst eo
 have hsq:=h.sq
 have hlg:sG.lg=9:=rfl
 have hval:∀ j,16 ≤ j→j < 60→(match N j with | some t=>t.z | none=>gval X C L D j)=fl (H2 j):=fun j h1 h2=>by
  cases hN:N j with
  | none =>
   show gval X C L D j=_
   rw [h.vl j h1 h2,nn.nn j hN]
  | some t=>exact (nn.kk j t hN).2.2.1
 cases out with
 | false =>
  obtain ⟨X',C',L',D',e1,e2,e3,f1,f2,f3⟩:=h.gs.fin sG_ok (nn.nk hk) (h.gs.seq h.sq hi)
  have:=oend_any z.gv eN
  rw [e1] at this
  refine this.mono ?_
  rintro e u' ⟨rfl,Y⟩
  obtain ⟨S',g1,x1,_⟩:=unhide Y
  exact ⟨rfl,X',C',L',D',S',h.next ⟨cg,lg,z.next g1 x1⟩ x1 f1 (by omega) (fun j h1 h2=>(f3 j (by show 11 ≤ j; omega) h2).trans (hval j h1 h2)),e2,fun e=>by cases e⟩
 | true =>
  obtain ⟨o1,o2,o3⟩:=ho rfl
  obtain ⟨X',C',D',e1,e2,e3,e4,e5,f1,f3⟩:=h.gs.fin_data sG_ok (nn.nk hk) o1 (fun b t e=>(o3 b t e).1) o2 (fun b t e=>(o3 b t e).2)
  have:=oend_any z.gv eN
  rw [e1] at this
  refine this.mono ?_
  rintro e u' ⟨rfl,Y⟩
  obtain ⟨S',g1,x1,_⟩:=unhide Y
  exact ⟨rfl,X',C',L,D',S',h.next ⟨cg,lg,z.next g1 x1⟩ x1 f1 (by omega) (fun j h1 h2=>(f3 j (by show 11 ≤ j; omega) h2).trans (hval j h1 h2)),e2,fun _=>⟨e4,e5⟩⟩

end Go.Proofs.YtdfanhjnkjdngaaGreatDoor

/- GroupArrives: Commit or Out, a crash, and the log that is opened and applied. -/
namespace Go.Proofs.YtdfanhjnkjdngaaGreatDoor
set_option maxRecDepth 100000
set_option maxHeartbeats 8000000
open Go.RowKit Go.Shelf Go.Maps
set_option linter.unusedVariables false

structure FR (w:World) (g dg:Nat) (L:Lg) (D:Dev) (rows:List (Nat × Obj)) (u:World) (S:Nat→Prop):Prop where
 wl:WL w.heap.size w g dg L D u S
 ro:∀ x ∈ rows,u.heap[x.1]?=some x.2∧¬ S x.1

theorem FR.later {w:World} {g dg:Nat} {L:Lg} {D:Dev} {rows:List (Nat × Obj)} {u u':World} {S:Nat→Prop} (h:FR w g dg L D rows u S) (hb:Below u.heap.size u u'):FR w g dg L D rows u' S :=
 ⟨h.wl.later hb,fun x hx=>⟨(hb.block x.1 (Array.getElem?_eq_some_iff.1 (h.ro x hx).1).1).trans (h.ro x hx).1,(h.ro x hx).2⟩⟩

theorem FR.nx {w:World} {g g' dg:Nat} {L L':Lg} {D D':Dev} {rows:List (Nat × Obj)} {u u':World} {S S0 S':Nat→Prop} (h:FR w g dg L D rows u S) (h0:∀ k,S0 k→S k) (hl:Lv u' S' g' dg sP sG L' D') (hx:Nx S0 u S' u'):FR w g' dg L' D' rows u' S':=by
 have hs:w.heap.size ≤ u.heap.size:=h.wl.bel.size
 refine ⟨⟨hl,hx.base (fun k hk=>h.wl.ge k (h0 k hk)) hs,h.wl.bel.trans (hx.below (fun k hk=>h.wl.ge k (h0 k hk)) hs),h.wl.sz⟩,fun x hm=>?_⟩
 obtain ⟨h3,h4⟩:=h.ro x hm
 obtain ⟨h5,h6,_⟩:=hx.keep (k:=x.1) (Array.getElem?_eq_some_iff.1 h3).1 (fun y=>h4 (h0 x.1 y))
 exact ⟨h5.trans h3,h6⟩

theorem GL.fr {w:World} {g cg lg dg:Nat} {X:Grp} {C:Cac} {L:Lg} {D:Dev} {rows:List (Nat × Obj)} {u:World} {S:Nat→Prop} (z:GL w.heap.size w g cg lg dg X C L D rows u S):∃ S',FR w lg dg L D rows u S':=by
 obtain ⟨Sg,Sc,Sl,Sd,m,mk,ml,az⟩:=z.gv
 have hS:∀ k,Sl k ∨ Sd k→S k:=fun k hk=>(az.all k).2 (by rcases hk with x | x; exact .inr (.inr (.inl x)); exact .inr (.inr (.inr x)))
 exact ⟨_,⟨az.lv.lv,fun k hk=>z.ge k (hS k hk),z.bel,z.sz⟩,fun x hx=>⟨(z.ro x hx).1,fun hk=>(z.ro x hx).2 (hS _ hk)⟩⟩

def FS (w:World) (g dg:Nat) (rows:List (Nat × Obj)) (H:Nat→Int) (gn cn:Nat) (u:World):Prop :=
 ∃ L D S o,FR w g dg L D ((gn,o) :: rows) u S∧St sG L D∧(∀ j,16 ≤ j→j < 60→(L.Q j).getD (D.rd j)=fl (H j))∧Own w.heap.size u (some ⟨gn,0,none⟩) 60 cn (hl H)

theorem FS.of {w:World} {g cg lg dg:Nat} {X:Grp} {C:Cac} {L:Lg} {D:Dev} {rows:List (Nat × Obj)} {H:Nat→Int} {gn cn:Nat} {u:World} {S:Nat→Prop} (z:GL w.heap.size w g cg lg dg X C L D rows u S) (hst:St sG L D) (hv:∀ j,16 ≤ j→j < 60→(L.Q j).getD (D.rd j)=fl (H j)) (ho:Own w.heap.size u (some ⟨gn,0,none⟩) 60 cn (hl H)) (hn:¬ S gn):FS w lg dg rows H gn cn u:=by
 have hlt:=(ho.lt rfl).1
 obtain ⟨S',f⟩:=(z.add (k:=gn) (o:=u.heap[gn]) (by rw [Array.getElem?_eq_getElem hlt]) hn).fr
 exact ⟨L,D,S',_,f,hst,hv,ho⟩

theorem f_commit {w:World} {g dg:Nat} {rows:List (Nat × Obj)} {i:Nat} {H:Nat→Int} {gn cn:Nat} {da:Option Addr} {dl dc:Nat} {ds:List Int} {u:World} (h:ASt w g dg false rows i H gn cn da dl dc ds u) (hi:i ≤ 4000) :
  Calls Tryz.prog 47 #[.pointer (some ⟨g,0,none⟩)] u fun e u'=>e=.returned (.int .i64 0)∧Hid (∃ lg,FS w lg dg rows H gn cn u'):=by
 obtain ⟨X,C,L,D,S,h,eN,_⟩:=h
 obtain ⟨cg,lg,z⟩:=h.gl
 have hsq:=h.gs.seq h.sq hi
 obtain ⟨c1,c2,c3,c4⟩:=h.gs.cmm sG_ok hsq
 obtain ⟨f1,f2⟩:=h.gs.cmm_fl sG_ok hsq
 have:=pcommit_any z.gv eN
 rw [c1,if_pos rfl] at this
 refine this.mono ?_
 rintro e u' ⟨rfl,Y⟩
 obtain ⟨S',g1,x1⟩:=unhide Y
 have kp:=x1.keep (h.hv.lt rfl).1 h.nh
 exact ⟨rfl,lg,FS.of (z.next g1 x1) (c2.su.st f1) (fun j h1 h2=>by rw [← c2.told f2 h2,c4 j (by show 11 ≤ j; omega) h2]; exact h.vl j h1 h2) (h.hv.kept (fun q e=>by cases e; exact kp.1)) kp.2.1⟩

theorem f_out {w:World} {g dg:Nat} {rows:List (Nat × Obj)} {i:Nat} {H:Nat→Int} {gn cn:Nat} {da:Option Addr} {dl dc:Nat} {ds:List Int} {u:World} (h:ASt w g dg true rows i H gn cn da dl dc ds u) (hl:dl ≤ 10000) :
  Calls Tryz.prog 51 #[.pointer (some ⟨g,0,none⟩),.slice da dl dc] u fun e u'=>e=.returned (.int .i64 0)∧Hid (∃ lg,FS w lg dg rows H gn cn u'):=by
 obtain ⟨X,C,L,D,S,h,eN,ho⟩:=h
 obtain ⟨cg,lg,z⟩:=h.gl
 obtain ⟨o1,o2⟩:=ho rfl
 have hlen:ds.length=dl:=h.io.1
 have hmem:∀ j,j ∈ nums ds ↔ j ∈ ds.map Int.toNat:=fun j=>by
  unfold nums
  rw [List.mem_map,List.mem_map]
  have hp:=srt_perm ds
  exact ⟨fun ⟨x,hx,e⟩=>⟨x,hp.mem_iff.1 hx,e⟩,fun ⟨x,hx,e⟩=>⟨x,hp.mem_iff.2 hx,e⟩⟩
 have hs:∀ b ∈ nums ds,sG.ib ≤ b∧b < sG.n:=fun b hb=>by
  obtain ⟨x,hx,e⟩:=List.mem_map.1 ((hmem b).1 hb)
  have:=h.rg x hx
  show 11 ≤ b∧b < 60
  omega
 obtain ⟨q1,q2,q3,q4⟩:=h.gs.out_all sG_ok o1 hs (o2.mono (fun j hj=>(hmem j).2 hj))
 have:=gout_any z.gv da dc ds (by omega) (by rw [hlen]; exact iown_has8 h.io) (fun x hx=>by have:=h.rg x hx; show 0 ≤ x∧x < 60; omega)
 rw [q1,hlen] at this
 refine this.mono ?_
 rintro e u' ⟨rfl,Y⟩
 obtain ⟨S',g1,x1⟩:=unhide Y
 have kp:=x1.keep (h.hv.lt rfl).1 h.nh
 exact ⟨rfl,lg,FS.of (z.next g1 x1) (q2.st q3) (fun j h1 h2=>by rw [q4 j (by show 11 ≤ j; omega) h2]; exact h.vl j h1 h2) (h.hv.kept (fun q e=>by cases e; exact kp.1)) kp.2.1⟩

theorem FS.keep {w:World} {gn cn:Nat} {H:Nat→Int} {u u':World} {o:Obj} (ho:Own w.heap.size u (some ⟨gn,0,none⟩) 60 cn (hl H)) (h1:u.heap[gn]?=some o) (h2:u'.heap[gn]?=some o):Own w.heap.size u' (some ⟨gn,0,none⟩) 60 cn (hl H) :=
 ho.kept (fun q e=>by cases e; exact h2.trans h1.symm)

theorem f_crash {w:World} {g dg:Nat} {rows:List (Nat × Obj)} {H:Nat→Int} {gn cn:Nat} {u:World} (h:FS w g dg rows H gn cn u) {a:Option Addr} {len cap:Nat} {ps:List Int} (hp:IHas w a len ps) (hc:len ≤ cap∧cap ≤ 9223372036854775807) :
  Calls Tryz.prog 21 #[.pointer (some ⟨dg,0,none⟩),.slice a len cap] u fun e u'=>e=.returned (.int .i64 0)∧Hid (FS w g dg rows H gn cn u'):=by
 obtain ⟨L,D,S,o,f,st,hv,ho⟩:=h
 obtain ⟨Sl,Sd,m,x⟩:=f.wl.lv
 refine (crash_any dg a len cap ps Sd D u x.dd (hp.later f.wl.bel) hc (fun hq y e hS=>?_)).mono ?_
 ·obtain ⟨b2,off2,e2,_⟩:=hp.2 hq
  have:=hp.lt hq e2
  rw [e] at e2
  cases e2
  have h3:w.heap.size ≤ b2:=f.wl.ge b2 ((x.all _).2 (.inr hS))
  omega
 ·rintro e u' ⟨rfl,d1,n1⟩
  obtain ⟨l1,n2⟩:=x.dev d1 n1 ⟨rfl,rfl⟩
  have f':=f.nx (fun _ x=>x) l1.lv n2
  have hrd:=crash_rd (D:=D) (fun j hj=>st.fl j (by rw [← st.n]; exact hj)) ps
  exact ⟨rfl,L,_,_,o,f',st.crash ps,fun j h1 h2=>by rw [hrd]; exact hv j h1 h2,FS.keep ho (f.ro _ (List.mem_cons_self ..)).1 (f'.ro _ (List.mem_cons_self ..)).1⟩

theorem f_open {w:World} {g dg:Nat} {rows:List (Nat × Obj)} {H:Nat→Int} {gn cn:Nat} {u:World} (h:FS w g dg rows H gn cn u) :
  Calls Tryz.prog 23 #[.pointer (some ⟨dg,0,none⟩),Pv sP] u fun e u'=>∃ gl,e=.returned (.tuple #[.pointer (some ⟨gl,0,none⟩),.int .i64 0])∧Hid (FS w gl dg rows H gn cn u'):=by
 obtain ⟨L,D,S,o,f,st,hv,ho⟩:=h
 obtain ⟨Sl,Sd,m,x⟩:=f.wl.lv
 have hp:=st.parse sG_ok
 refine (open_any sP sG dg Sd D u sPG x.dd x.bd x.nd x.tab (fun h0=>x.z0 ((x.all 0).2 (.inr h0)))).mono ?_
 intro e u' Y
 obtain ⟨S3,n3,(⟨hx,_⟩ | ⟨_,hx,_⟩ | ⟨_,L2,gl,hp2,he,hl⟩)⟩:=unhide Y
 ·rw [st.live.2] at hx; cases hx
 ·rw [hp] at hx; cases hx
 ·rw [hp] at hp2
  cases hp2
  have f':=f.nx (fun k hk=>(x.all k).2 (.inr hk)) hl n3
  exact ⟨gl,he,L,D,S3,o,f',st,hv,FS.keep ho (f.ro _ (List.mem_cons_self ..)).1 (f'.ro _ (List.mem_cons_self ..)).1⟩

def FN (w:World) (g dg:Nat) (rows:List (Nat × Obj)) (H:Nat→Int) (gn cn:Nat) (u:World):Prop :=
 ∃ L D S o,FR w g dg L D ((gn,o) :: rows) u S∧D.dead=false∧(∀ j,16 ≤ j→j < 60→D.rd j=fl (H j))∧Own w.heap.size u (some ⟨gn,0,none⟩) 60 cn (hl H)

theorem f_apply {w:World} {g dg:Nat} {rows:List (Nat × Obj)} {H:Nat→Int} {gn cn:Nat} {u:World} (h:FS w g dg rows H gn cn u) :
  Calls Tryz.prog 17 #[.pointer (some ⟨g,0,none⟩)] u fun e u'=>e=.returned (.int .i64 0)∧Hid (FN w g dg rows H gn cn u'):=by
 obtain ⟨L,D,S,o,f,st,hv,ho⟩:=h
 obtain ⟨a1,a2,a3⟩:=st.aply sG_ok
 obtain ⟨b1,b2,b3,b4,b5,b6⟩:=st.apl sG_ok
 have:=Apply_any g dg S sP sG L D u f.wl.lv
 rw [a1,a2,a3] at this
 refine this.mono ?_
 rintro e u' ⟨rfl,S',l1,n1⟩
 have f':=f.nx (fun _ x=>x) l1 n1
 exact ⟨rfl,_,_,S',o,f',b2.live.2,fun j h1 h2=>by rw [b6 j (by show 11 ≤ j; omega) h2]; exact hv j h1 h2,FS.keep ho (f.ro _ (List.mem_cons_self ..)).1 (f'.ro _ (List.mem_cons_self ..)).1⟩

theorem FN.bel {w:World} {g dg:Nat} {rows:List (Nat × Obj)} {H:Nat→Int} {gn cn:Nat} {u:World} (h:FN w g dg rows H gn cn u):Below w.heap.size w u:=by
 obtain ⟨L,D,S,o,f,_⟩:=h
 exact f.wl.bel

theorem FN.row {w:World} {g dg:Nat} {rows:List (Nat × Obj)} {H:Nat→Int} {gn cn:Nat} {u:World} (h:FN w g dg rows H gn cn u) {x:Nat × Obj} (hx:x ∈ rows):u.heap[x.1]?=some x.2:=by
 obtain ⟨L,D,S,o,f,_⟩:=h
 exact (f.ro x (List.mem_cons_of_mem _ hx)).1

theorem FS.row {w:World} {g dg:Nat} {rows:List (Nat × Obj)} {H:Nat→Int} {gn cn:Nat} {u:World} (h:FS w g dg rows H gn cn u) {x:Nat × Obj} (hx:x ∈ rows):u.heap[x.1]?=some x.2:=by
 obtain ⟨L,D,S,o,f,_⟩:=h
 exact (f.ro x (List.mem_cons_of_mem _ hx)).1

theorem f_read {w:World} {g dg:Nat} {rows:List (Nat × Obj)} {H:Nat→Int} {gn cn:Nat} {u:World} (h:FN w g dg rows H gn cn u) {b:Nat} (hb:16 ≤ b) (hb2:b < 60) :
  Calls Tryz.prog 49 #[.pointer (some ⟨dg,0,none⟩),.int .i64 (b:Int)] u fun e u1=>∃ a,e=.returned (.tuple #[.slice a 64 64,.int .i64 0])∧u1.cell? ⟨gn,b,none⟩=some (.int .u8 (H b)) ∧
   Hid (Calls Tryz.prog 44 #[.int .u8 (H b)] u1 fun e u2=>∃ k,e=.returned (.slice (some ⟨k,0,none⟩) 64 64) ∧
    Hid (Calls Tryz.prog 50 #[.slice a 64 64,.slice (some ⟨k,0,none⟩) 64 64] u2 fun e u3=>e=.returned (.bool true)∧Hid (FN w g dg rows H gn cn u3))):=by
 obtain ⟨L,D,S,o,f,hd,hv,ho⟩:=h
 obtain ⟨Sl,Sd,m,x⟩:=f.wl.lv
 have hn:D.n=60:=x.nd
 have hbk:D.blk=64:=x.bd
 have:=read_ok dg b Sd D u x.dd hd (by omega)
 rw [hbk,hv b hb hb2] at this
 refine this.mono ?_
 rintro e u1 ⟨rfl,B,b1⟩
 have f1:=f.later b1
 have o1:=ho.below b1 (Nat.le_refl _)
 obtain ⟨q,e,_,hc,_⟩:=o1.cell (j:=b) hb2
 cases e
 rw [hl_at H hb2] at hc
 refine ⟨_,rfl,hc,(gfull_any (H b) u1).mono ?_⟩
 rintro e u2 ⟨rfl,B2,b2⟩
 refine ⟨_,rfl,(same_true _ _ 64 64 64 (fl (H b)) u2 ((B.below b2 B.lt).has (fl_len _)) (B2.has (fl_len _))).mono ?_⟩
 rintro e u3 ⟨rfl,rfl⟩
 exact ⟨rfl,L,D,S,o,f1.later b2,hd,hv,o1.below b2 (Nat.le_refl _)⟩

theorem ASt.add {w:World} {g dg:Nat} {out:Bool} {rows:List (Nat × Obj)} {i:Nat} {H:Nat→Int} {gn cn:Nat} {da:Option Addr} {dl dc:Nat} {ds:List Int} {u:World} (h:ASt w g dg out rows i H gn cn da dl dc ds u) (o:Obj):ASt w g dg out ((u.heap.size,o) :: rows) i H gn cn da dl dc ds (u.alloc o):=by
 obtain ⟨X,C,L,D,S,h,eN,ho⟩:=h
 have hb:Below u.heap.size u (u.alloc o):=(Below.refl _ _).alloc (Nat.le_refl _) o
 have h1:=h.later hb
 obtain ⟨cg,lg,z⟩:=h1.gl
 refine ⟨X,C,L,D,S,⟨⟨cg,lg,z.add (World.alloc_heap_new u o) (fun hs=>Nat.lt_irrefl _ (h.lt hs))⟩,h1.gs,h1.sq,h1.vl,h1.hv,h1.nh,fun x hx=>?_,h1.io,fun q e=>⟨(h.ni q e).1,(h.ni q e).2.1,fun x hx=>?_⟩,h1.rg,h1.bb,h1.h0⟩,eN,ho⟩
 ·rcases List.mem_cons.1 hx with rfl | hx
  ·have:=(h.hv.lt rfl).1
   show u.heap.size ≠ gn
   omega
  ·exact h.rn x hx
 ·rcases List.mem_cons.1 hx with rfl | hx
  ·have:=(h.io.lt e).1
   show u.heap.size ≠ q
   omega
  ·exact (h.ni q e).2.2 x hx

theorem ASt.drop {w:World} {g dg:Nat} {out:Bool} {x:Nat × Obj} {rows:List (Nat × Obj)} {i i':Nat} {H:Nat→Int} {gn cn:Nat} {da:Option Addr} {dl dc:Nat} {ds:List Int} {u:World} (h:ASt w g dg out (x :: rows) i H gn cn da dl dc ds u) (hi:i ≤ i'):ASt w g dg out rows i' H gn cn da dl dc ds u:=by
 obtain ⟨X,C,L,D,S,h,eN,ho⟩:=h
 obtain ⟨cg,lg,z⟩:=h.gl
 exact ⟨X,C,L,D,S,⟨⟨cg,lg,z.gv,z.ge,z.bel,z.sz,fun y hy=>z.ro y (List.mem_cons_of_mem _ hy)⟩,h.gs,Nat.le_trans h.sq hi,h.vl,h.hv,h.nh,fun y hy=>h.rn y (List.mem_cons_of_mem _ hy),h.io,fun q e=>⟨(h.ni q e).1,(h.ni q e).2.1,fun y hy=>(h.ni q e).2.2 y (List.mem_cons_of_mem _ hy)⟩,h.rg,h.bb,h.h0⟩,eN,ho⟩

theorem ASt.bel {w:World} {g dg:Nat} {out:Bool} {rows:List (Nat × Obj)} {i:Nat} {H:Nat→Int} {gn cn:Nat} {da:Option Addr} {dl dc:Nat} {ds:List Int} {u:World} (h:ASt w g dg out rows i H gn cn da dl dc ds u):Below w.heap.size w u:=by
 obtain ⟨X,C,L,D,S,h,eN,ho⟩:=h
 obtain ⟨cg,lg,z⟩:=h.gl
 exact z.bel

theorem APt.bel {w:World} {g dg o:Nat} {out:Bool} {rows:List (Nat × Obj)} {i:Nat} {H:Nat→Int} {gn cn:Nat} {H2:Nat→Int} {k:Nat} {da:Option Addr} {dl dc:Nat} {ds:List Int} {u:World} (h:APt w g dg o out rows i H gn cn H2 k da dl dc ds u):Below w.heap.size w u:=by
 obtain ⟨X,C,L,D,S,N,h,_⟩:=h
 obtain ⟨cg,lg,z⟩:=h.gl
 exact z.bel

theorem APt.row {w:World} {g dg o:Nat} {out:Bool} {rows:List (Nat × Obj)} {i:Nat} {H:Nat→Int} {gn cn:Nat} {H2:Nat→Int} {k:Nat} {da:Option Addr} {dl dc:Nat} {ds:List Int} {u:World} (h:APt w g dg o out rows i H gn cn H2 k da dl dc ds u) {x:Nat × Obj} (hx:x ∈ rows):u.heap[x.1]?=some x.2:=by
 obtain ⟨X,C,L,D,S,N,h,_⟩:=h
 obtain ⟨cg,lg,z⟩:=h.gl
 exact (z.ro x hx).1

theorem APt.later {w:World} {g dg o:Nat} {out:Bool} {rows:List (Nat × Obj)} {i:Nat} {H:Nat→Int} {gn cn:Nat} {H2:Nat→Int} {k:Nat} {da:Option Addr} {dl dc:Nat} {ds:List Int} {u u':World} (h:APt w g dg o out rows i H gn cn H2 k da dl dc ds u) (hb:Below u.heap.size u u'):APt w g dg o out rows i H gn cn H2 k da dl dc ds u':=by
 obtain ⟨X,C,L,D,S,N,h,r⟩:=h
 exact ⟨X,C,L,D,S,N,h.later hb,r⟩

theorem b_start {w u u':World} {g dg cap gp:Nat} {ns:List Int} {po:Obj} (out:Bool) (h0:0 < w.heap.size) (hu:Below w.heap.size w u) (hp:u.heap[gp]?=some po) (h:GD u.heap.size u g dg Grp.new (Cac.new cap ns) sL sD [] u') (hc:1 ≤ cap) :
  ASt w g dg out [(gp,po)] 1 (fun _=>0) u'.heap.size 60 none 0 0 [] (u'.alloc (.cells (madeCells #[.int .u8 0] 60) 5)):=by
 obtain ⟨cg,lg,S,h⟩:=h
 have hb:Below u'.heap.size u' (u'.alloc (.cells (madeCells #[.int .u8 0] 60) 5)):=(Below.refl _ _).alloc (Nat.le_refl _) _
 have B0:Block (u'.alloc (.cells (madeCells #[.int .u8 0] 60) 5)) u'.heap.size (hl (fun _=>0)):=by
  unfold Block
  rw [World.alloc_heap_new,← Array.toArray_toList (xs:=madeCells #[.int .u8 0] 60),toList_madeCells_one]
  rfl
 have hlt:gp < u.heap.size:=(Array.getElem?_eq_some_iff.1 hp).1
 have hus:=hu.size
 have h1:GL w.heap.size w g cg lg dg Grp.new (Cac.new cap ns) sL sD [(gp,po)] u' S :=
  ⟨h.gv,fun k hk=>Nat.le_trans hus (h.ge k hk),hu.trans (h.bel.mono hus),Nat.le_refl _,fun x hx=>by
   obtain rfl:=List.mem_singleton.1 hx
   exact ⟨(h.bel.block gp hlt).trans hp,fun hs=>by have:=h.ge gp hs; omega⟩⟩
 have hz:=h1.bel.size
 refine ⟨Grp.new,Cac.new cap ns,sL,sD,S,⟨⟨cg,lg,h1.later hb⟩,⟨sL_st.su,fun b l _ e=>(by cases e),?_,hc,fun b l e=>(by cases e),fun b z e=>(by cases e),fun b z e=>(by cases e),?_⟩,Nat.le_refl _,fun j hj hj2=>?_,?_,fun hs=>?_,fun x hx=>?_,IOwn.nil _ _,fun q e=>(by cases e),fun z hz=>(by simp at hz),fun j=>by omega,h0⟩,rfl,fun _=>⟨fun j=>rfl,fun j l e=>(by cases e)⟩⟩
 ·have:cnt ((Cac.new cap ns).wants fHeld) sD.n ≤ cnt (fun _=>false) sD.n:=cnt_mono (fun b _ hw=>by cases hw)
  have h0:cnt (fun _=>false) sD.n=0:=by rw [sD_live.2.2.1]; decide
  omega
 ·show sG.uses (pendL sG (fun _=>none)).length ≤ sG.lg
  decide
 ·show sD.rd j=fl 0
  rw [show sD.rd=rdS (whS sG hd1) (Dev.new 64 60).rd from run_rd _ _ sD_run]
  show (if j=1 then _ else (Dev.new 64 60).rd j)=_
  rw [if_neg (by omega)]
  rfl
 ·have:=oblock_own (n:=60) (c:=60) B0 (B:=w.heap.size) hz (by omega) (hl_len _) (by omega)
  rwa [List.take_of_length_le (by rw [hl_len]; omega)] at this
 ·have:=h.gv.lt hs
  omega
 ·obtain rfl:=List.mem_singleton.1 hx
  have:=h.bel.size
  show gp ≠ u'.heap.size
  omega

end Go.Proofs.YtdfanhjnkjdngaaGreatDoor

