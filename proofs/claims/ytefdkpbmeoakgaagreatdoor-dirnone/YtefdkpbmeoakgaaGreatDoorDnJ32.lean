/- Joined: OAll, OLeaf, OOps, ONote, ANote, OThose. -/
import Derived.Test.YtefdkpbmeoakgaaGreatDoorDnJ30
import Derived.LaidEqlPtr
import Derived.Test.YtefdkpbmeoakgaaGreatDoorDnJ9
import Derived.BigRegion
import Derived.Test.YtefdkpbmeoakgaaGreatDoorDnJ14
/- A group, its cache, its log and its device in memory, side by side. -/
namespace Go.Proofs.YtefdkpbmeoakgaaGreatDoor
set_option maxRecDepth 100000
set_option maxHeartbeats 8000000
open Go.RowKit Go.Shelf Go.Maps
set_option linter.unusedVariables false
def Hd.old (a b:Hd):Prop:=a.seq<b.seq\/(a.seq=b.seq/\b.used=0/\0<a.used)
theorem Hd.old.ne {a b:Hd}(h:a.old b):a≠b:=by
 rintro rfl
 rcases h with h | ⟨_,h1,h2⟩<;>omega
def Seen (m:aeF) (G:Geo) (L:Lg):Prop:=(m.hc=L.h/\∀ b,b<G.n->m.Qc b=L.Q b)\/m.hc.old L.h
structure jk (u:World) (S Sg Sc Sl Sd:Nat->Prop) (g cg lg dg:Nat) (P:Nat->Int) (G:Geo) (X:Grp) (C:Cac) (L:Lg) (D:Dev) (m:aeF) (mk:nS) (ml:aeD):Prop where
 gr:GrM u Sg g dg lg cg P G X m
 cc:CcM u Sc cg dg D.n D.blk C mk
 ll:LgM u Sl lg dg P G L ml
 dd:Dv u Sd dg D
 gc:∀ k,Sg k->¬ Sc k
 gl:∀ k,Sg k->¬ Sl k
 gd:∀ k,Sg k->¬ Sd k
 cl:∀ k,Sc k->¬ Sl k
 cd:∀ k,Sc k->¬ Sd k
 ld:∀ k,Sl k->¬ Sd k
 all:∀ k,S k↔(Sg k\/Sc k\/Sl k\/Sd k)
 bd:D.blk=G.blk
 nd:D.n=G.n
 tab:Tab u
 z0:¬ S 1
 seen:Seen m G L
def Gv (u:World) (S:Nat->Prop) (g cg lg dg:Nat) (P:Nat->Int) (G:Geo) (X:Grp) (C:Cac) (L:Lg) (D:Dev):Prop:=∃ Sg Sc Sl Sd m mk ml,jk u S Sg Sc Sl Sd g cg lg dg P G X C L D m mk ml
theorem jk.gv {u S Sg Sc Sl Sd g cg lg dg P G X C L D m mk ml}(h:jk u S Sg Sc Sl Sd g cg lg dg P G X C L D m mk ml):Gv u S g cg lg dg P G X C L D:=⟨Sg,Sc,Sl,Sd,m,mk,ml,h⟩
theorem jk.kv {u S Sg Sc Sl Sd g cg lg dg P G X C L D m mk ml}(h:jk u S Sg Sc Sl Sd g cg lg dg P G X C L D m mk ml):KvM u (fun k=>Sc k\/Sd k) Sc Sd cg dg C D mk :=
 ⟨h.cc,h.dd,h.cd,fun k=>Iff.rfl⟩
theorem jk.lt {u S Sg Sc Sl Sd g cg lg dg P G X C L D m mk ml}(h:jk u S Sg Sc Sl Sd g cg lg dg P G X C L D m mk ml){k:Nat}(hk:S k):k<u.heap.size:=by
 rcases(h.all k).1 hk with x | x | x | x
 ·exact h.gr.lt k x
 ·exact h.cc.lt k x
 ·exact h.ll.lt k x
 ·exact h.dd.lt x
theorem jk.jC {u u':World}{S Sg Sc Sl Sd g cg lg dg P G X C L D m mk ml}(h:jk u S Sg Sc Sl Sd g cg lg dg P G X C L D m mk ml)(hk:∀ k,S k->u'.heap[k]?=u.heap[k]?)(h0:u'.heap[1]?=u.heap[1]?)(hs:u.heap.size<=u'.heap.size):jk u' S Sg Sc Sl Sd g cg lg dg P G X C L D m mk ml :=
 ⟨h.gr.kept (fun k x=>hk k ((h.all k).2 (.inl x))) (fun _ x=>x) (fun k x=>Nat.lt_of_lt_of_le (h.gr.lt k x) hs),h.cc.kept (fun k x=>hk k ((h.all k).2 (.inr (.inl x)))) (fun _ x=>x) (fun k x=>Nat.lt_of_lt_of_le (h.cc.lt k x) hs),
  h.ll.kept (fun k x=>hk k ((h.all k).2 (.inr (.inr (.inl x))))) (fun _ x=>x) (fun k x=>Nat.lt_of_lt_of_le (h.ll.lt k x) hs),h.dd.kept (fun k x=>hk k ((h.all k).2 (.inr (.inr (.inr x))))) hs,h.gc,h.gl,h.gd,h.cl,h.cd,h.ld,h.all,h.bd,h.nd,h.tab.kept h0,h.z0,h.seen⟩
theorem jk.below {u u':World}{S Sg Sc Sl Sd g cg lg dg P G X C L D m mk ml}(h:jk u S Sg Sc Sl Sd g cg lg dg P G X C L D m mk ml)(hb:Below u.heap.size u u'):jk u' S Sg Sc Sl Sd g cg lg dg P G X C L D m mk ml :=
 h.jC (fun k hk=>hb.block k (h.lt hk)) (hb.block 1 h.tab.lt) hb.size
theorem Gv.below {u u':World}{S g cg lg dg P G X C L D}(h:Gv u S g cg lg dg P G X C L D)(hb:Below u.heap.size u u'):Gv u' S g cg lg dg P G X C L D:=by
 obtain⟨_,_,_,_,_,_,_,h⟩:=h
 exact(h.below hb).gv
theorem Gv.lt {u S g cg lg dg P G X C L D}(h:Gv u S g cg lg dg P G X C L D){k:Nat}(hk:S k):k<u.heap.size:=by
 obtain⟨_,_,_,_,_,_,_,h⟩:=h
 exact h.lt hk
theorem Nx.wide {A A' S S':Nat->Prop}{u u'}(hx:Nx A u A' u')(h1:∀ k,A k->S k)(h2:∀ k,k<u.heap.size->S' k->S k):Nx S u S' u' :=
 ⟨⟨hx.fr.os,hx.fr.tape,hx.fr.output,hx.fr.size,fun k hk hn=>hx.fr.block k hk (fun x=>hn (h1 k x))⟩,h2⟩
theorem jk.cache {u u':World}{S Sg Sc Sl Sd S1:Nat->Prop}{g cg lg dg P G X}{C C':Cac}{L}{D D':Dev}{m mk ml}(h:jk u S Sg Sc Sl Sd g cg lg dg P G X C L D m mk ml)
  (hK:Kv u' S1 cg dg C' D') (hx:Nx (fun k=>Sc k\/Sd k) u S1 u') (he:D'.n=D.n/\D'.blk=D.blk) :
  ∃ S' Sc' Sd' mk',jk u' S' Sg Sc' Sl Sd' g cg lg dg P G X C' L D' m mk' ml/\Nx S u S' u'/\(∀ k,S' k->S1 k\/k<u.heap.size):=by
 obtain⟨Sc',Sd',mk',c1,d1,dis,a1⟩:=hK
 have kg:∀ k,Sg k->u'.heap[k]?=u.heap[k]?/\¬ S1 k/\k<u'.heap.size:=fun k hk=>hx.keep (h.gr.lt k hk) (fun x=>by rcases x with x | x;exact h.gc k hk x;exact h.gd k hk x)
 have kl:∀ k,Sl k->u'.heap[k]?=u.heap[k]?/\¬ S1 k/\k<u'.heap.size:=fun k hk=>hx.keep (h.ll.lt k hk) (fun x=>by rcases x with x | x;exact h.cl k x hk;exact h.ld k hk x)
 have k0:=hx.keep h.tab.lt (fun x=>h.z0 ((h.all 1).2 (by rcases x with x | x;exact .inr (.inl x);exact .inr (.inr (.inr x)))))
 refine⟨fun k=>Sg k\/Sc' k\/Sl k\/Sd' k,Sc',Sd',mk',⟨h.gr.kept (fun k hk=>(kg k hk).1) (fun _ x=>x) (fun k hk=>(kg k hk).2.2),c1,h.ll.kept (fun k hk=>(kl k hk).1) (fun _ x=>x) (fun k hk=>(kl k hk).2.2),d1,
  fun k hk x=>(kg k hk).2.1 ((a1 k).2 (.inl x)),h.gl,fun k hk x=>(kg k hk).2.1 ((a1 k).2 (.inr x)),fun k x hk=>(kl k hk).2.1 ((a1 k).2 (.inl x)),dis,fun k hk x=>(kl k hk).2.1 ((a1 k).2 (.inr x)),fun k=>Iff.rfl,he.2.trans h.bd,he.1.trans h.nd,h.tab.kept k0.1,?_,h.seen⟩,?_⟩
 ·rintro (x | x | x | x)
  ·exact h.z0 ((h.all 1).2 (.inl x))
  ·exact k0.2.1 ((a1 1).2 (.inl x))
  ·exact h.z0 ((h.all 1).2 (.inr (.inr (.inl x))))
  ·exact k0.2.1 ((a1 1).2 (.inr x))
 ·have sub:∀ k,k<u.heap.size->S1 k->S k:=fun k hk x=>(h.all k).2 (by rcases hx.sub k hk x with y | y;exact .inr (.inl y);exact .inr (.inr (.inr y)))
  refine⟨hx.wide (fun k x=>(h.all k).2 (by rcases x with y | y;exact .inr (.inl y);exact .inr (.inr (.inr y)))) (fun k hk x=>?_),fun k x=>?_⟩
  ·rcases x with x | x | x | x
   ·exact(h.all k).2 (.inl x)
   ·exact sub k hk ((a1 k).2 (.inl x))
   ·exact(h.all k).2 (.inr (.inr (.inl x)))
   ·exact sub k hk ((a1 k).2 (.inr x))
  ·rcases x with x | x | x | x
   ·exact .inr (h.gr.lt k x)
   ·exact .inl ((a1 k).2 (.inl x))
   ·exact .inr (h.ll.lt k x)
   ·exact .inl ((a1 k).2 (.inr x))
theorem jk.own {u u':World}{S Sg Sg' Sc Sl Sd:Nat->Prop}{g cg lg dg P G}{X X':Grp}{C L D}{m m':aeF}{mk ml}(h:jk u S Sg Sc Sl Sd g cg lg dg P G X C L D m mk ml)
  (hg:GrM u' Sg' g dg lg cg P G X' m') (hx:Nx Sg u Sg' u') (hs:Seen m' G L):∃ S',jk u' S' Sg' Sc Sl Sd g cg lg dg P G X' C L D m' mk ml/\Nx S u S' u'/\(∀ k,S' k↔(Sg' k\/Sc k\/Sl k\/Sd k)):=by
 have kc:∀ k,Sc k->u'.heap[k]?=u.heap[k]?/\¬ Sg' k/\k<u'.heap.size:=fun k hk=>hx.keep (h.cc.lt k hk) (fun x=>h.gc k x hk)
 have kl:∀ k,Sl k->u'.heap[k]?=u.heap[k]?/\¬ Sg' k/\k<u'.heap.size:=fun k hk=>hx.keep (h.ll.lt k hk) (fun x=>h.gl k x hk)
 have kd:∀ k,Sd k->u'.heap[k]?=u.heap[k]?/\¬ Sg' k/\k<u'.heap.size:=fun k hk=>hx.keep (h.dd.lt hk) (fun x=>h.gd k x hk)
 have k0:=hx.keep h.tab.lt (fun x=>h.z0 ((h.all 1).2 (.inl x)))
 refine⟨fun k=>Sg' k\/Sc k\/Sl k\/Sd k,⟨hg,h.cc.kept (fun k hk=>(kc k hk).1) (fun _ x=>x) (fun k hk=>(kc k hk).2.2),h.ll.kept (fun k hk=>(kl k hk).1) (fun _ x=>x) (fun k hk=>(kl k hk).2.2),h.dd.kept (fun k hk=>(kd k hk).1) hx.fr.size,
  fun k hk x=>(kc k x).2.1 hk,fun k hk x=>(kl k x).2.1 hk,fun k hk x=>(kd k x).2.1 hk,h.cl,h.cd,h.ld,fun k=>Iff.rfl,h.bd,h.nd,h.tab.kept k0.1,?_,hs⟩,hx.wide (fun k x=>(h.all k).2 (.inl x)) (fun k hk x=>?_),fun k=>Iff.rfl⟩
 ·rintro (x | x | x | x)
  ·exact k0.2.1 x
  ·exact h.z0 ((h.all 1).2 (.inr (.inl x)))
  ·exact h.z0 ((h.all 1).2 (.inr (.inr (.inl x))))
  ·exact h.z0 ((h.all 1).2 (.inr (.inr (.inr x))))
 ·rcases x with x | x | x | x
  ·exact(h.all k).2 (.inl (hx.sub k hk x))
  ·exact(h.all k).2 (.inr (.inl x))
  ·exact(h.all k).2 (.inr (.inr (.inl x)))
  ·exact(h.all k).2 (.inr (.inr (.inr x)))
theorem agI:∃ j,Tryz.prog.info? 117=some j/\j.size≠0:=by
 have h:(Tryz.prog.info? 117).map (fun i=>decide (i.size=0))=some false:=by kernel_rfl
 cases e:Tryz.prog.info? 117 with
 | none=>rw[e] at h;cases h
 | some j=>rw[e] at h;exact⟨j,rfl,by simpa using h⟩
theorem zl (a:Addr)(w:World):(binOp .neq 28 (.pointer (some a)) (.pointer (some a))).run Tryz.prog w=.ok (.bool false) w:=by
 obtain⟨j,hj,_⟩:=agI
 have h:∀ d:Nat,(Op.equalIn (d+1) 28 (.pointer (some a)) (.pointer (some a))).run Tryz.prog w=.ok true w:=fun d=>by
  simp[Op.equalIn,run_underlying Tryz.underlying28,sizeOf,typeInfo,hj,run_sameAddr_same]
 simp only[binOp]
 simp[Op.equal,Op.maxDepth,h 9999]
theorem ab3 (a:Addr)(w:World):(binOp .neq 28 (.pointer none) (.pointer (some a))).run Tryz.prog w=.ok (.bool true) w:=by
 have h:∀ d:Nat,(Op.equalIn (d+1) 28 (.pointer none) (.pointer (some a))).run Tryz.prog w=.ok false w:=fun d=>by
  simp[Op.equalIn,run_underlying Tryz.underlying28]
 simp only[binOp]
 simp[Op.equal,Op.maxDepth,h 9999]
theorem wB {a b:Addr}{w:World}{ca cb:Array Value}{ta tb:TypeId}(hne:a≠b)(ha:w.heap[a.block]?=some (.cells ca ta (0,0)))(hb:w.heap[b.block]?=some (.cells cb tb (0,0))) :
  (binOp .neq 28 (.pointer (some a)) (.pointer (some b))).run Tryz.prog w=.ok (.bool true) w:=by
 obtain⟨j,hj,hz⟩:=agI
 have h:∀ d:Nat,(Op.equalIn (d+1) 28 (.pointer (some a)) (.pointer (some b))).run Tryz.prog w=.ok false w:=fun d=>by
  simp[Op.equalIn,run_underlying Tryz.underlying28,sizeOf,typeInfo,hj,hz,run_sameAddr_other w hne ha hb]
 simp only[binOp]
 simp[Op.equal,Op.maxDepth,h 9999]
theorem jQ (o g:Nat)(p:Option Addr)(b:Bool)(w:World)(c0:w.cell? ⟨o,0,none⟩=some (.pointer (some ⟨g,0,none⟩)))(c15:w.cell? ⟨g,15,none⟩=some (.pointer p))
  (q:(binOp .neq 28 (.pointer p) (.pointer (some ⟨o,0,none⟩))).run Tryz.prog w=.ok (.bool b) w) :
  Calls Tryz.prog 36 #[.pointer (some ⟨o,0,none⟩)] w fun e w'=>e=.returned (.int .i64 (if b=true then 22 else 0))/\w=w':=by
 cases b with
 | true =>
  go_enter Tryz.func36,Tryz.ntmps36
  go_wp2
  go_ret
  exact⟨rfl,rfl⟩
 | false =>
  go_enter Tryz.func36,Tryz.ntmps36
  go_wp2
  go_ret
  exact⟨rfl,rfl⟩
theorem dZ {u S g dg lg cg P G X m}(h:GrM u S g dg lg cg P G X m){N:Nat->Option Nt}(e:X.N=some N) :
  Calls Tryz.prog 36 #[.pointer (some ⟨X.o,0,none⟩)] u fun e w'=>e=.returned (.int .i64 0)/\u=w':=by
 have c15:=h.cells.2.2.2.2.1
 rw[e] at c15
 exact jQ X.o g _ false u ((h.opn N e).str.cell (i:=0) (by omega)) c15 (zl _ u)
def Over (u:World) (S:Nat->Prop) (g o:Nat):Prop:=u.rowIs o 117 2 (ahy g none)/\¬ S o
theorem Over.lt {u S g o}(h:Over u S g o):o<u.heap.size:=by
 obtain⟨⟨c,hc,_⟩,_⟩:=h
 exact(Array.getElem?_eq_some_iff.1 hc).1
theorem Over.nx {u u':World}{S S':Nat->Prop}{g o}(h:Over u S g o)(hx:Nx S u S' u'):Over u' S' g o:=by
 obtain⟨h1,h2,_⟩:=hx.keep h.lt h.2
 exact⟨h.1.of_block h1,h2⟩
theorem ug {u}{S Sg:Nat->Prop}{g dg lg cg o:Nat}{P G X m}(h:GrM u Sg g dg lg cg P G X m)(hS:∀ k,Sg k->S k)(ho:Over u S g o) :
  Calls Tryz.prog 36 #[.pointer (some ⟨o,0,none⟩)] u fun e w'=>e=.returned (.int .i64 22)/\u=w':=by
 have c15:=h.cells.2.2.2.2.1
 refine jQ o g _ true u (ho.1.cell (i:=0) (by omega)) c15 ?_
 cases e:X.N with
 | none=>exact ab3 _ u
 | some N =>
  obtain⟨c,hc,_⟩:=(h.opn N e).str
  obtain⟨c2,hc2,_⟩:=ho.1
  refine wB (fun ea=>?_) hc hc2
  have:X.o=o:=by simpa using ea
  exact ho.2 (by rw[← this];exact hS _ (h.opn N e).so)
def yg (n:Nat) (b first:Int):Int:=if b<first\/(n:Int)<=b then 2 else 0
theorem fP {u S g dg lg cg P G X m}(h:GrM u S g dg lg cg P G X m)(b first:Int) :
  Calls Tryz.prog 127 #[.pointer (some ⟨g,0,none⟩),.int .i64 b,.int .i64 first] u fun e w'=>e=.returned (.int .i64 (yg G.n b first))/\u=w':=by
 have c4:=h.cells.2.2.2.1 1 (by omega)
 rw[h.pg.p1] at c4
 unfold yg
 clear h
 generalize (G.n:Int)=n at *
 by_cases h1:b<first
 ·rw[if_pos (.inl h1)]
  go_enter Tryz.func127,Tryz.ntmps127
  go_wp2
  go_ret
  exact⟨rfl,rfl⟩
 ·by_cases h2:n<=b
  ·rw[if_pos (.inr h2)]
   go_enter Tryz.func127,Tryz.ntmps127
   go_wp2
   go_ret
   exact⟨rfl,rfl⟩
  ·rw[if_neg (by rintro (h | h);exact h1 h;exact h2 h)]
   go_enter Tryz.func127,Tryz.ntmps127
   go_wp2
   go_ret
   exact⟨rfl,rfl⟩
theorem zh {u u':World}(S:Nat->Prop)(hb:Below u.heap.size u u'):Nx S u (exS S u u') u' :=
 ⟨⟨hb.os,hb.tape,hb.output,hb.size,fun k hk _=>hb.block k hk⟩,fun k hk x=>by rcases x with x | x;exact x;omega⟩
theorem GrM.grow {u u':World}{S g dg lg cg P G X m}(h:GrM u S g dg lg cg P G X m)(hb:Below u.heap.size u u'):GrM u' (exS S u u') g dg lg cg P G X m :=
 h.kept (fun k hk=>hb.block k (h.lt k hk)) (fun k hk=>.inl hk) (fun k hk=>by
  rcases hk with x | x
  ·exact Nat.lt_of_lt_of_le (h.lt k x) hb.size
  ·exact x.2)
theorem lY {u:World}{S:Nat->Prop}{g k:Nat}(hg:S g)(v:Value):Nx S u S (u.setCell ⟨g,k,none⟩ v) :=
 ⟨⟨rfl,rfl,rfl,by simp[World.setCell],fun j hj hn=>Below.heap_setCell _ _ _ _ (fun e=>hn (by rw[e];exact hg))⟩,fun _ _ x=>x⟩
theorem jk.begun {u S Sg Sc Sl Sd g cg lg dg P G X C L D m mk ml}(h:jk u S Sg Sc Sl Sd g cg lg dg P G X C L D m mk ml)(hN:X.N=none) :
  ∃ S',Gv (((u.alloc (.map #[] 0)).alloc (.cells #[.pointer (some ⟨g,0,none⟩),.map (some u.heap.size)] 117)).setCell ⟨g,15,none⟩ (.pointer (some ⟨u.heap.size+1,0,none⟩))) S' g cg lg dg P G { X with N:=some (fun _=>none),o:=u.heap.size+1 } C L D /\
   Nx S u S' (((u.alloc (.map #[] 0)).alloc (.cells #[.pointer (some ⟨g,0,none⟩),.map (some u.heap.size)] 117)).setCell ⟨g,15,none⟩ (.pointer (some ⟨u.heap.size+1,0,none⟩))):=by
 have z1:(u.alloc (.map #[] 0)).heap.size=u.heap.size+1:=by simp
 have b1:Below u.heap.size u (u.alloc (.map #[] 0)):=(Below.refl _ _).alloc (Nat.le_refl _) _
 have b2:Below (u.alloc (.map #[] 0)).heap.size (u.alloc (.map #[] 0)) ((u.alloc (.map #[] 0)).alloc (.cells #[.pointer (some ⟨g,0,none⟩),.map (some u.heap.size)] 117)):=(Below.refl _ _).alloc (Nat.le_refl _) _
 have b3:=b1.trans (b2.mono b1.size)
 have z2:((u.alloc (.map #[] 0)).alloc (.cells #[.pointer (some ⟨g,0,none⟩),.map (some u.heap.size)] 117)).heap.size=u.heap.size+2:=by simp
 have str:=World.rowIs_alloc (u.alloc (.map #[] 0)) #[.pointer (some ⟨g,0,none⟩),.map (some u.heap.size)] 117 (ahy g (some u.heap.size)) (fun i hi=>by
  have h2:i<2:=by simpa using hi
  have:i=0\/i=1:=by omega
  rcases this with rfl | rfl<;>rfl)
 rw[z1] at str
 have mp:iP (kN G.blk) ((u.alloc (.map #[] 0)).alloc (.cells #[.pointer (some ⟨g,0,none⟩),.map (some u.heap.size)] 117)) u.heap.size G.n (fun _=>none):=(iP.made (kN G.blk) u G.n).kept (b2.block _ (by omega))
 have hg:=h.gr.grow b3
 have hx:=zh Sg b3
 generalize ((u.alloc (.map #[] 0)).alloc (.cells #[.pointer (some ⟨g,0,none⟩),.map (some u.heap.size)] 117))=v at *
 have hlb:=h.gr.log.map.lt
 have hfb:=h.gr.fre.map.lt
 have g2:GrM (v.setCell ⟨g,15,none⟩ (.pointer (some ⟨u.heap.size+1,0,none⟩))) (exS Sg u v) g dg lg cg P G { X with N:=some (fun _=>none),o:=u.heap.size+1 } { m with nb:=u.heap.size }:=by
  refine hg.yM _ _ 15 _ (fun j hj=>?_) ⟨rfl,rfl⟩ ⟨rfl,rfl,rfl⟩ (fun N e=>?_) (fun pb e=>hg.aja 15 _ e) hg.pno
  ·rcases sF j hj with rfl | rfl | rfl | ⟨h1,h2⟩ | rfl | rfl | rfl | rfl | rfl | rfl | rfl
   ·simp[dG]
   ·simp[dG]
   ·simp[dG]
   ·simp[dG,show ¬ j=0 by omega,show ¬ j=1 by omega,show ¬ j=2 by omega,h2,show ¬ j=15 by omega]
   all_goals simp[dG]
  ·cases e
   refine⟨str.setOther (fA hg.str str (by decide)) _,⟨(mp.kept (Below.heap_setCell _ _ _ _ (fun e=>mp.ner hg.str e.symm))).congr (fun k hk=>rfl),fun b t _ e=>(by cases e),fun b t _ e=>(by cases e),.inr ⟨Nat.le_refl _,by show u.heap.size<_;omega⟩⟩,.inr ⟨by show u.heap.size<=u.heap.size+1;omega,by show u.heap.size+1<_;omega⟩,?_,?_,?_⟩
   ·show u.heap.size≠m.lb;omega
   ·show u.heap.size≠m.fb;omega
   ·intro e
    have:=(h.gr.pen _ e).map.lt
    exact absurd this (by show ¬ u.heap.size<u.heap.size;omega)
 obtain⟨S',a1,n1,_⟩:=h.own g2 (hx.trans (lY hg.sg _)) h.seen
 exact⟨S',a1.gv,n1⟩
theorem Gv.so {u S g cg lg dg P G X C L D}(h:Gv u S g cg lg dg P G X C L D){N:Nat->Option Nt}(e:X.N=some N):S X.o:=by
 obtain⟨Sg,Sc,Sl,Sd,m,mk,ml,h⟩:=h
 exact(h.all _).2 (.inl (h.gr.opn N e).so)
theorem agr {u S g cg lg dg P G X C L D}(h:Gv u S g cg lg dg P G X C L D)(hN:X.N=none) :
  Calls Tryz.prog 21 #[.pointer (some ⟨g,0,none⟩)] u fun e w'=>∃ o,e=.returned (.tuple #[.pointer (some ⟨o,0,none⟩),.int .i64 0])/\Hid (∃ S',Gv w' S' g cg lg dg P G { X with N:=some (fun _=>none),o:=o } C L D/\Nx S u S' w'/\u.heap.size<=o/\S' o):=by
 obtain⟨Sg,Sc,Sl,Sd,m,mk,ml,h⟩:=h
 have c15:=h.gr.cells.2.2.2.2.1
 rw[hN] at c15
 simp only[Option.map_none] at c15
 have F:=hide (h.begun hN)
 have aoe:((u.alloc (.map #[] 0)).alloc (.cells #[.pointer (some ⟨g,0,none⟩),.map (some u.heap.size)] 117)).cell? ⟨g,15,none⟩=some (.pointer none):=by
  have b1:Below u.heap.size u ((u.alloc (.map #[] 0)).alloc (.cells #[.pointer (some ⟨g,0,none⟩),.map (some u.heap.size)] 117)):=((Below.refl _ _).alloc (Nat.le_refl _) _).alloc (by simp) _
  have:=b1.block g (h.gr.lt _ h.gr.sg)
  simp only[World.cell?] at c15 ⊢
  rw[this];exact c15
 have fz:∀ w:World,w.heap[g]?=u.heap[g]?->w.frozen? ⟨g,15,none⟩=false:=fun w hw=>by
  have:=h.gr.str.frozen 15
  simp only[World.frozen?] at this ⊢
  rw[hw];exact this
 have fz1:=fz ((u.alloc (.map #[] 0)).alloc (.cells #[.pointer (some ⟨g,0,none⟩),.map (some u.heap.size)] 117)) ((((Below.refl _ _).alloc (Nat.le_refl _) _).alloc (by simp) _:Below u.heap.size u _).block g (h.gr.lt _ h.gr.sg))
 have hmm:=@run_makeMap Tryz.prog
 clear h fz
 go_enter Tryz.func21,Tryz.ntmps21
 go_wp2
 go_ret2
 obtain⟨S',h1,h2⟩:=ah F
 exact⟨_,rfl,S',h1,h2,Nat.le_succ _,h1.so rfl⟩
theorem jk.shut {u S Sg Sc Sl Sd g cg lg dg P G X C L D m mk ml}(h:jk u S Sg Sc Sl Sd g cg lg dg P G X C L D m mk ml){N:Nat->Option Nt}(eN:X.N=some N) :
  ∃ S',Gv ((u.setCell ⟨g,15,none⟩ (.pointer none)).setCell ⟨X.o,1,none⟩ (.map none)) S' g cg lg dg P G { X with N:=none } C L D/\Nx S u S' ((u.setCell ⟨g,15,none⟩ (.pointer none)).setCell ⟨X.o,1,none⟩ (.map none))/\Over ((u.setCell ⟨g,15,none⟩ (.pointer none)).setCell ⟨X.o,1,none⟩ (.map none)) S' g X.o:=by
 have g1:GrM (u.setCell ⟨g,15,none⟩ (.pointer none)) Sg g dg lg cg P G { X with N:=none } m:=by
  refine h.gr.yM _ _ 15 _ (fun j hj=>?_) ⟨rfl,rfl⟩ ⟨rfl,rfl,rfl⟩ (fun N e=>by cases e) (fun pb e=>h.gr.aja 15 _ e) h.gr.pno
  rcases sF j hj with rfl | rfl | rfl | ⟨h1,h2⟩ | rfl | rfl | rfl | rfl | rfl | rfl | rfl
  ·simp[dG]
  ·simp[dG]
  ·simp[dG]
  ·simp[dG,show ¬ j=0 by omega,show ¬ j=1 by omega,show ¬ j=2 by omega,h2,show ¬ j=15 by omega]
  all_goals simp[dG]
 have ho:=h.gr.opS 15 (.pointer none) eN
 have x1:=lY (u:=u) (k:=15) h.gr.sg (.pointer none)
 generalize u.setCell ⟨g,15,none⟩ (.pointer none)=v at *
 have ne:∀ k' c t,t≠117->v.heap[k']?=some (Obj.cells c t)->(v.setCell ⟨X.o,1,none⟩ (.map none)).heap[k']?=v.heap[k']?:=fun k' c t ht hh =>
  Below.heap_setCell _ _ _ _ (row_ne ho.str hh (fun e=>ht e.symm))
 have nr:∀ k' c,v.heap[k']?=some (Obj.cells c 5)->k'≠X.o:=fun k' c hh=>row_ne ho.str hh (by decide)
 have s1:∀ k,(Sg k/\k≠X.o)->k<(v.setCell ⟨X.o,1,none⟩ (.map none)).heap.size:=fun k hk=>by simpa [World.setCell] using g1.lt k hk.1
 have hlo:m.lb≠X.o:=fun e=>g1.log.map.ner ho.str e.symm
 have hfo:m.fb≠X.o:=fun e=>g1.fre.map.ner ho.str e.symm
 have g2:GrM (v.setCell ⟨X.o,1,none⟩ (.map none)) (fun k=>Sg k/\k≠X.o) g dg lg cg P G { X with N:=none } m :=
  ⟨g1.str.setOther (fA ho.str g1.str (by decide)) _,g1.log.keep (Below.heap_setCell _ _ _ _ hlo) (fun k' c _ hx=>ne k' c 5 (by decide) hx) (fun k' c x hx=>⟨x,nr k' c hx⟩) ⟨g1.log.sm,hlo⟩,
   g1.fre.keep (Below.heap_setCell _ _ _ _ hfo) ⟨g1.fre.sm,hfo⟩,fun N e=>(by cases e),fun pb e=>(by
   have hp:=g1.pen pb e
   have hpo:pb≠X.o:=fun e=>hp.map.ner ho.str e.symm
   exact hp.keep (Below.heap_setCell _ _ _ _ hpo) (fun k' c _ hx=>ne k' c 5 (by decide) hx) (fun k' c x hx=>⟨x,nr k' c hx⟩) ⟨hp.sm,hpo⟩),g1.pno,⟨g1.sg,fA ho.str g1.str (by decide)⟩,g1.lf,g1.lp,g1.fp,s1,g1.pg,g1.da⟩
 have x2:Nx Sg v (fun k=>Sg k/\k≠X.o) (v.setCell ⟨X.o,1,none⟩ (.map none)) :=
  ⟨⟨rfl,rfl,rfl,by simp[World.setCell],fun j hj hn=>Below.heap_setCell _ _ _ _ (fun e=>hn (by rw[e];exact ho.so))⟩,fun _ _ x=>x.1⟩
 obtain⟨S',a1,n1,e1⟩:=h.own g2 (x1.trans x2) h.seen
 refine⟨S',a1.gv,n1,(ho.str.set 1 _).congr (fun i hi=>?_),fun x=>?_⟩
 ·have:i=0\/i=1:=by omega
  rcases this with rfl | rfl<;>rfl
 ·have so:=(h.gr.opn N eN).so
  rcases(e1 _).1 x with y | y | y | y
  ·exact y.2 rfl
  ·exact h.gc _ so y
  ·exact h.gl _ so y
  ·exact h.gd _ so y
theorem close_any {u S g cg lg dg P G X C L D}(h:Gv u S g cg lg dg P G X C L D){N:Nat->Option Nt}(eN:X.N=some N) :
  Calls Tryz.prog 37 #[.pointer (some ⟨X.o,0,none⟩)] u fun e w'=>e=.returned (.tuple #[])/\Hid (∃ S',Gv w' S' g cg lg dg P G { X with N:=none } C L D/\Nx S u S' w'/\Over w' S' g X.o):=by
 obtain⟨Sg,Sc,Sl,Sd,m,mk,ml,h⟩:=h
 have ho:=h.gr.opn N eN
 have o0:u.cell? ⟨X.o,0,none⟩=some (.pointer (some ⟨g,0,none⟩)):=ho.str.cell (i:=0) (by omega)
 have c15:=h.gr.cells.2.2.2.2.1
 have f15:=h.gr.str.frozen 15
 have ne:g≠X.o:=fA ho.str h.gr.str (by decide)
 have o1b:(u.setCell ⟨g,15,none⟩ (.pointer none)).cell? ⟨X.o,1,none⟩=some (.map (some m.nb)):=(ho.str.setOther (a:=⟨g,15,none⟩) ne.symm (.pointer none)).cell (i:=1) (by omega)
 have f1b:(u.setCell ⟨g,15,none⟩ (.pointer none)).frozen? ⟨X.o,1,none⟩=false:=(ho.str.setOther (a:=⟨g,15,none⟩) ne.symm (.pointer none)).frozen 1
 have F:=hide (h.shut eN)
 rw[eN] at c15
 simp only[Option.map_some] at c15
 clear h ho
 generalize X.o=o at *
 go_enter Tryz.func37,Tryz.ntmps37
 go_wp2
 go_end0
 exact⟨rfl,ah F⟩
def iQ (N:Nat->Option Nt) (b:Nat) (t:Nt):Nat->Option Nt:=fun j=>if j=b then some t else N j
theorem jk.noted {u S Sg Sc Sl Sd g cg lg dg P G X C L D m mk ml}(h:jk u S Sg Sc Sl Sd g cg lg dg P G X C L D m mk ml){N:Nat->Option Nt}(eN:X.N=some N){b:Nat}(hb:b<G.n)(t:Nt)(ht:t.k=1\/t.k=2\/t.k=3)
  {v:World} (hv:Below u.heap.size u v) (r:Nat×Nat) (hr:t.k≠3->bP v (fun k=>u.heap.size<=k/\k<v.heap.size) G.blk r t.z) :
  ∃ v',(Instr.mapUpdate 115 (.map (some m.nb)) (.int .i64 (b:Int)) (nv G.blk (t.k,r))).run Tryz.prog v=.ok () v'/\∃ S',Gv v' S' g cg lg dg P G { X with N:=some (iQ N b t) } C L D/\Nx S u S' v':=by
 have g1:=h.gr.grow hv
 have o1:=g1.opn N eN
 obtain⟨v',r1,n1,T⟩:=o1.nts.put h.gr.pg.ok.n2 hb t r ht (fun h3=>(hr h3).kept (fun _ _ _ _=>rfl) (fun k x=>.inr x))
 have g2:=g1.akS eN T n1
 obtain⟨S',a1,x1,_⟩:=h.own g2 ((zh Sg hv).trans (T.nx o1.nts.sm)) h.seen
 exact⟨v',r1,S',a1.gv,x1⟩
def notE (G:Geo) (b first:Int) (len:Nat):Int:=if yg G.n b first=0 then (if len=G.blk then 0 else 1) else 2
theorem jk.ru {u S Sg Sc Sl Sd g cg lg dg P G X C L D m mk ml}(h:jk u S Sg Sc Sl Sd g cg lg dg P G X C L D m mk ml){N:Nat->Option Nt}(eN:X.N=some N) :
  u.cell? ⟨X.o,0,none⟩=some (.pointer (some ⟨g,0,none⟩))/\u.cell? ⟨X.o,1,none⟩=some (.map (some m.nb))/\u.cell? ⟨g,3,none⟩=some (.int .i64 (G.blk:Int))/\u.cell? ⟨g,8,none⟩=some (.int .i64 (G.ib:Int))/\u.cell? ⟨g,14,none⟩=some (.int .i64 (P 11)):=by
 have cp:=h.gr.cells.2.2.2.1
 have c3:=cp 0 (by omega)
 have c8:=cp 5 (by omega)
 have c14:=cp 11 (by omega)
 rw[h.gr.pg.p0] at c3
 rw[h.gr.pg.p5] at c8
 exact⟨(h.gr.opn N eN).str.cell (i:=0) (by omega),(h.gr.opn N eN).str.cell (i:=1) (by omega),c3,c8,c14⟩
theorem vZ {u S g cg lg dg P G X C L D}(h:Gv u S g cg lg dg P G X C L D){N:Nat->Option Nt}(eN:X.N=some N)(b first:Int)(hf:0<=first)(k:Nat)(hk:k=1\/k=2)(a:Option Addr)(len cap:Nat)(zs:List Int)(hr:Row u.heap.size u a len cap zs) :
  Calls Tryz.prog 84 #[.pointer (some ⟨X.o,0,none⟩),.int .i64 b,.int .i64 first,.agg #[.int .i64 (k:Int),.slice a len cap]] u fun e w'=>e=.returned (.int .i64 (notE G b first len)) /\
   Hid (∃ S',Gv w' S' g cg lg dg P G (if notE G b first len=0 then { X with N:=some (iQ N b.toNat ⟨k,zs⟩) } else X) C L D/\Nx S u S' w'):=by
 obtain⟨Sg,Sc,Sl,Sd,m,mk,ml,h⟩:=h
 have hbk:=h.gr.pg.ok.blk
 have B0:Below u.heap.size u (u.alloc (.cells #[.int .i64 (k:Int),.slice a len cap] 152)):=(Below.refl _ _).alloc (Nat.le_refl _) _
 have h0:=h.below B0
 have K1:=hide (fP h0.gr b first)
 obtain⟨o0,o1,c3,_,_⟩:=h0.ru eN
 have BX:=hide (Bl.new u #[.int .i64 (k:Int),.slice a len cap] 152)
 have HB:=hide B0
 have X0:Hid (∀ w',Below u.heap.size u w'->∃ S',Gv w' S' g cg lg dg P G X C L D/\Nx S u S' w'):=fun w' hb=>⟨S,(h.below hb).gv,(Nx.refl S u).below' hb⟩
 unfold notE
 by_cases hR:yg G.n b first=0
 ·rw[hR] at K1
  rw[if_pos hR]
  by_cases hL:len=G.blk
  ·rw[if_pos hL,if_pos rfl]
   have hbb:0<=b/\b<G.n:=by
    unfold yg at hR
    by_cases hx:b<first\/(G.n:Int)<=b
    ·rw[if_pos hx] at hR;omega
    ·omega
   obtain⟨bn,rfl⟩:∃ bn:Nat,b=bn:=⟨b.toNat,by omega⟩
   have hbn:bn<G.n:=by omega
   obtain⟨xb,xo,rfl,_⟩:=hr.2.2.2.2 (by omega)
   have KC:Hid (∀ v,Below u.heap.size u v->Calls Tryz.prog 125 #[.slice (some ⟨xb,xo,none⟩) len cap] v fun e w1=>∃ a1 c1,e=.returned (.slice (some ⟨a1,0,none⟩) len c1)/\Hid (Below v.heap.size v w1/\v.heap.size<=a1/\bP w1 (fun k=>v.heap.size<=k/\k<w1.heap.size) len (a1,c1) zs)):=fun v hv=>by
    have hrv:Has v (some ⟨xb,xo,none⟩) len zs:=hr.has.later hv
    refine(iO ⟨xb,xo,none⟩ len cap zs v hrv (by omega)).mono ?_
    rintro e w1 ⟨a1,c1,rfl,ow,bw⟩
    obtain⟨kk,rfl,ra,l1,l2⟩:=ow.rowAt (by omega) hr.2.2.2.1 (S:=fun k=>v.heap.size<=k/\k<w1.heap.size) (fun k h1 h2=>⟨h1,h2⟩)
    exact⟨kk,c1,rfl,bw,l1,ra⟩
   have KN:Hid (∀ (v:World) (r:Nat×Nat),Below u.heap.size u v->bP v (fun k=>u.heap.size<=k/\k<v.heap.size) G.blk r zs->∃ v',(Instr.mapUpdate 115 (.map (some m.nb)) (.int .i64 (bn:Int)) (.agg #[.int .i64 (k:Int),.slice (some ⟨r.1,0,none⟩) G.blk r.2])).run Tryz.prog v=.ok () v'/\Hid (∃ S',Gv v' S' g cg lg dg P G { X with N:=some (iQ N bn ⟨k,zs⟩) } C L D/\Nx S u S' v')):=fun v r hv hrr=>by
    obtain⟨v',r1,X1⟩:=h.noted eN hbn ⟨k,zs⟩ (by rcases hk with hk | hk;exact .inl hk;exact .inr (.inl hk)) hv r (fun _=>hrr)
    have e3:¬ k=3:=by omega
    simp only[nv,if_neg e3] at r1
    exact⟨v',r1,X1⟩
   have b1:(u.alloc (.cells #[.int .i64 (k:Int),.slice (some ⟨xb,xo,none⟩) len cap] 152)).cell? ⟨u.heap.size,1,none⟩=some (.slice (some ⟨xb,xo,none⟩) len cap):=(ah BX).cell 1 _ rfl
   have KE:Hid (∀ (v v1:World) (a1 c1:Nat),Below u.heap.size u v->Below v.heap.size v v1->v.heap.size<=a1->bP v1 (fun k=>v.heap.size<=k/\k<v1.heap.size) len (a1,c1) zs->Bl v u.heap.size #[.int .i64 (k:Int),.slice (some ⟨xb,xo,none⟩) len cap] 152 ->
     v1.cell? ⟨u.heap.size,1,none⟩=some (.slice (some ⟨xb,xo,none⟩) len cap)/\v1.frozen? ⟨u.heap.size,1,none⟩=false/\(v1.setCell ⟨u.heap.size,1,none⟩ (.slice (some ⟨a1,0,none⟩) len c1)).cell? ⟨u.heap.size,0,none⟩=some (.int .i64 (k:Int))/\(v1.setCell ⟨u.heap.size,1,none⟩ (.slice (some ⟨a1,0,none⟩) len c1)).cell? ⟨u.heap.size,1,none⟩=some (.slice (some ⟨a1,0,none⟩) len c1) /\
     (v1.setCell ⟨u.heap.size,1,none⟩ (.slice (some ⟨a1,0,none⟩) len c1)).cell? ⟨X.o,1,none⟩=some (.map (some m.nb)) /\
     ∃ v',(Instr.mapUpdate 115 (.map (some m.nb)) (.int .i64 (bn:Int)) (.agg #[.int .i64 (k:Int),.slice (some ⟨a1,0,none⟩) len c1])).run Tryz.prog (v1.setCell ⟨u.heap.size,1,none⟩ (.slice (some ⟨a1,0,none⟩) len c1)).drew=.ok () v'/\Hid (∃ S',Gv v' S' g cg lg dg P G { X with N:=some (iQ N bn ⟨k,zs⟩) } C L D/\Nx S u S' v')):=by
    intro v v1 a1 c1 hv h1 hl hR1 hBl
    have hlt:u.heap.size<v.heap.size:=hBl.lt
    have hB1:Bl v1 u.heap.size #[.int .i64 (k:Int),.slice (some ⟨xb,xo,none⟩) len cap] 152:=hBl.call h1
    have hB2:=hB1.set 1 (.slice (some ⟨a1,0,none⟩) len c1)
    have hv1:=hv.trans (h1.mono hv.size)
    have hv2:Below u.heap.size u (v1.setCell ⟨u.heap.size,1,none⟩ (.slice (some ⟨a1,0,none⟩) len c1)):=hv1.setCell (p:=⟨u.heap.size,1,none⟩) (Nat.le_refl _) _
    have e1:=(h.below hv2).ru eN
    have hR2:bP (v1.setCell ⟨u.heap.size,1,none⟩ (.slice (some ⟨a1,0,none⟩) len c1)).drew (fun k=>u.heap.size<=k/\k<(v1.setCell ⟨u.heap.size,1,none⟩ (.slice (some ⟨a1,0,none⟩) len c1)).drew.heap.size) G.blk (a1,c1) zs:=by
     rw[← hL]
     refine hR1.kept (fun j c hj hc=>?_) (fun j hj=>⟨by have:=hv.size;omega,?_⟩)
     ·show (v1.setCell ⟨u.heap.size,1,none⟩ (.slice (some ⟨a1,0,none⟩) len c1)).heap[j]?=_
      exact Below.heap_setCell _ _ _ _ (by show j≠u.heap.size;omega)
     ·show j<(v1.setCell ⟨u.heap.size,1,none⟩ (.slice (some ⟨a1,0,none⟩) len c1)).heap.size
      have:(v1.setCell ⟨u.heap.size,1,none⟩ (.slice (some ⟨a1,0,none⟩) len c1)).heap.size=v1.heap.size:=by simp[World.setCell]
      omega
    have q:=ah KN (v1.setCell ⟨u.heap.size,1,none⟩ (.slice (some ⟨a1,0,none⟩) len c1)).drew (a1,c1) hv2.drew hR2
    rw[← hL] at q
    exact⟨hB1.cell 1 _ rfl,hB1.free 1,hB2.cell 0 _ rfl,hB2.cell 1 _ rfl,e1.2.1,q⟩
   have BD:Hid (∀ q,Below u.heap.size u ((u.alloc (.cells #[.int .i64 (k:Int),.slice (some ⟨xb,xo,none⟩) len cap] 152)).drewN q)):=fun q=>below_drewN B0 q
   have BY:Hid (∀ q,Bl ((u.alloc (.cells #[.int .i64 (k:Int),.slice (some ⟨xb,xo,none⟩) len cap] 152)).drewN q) u.heap.size #[.int .i64 (k:Int),.slice (some ⟨xb,xo,none⟩) len cap] 152):=fun q=>ah BX
   clear KN h h0 hr hbk B0 X0 BX HB
   rw[← hL] at c3
   clear hL hR hbb hbn
   have HT:Hid ((bn:Int).toNat=bn):=by
    show ((bn:Int).toNat=bn)
    simp
   generalize m.nb=nb at *
   generalize X.o=o at *
   generalize (k:Int)=ki at *
   generalize (bn:Int)=bi at *
   go_enter Tryz.func84,Tryz.ntmps84
   go_wp2_with fail
   go_at_call 127
   refine(ah K1).mono ?_
   rintro e w1 ⟨rfl,rfl⟩
   clear K1
   go_upto_region 4 with fail
   generalize u.alloc (.cells #[.int .i64 ki,.slice (some ⟨xb,xo,none⟩) len cap] 152)=w0 at *
   generalize u.heap.size=gb at *
   go_quiet (fail)
   rename_i nq
   have BD1:=hide (ah BD nq)
   have BY1:=hide (ah BY nq)
   have b1':(w0.drewN nq).cell? ⟨gb,1,none⟩=some (.slice (some ⟨xb,xo,none⟩) len cap):=b1
   have KC1:=hide (ah KC (w0.drewN nq) (ah BD1))
   clear KC BD BY b1 o0 c3
   generalize w0.drewN nq=v at *
   go_wp2_with fail
   go_at_call 125
   refine(ah KC1).mono ?_
   rintro e v1 ⟨a1,c1,rfl,Y⟩
   obtain⟨y1,y2,y3,y4,y5,v',r',Z⟩:=ah KE v v1 a1 c1 (ah BD1) (ah Y).1 (ah Y).2.1 (ah Y).2.2 (ah BY1)
   clear KC1 KE Y BD1 BY1 b1' o1
   go_upto_region 7 with fail
   generalize v1.setCell ⟨gb,1,none⟩ (.slice (some ⟨a1,0,none⟩) len c1)=v2 at *
   go_region
   go_wp2_with fail
   go_ret
   exact⟨rfl,by rw[ah HT];exact ah Z⟩
  ·rw[if_neg hL,if_neg (by omega)]
   have b1:(u.alloc (.cells #[.int .i64 (k:Int),.slice a len cap] 152)).cell? ⟨u.heap.size,1,none⟩=some (.slice a len cap):=(ah BX).cell 1 _ rfl
   have d1:((len:Int) != (G.blk:Int))=true:=by simpa using fun e:(len:Int)=G.blk=>hL (by omega)
   have Z:Hid (∀ q,∃ S',Gv ((u.alloc (.cells #[.int .i64 (k:Int),.slice a len cap] 152)).drewN q) S' g cg lg dg P G X C L D/\Nx S u S' ((u.alloc (.cells #[.int .i64 (k:Int),.slice a len cap] 152)).drewN q)):=fun q=>ah X0 _ (below_drewN B0 q)
   clear h h0 hr hbk B0 X0 HB BX
   generalize (G.blk:Int)=bb at *
   generalize (k:Int)=ki at *
   go_enter Tryz.func84,Tryz.ntmps84
   go_wp2_with fail
   go_at_call 127
   refine(ah K1).mono ?_
   rintro e w1 ⟨rfl,rfl⟩
   clear K1
   go_upto_region 4 with fail
   go_quiet (fail)
   go_wp2_with fail
   go_ret
   exact⟨rfl,ah Z _⟩
 ·have e2:yg G.n b first=2:=by
   unfold yg at hR ⊢
   split
   ·rfl
   ·rename_i hx;rw[if_neg hx] at hR;exact absurd rfl hR
  rw[e2] at K1
  rw[if_neg hR,if_neg (by omega)]
  have Z:=hide (ah X0 _ B0)
  clear h h0 hr hbk B0 X0
  generalize (k:Int)=ki at *
  go_enter Tryz.func84,Tryz.ntmps84
  go_wp2_with fail
  go_at_call 127
  refine(ah K1).mono ?_
  rintro e w1 ⟨rfl,rfl⟩
  go_wp2_with fail
  go_ret
  exact⟨rfl,ah Z⟩
theorem abu {u S g cg lg dg P G X C L D}(h:Gv u S g cg lg dg P G X C L D){N:Nat->Option Nt}(eN:X.N=some N)(b:Int)(a:Option Addr)(len cap:Nat)(zs:List Int)(hr:Row u.heap.size u a len cap zs) :
  Calls Tryz.prog 51 #[.pointer (some ⟨X.o,0,none⟩),.int .i64 b,.slice a len cap] u fun e w'=>e=.returned (.int .i64 (notE G b ((G.ib:Int)) len)) /\
   Hid (∃ S',Gv w' S' g cg lg dg P G (if notE G b ((G.ib:Int)) len=0 then { X with N:=some (iQ N b.toNat ⟨1,zs⟩) } else X) C L D/\Nx S u S' w'):=by
 have hp:0<=(G.ib:Int):=by
  obtain⟨_,_,_,_,_,_,_,h⟩:=h
  have:=h.gr.da
  omega
 have K2:=hide (vZ h eN b ((G.ib:Int)) hp 1 (by omega) a len cap zs hr)
 have K1:Hid (Calls Tryz.prog 36 #[.pointer (some ⟨X.o,0,none⟩)] u fun e w'=>e=.returned (.int .i64 0)/\u=w'):=by
  obtain⟨_,_,_,_,_,_,_,h⟩:=h
  exact dZ h.gr eN
 obtain⟨o0,c5⟩:u.cell? ⟨X.o,0,none⟩=some (.pointer (some ⟨g,0,none⟩))/\u.cell? ⟨g,8,none⟩=some (.int .i64 ((G.ib:Int))):=by
  obtain⟨_,_,_,_,_,_,_,h⟩:=h
  obtain⟨o0,_,_,c8,c14⟩:=h.ru eN
  exact⟨o0,c8⟩
 clear h hr hp
 have e1:(((1:Nat)):Int)=1:=rfl
 rw[e1] at K2
 clear e1
 generalize (if notE G b ((G.ib:Int)) len=0 then { X with N:=some (iQ N b.toNat ⟨1,zs⟩) } else X)=X' at *
 generalize notE G b ((G.ib:Int)) len=eE at *
 generalize ((G.ib:Int))=fi at *
 generalize X.o=o at *
 go_enter Tryz.func51,Tryz.ntmps51
 go_wp2_with fail
 go_at_call 36
 refine(ah K1).mono ?_
 rintro e w1 ⟨rfl,rfl⟩
 clear K1
 go_wp2_with fail
 go_at_call 84
 refine(ah K2).mono ?_
 rintro e w1 ⟨rfl,Z⟩
 clear K2
 go_wp2_with fail
 go_ret
 exact⟨rfl,Z⟩
theorem abv {u S g cg lg dg P G X C L D}(h:Gv u S g cg lg dg P G X C L D){o:Nat}(ho:Over u S g o)(b:Value) :
  Calls Tryz.prog 83 #[.pointer (some ⟨o,0,none⟩),b] u fun e w'=>e=.returned (.tuple #[.slice none 0 0,.int .i64 22])/\u=w':=by
 have K:Hid (Calls Tryz.prog 36 #[.pointer (some ⟨o,0,none⟩)] u fun e w'=>e=.returned (.int .i64 22)/\u=w'):=by
  obtain⟨Sg,_,_,_,_,_,_,h⟩:=h
  exact ug h.gr (fun k hk=>(h.all k).2 (.inl hk)) ho
 clear h ho
 go_enter Tryz.func83,Tryz.ntmps83
 go_wp2_with (go_at_call 36;refine(ah K).mono ?_;rintro e w' ⟨rfl,rfl⟩)
 go_ret2
 exact⟨rfl,rfl⟩
theorem aby {u S g cg lg dg P G X C L D}(h:Gv u S g cg lg dg P G X C L D){N:Nat->Option Nt}(eN:X.N=some N) :
  Calls Tryz.prog 12 #[.pointer (some ⟨X.o,0,none⟩)] u fun e w'=>e=.returned (.int .i64 0)/\Hid (∃ S',Gv w' S' g cg lg dg P G { X with N:=none } C L D/\Nx S u S' w'/\Over w' S' g X.o):=by
 have K1:Hid (Calls Tryz.prog 36 #[.pointer (some ⟨X.o,0,none⟩)] u fun e w'=>e=.returned (.int .i64 0)/\u=w'):=by
  obtain⟨_,_,_,_,_,_,_,h⟩:=h
  exact dZ h.gr eN
 have K2:=hide (close_any h eN)
 clear h
 generalize { X with N:=none }=X' at *
 generalize X.o=o at *
 go_enter Tryz.func12,Tryz.ntmps12
 go_wp2_with (first | (go_at_call 36;refine(ah K1).mono ?_;rintro e w' ⟨rfl,rfl⟩;clear K1) | (go_at_call 37;refine(ah K2).mono ?_;rintro e w1 ⟨rfl,Z⟩;clear K2))
 go_ret
 exact⟨rfl,Z⟩
def SX (S S':Nat->Prop) (w:World):Prop:=∀ k,S' k->S k\/∃ c,w.heap[k]?=some (.cells c 5)
theorem jk.aji {u S Sg Sc Sl Sd g cg lg dg P G X C L D m mk ml}(h:jk u S Sg Sc Sl Sd g cg lg dg P G X C L D m mk ml){N:Nat->Option Nt}(eN:X.N=some N){b:Nat}(hb:b<G.n)(t:Nt)(ht:t.k=1\/t.k=2\/t.k=3)
  {v:World} (hv:Below u.heap.size u v) (r:Nat×Nat) (hr:t.k≠3->bP v (fun k=>u.heap.size<=k/\k<v.heap.size) G.blk r t.z) :
  ∃ v',(Instr.mapUpdate 115 (.map (some m.nb)) (.int .i64 (b:Int)) (nv G.blk (t.k,r))).run Tryz.prog v=.ok () v'/\∃ S',Gv v' S' g cg lg dg P G { X with N:=some (iQ N b t) } C L D/\Nx S u S' v'/\SX S S' v':=by
 obtain⟨T0,hT0⟩:∃ T0:Nat->Prop,T0=fun k=>Sg k\/(t.k≠3/\k=r.1):=⟨_,rfl⟩
 have new:∀ k,T0 k->Sg k\/(u.heap.size<=k/\k<v.heap.size/\∃ c,v.heap[k]?=some (.cells c 5)):=fun k hk=>by
  rw[hT0] at hk
  rcases hk with x | ⟨x,e⟩
  ·exact .inl x
  ·obtain⟨⟨_,cur,hg,_⟩,⟨h2,h3⟩,_⟩:=hr x
   rw[← e] at hg h2 h3
   exact .inr ⟨h2,h3,cur,hg⟩
 have g1:GrM v T0 g dg lg cg P G X m:=h.gr.kept (fun k hk=>hv.block k (h.gr.lt k hk)) (fun k hk=>by rw[hT0];exact .inl hk) (fun k hk=>by
  rcases new k hk with x | x
  ·exact Nat.lt_of_lt_of_le (h.gr.lt k x) hv.size
  ·exact x.2.1)
 have nx0:Nx Sg u T0 v:=⟨⟨hv.os,hv.tape,hv.output,hv.size,fun k hk _=>hv.block k hk⟩,fun k hk x=>by
  rcases new k x with y | y
  ·exact y
  ·omega⟩
 have o1:=g1.opn N eN
 obtain⟨v',r1,n1,T⟩:=o1.nts.put h.gr.pg.ok.n2 hb t r ht (fun h3=>by
  have hR:=hr h3
  obtain⟨h1,h2,h4,h5,h6⟩:=hR
  exact⟨h1,by rw[hT0];exact .inr ⟨h3,rfl⟩,h4,h5,h6⟩)
 have g2:=g1.akS eN T n1
 obtain⟨S',a1,x1,e1⟩:=h.own g2 (nx0.trans (T.nx o1.nts.sm)) h.seen
 refine⟨v',r1,S',a1.gv,x1,fun k hk=>?_⟩
 rcases(e1 k).1 hk with x | x | x | x
 ·rcases new k x with y | ⟨_,_,c,y⟩
  ·exact .inl ((h.all k).2 (.inl y))
  ·exact .inr ⟨c,(T.cells y).trans y⟩
 ·exact .inl ((h.all k).2 (.inr (.inl x)))
 ·exact .inl ((h.all k).2 (.inr (.inr (.inl x))))
 ·exact .inl ((h.all k).2 (.inr (.inr (.inr x))))
theorem adt {u S g cg lg dg P G X C L D}(h:Gv u S g cg lg dg P G X C L D){N:Nat->Option Nt}(eN:X.N=some N)(b first:Int)(hf:0<=first)(k:Nat)(hk:k=1\/k=2)(a:Option Addr)(len cap:Nat)(zs:List Int)(hr:Row u.heap.size u a len cap zs) :
  Calls Tryz.prog 84 #[.pointer (some ⟨X.o,0,none⟩),.int .i64 b,.int .i64 first,.agg #[.int .i64 (k:Int),.slice a len cap]] u fun e w'=>e=.returned (.int .i64 (notE G b first len)) /\
   Hid (∃ S',Gv w' S' g cg lg dg P G (if notE G b first len=0 then { X with N:=some (iQ N b.toNat ⟨k,zs⟩) } else X) C L D/\Nx S u S' w'/\SX S S' w'):=by
 obtain⟨Sg,Sc,Sl,Sd,m,mk,ml,h⟩:=h
 have hbk:=h.gr.pg.ok.blk
 have B0:Below u.heap.size u (u.alloc (.cells #[.int .i64 (k:Int),.slice a len cap] 152)):=(Below.refl _ _).alloc (Nat.le_refl _) _
 have h0:=h.below B0
 have K1:=hide (fP h0.gr b first)
 obtain⟨o0,o1,c3,_,_⟩:=h0.ru eN
 have BX:=hide (Bl.new u #[.int .i64 (k:Int),.slice a len cap] 152)
 have HB:=hide B0
 have X0:Hid (∀ w',Below u.heap.size u w'->∃ S',Gv w' S' g cg lg dg P G X C L D/\Nx S u S' w'/\SX S S' w'):=fun w' hb=>⟨S,(h.below hb).gv,(Nx.refl S u).below' hb,fun k hk=>.inl hk⟩
 unfold notE
 by_cases hR:yg G.n b first=0
 ·rw[hR] at K1
  rw[if_pos hR]
  by_cases hL:len=G.blk
  ·rw[if_pos hL,if_pos rfl]
   have hbb:0<=b/\b<G.n:=by
    unfold yg at hR
    by_cases hx:b<first\/(G.n:Int)<=b
    ·rw[if_pos hx] at hR;omega
    ·omega
   obtain⟨bn,rfl⟩:∃ bn:Nat,b=bn:=⟨b.toNat,by omega⟩
   have hbn:bn<G.n:=by omega
   obtain⟨xb,xo,rfl,_⟩:=hr.2.2.2.2 (by omega)
   have KC:Hid (∀ v,Below u.heap.size u v->Calls Tryz.prog 125 #[.slice (some ⟨xb,xo,none⟩) len cap] v fun e w1=>∃ a1 c1,e=.returned (.slice (some ⟨a1,0,none⟩) len c1)/\Hid (Below v.heap.size v w1/\v.heap.size<=a1/\bP w1 (fun k=>v.heap.size<=k/\k<w1.heap.size) len (a1,c1) zs)):=fun v hv=>by
    have hrv:Has v (some ⟨xb,xo,none⟩) len zs:=hr.has.later hv
    refine(iO ⟨xb,xo,none⟩ len cap zs v hrv (by omega)).mono ?_
    rintro e w1 ⟨a1,c1,rfl,ow,bw⟩
    obtain⟨kk,rfl,ra,l1,l2⟩:=ow.rowAt (by omega) hr.2.2.2.1 (S:=fun k=>v.heap.size<=k/\k<w1.heap.size) (fun k h1 h2=>⟨h1,h2⟩)
    exact⟨kk,c1,rfl,bw,l1,ra⟩
   have KN:Hid (∀ (v:World) (r:Nat×Nat),Below u.heap.size u v->bP v (fun k=>u.heap.size<=k/\k<v.heap.size) G.blk r zs->∃ v',(Instr.mapUpdate 115 (.map (some m.nb)) (.int .i64 (bn:Int)) (.agg #[.int .i64 (k:Int),.slice (some ⟨r.1,0,none⟩) G.blk r.2])).run Tryz.prog v=.ok () v'/\Hid (∃ S',Gv v' S' g cg lg dg P G { X with N:=some (iQ N bn ⟨k,zs⟩) } C L D/\Nx S u S' v'/\SX S S' v')):=fun v r hv hrr=>by
    obtain⟨v',r1,X1⟩:=h.aji eN hbn ⟨k,zs⟩ (by rcases hk with hk | hk;exact .inl hk;exact .inr (.inl hk)) hv r (fun _=>hrr)
    have e3:¬ k=3:=by omega
    simp only[nv,if_neg e3] at r1
    exact⟨v',r1,X1⟩
   have b1:(u.alloc (.cells #[.int .i64 (k:Int),.slice (some ⟨xb,xo,none⟩) len cap] 152)).cell? ⟨u.heap.size,1,none⟩=some (.slice (some ⟨xb,xo,none⟩) len cap):=(ah BX).cell 1 _ rfl
   have KE:Hid (∀ (v v1:World) (a1 c1:Nat),Below u.heap.size u v->Below v.heap.size v v1->v.heap.size<=a1->bP v1 (fun k=>v.heap.size<=k/\k<v1.heap.size) len (a1,c1) zs->Bl v u.heap.size #[.int .i64 (k:Int),.slice (some ⟨xb,xo,none⟩) len cap] 152 ->
     v1.cell? ⟨u.heap.size,1,none⟩=some (.slice (some ⟨xb,xo,none⟩) len cap)/\v1.frozen? ⟨u.heap.size,1,none⟩=false/\(v1.setCell ⟨u.heap.size,1,none⟩ (.slice (some ⟨a1,0,none⟩) len c1)).cell? ⟨u.heap.size,0,none⟩=some (.int .i64 (k:Int))/\(v1.setCell ⟨u.heap.size,1,none⟩ (.slice (some ⟨a1,0,none⟩) len c1)).cell? ⟨u.heap.size,1,none⟩=some (.slice (some ⟨a1,0,none⟩) len c1) /\
     (v1.setCell ⟨u.heap.size,1,none⟩ (.slice (some ⟨a1,0,none⟩) len c1)).cell? ⟨X.o,1,none⟩=some (.map (some m.nb)) /\
     ∃ v',(Instr.mapUpdate 115 (.map (some m.nb)) (.int .i64 (bn:Int)) (.agg #[.int .i64 (k:Int),.slice (some ⟨a1,0,none⟩) len c1])).run Tryz.prog (v1.setCell ⟨u.heap.size,1,none⟩ (.slice (some ⟨a1,0,none⟩) len c1)).drew=.ok () v'/\Hid (∃ S',Gv v' S' g cg lg dg P G { X with N:=some (iQ N bn ⟨k,zs⟩) } C L D/\Nx S u S' v'/\SX S S' v')):=by
    intro v v1 a1 c1 hv h1 hl hR1 hBl
    have hlt:u.heap.size<v.heap.size:=hBl.lt
    have hB1:Bl v1 u.heap.size #[.int .i64 (k:Int),.slice (some ⟨xb,xo,none⟩) len cap] 152:=hBl.call h1
    have hB2:=hB1.set 1 (.slice (some ⟨a1,0,none⟩) len c1)
    have hv1:=hv.trans (h1.mono hv.size)
    have hv2:Below u.heap.size u (v1.setCell ⟨u.heap.size,1,none⟩ (.slice (some ⟨a1,0,none⟩) len c1)):=hv1.setCell (p:=⟨u.heap.size,1,none⟩) (Nat.le_refl _) _
    have e1:=(h.below hv2).ru eN
    have hR2:bP (v1.setCell ⟨u.heap.size,1,none⟩ (.slice (some ⟨a1,0,none⟩) len c1)).drew (fun k=>u.heap.size<=k/\k<(v1.setCell ⟨u.heap.size,1,none⟩ (.slice (some ⟨a1,0,none⟩) len c1)).drew.heap.size) G.blk (a1,c1) zs:=by
     rw[← hL]
     refine hR1.kept (fun j c hj hc=>?_) (fun j hj=>⟨by have:=hv.size;omega,?_⟩)
     ·show (v1.setCell ⟨u.heap.size,1,none⟩ (.slice (some ⟨a1,0,none⟩) len c1)).heap[j]?=_
      exact Below.heap_setCell _ _ _ _ (by show j≠u.heap.size;omega)
     ·show j<(v1.setCell ⟨u.heap.size,1,none⟩ (.slice (some ⟨a1,0,none⟩) len c1)).heap.size
      have:(v1.setCell ⟨u.heap.size,1,none⟩ (.slice (some ⟨a1,0,none⟩) len c1)).heap.size=v1.heap.size:=by simp[World.setCell]
      omega
    have q:=ah KN (v1.setCell ⟨u.heap.size,1,none⟩ (.slice (some ⟨a1,0,none⟩) len c1)).drew (a1,c1) hv2.drew hR2
    rw[← hL] at q
    exact⟨hB1.cell 1 _ rfl,hB1.free 1,hB2.cell 0 _ rfl,hB2.cell 1 _ rfl,e1.2.1,q⟩
   have BD:Hid (∀ q,Below u.heap.size u ((u.alloc (.cells #[.int .i64 (k:Int),.slice (some ⟨xb,xo,none⟩) len cap] 152)).drewN q)):=fun q=>below_drewN B0 q
   have BY:Hid (∀ q,Bl ((u.alloc (.cells #[.int .i64 (k:Int),.slice (some ⟨xb,xo,none⟩) len cap] 152)).drewN q) u.heap.size #[.int .i64 (k:Int),.slice (some ⟨xb,xo,none⟩) len cap] 152):=fun q=>ah BX
   clear KN h h0 hr hbk B0 X0 BX HB
   rw[← hL] at c3
   clear hL hR hbb hbn
   have HT:Hid ((bn:Int).toNat=bn):=by
    show ((bn:Int).toNat=bn)
    simp
   generalize m.nb=nb at *
   generalize X.o=o at *
   generalize (k:Int)=ki at *
   generalize (bn:Int)=bi at *
   go_enter Tryz.func84,Tryz.ntmps84
   go_wp2_with fail
   go_at_call 127
   refine(ah K1).mono ?_
   rintro e w1 ⟨rfl,rfl⟩
   clear K1
   go_upto_region 4 with fail
   generalize u.alloc (.cells #[.int .i64 ki,.slice (some ⟨xb,xo,none⟩) len cap] 152)=w0 at *
   generalize u.heap.size=gb at *
   go_quiet (fail)
   rename_i nq
   have BD1:=hide (ah BD nq)
   have BY1:=hide (ah BY nq)
   have b1':(w0.drewN nq).cell? ⟨gb,1,none⟩=some (.slice (some ⟨xb,xo,none⟩) len cap):=b1
   have KC1:=hide (ah KC (w0.drewN nq) (ah BD1))
   clear KC BD BY b1 o0 c3
   generalize w0.drewN nq=v at *
   go_wp2_with fail
   go_at_call 125
   refine(ah KC1).mono ?_
   rintro e v1 ⟨a1,c1,rfl,Y⟩
   obtain⟨y1,y2,y3,y4,y5,v',r',Z⟩:=ah KE v v1 a1 c1 (ah BD1) (ah Y).1 (ah Y).2.1 (ah Y).2.2 (ah BY1)
   clear KC1 KE Y BD1 BY1 b1' o1
   go_upto_region 7 with fail
   generalize v1.setCell ⟨gb,1,none⟩ (.slice (some ⟨a1,0,none⟩) len c1)=v2 at *
   go_region
   go_wp2_with fail
   go_ret
   exact⟨rfl,by rw[ah HT];exact ah Z⟩
  ·rw[if_neg hL,if_neg (by omega)]
   have b1:(u.alloc (.cells #[.int .i64 (k:Int),.slice a len cap] 152)).cell? ⟨u.heap.size,1,none⟩=some (.slice a len cap):=(ah BX).cell 1 _ rfl
   have d1:((len:Int) != (G.blk:Int))=true:=by simpa using fun e:(len:Int)=G.blk=>hL (by omega)
   have Z:Hid (∀ q,∃ S',Gv ((u.alloc (.cells #[.int .i64 (k:Int),.slice a len cap] 152)).drewN q) S' g cg lg dg P G X C L D/\Nx S u S' ((u.alloc (.cells #[.int .i64 (k:Int),.slice a len cap] 152)).drewN q)/\SX S S' ((u.alloc (.cells #[.int .i64 (k:Int),.slice a len cap] 152)).drewN q)):=fun q=>ah X0 _ (below_drewN B0 q)
   clear h h0 hr hbk B0 X0 HB BX
   generalize (G.blk:Int)=bb at *
   generalize (k:Int)=ki at *
   go_enter Tryz.func84,Tryz.ntmps84
   go_wp2_with fail
   go_at_call 127
   refine(ah K1).mono ?_
   rintro e w1 ⟨rfl,rfl⟩
   clear K1
   go_upto_region 4 with fail
   go_quiet (fail)
   go_wp2_with fail
   go_ret
   exact⟨rfl,ah Z _⟩
 ·have e2:yg G.n b first=2:=by
   unfold yg at hR ⊢
   split
   ·rfl
   ·rename_i hx;rw[if_neg hx] at hR;exact absurd rfl hR
  rw[e2] at K1
  rw[if_neg hR,if_neg (by omega)]
  have Z:=hide (ah X0 _ B0)
  clear h h0 hr hbk B0 X0
  generalize (k:Int)=ki at *
  go_enter Tryz.func84,Tryz.ntmps84
  go_wp2_with fail
  go_at_call 127
  refine(ah K1).mono ?_
  rintro e w1 ⟨rfl,rfl⟩
  go_wp2_with fail
  go_ret
  exact⟨rfl,ah Z⟩
theorem ahv {u S g cg lg dg P G X C L D}(h:Gv u S g cg lg dg P G X C L D){N:Nat->Option Nt}(eN:X.N=some N)(b:Int)(a:Option Addr)(len cap:Nat)(zs:List Int)(hr:Row u.heap.size u a len cap zs) :
  Calls Tryz.prog 51 #[.pointer (some ⟨X.o,0,none⟩),.int .i64 b,.slice a len cap] u fun e w'=>e=.returned (.int .i64 (notE G b ((G.ib:Int)) len)) /\
   Hid (∃ S',Gv w' S' g cg lg dg P G (if notE G b ((G.ib:Int)) len=0 then { X with N:=some (iQ N b.toNat ⟨1,zs⟩) } else X) C L D/\Nx S u S' w'/\SX S S' w'):=by
 have hp:0<=(G.ib:Int):=by
  obtain⟨_,_,_,_,_,_,_,h⟩:=h
  have:=h.gr.da
  omega
 have K2:=hide (adt h eN b ((G.ib:Int)) hp 1 (by omega) a len cap zs hr)
 have K1:Hid (Calls Tryz.prog 36 #[.pointer (some ⟨X.o,0,none⟩)] u fun e w'=>e=.returned (.int .i64 0)/\u=w'):=by
  obtain⟨_,_,_,_,_,_,_,h⟩:=h
  exact dZ h.gr eN
 obtain⟨o0,c5⟩:u.cell? ⟨X.o,0,none⟩=some (.pointer (some ⟨g,0,none⟩))/\u.cell? ⟨g,8,none⟩=some (.int .i64 ((G.ib:Int))):=by
  obtain⟨_,_,_,_,_,_,_,h⟩:=h
  obtain⟨o0,_,_,c8,c14⟩:=h.ru eN
  exact⟨o0,c8⟩
 clear h hr hp
 have e1:(((1:Nat)):Int)=1:=rfl
 rw[e1] at K2
 clear e1
 generalize (if notE G b ((G.ib:Int)) len=0 then { X with N:=some (iQ N b.toNat ⟨1,zs⟩) } else X)=X' at *
 generalize notE G b ((G.ib:Int)) len=eE at *
 generalize ((G.ib:Int))=fi at *
 generalize X.o=o at *
 go_enter Tryz.func51,Tryz.ntmps51
 go_wp2_with fail
 go_at_call 36
 refine(ah K1).mono ?_
 rintro e w1 ⟨rfl,rfl⟩
 clear K1
 go_wp2_with fail
 go_at_call 84
 refine(ah K2).mono ?_
 rintro e w1 ⟨rfl,Z⟩
 clear K2
 go_wp2_with fail
 go_ret
 exact⟨rfl,Z⟩
def isK (N:Nat->Option Nt) (k:Nat) (b:Nat):Bool:=match N b with | some t=>t.k==k | none=>false
theorem ajp {N:Nat->Option Nt}{k b:Nat}{t:Nt}(e:N b=some t):isK N k b=(t.k==k):=by simp[isK,e]
end Go.Proofs.YtefdkpbmeoakgaaGreatDoor
