/- Joined: WBase, COpenH. -/
import Derived.Test.YtefdkpbmeoakgaaGreatDoorDnJ7
import Derived.Test.YtefdkpbmeoakgaaGreatDoorDnJ24
import Derived.Test.YtefdkpbmeoakgaaGreatDoorDnJ1
import Derived.Test.YtefdkpbmeoakgaaGreatDoorDnJ21
import Derived.Test.YtefdkpbmeoakgaaGreatDoorDnJ10
import Derived.Test.YtefdkpbmeoakgaaGreatDoorDnJ4
import Derived.ChangeArms
/- A log in memory: its own block, its map and the rows that are pending; beside it the device. -/
namespace Go.Proofs.YtefdkpbmeoakgaaGreatDoor
set_option maxRecDepth 100000
set_option maxHeartbeats 8000000
open Go.RowKit Go.Shelf Go.Maps
set_option linter.unusedVariables false

structure aeD where
 mb:Nat
 A:Nat→Nat×Nat

def lG (dg:Nat) (P:Nat→Int) (L:Lg) (m:aeD) (k:Nat):Value :=
 if k=0 then .pointer (some ⟨dg,0,none⟩) else if k<13 then .int .i64 (P (k - 1)) else if k<16 then .int .i64 (L.h.fn (k - 13)) else if k=16 then .map (some m.mb) else .bool L.dead

def Lg.M (L:Lg) (m:aeD) (b:Nat):Option (Nat×Nat):=(L.Q b).map fun _=>m.A b

structure LgM (u:World) (S:Nat→Prop) (g dg:Nat) (P:Nat→Int) (G:Geo) (L:Lg) (m:aeD):Prop where
 str:u.rowIs g 101 18 (lG dg P L m)
 map:qC u G.blk m.mb G.n (L.M m)
 row:∀ b z,b<G.n→L.Q b=some z→bP u S G.blk (m.A b) z
 sg:S g
 sm:S m.mb
 lt:∀ k,S k→k<u.heap.size
 pg:PG P G
 hok:L.h.Ok G

theorem LgM.kept {u u':World}{S S':Nat→Prop}{g dg P G L m}(h:LgM u S g dg P G L m)(hk:∀ k,S k→u'.heap[k]?=u.heap[k]?)(hS:∀ k,S k→S' k)(hl:∀ k,S' k→k<u'.heap.size):LgM u' S' g dg P G L m :=
 ⟨h.str.of_block (hk _ h.sg),h.map.kept (hk _ h.sm),fun b z hb e=>(h.row b z hb e).kept (fun k _ hs _=>hk k hs) hS,hS _ h.sg,hS _ h.sm,hl,h.pg,h.hok⟩

theorem LgM.cells {u S g dg P G L m}(h:LgM u S g dg P G L m) :
  u.cell? ⟨g,0,none⟩=some (.pointer (some ⟨dg,0,none⟩))∧(∀ k,k<12→u.cell? ⟨g,1+k,none⟩=some (.int .i64 (P k)))∧u.cell? ⟨g,13,none⟩=some (.int .i64 (L.h.seq:Int))∧u.cell? ⟨g,14,none⟩=some (.int .i64 (L.h.tail:Int))∧u.cell? ⟨g,15,none⟩=some (.int .i64 (L.h.used:Int)) ∧
   u.cell? ⟨g,16,none⟩=some (.map (some m.mb))∧u.cell? ⟨g,17,none⟩=some (.bool L.dead)∧(∀ k,u.frozen? ⟨g,k,none⟩=false):=by
 refine⟨h.str.cell (i:=0) (by omega),fun k hk=>?_,h.str.cell (i:=13) (by omega),h.str.cell (i:=14) (by omega),h.str.cell (i:=15) (by omega),h.str.cell (i:=16) (by omega),h.str.cell (i:=17) (by omega),fun k=>h.str.frozen k⟩
 rw[h.str.cell (i:=1+k) (by omega)]
 unfold lG
 rw[if_neg (by omega),if_pos (by omega)]
 congr 3
 omega

theorem ah3 {u blk b n M}(h:qC u blk b n M){k t n':Nat}{f:Nat→Value}(h':u.rowIs k t n' f):b≠k:=by
 intro e
 subst e
 obtain⟨es,c,hb⟩:=h.obj
 obtain⟨cs,hc,_⟩:=h'
 rw[hc] at hb
 cases hb

theorem LgM.yM {u S g dg P G L m}(h:LgM u S g dg P G L m)(L':Lg)(k:Nat)(v:Value)(hc:∀ j,j<18→lG dg P L' m j=if j=k then v else lG dg P L m j)(hQ:L'.Q=L.Q)(ho:L'.h.Ok G) :
  LgM (u.setCell ⟨g,k,none⟩ v) S g dg P G L' m:=by
 have ne:∀ k' c t,t≠101→u.heap[k']?=some (Obj.cells c t)→(u.setCell ⟨g,k,none⟩ v).heap[k']?=u.heap[k']?:=fun k' c t ht hh =>
  Below.heap_setCell _ _ _ _ (row_ne h.str hh (fun e=>ht e.symm))
 refine⟨(h.str.set k v).congr (fun j hj=>(hc j hj).symm),?_,fun b z hb e=>?_,h.sg,h.sm,fun k' hk'=>by simpa [World.setCell] using h.lt k' hk',h.pg,ho⟩
 ·refine(h.map.kept (Below.heap_setCell _ _ _ _ (ah3 h.map h.str))).congr (fun k hk=>?_)
  unfold Lg.M
  rw[hQ]
 ·rw[hQ] at e
  exact(h.row b z hb e).kept (fun k' c _ hx=>ne k' c 5 (by decide) hx) (fun _ h=>h)

theorem aes:∀ j,j<18→j=0∨(1≤j∧j<13)∨j=13∨j=14∨j=15∨j=16∨j=17:=by omega

theorem LgM.head {u S g dg P G L m}(h:LgM u S g dg P G L m)(H:Hd)(ho:H.Ok G) :
  LgM (((u.setCell ⟨g,13,none⟩ (.int .i64 (H.seq:Int))).setCell ⟨g,14,none⟩ (.int .i64 (H.tail:Int))).setCell ⟨g,15,none⟩ (.int .i64 (H.used:Int))) S g dg P G { L with h:=H } m:=by
 have h1:=h.yM { L with h:=⟨H.seq,L.h.tail,L.h.used⟩ } 13 (.int .i64 (H.seq:Int)) (fun j hj=>by
  rcases aes j hj with rfl | ⟨h1,h2⟩ | rfl | rfl | rfl | rfl | rfl
  ·simp[lG]
  ·simp[lG,show ¬ j=0 by omega,h2,show ¬ j=13 by omega]
  all_goals simp[lG,Hd.fn]) rfl ⟨ho.seq,h.hok.tail,h.hok.used⟩
 have h2:=h1.yM { L with h:=⟨H.seq,H.tail,L.h.used⟩ } 14 (.int .i64 (H.tail:Int)) (fun j hj=>by
  rcases aes j hj with rfl | ⟨h1,h2⟩ | rfl | rfl | rfl | rfl | rfl
  ·simp[lG]
  ·simp[lG,show ¬ j=0 by omega,h2,show ¬ j=14 by omega]
  all_goals simp[lG,Hd.fn]) rfl ⟨ho.seq,ho.tail,h.hok.used⟩
 have h3:=h2.yM { L with h:=H } 15 (.int .i64 (H.used:Int)) (fun j hj=>by
  rcases aes j hj with rfl | ⟨h1,h2⟩ | rfl | rfl | rfl | rfl | rfl
  ·simp[lG]
  ·simp[lG,show ¬ j=0 by omega,h2,show ¬ j=15 by omega]
  all_goals simp[lG,Hd.fn]) rfl ho
 exact h3

theorem ajh {u u':World}{S:Nat→Prop}{mb:Nat}(hg:u.grownBy u' (some mb))(hs:S mb):Nx S u S u' :=
 ⟨⟨hg.os,hg.tape,hg.output,hg.size,fun k hk hn=>hg.block k hk (fun e=>hn (by cases e;exact hs))⟩,fun _ _ h=>h⟩

theorem Tab.kept {u u':World}(h:Tab u)(h0:u'.heap[1]?=u.heap[1]?):Tab u':=fun k hk=>by
 have:=h k hk
 simp only[World.cell?] at this ⊢
 rw[h0]
 exact this

theorem Tab.lt {u}(h:Tab u):1<u.heap.size:=by
 have:=h 0 (by omega)
 exact aO this

structure LvM (u:World) (S Sl Sd:Nat→Prop) (g dg:Nat) (P:Nat→Int) (G:Geo) (L:Lg) (D:Dev) (m:aeD):Prop where
 ll:LgM u Sl g dg P G L m
 dd:Dv u Sd dg D
 dis:∀ k,Sl k→¬ Sd k
 all:∀ k,S k↔(Sl k∨Sd k)
 bd:D.blk=G.blk
 nd:D.n=G.n
 tab:Tab u
 z0:¬ S 1

def Lv (u:World) (S:Nat→Prop) (g dg:Nat) (P:Nat→Int) (G:Geo) (L:Lg) (D:Dev):Prop:=∃ Sl Sd m,LvM u S Sl Sd g dg P G L D m

theorem LvM.lv {u S Sl Sd g dg P G L D m}(h:LvM u S Sl Sd g dg P G L D m):Lv u S g dg P G L D:=⟨Sl,Sd,m,h⟩

theorem LvM.lt {u S Sl Sd g dg P G L D m}(h:LvM u S Sl Sd g dg P G L D m){k:Nat}(hk:S k):k<u.heap.size:=by
 rcases(h.all k).1 hk with x | x
 ·exact h.ll.lt k x
 ·exact h.dd.lt x

theorem LvM.jC {u u':World}{S Sl Sd g dg P G L D m}(h:LvM u S Sl Sd g dg P G L D m)(hk:∀ k,S k→u'.heap[k]?=u.heap[k]?)(h0:u'.heap[1]?=u.heap[1]?)(hs:u.heap.size≤u'.heap.size):LvM u' S Sl Sd g dg P G L D m :=
 ⟨h.ll.kept (fun k x=>hk k ((h.all k).2 (.inl x))) (fun _ x=>x) (fun k x=>Nat.lt_of_lt_of_le (h.ll.lt k x) hs),h.dd.kept (fun k x=>hk k ((h.all k).2 (.inr x))) hs,h.dis,h.all,h.bd,h.nd,h.tab.kept h0,h.z0⟩

theorem LvM.below {u u':World}{S Sl Sd g dg P G L D m}(h:LvM u S Sl Sd g dg P G L D m)(hb:Below u.heap.size u u'):LvM u' S Sl Sd g dg P G L D m :=
 h.jC (fun k hk=>hb.block k (h.lt hk)) (hb.block 1 h.tab.lt) hb.size

theorem Lv.below {u u':World}{S g dg P G L D}(h:Lv u S g dg P G L D)(hb:Below u.heap.size u u'):Lv u' S g dg P G L D:=by
 obtain⟨Sl,Sd,m,h⟩:=h
 exact(h.below hb).lv

theorem LvM.own {u u':World}{S Sl Sl' Sd:Nat→Prop}{g dg P G}{L L':Lg}{D}{m m':aeD}(h:LvM u S Sl Sd g dg P G L D m)(hl:LgM u' Sl' g dg P G L' m')(hx:Nx Sl u Sl' u') :
  LvM u' (fun k=>Sl' k∨Sd k) Sl' Sd g dg P G L' D m'∧Nx S u (fun k=>Sl' k∨Sd k) u':=by
 have z0:=hx.keep h.tab.lt (fun x=>h.z0 ((h.all 1).2 (.inl x)))
 refine⟨⟨hl,h.dd.kept (fun k hk=>(hx.keep (h.dd.lt hk) (fun x=>h.dis k x hk)).1) hx.fr.size,fun k hk hd=>h.dis k (hx.sub k (h.dd.lt hd) hk) hd,fun k=>Iff.rfl,h.bd,h.nd,h.tab.kept z0.1,fun hs=>?_⟩,⟨⟨hx.fr.os,hx.fr.tape,hx.fr.output,hx.fr.size,fun k hk hn=>hx.fr.block k hk (fun x=>hn ((h.all k).2 (.inl x)))⟩,fun k hk hs=>?_⟩⟩
 ·rcases hs with x | x
  ·exact z0.2.1 x
  ·exact h.z0 ((h.all 1).2 (.inr x))
 ·rcases hs with x | x
  ·exact(h.all k).2 (.inl (hx.sub k hk x))
  ·exact(h.all k).2 (.inr x)

end Go.Proofs.YtefdkpbmeoakgaaGreatDoor

/- A plan that came in, opened. -/
namespace Go.Proofs.YtefdkpbmeoakgaaGreatDoor
set_option maxRecDepth 100000
set_option maxHeartbeats 8000000
open Go.ChangeAt Go.ChangeShapes Go.RowKit Go.Shelf Go.WideShapes
set_option linter.unusedVariables false

theorem aeR:Tryz.prog.underlying 98=some (.struct (Tryz.prog.fieldsOf 98)):=by kernel_rfl
theorem aeZ:Tryz.prog.stoodInHeld 98=false:=by kernel_rfl

theorem wX : (Tryz.prog.fieldsOf 98).toList.map (fun f => (f.name, f.type, f.offset)) = [("Seq", 3, 0), ("Tail", 3, 1), ("Used", 3, 2)] := by kernel_rfl

theorem ajy (P:Nat→Int)(k:Nat)(hk:k<3):(Hc P)[k]?=some (.int .i64 (P k)):=by
 have:k=0∨k=1∨k=2:=by omega
 rcases this with rfl | rfl | rfl<;>rfl

theorem aa0 (P:Nat→Int)(k:Nat)(hk:k<3)(w:World):(part 3 (Hc P) k).run Tryz.prog w=.ok (.int .i64 (P k)) w:=by
 have h:=ajy P k hk
 simp only[part,isAgg,Sem.run_bind,run_underlying Tryz.underlying3,Result.andThen_ok,Sem.run_pure]
 rw[h]
 rfl

theorem rX (P Q : Nat → Int) (w : World) : ∀ fs : List Field, (∀ f ∈ fs, f.name ≠ "_" ∧ f.type = 3 ∧ f.offset < 3) →
  ∃ r:Bool,(Op.eqFields 9999 (Hc P) (Hc Q) fs).run Tryz.prog w=.ok r w∧(r=true↔∀ f∈fs,P f.offset=Q f.offset)
 | [],_=>⟨true,by simp[Op.eqFields],by simp⟩
 | f::fs,h=>by
  obtain⟨h1,h2,h3⟩:=h f (by simp)
  obtain⟨r,hr,hi⟩:=rX P Q w fs (fun g hg=>h g (by simp[hg]))
  by_cases hE:P f.offset=Q f.offset
  ·refine⟨r,?_,by simp[hi,hE]⟩
   simp only[Op.eqFields,h1,ne_eq,not_false_eq_true,if_true,Sem.run_bind,h2,aa0 P _ h3,aa0 Q _ h3,Result.andThen_ok,run_equalIn_int w 9998 3 .i64 .i64 _ _ Tryz.underlying3,hE]
   simpa using hr
  ·refine⟨false,?_,by simp[hE]⟩
   simp only[Op.eqFields,h1,ne_eq,not_false_eq_true,if_true,Sem.run_bind,h2,aa0 P _ h3,aa0 Q _ h3,Result.andThen_ok,run_equalIn_int w 9998 3 .i64 .i64 _ _ Tryz.underlying3]
   simp[hE]

theorem rU : ∀ f ∈ (Tryz.prog.fieldsOf 98).toList, f.name ≠ "_" ∧ f.type = 3 ∧ f.offset < 3 := by
 have h:=wX
 intro f hf
 have:(f.name,f.type,f.offset)∈(Tryz.prog.fieldsOf 98).toList.map (fun f=>(f.name,f.type,f.offset)):=List.mem_map.2 ⟨f,hf,rfl⟩
 rw[h] at this
 simp only[List.mem_cons,List.not_mem_nil,or_false,Prod.mk.injEq] at this
 rcases this with ⟨a,b,c⟩ | ⟨a,b,c⟩ | ⟨a,b,c⟩<;>exact⟨by rw[a];decide,b,by omega⟩

theorem zV (k:Nat)(hk:k<3):∃ f∈(Tryz.prog.fieldsOf 98).toList,f.offset=k:=by
 have h:=wX
 have:k∈((Tryz.prog.fieldsOf 98).toList.map (fun f=>(f.name,f.type,f.offset))).map (·.2.2):=by
  rw[h]
  simp
  omega
 rw[List.map_map,List.mem_map] at this
 obtain⟨f,hf,e⟩:=this
 exact⟨f,hf,e⟩

theorem qg (P Q:Nat→Int)(w:World):∃ r:Bool,(Op.equalIn 10000 98 (Hv P) (Hv Q)).run Tryz.prog w=.ok r w∧(r=true↔∀ k,k<3→P k=Q k):=by
 obtain⟨r,hr,hi⟩:=rX P Q w _ rU
 refine⟨r,?_,?_⟩
 ·rw[run_equalIn_struct w 9999 98 _ _ aeR aeZ]
  exact hr
 ·rw[hi]
  constructor
  ·intro h k hk
   obtain⟨f,hf,rfl⟩:=zV k hk
   exact h f hf
  ·intro h f hf
   exact h _ (rU f hf).2.2

theorem wz {P Q:Nat→Int}(h:∀ k,k<3→P k=Q k)(w:World):(binOp .neq 98 (Hv P) (Hv Q)).run Tryz.prog w=.ok (.bool false) w:=by
 obtain⟨r,hr,hi⟩:=qg P Q w
 rw[run_neq_struct,hr,hi.2 h];rfl

theorem um {P Q:Nat→Int}(h:¬ ∀ k,k<3→P k=Q k)(w:World):(binOp .neq 98 (Hv P) (Hv Q)).run Tryz.prog w=.ok (.bool true) w:=by
 obtain⟨r,hr,hi⟩:=qg P Q w
 have:r=false:=by cases r with | false=>rfl | true=>exact absurd (hi.1 rfl) h
 rw[run_neq_struct,hr,this];rfl

end Go.Proofs.YtefdkpbmeoakgaaGreatDoor
