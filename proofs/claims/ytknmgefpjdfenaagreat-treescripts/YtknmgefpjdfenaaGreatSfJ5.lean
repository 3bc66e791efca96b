/- Joined: XPBase, XPEq, XPLeaf, XPLay, XPSize. -/
import Derived.Test.YtknmgefpjdfenaaGreatSfJ1
import Derived.WalkKit
import Derived.WalkSpells
import Derived.WalkLawsBesides
import Derived.Shelf.Abstract
import Derived.Laws.CopyOwn
import Derived.Deep.OwnRows
import Derived.Laws.BitsAllLaws
import Derived.Laws.StructEq
import Derived.ArgAppend
import Derived.Deep.RegionWith
import Derived.Deep.QuietTactic
import Derived.BigQuiet
import Derived.OwnWalk
import Derived.Deep.DeepCutAuto
/- Words and laws for plans: twelve numbers in a block. -/
namespace Go.Proofs.YtknmgefpjdfenaaGreat
set_option maxRecDepth 100000
set_option maxHeartbeats 8000000
open Go.RowKit Go.Shelf
set_option linter.unusedVariables false

abbrev PvN (P:Nat→Int):Value:=.agg #[.int .i64 (P 0),.int .i64 (P 1),.int .i64 (P 2),.int .i64 (P 3),.int .i64 (P 4),.int .i64 (P 5),.int .i64 (P 6),.int .i64 (P 7),.int .i64 (P 8),.int .i64 (P 9),.int .i64 (P 10),.int .i64 (P 11)]
abbrev Pc (P:Nat→Int):Array Value:=#[.int .i64 (P 0),.int .i64 (P 1),.int .i64 (P 2),.int .i64 (P 3),.int .i64 (P 4),.int .i64 (P 5),.int .i64 (P 6),.int .i64 (P 7),.int .i64 (P 8),.int .i64 (P 9),.int .i64 (P 10),.int .i64 (P 11)]

def R12 (u:World) (g:Nat) (P:Nat→Int):Prop:=u.heap[g]?=some (.cells (Pc P) 23 (0,0))

theorem R12.lt {u:World} {g:Nat} {P:Nat→Int} (h:R12 u g P):g < u.heap.size:=(Array.getElem?_eq_some_iff.1 h).1

theorem twelve {k:Nat} (hk:k < 12):k=0 ∨ k=1 ∨ k=2 ∨ k=3 ∨ k=4 ∨ k=5 ∨ k=6 ∨ k=7 ∨ k=8 ∨ k=9 ∨ k=10 ∨ k=11:=by omega

theorem pc_get (P:Nat→Int) (k:Nat) (hk:k < 12):(Pc P)[k]?=some (.int .i64 (P k)):=by
 rcases twelve hk with rfl | rfl | rfl | rfl | rfl | rfl | rfl | rfl | rfl | rfl | rfl | rfl <;> rfl

theorem R12.cell {u:World} {g:Nat} {P:Nat→Int} (h:R12 u g P) (k:Nat) (hk:k < 12):u.cell? ⟨g,k,none⟩=some (.int .i64 (P k)):=by
 unfold R12 at h
 have:=pc_get P k hk
 simp only [World.cell?,h]
 exact this

theorem R12.free {u:World} {g:Nat} {P:Nat→Int} (h:R12 u g P) (i:Nat):u.frozen? ⟨g,i,none⟩=false:=by
 unfold R12 at h; simp [World.frozen?,h]

theorem R12.below {u u':World} {g n:Nat} {P:Nat→Int} (h:R12 u g P) (hb:Below n u u') (hg:g < n):R12 u' g P:=(hb.block g hg).trans h

theorem R12.other {u:World} {g:Nat} {P:Nat→Int} (h:R12 u g P) (b:Addr) (v:Value) (hne:g ≠ b.block):R12 (u.setCell b v) g P:=(Below.heap_setCell u b v g hne).trans h

theorem R12.alloc {u:World} {g:Nat} {P:Nat→Int} (h:R12 u g P) (o:Obj):R12 (u.alloc o) g P:=(Below.heap_alloc u o g h.lt).trans h

theorem R12.new (u:World) (P:Nat→Int):R12 (u.alloc (.cells (Pc P) 23)) u.heap.size P:=heap_alloc_new u _

def updP (P:Nat→Int) (k:Nat) (z:Int):Nat→Int:=fun j=>if j=k then z else P j

theorem pc_set (P:Nat→Int) (k:Nat) (z:Int) (hk:k < 12):(Pc P).setIfInBounds k (.int .i64 z)=Pc (updP P k z):=by
 rcases twelve hk with rfl | rfl | rfl | rfl | rfl | rfl | rfl | rfl | rfl | rfl | rfl | rfl <;> rfl

theorem R12.set {u:World} {g:Nat} {P:Nat→Int} (h:R12 u g P) (k:Nat) (hk:k < 12) (z:Int):R12 (u.setCell ⟨g,k,none⟩ (.int .i64 z)) g (updP P k z):=by
 unfold R12 at *
 rw [setCell_eq_setRow u g k _ 23 (0,0) _ h,setRow_heap u g _ _ 23 _ h,pc_set P k z hk]

theorem R12.congr {u:World} {g:Nat} {P Q:Nat→Int} (h:R12 u g P) (e:∀ k,k < 12→P k=Q k):R12 u g Q:=by
 unfold R12 at *
 rw [h]
 simp only [Pc]
 rw [e 0 (by omega),e 1 (by omega),e 2 (by omega),e 3 (by omega),e 4 (by omega),e 5 (by omega),e 6 (by omega),e 7 (by omega),e 8 (by omega),e 9 (by omega),e 10 (by omega),e 11 (by omega)]

def all12 (u:World) (g:Nat) (P:Nat→Int):World:=((((((((((((u.setCell ⟨g,0,none⟩ (.int .i64 (P 0))).setCell ⟨g,1,none⟩ (.int .i64 (P 1))).setCell ⟨g,2,none⟩ (.int .i64 (P 2))).setCell ⟨g,3,none⟩ (.int .i64 (P 3))).setCell ⟨g,4,none⟩ (.int .i64 (P 4))).setCell ⟨g,5,none⟩ (.int .i64 (P 5))).setCell ⟨g,6,none⟩ (.int .i64 (P 6))).setCell ⟨g,7,none⟩ (.int .i64 (P 7))).setCell ⟨g,8,none⟩ (.int .i64 (P 8))).setCell ⟨g,9,none⟩ (.int .i64 (P 9))).setCell ⟨g,10,none⟩ (.int .i64 (P 10))).setCell ⟨g,11,none⟩ (.int .i64 (P 11)))

theorem R12.all {u:World} {g:Nat} {P:Nat→Int} (h:R12 u g P) (Q:Nat→Int):R12 (all12 u g Q) g Q:=by
 refine ((((((((((((h.set 0 (by omega) (Q 0)).set 1 (by omega) (Q 1)).set 2 (by omega) (Q 2)).set 3 (by omega) (Q 3)).set 4 (by omega) (Q 4)).set 5 (by omega) (Q 5)).set 6 (by omega) (Q 6)).set 7 (by omega) (Q 7)).set 8 (by omega) (Q 8)).set 9 (by omega) (Q 9)).set 10 (by omega) (Q 10)).set 11 (by omega) (Q 11)).congr ?_
 intro k hk
 rcases twelve hk with rfl | rfl | rfl | rfl | rfl | rfl | rfl | rfl | rfl | rfl | rfl | rfl <;> rfl

theorem below_all12 {n g:Nat} {w u:World} (h:Below n w u) (hg:n ≤ g) (Q:Nat→Int):Below n w (all12 u g Q) :=
 (((((((((((h.setCell hg _).setCell hg _).setCell hg _).setCell hg _).setCell hg _).setCell hg _).setCell hg _).setCell hg _).setCell hg _).setCell hg _).setCell hg _).setCell hg _

def zeroP:Nat→Int:=fun _=>0

end Go.Proofs.YtknmgefpjdfenaaGreat

/- Two plans compared. -/
namespace Go.Proofs.YtknmgefpjdfenaaGreat
set_option maxRecDepth 100000
set_option maxHeartbeats 8000000
open Go.RowKit Go.Shelf
set_option linter.unusedVariables false

theorem under24:Tryz.prog.underlying 23=some (.struct (Tryz.prog.fieldsOf 23)):=by kernel_rfl
theorem stood24:Tryz.prog.stoodInHeld 23=false:=by kernel_rfl

theorem fields24 : (Tryz.prog.fieldsOf 23).toList.map (fun f => (f.name, f.type, f.offset)) = [("Block", 3, 0), ("Blocks", 3, 1), ("Inodes", 3, 2), ("Log", 3, 3), ("LogAt", 3, 4), ("IBits", 3, 5), ("ILen", 3, 6), ("BBits", 3, 7), ("BLen", 3, 8), ("Table", 3, 9), ("TLen", 3, 10), ("Data", 3, 11)] := by kernel_rfl

theorem part3 (P:Nat→Int) (k:Nat) (hk:k < 12) (w:World):(part 3 (Pc P) k).run Tryz.prog w=.ok (.int .i64 (P k)) w:=by
 have h:=pc_get P k hk
 simp only [part,isAgg,Sem.run_bind,run_underlying Tryz.underlying3,Result.andThen_ok,Sem.run_pure]
 rw [h]
 rfl

theorem eq_fields (P Q : Nat → Int) (w : World) : ∀ fs : List Field, (∀ f ∈ fs, f.name ≠ "_" ∧ f.type = 3 ∧ f.offset < 12) →
  ∃ r:Bool,(Op.eqFields 9999 (Pc P) (Pc Q) fs).run Tryz.prog w=.ok r w∧(r=true ↔ ∀ f ∈ fs,P f.offset=Q f.offset)
 | [],_=>⟨true,by simp [Op.eqFields],by simp⟩
 | f :: fs,h=>by
  obtain ⟨h1,h2,h3⟩:=h f (by simp)
  obtain ⟨r,hr,hi⟩:=eq_fields P Q w fs (fun g hg=>h g (by simp [hg]))
  by_cases hE:P f.offset=Q f.offset
  ·refine ⟨r,?_,by simp [hi,hE]⟩
   simp only [Op.eqFields,h1,ne_eq,not_false_eq_true,if_true,Sem.run_bind,h2,part3 P _ h3,part3 Q _ h3,Result.andThen_ok,run_equalIn_int w 9998 3 .i64 .i64 _ _ Tryz.underlying3,hE]
   simpa using hr
  ·refine ⟨false,?_,by simp [hE]⟩
   simp only [Op.eqFields,h1,ne_eq,not_false_eq_true,if_true,Sem.run_bind,h2,part3 P _ h3,part3 Q _ h3,Result.andThen_ok,run_equalIn_int w 9998 3 .i64 .i64 _ _ Tryz.underlying3]
   simp [hE]

theorem fields_ok : ∀ f ∈ (Tryz.prog.fieldsOf 23).toList, f.name ≠ "_" ∧ f.type = 3 ∧ f.offset < 12 := by
 have h:=fields24
 intro f hf
 have:(f.name,f.type,f.offset) ∈ (Tryz.prog.fieldsOf 23).toList.map (fun f=>(f.name,f.type,f.offset)):=List.mem_map.2 ⟨f,hf,rfl⟩
 rw [h] at this
 simp only [List.mem_cons,List.not_mem_nil,or_false,Prod.mk.injEq] at this
 rcases this with ⟨a,b,c⟩ | ⟨a,b,c⟩ | ⟨a,b,c⟩ | ⟨a,b,c⟩ | ⟨a,b,c⟩ | ⟨a,b,c⟩ | ⟨a,b,c⟩ | ⟨a,b,c⟩ | ⟨a,b,c⟩ | ⟨a,b,c⟩ | ⟨a,b,c⟩ | ⟨a,b,c⟩ <;> exact ⟨by rw [a]; decide,b,by omega⟩

theorem fields_all (k:Nat) (hk:k < 12):∃ f ∈ (Tryz.prog.fieldsOf 23).toList,f.offset=k:=by
 have h:=fields24
 have:k ∈ ((Tryz.prog.fieldsOf 23).toList.map (fun f=>(f.name,f.type,f.offset))).map (·.2.2):=by
  rw [h]
  simp
  omega
 rw [List.map_map,List.mem_map] at this
 obtain ⟨f,hf,e⟩:=this
 exact ⟨f,hf,e⟩

theorem equal_plan (P Q:Nat→Int) (w:World):∃ r:Bool,(Op.equalIn 10000 23 (PvN P) (PvN Q)).run Tryz.prog w=.ok r w∧(r=true ↔ ∀ k,k < 12→P k=Q k):=by
 obtain ⟨r,hr,hi⟩:=eq_fields P Q w _ fields_ok
 refine ⟨r,?_,?_⟩
 ·rw [run_equalIn_struct w 9999 23 _ _ under24 stood24]
  exact hr
 ·rw [hi]
  constructor
  ·intro h k hk
   obtain ⟨f,hf,rfl⟩:=fields_all k hk
   exact h f hf
  ·intro h f hf
   exact h _ (fields_ok f hf).2.2

theorem neq_plan_no {P Q:Nat→Int} (h:∀ k,k < 12→P k=Q k) (w:World):(binOp .neq 23 (PvN P) (PvN Q)).run Tryz.prog w=.ok (.bool false) w:=by
 obtain ⟨r,hr,hi⟩:=equal_plan P Q w
 rw [run_neq_struct,hr,hi.2 h]; rfl

theorem neq_plan_yes {P Q:Nat→Int} (h:¬ ∀ k,k < 12→P k=Q k) (w:World):(binOp .neq 23 (PvN P) (PvN Q)).run Tryz.prog w=.ok (.bool true) w:=by
 obtain ⟨r,hr,hi⟩:=equal_plan P Q w
 have:r=false:=by cases r with | false=>rfl | true=>exact absurd (hi.1 rfl) h
 rw [run_neq_struct,hr,this]; rfl

end Go.Proofs.YtknmgefpjdfenaaGreat

/- The contracts of the small functions. -/
namespace Go.Proofs.YtknmgefpjdfenaaGreat
set_option maxRecDepth 100000
set_option maxHeartbeats 8000000
open Go.RowKit Go.Shelf
set_option linter.unusedVariables false

theorem fewest_any (n e:Int) (w:World) (hn:0 ≤ n∧n ≤ 1099511627776) (he:1 ≤ e∧e ≤ 1099511627776) :
  Calls Tryz.prog 143 #[.int .i64 n,.int .i64 e] w fun r w'=>r=.returned (.int .i64 ((n + e - 1) / e))∧w=w':=by
 go_enter Tryz.func143,Tryz.ntmps143
 go_wp2
 go_ret
 refine ⟨?_,rfl⟩
 go_num

theorem outside_any (n l m:Int) (w:World) :
  Calls Tryz.prog 140 #[.int .i64 n,.int .i64 l,.int .i64 m] w fun r w'=>r=.returned (.bool (decide (n < l ∨ m < n)))∧w=w':=by
 by_cases h1:n < l
 ·go_enter Tryz.func140,Tryz.ntmps140
  go_wp2
  go_ret
  simp [h1]
 ·by_cases h2:m < n
  ·go_enter Tryz.func140,Tryz.ntmps140
   go_wp2
   go_ret
   simp
  ·go_enter Tryz.func140,Tryz.ntmps140
   go_wp2
   go_ret
   simp [h1,h2]

theorem outside_yes (n l m:Int) (w:World) (h:n < l ∨ m < n) :
  Calls Tryz.prog 140 #[.int .i64 n,.int .i64 l,.int .i64 m] w fun r w'=>r=.returned (.bool true)∧w=w':=by
 have:=outside_any n l m w
 rwa [decide_eq_true h] at this

theorem outside_no (n l m:Int) (w:World) (h:¬ (n < l ∨ m < n)) :
  Calls Tryz.prog 140 #[.int .i64 n,.int .i64 l,.int .i64 m] w fun r w'=>r=.returned (.bool false)∧w=w':=by
 have:=outside_any n l m w
 rwa [decide_eq_false h] at this

def isSize (b:Int):Prop:=b=64 ∨ b=128 ∨ b=256 ∨ b=512 ∨ b=1024 ∨ b=2048 ∨ b=4096

theorem isBlockSize_yes (b:Int) (w:World) (h:isSize b) :
  Calls Tryz.prog 139 #[.int .i64 b] w fun r w'=>r=.returned (.bool true)∧w=w':=by
 rcases h with rfl | rfl | rfl | rfl | rfl | rfl | rfl
 all_goals
  go_enter Tryz.func139,Tryz.ntmps139
  go_wp2
  go_ret
  exact ⟨rfl,rfl⟩

theorem isBlockSize_no (b:Int) (w:World) (h:¬ isSize b) :
  Calls Tryz.prog 139 #[.int .i64 b] w fun r w'=>r=.returned (.bool false)∧w=w':=by
 unfold isSize at h
 have h1:b ≠ 64:=by omega
 have h2:b ≠ 128:=by omega
 have h3:b ≠ 256:=by omega
 have h4:b ≠ 512:=by omega
 have h5:b ≠ 1024:=by omega
 have h6:b ≠ 2048:=by omega
 have h7:b ≠ 4096:=by omega
 clear h
 go_enter Tryz.func139,Tryz.ntmps139
 go_wp2
 go_ret
 exact ⟨rfl,rfl⟩

end Go.Proofs.YtknmgefpjdfenaaGreat

/- The contract of lay, and of the closure that takes blocks. -/
namespace Go.Proofs.YtknmgefpjdfenaaGreat
set_option maxRecDepth 100000
set_option maxHeartbeats 8000000
open Go.RowKit Go.Shelf
set_option linter.unusedVariables false

theorem take_any (g:Nat) (n x:Int) (w:World) (hc:w.heap[g]?=some (.cells #[.int .i64 x] 3 (0,0))) (hn:0 ≤ n∧n ≤ 1099511627776) (hx:0 ≤ x∧x ≤ 1099511627776) :
  Calls Tryz.prog 169 #[.int .i64 n,.pointer (some ⟨g,0,none⟩)] w fun r w'=>r=.returned (.tuple #[.int .i64 x,.int .i64 n])∧w'=w.setCell ⟨g,0,none⟩ (.int .i64 (x + n)):=by
 have c1:w.cell? ⟨g,0,none⟩=some (.int .i64 x):=by simp [World.cell?,hc]
 have c2:w.frozen? ⟨g,0,none⟩=false:=by simp [World.frozen?,hc]
 clear hc
 go_enter Tryz.func169,Tryz.ntmps169
 go_wp2
 go_ret2
 refine ⟨rfl,?_⟩
 go_num

structure Lay (B:Nat) (w wx:World) (P:Nat→Int) (x:Int):Prop where
 zero:R12 wx B zeroP
 plan:R12 wx (B + 1) P
 next:wx.heap[B + 1 + 1]?=some (.cells #[.int .i64 x] 3 (0,0))
 below:Below B w wx

theorem Lay.take {B:Nat} {w wx:World} {P:Nat→Int} {x:Int} (h:Lay B w wx P x) (n y:Int) (hy:x + n=y) (hn:0 ≤ n∧n ≤ 1099511627776) (hx:0 ≤ x∧x ≤ 1099511627776) :
  Calls Tryz.prog 169 #[.int .i64 n,.pointer (some ⟨B + 1 + 1,0,none⟩)] wx fun r w'=>r=.returned (.tuple #[.int .i64 x,.int .i64 n])∧Lay B w w' P y:=by
 subst hy
 refine (take_any _ n x wx h.next hn hx).mono ?_
 rintro r w' ⟨rfl,rfl⟩
 refine ⟨rfl,h.zero.other _ _ (by simp; omega),h.plan.other _ _ (by simp),?_,h.below.setCell (by simp; omega) _⟩
 rw [setCell_eq_setRow wx _ 0 _ 3 (0,0) _ h.next,setRow_heap wx _ _ _ 3 _ h.next]
 rfl

theorem Lay.set {B:Nat} {w wx:World} {P:Nat→Int} {x:Int} (h:Lay B w wx P x) (k:Nat) (hk:k < 12) (z:Int):Lay B w (wx.setCell ⟨B + 1,k,none⟩ (.int .i64 z)) (updP P k z) x :=
 ⟨h.zero.other _ _ (by simp),h.plan.set k hk z,(Below.heap_setCell wx _ _ _ (by simp)).trans h.next,h.below.setCell (by simp) _⟩

def cd (n e:Int):Int:=(n + e - 1) / e

def plan0 (b bl ino lg:Int):Nat→Int
 | 0=>b | 1=>bl | 2=>ino | 3=>lg | _=>0

def planOf (b bl ino lg:Int):Nat→Int
 | 0=>b | 1=>bl | 2=>ino | 3=>lg | 4=>2 | 5=>2 + lg | 6=>cd ino (8 * b) | 7=>2 + lg + cd ino (8 * b) | 8=>cd bl (8 * b) | 9=>2 + lg + cd ino (8 * b) + cd bl (8 * b)
 | 10=>cd ino (b / 32) | 11=>2 + lg + cd ino (8 * b) + cd bl (8 * b) + cd ino (b / 32) | _=>0

theorem cd_bd (n e:Int) (hn:0 ≤ n∧n ≤ 4096) (he:1 ≤ e):0 ≤ cd n e∧cd n e ≤ 4096:=by
 unfold cd
 refine ⟨Int.ediv_nonneg (by omega) (by omega),?_⟩
 have:(n + e - 1) / e < 4096 + 1:=by
  rw [Int.ediv_lt_iff_lt_mul (by omega)]
  have:4096 * 1 ≤ 4096 * e:=by omega
  omega
 omega

theorem fewest_cd (n e c:Int) (h:cd n e=c) (w:World) (hn:0 ≤ n∧n ≤ 1099511627776) (he:1 ≤ e∧e ≤ 1099511627776) :
  Calls Tryz.prog 143 #[.int .i64 n,.int .i64 e] w fun r w'=>r=.returned (.int .i64 c)∧w=w':=by
 subst h
 exact fewest_any n e w hn he

theorem lay_walk (b bl ino lg q c1 c2 c3:Int) (w:World) (hb:64 ≤ b∧b ≤ 4096) (hbl:1 ≤ bl∧bl ≤ 4096) (hi:2 ≤ ino∧ino ≤ 1024) (hl:4 ≤ lg∧lg ≤ 512) (hq:b / 32=q) (h1:cd ino (8 * b)=c1) (h2:cd bl (8 * b)=c2) (h3:cd ino q=c3) (Q:Nat→Int) (hQ:planOf b bl ino lg=Q) :
  Calls Tryz.prog 141 #[.int .i64 b,.int .i64 bl,.int .i64 ino,.int .i64 lg] w fun r w'=>r=.returned (PvN Q)∧Below w.heap.size w w':=by
 have hmf:∀ (fn:Fn) (first cap:Array Value) (w:World),(Instr.makeFunc fn first cap).run Tryz.prog w=.ok (.func fn first cap) w:=fun _ _ _ _=>rfl
 have hL:Hid (Lay w.heap.size w (((w.alloc (.cells (Pc zeroP) 23)).alloc (.cells (Pc (plan0 b bl ino lg)) 23)).alloc (.cells #[.int .i64 0] 3)) (plan0 b bl ino lg) 0):=by
  refine ⟨((R12.new w zeroP).alloc _).alloc _,?_,?_,?_⟩
  ·have:=R12.new (w.alloc (.cells (Pc zeroP) 23)) (plan0 b bl ino lg)
   rw [show (w.alloc (.cells (Pc zeroP) 23)).heap.size=w.heap.size + 1 by simp] at this
   exact this.alloc _
  ·have:=heap_alloc_new ((w.alloc (.cells (Pc zeroP) 23)).alloc (.cells (Pc (plan0 b bl ino lg)) 23)) (.cells #[.int .i64 0] 3)
   simpa using this
  ·exact (((Below.refl _ _).alloc (Nat.le_refl _) _).alloc (by simp) _).alloc (by simp; omega) _
 have HX:Hid ((64 ≤ b∧b ≤ 4096)∧(1 ≤ bl∧bl ≤ 4096)∧(2 ≤ ino∧ino ≤ 1024)∧(4 ≤ lg∧lg ≤ 512)∧2 ≤ q∧q ≤ 128):=⟨hb,hbl,hi,hl,by omega,by omega⟩
 have HC:Hid ((0 ≤ c1∧c1 ≤ 4096)∧(0 ≤ c2∧c2 ≤ 4096)∧(0 ≤ c3∧c3 ≤ 4096)):=by
  refine ⟨?_,?_,?_⟩
  ·rw [← h1]; exact cd_bd _ _ (by omega) (by omega)
  ·rw [← h2]; exact cd_bd _ _ (by omega) (by omega)
  ·rw [← h3]; exact cd_bd _ _ (by omega) (by omega)
 have H1:=hide h1
 have H2:=hide h2
 have H3:=hide h3
 have HQ:=hide hq
 have HP:=hide hQ
 have q1:IntKind.i64.wrap (8 * b)=8 * b:=by rw [IntKind.wrap_i64]; omega
 have q2:wrap64 (b.tdiv 32)=q:=by rw [Int.tdiv_eq_ediv_of_nonneg (by omega),hq]; simp only [wrap64]; omega
 have b0:0 ≤ b:=by omega
 clear hbl hi hl h1 h2 h3 hb hq hQ
 go_enter Tryz.func141,Tryz.ntmps141
 go_wp2_with fail
 go_at_call 169
 refine ((unhide hL).take 1 1 (by omega) (by omega) (by omega)).mono ?_
 clear hL
 rintro e w1 ⟨rfl,hL⟩
 replace hL:=hide hL
 go_wp2_with fail
 go_at_call 169
 refine ((unhide hL).take 1 2 (by omega) (by omega) (by omega)).mono ?_
 clear hL
 rintro e w2 ⟨rfl,hL⟩
 replace hL:=hide hL
 go_wp2_with fail
 go_at_call 169
 obtain ⟨x1,hx1⟩:∃ x,2 + lg=x:=⟨_,rfl⟩
 refine ((unhide hL).take lg x1 hx1 (by have:=unhide HX; omega) (by omega)).mono ?_
 clear hL
 have E1:=hide hx1
 clear hx1
 rintro e w3 ⟨rfl,hL⟩
 replace hL:=hide hL
 have e1:=(unhide hL).plan.cell 4 (by omega)
 have e2:=(unhide hL).plan.free 4
 go_wp2_with fail
 go_at_call 143
 refine (fewest_cd _ _ c1 (unhide H1) _ (by have:=unhide HX; omega) (by have:=unhide HX; omega)).mono ?_
 rintro e w4 ⟨rfl,rfl⟩
 clear e1 e2
 replace hL:=hide ((unhide hL).set 4 (by omega) 2)
 generalize w3.setCell ⟨w.heap.size + 1,4,none⟩ (.int .i64 2)=w4 at *
 go_wp2_with fail
 go_at_call 169
 obtain ⟨x2,hx2⟩:∃ x,x1 + c1=x:=⟨_,rfl⟩
 refine ((unhide hL).take c1 x2 hx2 (by have:=unhide HC; omega) (by have:=unhide HX; have:=unhide E1; omega)).mono ?_
 clear hL
 have E2:=hide hx2
 clear hx2
 rintro e w5 ⟨rfl,hL⟩
 replace hL:=hide hL
 have e1:=(unhide hL).plan.cell 5 (by omega)
 have e2:=(unhide hL).plan.free 5
 have e3:=(unhide hL).plan.cell 6 (by omega)
 have e4:=(unhide hL).plan.free 6
 go_wp2_with fail
 go_at_call 143
 refine (fewest_cd _ _ c2 (unhide H2) _ (by have:=unhide HX; omega) (by have:=unhide HX; omega)).mono ?_
 rintro e w6 ⟨rfl,rfl⟩
 clear e1 e2 e3 e4
 replace hL:=hide (((unhide hL).set 5 (by omega) x1).set 6 (by omega) c1)
 generalize (w5.setCell ⟨w.heap.size + 1,5,none⟩ (.int .i64 x1)).setCell ⟨w.heap.size + 1,6,none⟩ (.int .i64 c1)=w6 at *
 go_wp2_with fail
 go_at_call 169
 obtain ⟨x3,hx3⟩:∃ x,x2 + c2=x:=⟨_,rfl⟩
 refine ((unhide hL).take c2 x3 hx3 (by have:=unhide HC; omega) (by have:=unhide HX; have:=unhide HC; have:=unhide E1; have:=unhide E2; omega)).mono ?_
 clear hL
 have E3:=hide hx3
 clear hx3
 rintro e w7 ⟨rfl,hL⟩
 replace hL:=hide hL
 have e1:=(unhide hL).plan.cell 7 (by omega)
 have e2:=(unhide hL).plan.free 7
 have e3:=(unhide hL).plan.cell 8 (by omega)
 have e4:=(unhide hL).plan.free 8
 go_wp2_with fail
 go_at_call 143
 rw [q2]
 refine (fewest_cd _ _ c3 (unhide H3) _ (by have:=unhide HX; omega) (by have:=unhide HX; omega)).mono ?_
 rintro e w8 ⟨rfl,rfl⟩
 clear e1 e2 e3 e4
 replace hL:=hide (((unhide hL).set 7 (by omega) x2).set 8 (by omega) c2)
 generalize (w7.setCell ⟨w.heap.size + 1,7,none⟩ (.int .i64 x2)).setCell ⟨w.heap.size + 1,8,none⟩ (.int .i64 c2)=w8 at *
 go_wp2_with fail
 go_at_call 169
 obtain ⟨x4,hx4⟩:∃ x,x3 + c3=x:=⟨_,rfl⟩
 refine ((unhide hL).take c3 x4 hx4 (by have:=unhide HC; omega) (by have:=unhide HX; have:=unhide HC; have:=unhide E1; have:=unhide E2; have:=unhide E3; omega)).mono ?_
 clear hL
 have E4:=hide hx4
 clear hx4
 rintro e w9 ⟨rfl,hL⟩
 have hR:=hide (((hL.set 9 (by omega) x3).set 10 (by omega) c3).set 11 (by omega) x4)
 replace hL:=hide hL
 have e1:=(unhide hL).plan.cell 9 (by omega)
 have e2:=(unhide hL).plan.free 9
 have e3:=(unhide hL).plan.cell 10 (by omega)
 have e4:=(unhide hL).plan.free 10
 have e5:=(unhide hL).plan.cell 11 (by omega)
 have e6:=(unhide hL).plan.free 11
 have e7:w9.cell? ⟨w.heap.size + 1 + 1,0,none⟩=some (.int .i64 x4):=by simp [World.cell?,(unhide hL).next]
 go_upto_region 11 with fail
 have hP:Hid (Lay w.heap.size w (((w9.setCell ⟨w.heap.size + 1,9,none⟩ (.int .i64 x3)).setCell ⟨w.heap.size + 1,10,none⟩ (.int .i64 c3)).setCell ⟨w.heap.size + 1,11,none⟩ (.int .i64 x4)) Q x4):=by
  rw [← unhide HP]
  refine ⟨(unhide hR).zero,(unhide hR).plan.congr ?_,(unhide hR).next,(unhide hR).below⟩
  have y1:=unhide E1
  have y2:=unhide E2
  have y3:=unhide E3
  have y4:=unhide E4
  have y5:=unhide H1
  have y6:=unhide H2
  have y7:=unhide H3
  have y8:=unhide HQ
  clear hL e1 e2 e3 e4 e5 e6 e7 hR
  subst y8 y5 y6 y7 y1 y2 y3 y4
  intro k hk
  rcases twelve hk with rfl | rfl | rfl | rfl | rfl | rfl | rfl | rfl | rfl | rfl | rfl | rfl <;> rfl
 clear hL e1 e2 e3 e4 e5 e6 e7 hR
 generalize (((w9.setCell ⟨w.heap.size + 1,9,none⟩ (.int .i64 x3)).setCell ⟨w.heap.size + 1,10,none⟩ (.int .i64 c3)).setCell ⟨w.heap.size + 1,11,none⟩ (.int .i64 x4))=wx at *
 have f0:=(unhide hP).plan.cell 0 (by omega)
 have f1:=(unhide hP).plan.cell 1 (by omega)
 have f2:=(unhide hP).plan.cell 2 (by omega)
 have f3:=(unhide hP).plan.cell 3 (by omega)
 have f4:=(unhide hP).plan.cell 4 (by omega)
 have f5:=(unhide hP).plan.cell 5 (by omega)
 have f6:=(unhide hP).plan.cell 6 (by omega)
 have f7:=(unhide hP).plan.cell 7 (by omega)
 have f8:=(unhide hP).plan.cell 8 (by omega)
 have f9:=(unhide hP).plan.cell 9 (by omega)
 have f10:=(unhide hP).plan.cell 10 (by omega)
 have f11:=(unhide hP).plan.cell 11 (by omega)
 have z0:=(unhide hP).zero.cell 0 (by omega)
 have z1:=(unhide hP).zero.cell 1 (by omega)
 have z2:=(unhide hP).zero.cell 2 (by omega)
 have z3:=(unhide hP).zero.cell 3 (by omega)
 have z4:=(unhide hP).zero.cell 4 (by omega)
 have z5:=(unhide hP).zero.cell 5 (by omega)
 have z6:=(unhide hP).zero.cell 6 (by omega)
 have z7:=(unhide hP).zero.cell 7 (by omega)
 have z8:=(unhide hP).zero.cell 8 (by omega)
 have z9:=(unhide hP).zero.cell 9 (by omega)
 have z10:=(unhide hP).zero.cell 10 (by omega)
 have z11:=(unhide hP).zero.cell 11 (by omega)
 have u:=(unhide hP).zero.free
 go_wp2
 have hW:Below w.heap.size w (all12 wx w.heap.size Q):=below_all12 (unhide hP).below (Nat.le_refl _) Q
 have hA:R12 (all12 wx w.heap.size Q) w.heap.size Q:=(unhide hP).zero.all Q
 change bodyPost _ _ _ _ _ (all12 wx w.heap.size Q)
 generalize all12 wx w.heap.size Q=wf at *
 refine bodyPost_ret (v:=PvN Q) ?_ rfl ⟨rfl,hW⟩
 simp [results,Tryz.results141,go_sem,hA.cell 0 (by omega),hA.cell 1 (by omega),hA.cell 2 (by omega),hA.cell 3 (by omega),hA.cell 4 (by omega),hA.cell 5 (by omega),hA.cell 6 (by omega),hA.cell 7 (by omega),hA.cell 8 (by omega),hA.cell 9 (by omega),hA.cell 10 (by omega),hA.cell 11 (by omega)]

theorem lay_any (b bl ino lg:Int) (w:World) (hb:64 ≤ b∧b ≤ 4096) (hbl:1 ≤ bl∧bl ≤ 4096) (hi:2 ≤ ino∧ino ≤ 1024) (hl:4 ≤ lg∧lg ≤ 512) :
  Calls Tryz.prog 141 #[.int .i64 b,.int .i64 bl,.int .i64 ino,.int .i64 lg] w fun r w'=>r=.returned (PvN (planOf b bl ino lg))∧Below w.heap.size w w' :=
 lay_walk b bl ino lg _ _ _ _ w hb hbl hi hl rfl rfl rfl rfl _ rfl
end Go.Proofs.YtknmgefpjdfenaaGreat

/- The contracts of the reference's small functions. -/
namespace Go.Proofs.YtknmgefpjdfenaaGreat
set_option maxRecDepth 100000
set_option maxHeartbeats 8000000
open Go.RowKit Go.Shelf
set_option linter.unusedVariables false

theorem size_anyN (b:Int) (w:World) :
  Calls Tryz.prog 147 #[.int .i64 b] w fun r w'=>((r=.returned (.bool true)∧isSize b) ∨ (r=.returned (.bool false)∧¬ isSize b))∧w=w':=by
 go_enter Tryz.func147,Tryz.ntmps147
 go_wp2
 go_loop [3] (fun i=>∃ s:Int,i=.int .i64 s∧Hid ((isSize s ∨ s=8192)∧(∀ x,isSize x→x < s→b ≠ x))) (fun i=>16384 - (intOf i).toNat)
 case atStart=>exact ⟨64,rfl,.inl (.inl rfl),fun x hx hl=>by unfold isSize at hx; omega⟩
 case round =>
  obtain ⟨s,rfl,hH⟩:=hrel
  by_cases hs:s ≤ 4096
  ·by_cases hb:s=b
   ·subst hb
    go_wp2
    go_ret
    refine ⟨.inl ⟨rfl,?_⟩,rfl⟩
    have:=(unhide hH).1
    unfold isSize at *
    omega
   ·have hs':64 ≤ s:=by have:=(unhide hH).1; unfold isSize at this; omega
    go_wp2
    refine ⟨⟨s * 2,by go_num,?_,?_⟩,by simp [intOf]; omega⟩
    ·have:=(unhide hH).1; unfold isSize at *; omega
    ·intro x hx hl hbx
     have h1:=(unhide hH).2 x hx
     have h2:=(unhide hH).1
     unfold isSize at *
     omega
  ·go_wp2
   go_ret
   refine ⟨.inr ⟨rfl,fun hb=>?_⟩,rfl⟩
   exact (unhide hH).2 b hb (by unfold isSize at hb; omega) rfl

theorem cd_unique {n e k:Int} (he:1 ≤ e) (h1:n ≤ k * e) (h2:k * e < n + e):cd n e=k:=by
 unfold cd
 have a:k ≤ (n + e - 1) / e:=by rw [Int.le_ediv_iff_mul_le (by omega)]; omega
 have b:(n + e - 1) / e < k + 1:=by rw [Int.ediv_lt_iff_lt_mul (by omega),Int.add_mul]; omega
 omega

end Go.Proofs.YtknmgefpjdfenaaGreat

