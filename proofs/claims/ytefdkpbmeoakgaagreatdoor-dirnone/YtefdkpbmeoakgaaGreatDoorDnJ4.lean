/- Joined: PBase, PEq, PLeaf, PLay, PSize, PMake, PMake2, PRefLeaf, PRefMake, PCheck, PSound. -/
import Derived.Test.YtefdkpbmeoakgaaGreatDoorDnJ1
import Derived.WalkKit
import Derived.WalkSpells
import Derived.WalkLawsBesides
import Derived.Shelf.Abstract
import Derived.Laws.CopyOwn
import Derived.Deep.OwnRows
import Derived.Laws.BitsAllLaws
import Derived.Laws.StructEq
import Derived.ArgAppend
import Derived.Deep.RegionWith
import Derived.Deep.QuietTactic
import Derived.BigQuiet
import Derived.OwnWalk
import Derived.Deep.DeepCutAuto
/- Words and laws for plans: twelve numbers in a block. -/
namespace Go.Proofs.YtefdkpbmeoakgaaGreatDoor
set_option maxRecDepth 100000
set_option maxHeartbeats 8000000
open Go.RowKit Go.Shelf
set_option linter.unusedVariables false

abbrev Pv (P:Nat→Int):Value:=.agg #[.int .i64 (P 0),.int .i64 (P 1),.int .i64 (P 2),.int .i64 (P 3),.int .i64 (P 4),.int .i64 (P 5),.int .i64 (P 6),.int .i64 (P 7),.int .i64 (P 8),.int .i64 (P 9),.int .i64 (P 10),.int .i64 (P 11)]
abbrev Pc (P:Nat→Int):Array Value:=#[.int .i64 (P 0),.int .i64 (P 1),.int .i64 (P 2),.int .i64 (P 3),.int .i64 (P 4),.int .i64 (P 5),.int .i64 (P 6),.int .i64 (P 7),.int .i64 (P 8),.int .i64 (P 9),.int .i64 (P 10),.int .i64 (P 11)]

def R12 (u:World) (g:Nat) (P:Nat→Int):Prop:=u.heap[g]?=some (.cells (Pc P) 24)

theorem R12.lt {u g P}(h:R12 u g P):g<u.heap.size:=(Array.getElem?_eq_some_iff.1 h).1

theorem twelve {k:Nat}(hk:k<12):k=0∨k=1∨k=2∨k=3∨k=4∨k=5∨k=6∨k=7∨k=8∨k=9∨k=10∨k=11:=by omega

theorem agB (P:Nat→Int)(k:Nat)(hk:k<12):(Pc P)[k]?=some (.int .i64 (P k)):=by
 rcases twelve hk with rfl | rfl | rfl | rfl | rfl | rfl | rfl | rfl | rfl | rfl | rfl | rfl<;>rfl

theorem R12.cell {u g P}(h:R12 u g P)(k:Nat)(hk:k<12):u.cell? ⟨g,k,none⟩=some (.int .i64 (P k)):=by
 unfold R12 at h
 have:=agB P k hk
 simp only[World.cell?,h]
 exact this

theorem R12.free {u g P}(h:R12 u g P)(i:Nat):u.frozen? ⟨g,i,none⟩=false:=by
 unfold R12 at h;simp[World.frozen?,h]

theorem R12.below {u u':World}{g n:Nat}{P}(h:R12 u g P)(hb:Below n u u')(hg:g<n):R12 u' g P:=(hb.block g hg).trans h

theorem R12.other {u g P}(h:R12 u g P)(b:Addr)(v:Value)(hne:g≠b.block):R12 (u.setCell b v) g P:=(Below.heap_setCell u b v g hne).trans h

theorem R12.alloc {u g P}(h:R12 u g P)(o:Obj):R12 (u.alloc o) g P:=(Below.heap_alloc u o g h.lt).trans h

theorem R12.new (u:World)(P:Nat→Int):R12 (u.alloc (.cells (Pc P) 24)) u.heap.size P:=heap_alloc_new u _

def akd (P:Nat→Int) (k:Nat) (z:Int):Nat→Int:=fun j=>if j=k then z else P j

theorem ajb (P:Nat→Int)(k:Nat)(z:Int)(hk:k<12):(Pc P).setIfInBounds k (.int .i64 z)=Pc (akd P k z):=by
 rcases twelve hk with rfl | rfl | rfl | rfl | rfl | rfl | rfl | rfl | rfl | rfl | rfl | rfl<;>rfl

theorem R12.set {u g P}(h:R12 u g P)(k:Nat)(hk:k<12)(z:Int):R12 (u.setCell ⟨g,k,none⟩ (.int .i64 z)) g (akd P k z):=by
 unfold R12 at *
 rw[setCell_eq_setRow u g k _ 24 (0,0) _ h,setRow_heap u g _ _ 24 _ h,ajb P k z hk]

theorem R12.congr {u g}{P Q:Nat→Int}(h:R12 u g P)(e:∀ k,k<12→P k=Q k):R12 u g Q:=by
 unfold R12 at *
 rw[h]
 simp only[Pc]
 rw[e 0 (by omega),e 1 (by omega),e 2 (by omega),e 3 (by omega),e 4 (by omega),e 5 (by omega),e 6 (by omega),e 7 (by omega),e 8 (by omega),e 9 (by omega),e 10 (by omega),e 11 (by omega)]

def lJ (u:World) (g:Nat) (P:Nat→Int):World:=((((((((((((u.setCell ⟨g,0,none⟩ (.int .i64 (P 0))).setCell ⟨g,1,none⟩ (.int .i64 (P 1))).setCell ⟨g,2,none⟩ (.int .i64 (P 2))).setCell ⟨g,3,none⟩ (.int .i64 (P 3))).setCell ⟨g,4,none⟩ (.int .i64 (P 4))).setCell ⟨g,5,none⟩ (.int .i64 (P 5))).setCell ⟨g,6,none⟩ (.int .i64 (P 6))).setCell ⟨g,7,none⟩ (.int .i64 (P 7))).setCell ⟨g,8,none⟩ (.int .i64 (P 8))).setCell ⟨g,9,none⟩ (.int .i64 (P 9))).setCell ⟨g,10,none⟩ (.int .i64 (P 10))).setCell ⟨g,11,none⟩ (.int .i64 (P 11)))

theorem R12.all {u g P}(h:R12 u g P)(Q:Nat→Int):R12 (lJ u g Q) g Q:=by
 refine((((((((((((h.set 0 (by omega) (Q 0)).set 1 (by omega) (Q 1)).set 2 (by omega) (Q 2)).set 3 (by omega) (Q 3)).set 4 (by omega) (Q 4)).set 5 (by omega) (Q 5)).set 6 (by omega) (Q 6)).set 7 (by omega) (Q 7)).set 8 (by omega) (Q 8)).set 9 (by omega) (Q 9)).set 10 (by omega) (Q 10)).set 11 (by omega) (Q 11)).congr ?_
 intro k hk
 rcases twelve hk with rfl | rfl | rfl | rfl | rfl | rfl | rfl | rfl | rfl | rfl | rfl | rfl<;>rfl

theorem kF {n g:Nat}{w u:World}(h:Below n w u)(hg:n≤g)(Q:Nat→Int):Below n w (lJ u g Q) :=
 (((((((((((h.setCell hg _).setCell hg _).setCell hg _).setCell hg _).setCell hg _).setCell hg _).setCell hg _).setCell hg _).setCell hg _).setCell hg _).setCell hg _).setCell hg _

def bZ:Nat→Int:=fun _=>0

theorem agX:Tryz.prog.underlying 24=some (.struct (Tryz.prog.fieldsOf 24)):=by kernel_rfl
theorem ahk:Tryz.prog.stoodInHeld 24=false:=by kernel_rfl

theorem aaG : (Tryz.prog.fieldsOf 24).toList.map (fun f => (f.name, f.type, f.offset)) = [("Block", 3, 0), ("Blocks", 3, 1), ("Inodes", 3, 2), ("Log", 3, 3), ("LogAt", 3, 4), ("IBits", 3, 5), ("ILen", 3, 6), ("BBits", 3, 7), ("BLen", 3, 8), ("Table", 3, 9), ("TLen", 3, 10), ("Data", 3, 11)] := by kernel_rfl

theorem af0 (P:Nat→Int)(k:Nat)(hk:k<12)(w:World):(part 3 (Pc P) k).run Tryz.prog w=.ok (.int .i64 (P k)) w:=by
 have h:=agB P k hk
 simp only[part,isAgg,Sem.run_bind,run_underlying Tryz.underlying3,Result.andThen_ok,Sem.run_pure]
 rw[h]
 rfl

theorem wY (P Q : Nat → Int) (w : World) : ∀ fs : List Field, (∀ f ∈ fs, f.name ≠ "_" ∧ f.type = 3 ∧ f.offset < 12) →
  ∃ r:Bool,(Op.eqFields 9999 (Pc P) (Pc Q) fs).run Tryz.prog w=.ok r w∧(r=true↔∀ f∈fs,P f.offset=Q f.offset)
 | [],_=>⟨true,by simp[Op.eqFields],by simp⟩
 | f::fs,h=>by
  obtain⟨h1,h2,h3⟩:=h f (by simp)
  obtain⟨r,hr,hi⟩:=wY P Q w fs (fun g hg=>h g (by simp[hg]))
  by_cases hE:P f.offset=Q f.offset
  ·refine⟨r,?_,by simp[hi,hE]⟩
   simp only[Op.eqFields,h1,ne_eq,not_false_eq_true,if_true,Sem.run_bind,h2,af0 P _ h3,af0 Q _ h3,Result.andThen_ok,run_equalIn_int w 9998 3 .i64 .i64 _ _ Tryz.underlying3,hE]
   simpa using hr
  ·refine⟨false,?_,by simp[hE]⟩
   simp only[Op.eqFields,h1,ne_eq,not_false_eq_true,if_true,Sem.run_bind,h2,af0 P _ h3,af0 Q _ h3,Result.andThen_ok,run_equalIn_int w 9998 3 .i64 .i64 _ _ Tryz.underlying3]
   simp[hE]

theorem wV : ∀ f ∈ (Tryz.prog.fieldsOf 24).toList, f.name ≠ "_" ∧ f.type = 3 ∧ f.offset < 12 := by
 have h:=aaG
 intro f hf
 have:(f.name,f.type,f.offset)∈(Tryz.prog.fieldsOf 24).toList.map (fun f=>(f.name,f.type,f.offset)):=List.mem_map.2 ⟨f,hf,rfl⟩
 rw[h] at this
 simp only[List.mem_cons,List.not_mem_nil,or_false,Prod.mk.injEq] at this
 rcases this with ⟨a,b,c⟩ | ⟨a,b,c⟩ | ⟨a,b,c⟩ | ⟨a,b,c⟩ | ⟨a,b,c⟩ | ⟨a,b,c⟩ | ⟨a,b,c⟩ | ⟨a,b,c⟩ | ⟨a,b,c⟩ | ⟨a,b,c⟩ | ⟨a,b,c⟩ | ⟨a,b,c⟩<;>exact⟨by rw[a];decide,b,by omega⟩

theorem abT (k:Nat)(hk:k<12):∃ f∈(Tryz.prog.fieldsOf 24).toList,f.offset=k:=by
 have h:=aaG
 have:k∈((Tryz.prog.fieldsOf 24).toList.map (fun f=>(f.name,f.type,f.offset))).map (·.2.2):=by
  rw[h]
  simp
  omega
 rw[List.map_map,List.mem_map] at this
 obtain⟨f,hf,e⟩:=this
 exact⟨f,hf,e⟩

theorem rW (P Q:Nat→Int)(w:World):∃ r:Bool,(Op.equalIn 10000 24 (Pv P) (Pv Q)).run Tryz.prog w=.ok r w∧(r=true↔∀ k,k<12→P k=Q k):=by
 obtain⟨r,hr,hi⟩:=wY P Q w _ wV
 refine⟨r,?_,?_⟩
 ·rw[run_equalIn_struct w 9999 24 _ _ agX ahk]
  exact hr
 ·rw[hi]
  constructor
  ·intro h k hk
   obtain⟨f,hf,rfl⟩:=abT k hk
   exact h f hf
  ·intro h f hf
   exact h _ (wV f hf).2.2

theorem zk {P Q:Nat→Int}(h:∀ k,k<12→P k=Q k)(w:World):(binOp .neq 24 (Pv P) (Pv Q)).run Tryz.prog w=.ok (.bool false) w:=by
 obtain⟨r,hr,hi⟩:=rW P Q w
 rw[run_neq_struct,hr,hi.2 h];rfl

theorem wu {P Q:Nat→Int}(h:¬ ∀ k,k<12→P k=Q k)(w:World):(binOp .neq 24 (Pv P) (Pv Q)).run Tryz.prog w=.ok (.bool true) w:=by
 obtain⟨r,hr,hi⟩:=rW P Q w
 have:r=false:=by cases r with | false=>rfl | true=>exact absurd (hi.1 rfl) h
 rw[run_neq_struct,hr,this];rfl

theorem abV (n e:Int)(w:World)(hn:0≤n∧n≤1099511627776)(he:1≤e∧e≤1099511627776) :
  Calls Tryz.prog 107 #[.int .i64 n,.int .i64 e] w fun r w'=>r=.returned (.int .i64 ((n+e - 1) / e))∧w=w':=by
 go_enter Tryz.func107,Tryz.ntmps107
 go_wp2
 go_ret
 refine⟨?_,rfl⟩
 go_num

theorem oU (n l m:Int)(w:World) :
  Calls Tryz.prog 66 #[.int .i64 n,.int .i64 l,.int .i64 m] w fun r w'=>r=.returned (.bool (decide (n<l∨m<n)))∧w=w':=by
 by_cases h1:n<l
 ·go_enter Tryz.func66,Tryz.ntmps66
  go_wp2
  go_ret
  simp[h1]
 ·by_cases h2:m<n
  ·go_enter Tryz.func66,Tryz.ntmps66
   go_wp2
   go_ret
   simp
  ·go_enter Tryz.func66,Tryz.ntmps66
   go_wp2
   go_ret
   simp[h1,h2]

theorem jZ (n l m:Int)(w:World)(h:n<l∨m<n) :
  Calls Tryz.prog 66 #[.int .i64 n,.int .i64 l,.int .i64 m] w fun r w'=>r=.returned (.bool true)∧w=w':=by
 have:=oU n l m w
 rwa [decide_eq_true h] at this

theorem bI (n l m:Int)(w:World)(h:¬ (n<l∨m<n)) :
  Calls Tryz.prog 66 #[.int .i64 n,.int .i64 l,.int .i64 m] w fun r w'=>r=.returned (.bool false)∧w=w':=by
 have:=oU n l m w
 rwa [decide_eq_false h] at this

def isSize (b:Int):Prop:=b=64∨b=128∨b=256∨b=512∨b=1024∨b=2048∨b=4096

theorem bT (b:Int)(w:World)(h:isSize b) :
  Calls Tryz.prog 65 #[.int .i64 b] w fun r w'=>r=.returned (.bool true)∧w=w':=by
 rcases h with rfl | rfl | rfl | rfl | rfl | rfl | rfl
 all_goals
  go_enter Tryz.func65,Tryz.ntmps65
  go_wp2
  go_ret
  exact⟨rfl,rfl⟩

theorem qL (b:Int)(w:World)(h:¬ isSize b) :
  Calls Tryz.prog 65 #[.int .i64 b] w fun r w'=>r=.returned (.bool false)∧w=w':=by
 unfold isSize at h
 have h1:b≠64:=by omega
 have h2:b≠128:=by omega
 have h3:b≠256:=by omega
 have h4:b≠512:=by omega
 have h5:b≠1024:=by omega
 have h6:b≠2048:=by omega
 have h7:b≠4096:=by omega
 clear h
 go_enter Tryz.func65,Tryz.ntmps65
 go_wp2
 go_ret
 exact⟨rfl,rfl⟩

theorem take_any (g:Nat)(n x:Int)(w:World)(hc:w.heap[g]?=some (zI x))(hn:0≤n∧n≤1099511627776)(hx:0≤x∧x≤1099511627776) :
  Calls Tryz.prog 106 #[.int .i64 n,.pointer (some ⟨g,0,none⟩)] w fun r w'=>r=.returned (.tuple #[.int .i64 x,.int .i64 n])∧w'=w.setCell ⟨g,0,none⟩ (.int .i64 (x+n)):=by
 have c1:w.cell? ⟨g,0,none⟩=some (.int .i64 x):=by simp[World.cell?,hc]
 have c2:w.frozen? ⟨g,0,none⟩=false:=by simp[World.frozen?,hc]
 clear hc
 go_enter Tryz.func106,Tryz.ntmps106
 go_wp2
 go_ret2
 refine⟨rfl,?_⟩
 go_num

structure Lay (B:Nat) (w wx:World) (P:Nat→Int) (x:Int):Prop where
 zero:R12 wx B bZ
 plan:R12 wx (B+1) P
 next:wx.heap[B+1+1]?=some (zI x)
 below:Below B w wx

theorem Lay.take {B w wx P x}(h:Lay B w wx P x)(n y:Int)(hy:x+n=y)(hn:0≤n∧n≤1099511627776)(hx:0≤x∧x≤1099511627776) :
  Calls Tryz.prog 106 #[.int .i64 n,.pointer (some ⟨B+1+1,0,none⟩)] wx fun r w'=>r=.returned (.tuple #[.int .i64 x,.int .i64 n])∧Lay B w w' P y:=by
 subst hy
 refine(take_any _ n x wx h.next hn hx).mono ?_
 rintro r w' ⟨rfl,rfl⟩
 refine⟨rfl,h.zero.other _ _ (by simp;omega),h.plan.other _ _ (by simp),?_,h.below.setCell (by simp;omega) _⟩
 rw[setCell_eq_setRow wx _ 0 _ 3 (0,0) _ h.next,setRow_heap wx _ _ _ 3 _ h.next]
 rfl

theorem Lay.set {B w wx P x}(h:Lay B w wx P x)(k:Nat)(hk:k<12)(z:Int):Lay B w (wx.setCell ⟨B+1,k,none⟩ (.int .i64 z)) (akd P k z) x :=
 ⟨h.zero.other _ _ (by simp),h.plan.set k hk z,(Below.heap_setCell wx _ _ _ (by simp)).trans h.next,h.below.setCell (by simp) _⟩

def cd (n e:Int):Int:=(n+e - 1) / e

def afy (b bl ino lg:Int):Nat→Int
 | 0=>b | 1=>bl | 2=>ino | 3=>lg | _=>0

def iC (b bl ino lg:Int):Nat→Int
 | 0=>b | 1=>bl | 2=>ino | 3=>lg | 4=>2 | 5=>2+lg | 6=>cd ino (8*b) | 7=>2+lg+cd ino (8*b) | 8=>cd bl (8*b) | 9=>2+lg+cd ino (8*b)+cd bl (8*b)
 | 10=>cd ino (b / 32) | 11=>2+lg+cd ino (8*b)+cd bl (8*b)+cd ino (b / 32) | _=>0

theorem uM (n e:Int)(hn:0≤n∧n≤4096)(he:1≤e):0≤cd n e∧cd n e≤4096:=by
 unfold cd
 refine⟨Int.ediv_nonneg (by omega) (by omega),?_⟩
 have:(n+e - 1) / e<4096+1:=by
  rw[Int.ediv_lt_iff_lt_mul (by omega)]
  have:4096*1≤4096*e:=by omega
  omega
 omega

theorem pY (n e c:Int)(h:cd n e=c)(w:World)(hn:0≤n∧n≤1099511627776)(he:1≤e∧e≤1099511627776) :
  Calls Tryz.prog 107 #[.int .i64 n,.int .i64 e] w fun r w'=>r=.returned (.int .i64 c)∧w=w':=by
 subst h
 exact abV n e w hn he

theorem afG (b bl ino lg q c1 c2 c3:Int)(w:World)(hb:64≤b∧b≤4096)(hbl:1≤bl∧bl≤4096)(hi:2≤ino∧ino≤1024)(hl:4≤lg∧lg≤512)(hq:b / 32=q)(h1:cd ino (8*b)=c1)(h2:cd bl (8*b)=c2)(h3:cd ino q=c3)(Q:Nat→Int)(hQ:iC b bl ino lg=Q) :
  Calls Tryz.prog 67 #[.int .i64 b,.int .i64 bl,.int .i64 ino,.int .i64 lg] w fun r w'=>r=.returned (Pv Q)∧Below w.heap.size w w':=by
 have hmf:∀ (fn:Fn) (first cap:Array Value) (w:World),(Instr.makeFunc fn first cap).run Tryz.prog w=.ok (.func fn first cap) w:=fun _ _ _ _=>rfl
 have hL:Hid (Lay w.heap.size w (((w.alloc (.cells (Pc bZ) 24)).alloc (.cells (Pc (afy b bl ino lg)) 24)).alloc (zI 0)) (afy b bl ino lg) 0):=by
  refine⟨((R12.new w bZ).alloc _).alloc _,?_,?_,?_⟩
  ·have:=R12.new (w.alloc (.cells (Pc bZ) 24)) (afy b bl ino lg)
   rw[show (w.alloc (.cells (Pc bZ) 24)).heap.size=w.heap.size+1 by simp] at this
   exact this.alloc _
  ·have:=heap_alloc_new ((w.alloc (.cells (Pc bZ) 24)).alloc (.cells (Pc (afy b bl ino lg)) 24)) (zI 0)
   simpa using this
  ·exact(((Below.refl _ _).alloc (Nat.le_refl _) _).alloc (by simp) _).alloc (by simp;omega) _
 have HX:Hid ((64≤b∧b≤4096)∧(1≤bl∧bl≤4096)∧(2≤ino∧ino≤1024)∧(4≤lg∧lg≤512)∧2≤q∧q≤128):=⟨hb,hbl,hi,hl,by omega,by omega⟩
 have HC:Hid ((0≤c1∧c1≤4096)∧(0≤c2∧c2≤4096)∧(0≤c3∧c3≤4096)):=by
  refine⟨?_,?_,?_⟩
  ·rw[← h1];exact uM _ _ (by omega) (by omega)
  ·rw[← h2];exact uM _ _ (by omega) (by omega)
  ·rw[← h3];exact uM _ _ (by omega) (by omega)
 have H1:=hide h1
 have H2:=hide h2
 have H3:=hide h3
 have HQ:=hide hq
 have HP:=hide hQ
 have q1:IntKind.i64.wrap (8*b)=8*b:=by rw[IntKind.wrap_i64];omega
 have q2:wrap64 (b.tdiv 32)=q:=by rw[Int.tdiv_eq_ediv_of_nonneg (by omega),hq];simp only[wrap64];omega
 have b0:0≤b:=by omega
 clear hbl hi hl h1 h2 h3 hb hq hQ
 go_enter Tryz.func67,Tryz.ntmps67
 go_wp2_with fail
 go_at_call 106
 refine((ah hL).take 1 1 (by omega) (by omega) (by omega)).mono ?_
 clear hL
 rintro e w1 ⟨rfl,hL⟩
 replace hL:=hide hL
 go_wp2_with fail
 go_at_call 106
 refine((ah hL).take 1 2 (by omega) (by omega) (by omega)).mono ?_
 clear hL
 rintro e w2 ⟨rfl,hL⟩
 replace hL:=hide hL
 go_wp2_with fail
 go_at_call 106
 obtain⟨x1,hx1⟩:∃ x,2+lg=x:=⟨_,rfl⟩
 refine((ah hL).take lg x1 hx1 (by have:=ah HX;omega) (by omega)).mono ?_
 clear hL
 have E1:=hide hx1
 clear hx1
 rintro e w3 ⟨rfl,hL⟩
 replace hL:=hide hL
 have e1:=(ah hL).plan.cell 4 (by omega)
 have e2:=(ah hL).plan.free 4
 go_wp2_with fail
 go_at_call 107
 refine(pY _ _ c1 (ah H1) _ (by have:=ah HX;omega) (by have:=ah HX;omega)).mono ?_
 rintro e w4 ⟨rfl,rfl⟩
 clear e1 e2
 replace hL:=hide ((ah hL).set 4 (by omega) 2)
 generalize w3.setCell ⟨w.heap.size+1,4,none⟩ (.int .i64 2)=w4 at *
 go_wp2_with fail
 go_at_call 106
 obtain⟨x2,hx2⟩:∃ x,x1+c1=x:=⟨_,rfl⟩
 refine((ah hL).take c1 x2 hx2 (by have:=ah HC;omega) (by have:=ah HX;have:=ah E1;omega)).mono ?_
 clear hL
 have E2:=hide hx2
 clear hx2
 rintro e w5 ⟨rfl,hL⟩
 replace hL:=hide hL
 have e1:=(ah hL).plan.cell 5 (by omega)
 have e2:=(ah hL).plan.free 5
 have e3:=(ah hL).plan.cell 6 (by omega)
 have e4:=(ah hL).plan.free 6
 go_wp2_with fail
 go_at_call 107
 refine(pY _ _ c2 (ah H2) _ (by have:=ah HX;omega) (by have:=ah HX;omega)).mono ?_
 rintro e w6 ⟨rfl,rfl⟩
 clear e1 e2 e3 e4
 replace hL:=hide (((ah hL).set 5 (by omega) x1).set 6 (by omega) c1)
 generalize (w5.setCell ⟨w.heap.size+1,5,none⟩ (.int .i64 x1)).setCell ⟨w.heap.size+1,6,none⟩ (.int .i64 c1)=w6 at *
 go_wp2_with fail
 go_at_call 106
 obtain⟨x3,hx3⟩:∃ x,x2+c2=x:=⟨_,rfl⟩
 refine((ah hL).take c2 x3 hx3 (by have:=ah HC;omega) (by have:=ah HX;have:=ah HC;have:=ah E1;have:=ah E2;omega)).mono ?_
 clear hL
 have E3:=hide hx3
 clear hx3
 rintro e w7 ⟨rfl,hL⟩
 replace hL:=hide hL
 have e1:=(ah hL).plan.cell 7 (by omega)
 have e2:=(ah hL).plan.free 7
 have e3:=(ah hL).plan.cell 8 (by omega)
 have e4:=(ah hL).plan.free 8
 go_wp2_with fail
 go_at_call 107
 rw[q2]
 refine(pY _ _ c3 (ah H3) _ (by have:=ah HX;omega) (by have:=ah HX;omega)).mono ?_
 rintro e w8 ⟨rfl,rfl⟩
 clear e1 e2 e3 e4
 replace hL:=hide (((ah hL).set 7 (by omega) x2).set 8 (by omega) c2)
 generalize (w7.setCell ⟨w.heap.size+1,7,none⟩ (.int .i64 x2)).setCell ⟨w.heap.size+1,8,none⟩ (.int .i64 c2)=w8 at *
 go_wp2_with fail
 go_at_call 106
 obtain⟨x4,hx4⟩:∃ x,x3+c3=x:=⟨_,rfl⟩
 refine((ah hL).take c3 x4 hx4 (by have:=ah HC;omega) (by have:=ah HX;have:=ah HC;have:=ah E1;have:=ah E2;have:=ah E3;omega)).mono ?_
 clear hL
 have E4:=hide hx4
 clear hx4
 rintro e w9 ⟨rfl,hL⟩
 have hR:=hide (((hL.set 9 (by omega) x3).set 10 (by omega) c3).set 11 (by omega) x4)
 replace hL:=hide hL
 have e1:=(ah hL).plan.cell 9 (by omega)
 have e2:=(ah hL).plan.free 9
 have e3:=(ah hL).plan.cell 10 (by omega)
 have e4:=(ah hL).plan.free 10
 have e5:=(ah hL).plan.cell 11 (by omega)
 have e6:=(ah hL).plan.free 11
 have e7:w9.cell? ⟨w.heap.size+1+1,0,none⟩=some (.int .i64 x4):=by simp[World.cell?,(ah hL).next]
 go_upto_region 11 with fail
 have hP:Hid (Lay w.heap.size w (((w9.setCell ⟨w.heap.size+1,9,none⟩ (.int .i64 x3)).setCell ⟨w.heap.size+1,10,none⟩ (.int .i64 c3)).setCell ⟨w.heap.size+1,11,none⟩ (.int .i64 x4)) Q x4):=by
  rw[← ah HP]
  refine⟨(ah hR).zero,(ah hR).plan.congr ?_,(ah hR).next,(ah hR).below⟩
  have y1:=ah E1
  have y2:=ah E2
  have y3:=ah E3
  have y4:=ah E4
  have y5:=ah H1
  have y6:=ah H2
  have y7:=ah H3
  have y8:=ah HQ
  clear hL e1 e2 e3 e4 e5 e6 e7 hR
  subst y8 y5 y6 y7 y1 y2 y3 y4
  intro k hk
  rcases twelve hk with rfl | rfl | rfl | rfl | rfl | rfl | rfl | rfl | rfl | rfl | rfl | rfl<;>rfl
 clear hL e1 e2 e3 e4 e5 e6 e7 hR
 generalize (((w9.setCell ⟨w.heap.size+1,9,none⟩ (.int .i64 x3)).setCell ⟨w.heap.size+1,10,none⟩ (.int .i64 c3)).setCell ⟨w.heap.size+1,11,none⟩ (.int .i64 x4))=wx at *
 have f0:=(ah hP).plan.cell 0 (by omega)
 have f1:=(ah hP).plan.cell 1 (by omega)
 have f2:=(ah hP).plan.cell 2 (by omega)
 have f3:=(ah hP).plan.cell 3 (by omega)
 have f4:=(ah hP).plan.cell 4 (by omega)
 have f5:=(ah hP).plan.cell 5 (by omega)
 have f6:=(ah hP).plan.cell 6 (by omega)
 have f7:=(ah hP).plan.cell 7 (by omega)
 have f8:=(ah hP).plan.cell 8 (by omega)
 have f9:=(ah hP).plan.cell 9 (by omega)
 have f10:=(ah hP).plan.cell 10 (by omega)
 have f11:=(ah hP).plan.cell 11 (by omega)
 have z0:=(ah hP).zero.cell 0 (by omega)
 have z1:=(ah hP).zero.cell 1 (by omega)
 have z2:=(ah hP).zero.cell 2 (by omega)
 have z3:=(ah hP).zero.cell 3 (by omega)
 have z4:=(ah hP).zero.cell 4 (by omega)
 have z5:=(ah hP).zero.cell 5 (by omega)
 have z6:=(ah hP).zero.cell 6 (by omega)
 have z7:=(ah hP).zero.cell 7 (by omega)
 have z8:=(ah hP).zero.cell 8 (by omega)
 have z9:=(ah hP).zero.cell 9 (by omega)
 have z10:=(ah hP).zero.cell 10 (by omega)
 have z11:=(ah hP).zero.cell 11 (by omega)
 have u:=(ah hP).zero.free
 go_wp2
 have hW:Below w.heap.size w (lJ wx w.heap.size Q):=kF (ah hP).below (Nat.le_refl _) Q
 have hA:R12 (lJ wx w.heap.size Q) w.heap.size Q:=(ah hP).zero.all Q
 change bodyPost _ _ _ _ _ (lJ wx w.heap.size Q)
 generalize lJ wx w.heap.size Q=wf at *
 refine bodyPost_ret (v:=Pv Q) ?_ rfl ⟨rfl,hW⟩
 simp[results,Tryz.results67,go_sem,hA.cell 0 (by omega),hA.cell 1 (by omega),hA.cell 2 (by omega),hA.cell 3 (by omega),hA.cell 4 (by omega),hA.cell 5 (by omega),hA.cell 6 (by omega),hA.cell 7 (by omega),hA.cell 8 (by omega),hA.cell 9 (by omega),hA.cell 10 (by omega),hA.cell 11 (by omega)]

theorem ad7 (b bl ino lg:Int)(w:World)(hb:64≤b∧b≤4096)(hbl:1≤bl∧bl≤4096)(hi:2≤ino∧ino≤1024)(hl:4≤lg∧lg≤512) :
  Calls Tryz.prog 67 #[.int .i64 b,.int .i64 bl,.int .i64 ino,.int .i64 lg] w fun r w'=>r=.returned (Pv (iC b bl ino lg))∧Below w.heap.size w w' :=
 afG b bl ino lg _ _ _ _ w hb hbl hi hl rfl rfl rfl rfl _ rfl

theorem size_any (b:Int)(w:World) :
  Calls Tryz.prog 38 #[.int .i64 b] w fun r w'=>((r=.returned (.bool true)∧isSize b)∨(r=.returned (.bool false)∧¬ isSize b))∧w=w':=by
 go_enter Tryz.func38,Tryz.ntmps38
 go_wp2
 go_loop [3] (fun i=>∃ s:Int,i=.int .i64 s∧Hid ((isSize s∨s=8192)∧(∀ x,isSize x→x<s→b≠x))) (fun i=>16384 - (intOf i).toNat)
 case atStart=>exact⟨64,rfl,.inl (.inl rfl),fun x hx hl=>by unfold isSize at hx;omega⟩
 case round =>
  obtain⟨s,rfl,hH⟩:=hrel
  by_cases hs:s≤4096
  ·by_cases hb:s=b
   ·subst hb
    go_wp2
    go_ret
    refine⟨.inl ⟨rfl,?_⟩,rfl⟩
    have:=(ah hH).1
    unfold isSize at *
    omega
   ·have hs':64≤s:=by have:=(ah hH).1;unfold isSize at this;omega
    go_wp2
    refine⟨⟨s*2,by go_num,?_,?_⟩,by simp[intOf];omega⟩
    ·have:=(ah hH).1;unfold isSize at *;omega
    ·intro x hx hl hbx
     have h1:=(ah hH).2 x hx
     have h2:=(ah hH).1
     unfold isSize at *
     omega
  ·go_wp2
   go_ret
   refine⟨.inr ⟨rfl,fun hb=>?_⟩,rfl⟩
   exact(ah hH).2 b hb (by unfold isSize at hb;omega) rfl

theorem aeu {n e k:Int}(he:1≤e)(h1:n≤k*e)(h2:k*e<n+e):cd n e=k:=by
 unfold cd
 have a:k≤(n+e - 1) / e:=by rw[Int.le_ediv_iff_mul_le (by omega)];omega
 have b:(n+e - 1) / e<k+1:=by rw[Int.ediv_lt_iff_lt_mul (by omega),Int.add_mul];omega
 omega

def eY (b bl ino lg:Int):Prop:=¬ isSize b∨(bl<1∨4096<bl)∨(ino<2∨1024<ino)∨(lg<4∨512<lg)

def ajL (b bl ino lg:Int):Bool:=!(b==64||b==128||b==256||b==512||b==1024||b==2048||b==4096)||decide (bl<1∨4096<bl)||decide (ino<2∨1024<ino)||decide (lg<4∨512<lg)

theorem je {b bl ino lg:Int}:ajL b bl ino lg=true↔eY b bl ino lg:=by
 unfold ajL eY isSize
 simp
 omega

def eF (b bl ino lg:Int):Int:=if ajL b bl ino lg=true then 1 else if 1048576<b*bl then 5 else if bl≤iC b bl ino lg 11 then 6 else 0

def oZ (b bl ino lg:Int):Nat→Int:=if eF b bl ino lg=0 then iC b bl ino lg else bZ

theorem pG {b bl ino lg}(h:eY b bl ino lg):eF b bl ino lg=1:=by rw[eF,if_pos (je.2 h)]
theorem pF {b bl ino lg:Int}(h:¬ eY b bl ino lg)(h1:1048576<b*bl):eF b bl ino lg=5:=by rw[eF,if_neg (fun x=>h (je.1 x)),if_pos h1]
theorem pq {b bl ino lg:Int}(h:¬ eY b bl ino lg)(h1:¬ 1048576<b*bl)(h2:bl≤iC b bl ino lg 11):eF b bl ino lg=6:=by rw[eF,if_neg (fun x=>h (je.1 x)),if_neg h1,if_pos h2]
theorem aa3 {b bl ino lg:Int}(h:¬ eY b bl ino lg)(h1:¬ 1048576<b*bl)(h2:¬ bl≤iC b bl ino lg 11):eF b bl ino lg=0:=by rw[eF,if_neg (fun x=>h (je.1 x)),if_neg h1,if_neg h2]
theorem lZ {b bl ino lg:Int}(h:eF b bl ino lg≠0):oZ b bl ino lg=bZ:=if_neg h
theorem kZ {b bl ino lg:Int}(h:eF b bl ino lg=0):oZ b bl ino lg=iC b bl ino lg:=if_pos h

theorem kH (w:World):R12 (w.alloc (.cells (Pc bZ) 24)) w.heap.size bZ∧Below w.heap.size w (w.alloc (.cells (Pc bZ) 24)):=⟨R12.new _ _,(Below.refl _ _).alloc (Nat.le_refl _) _⟩

theorem afB (b bl ino lg:Int)(w:World)(h:eY b bl ino lg) :
  Calls Tryz.prog 40 #[.int .i64 b,.int .i64 bl,.int .i64 ino,.int .i64 lg] w fun r w'=>r=.returned (.tuple #[Pv bZ,.int .i64 1])∧Below w.heap.size w w':=by
 have H:=hide h
 have HZ:=hide (kH w)
 clear h
 by_cases hs:isSize b
 ·have HS:=hide hs
  clear hs
  by_cases h1:bl<1∨4096<bl
  ·have H1:=hide h1
   clear h1
   go_enter Tryz.func40,Tryz.ntmps40
   go_wp2_with fail
   go_at_call 65
   refine(bT b _ (ah HS)).mono ?_
   rintro e w' ⟨rfl,rfl⟩
   go_wp2_with fail
   go_at_call 66
   refine(jZ _ _ _ _ (ah H1)).mono ?_
   rintro e w' ⟨rfl,rfl⟩
   go_wp2
   change bodyPost _ _ _ _ _ (w.alloc (.cells (Pc bZ) 24))
   obtain⟨hA,hW⟩:=ah HZ
   generalize w.alloc (.cells (Pc bZ) 24)=wf at *
   refine bodyPost_ret (v:=.tuple #[Pv bZ,.int .i64 1]) ?_ rfl ⟨rfl,hW⟩
   simp[results,Tryz.results40,go_sem,hA.cell 0 (by omega),hA.cell 1 (by omega),hA.cell 2 (by omega),hA.cell 3 (by omega),hA.cell 4 (by omega),hA.cell 5 (by omega),hA.cell 6 (by omega),hA.cell 7 (by omega),hA.cell 8 (by omega),hA.cell 9 (by omega),hA.cell 10 (by omega),hA.cell 11 (by omega)]
  ·have H1:=hide h1
   clear h1
   by_cases h2:ino<2∨1024<ino
   ·have H2:=hide h2
    clear h2
    go_enter Tryz.func40,Tryz.ntmps40
    go_wp2_with fail
    go_at_call 65
    refine(bT b _ (ah HS)).mono ?_
    rintro e w' ⟨rfl,rfl⟩
    go_wp2_with fail
    go_at_call 66
    refine(bI _ _ _ _ (ah H1)).mono ?_
    rintro e w' ⟨rfl,rfl⟩
    go_wp2_with fail
    go_at_call 66
    refine(jZ _ _ _ _ (ah H2)).mono ?_
    rintro e w' ⟨rfl,rfl⟩
    go_wp2
    change bodyPost _ _ _ _ _ (w.alloc (.cells (Pc bZ) 24))
    obtain⟨hA,hW⟩:=ah HZ
    generalize w.alloc (.cells (Pc bZ) 24)=wf at *
    refine bodyPost_ret (v:=.tuple #[Pv bZ,.int .i64 1]) ?_ rfl ⟨rfl,hW⟩
    simp[results,Tryz.results40,go_sem,hA.cell 0 (by omega),hA.cell 1 (by omega),hA.cell 2 (by omega),hA.cell 3 (by omega),hA.cell 4 (by omega),hA.cell 5 (by omega),hA.cell 6 (by omega),hA.cell 7 (by omega),hA.cell 8 (by omega),hA.cell 9 (by omega),hA.cell 10 (by omega),hA.cell 11 (by omega)]
   ·have H2:=hide h2
    clear h2
    have H3:Hid (lg<4∨512<lg):=by
     have a:=ah H
     have b:=ah HS
     have c:=ah H1
     have d:=ah H2
     unfold eY at a
     rcases a with a | a | a | a
     ·exact absurd b a
     ·exact absurd a c
     ·exact absurd a d
     ·exact a
    go_enter Tryz.func40,Tryz.ntmps40
    go_wp2_with fail
    go_at_call 65
    refine(bT b _ (ah HS)).mono ?_
    rintro e w' ⟨rfl,rfl⟩
    go_wp2_with fail
    go_at_call 66
    refine(bI _ _ _ _ (ah H1)).mono ?_
    rintro e w' ⟨rfl,rfl⟩
    go_wp2_with fail
    go_at_call 66
    refine(bI _ _ _ _ (ah H2)).mono ?_
    rintro e w' ⟨rfl,rfl⟩
    go_wp2_with fail
    go_at_call 66
    refine(jZ _ _ _ _ (ah H3)).mono ?_
    rintro e w' ⟨rfl,rfl⟩
    go_wp2
    change bodyPost _ _ _ _ _ (w.alloc (.cells (Pc bZ) 24))
    obtain⟨hA,hW⟩:=ah HZ
    generalize w.alloc (.cells (Pc bZ) 24)=wf at *
    refine bodyPost_ret (v:=.tuple #[Pv bZ,.int .i64 1]) ?_ rfl ⟨rfl,hW⟩
    simp[results,Tryz.results40,go_sem,hA.cell 0 (by omega),hA.cell 1 (by omega),hA.cell 2 (by omega),hA.cell 3 (by omega),hA.cell 4 (by omega),hA.cell 5 (by omega),hA.cell 6 (by omega),hA.cell 7 (by omega),hA.cell 8 (by omega),hA.cell 9 (by omega),hA.cell 10 (by omega),hA.cell 11 (by omega)]
 ·have HS:=hide hs
  clear hs
  go_enter Tryz.func40,Tryz.ntmps40
  go_wp2_with fail
  go_at_call 65
  refine(qL b _ (ah HS)).mono ?_
  rintro e w' ⟨rfl,rfl⟩
  go_wp2
  change bodyPost _ _ _ _ _ (w.alloc (.cells (Pc bZ) 24))
  obtain⟨hA,hW⟩:=ah HZ
  generalize w.alloc (.cells (Pc bZ) 24)=wf at *
  refine bodyPost_ret (v:=.tuple #[Pv bZ,.int .i64 1]) ?_ rfl ⟨rfl,hW⟩
  simp[results,Tryz.results40,go_sem,hA.cell 0 (by omega),hA.cell 1 (by omega),hA.cell 2 (by omega),hA.cell 3 (by omega),hA.cell 4 (by omega),hA.cell 5 (by omega),hA.cell 6 (by omega),hA.cell 7 (by omega),hA.cell 8 (by omega),hA.cell 9 (by omega),hA.cell 10 (by omega),hA.cell 11 (by omega)]

theorem lF {b bl ino lg:Int}(h:¬ eY b bl ino lg):isSize b∧¬ (bl<1∨4096<bl)∧¬ (ino<2∨1024<ino)∧¬ (lg<4∨512<lg):=by
 unfold eY at h
 exact⟨Classical.byContradiction fun h1=>h (.inl h1),fun h1=>h (.inr (.inl h1)),fun h1=>h (.inr (.inr (.inl h1))),fun h1=>h (.inr (.inr (.inr h1)))⟩

theorem iG {b}(h:isSize b):64≤b∧b≤4096:=by unfold isSize at h;omega

theorem tV {b bl:Int}(hb:64≤b∧b≤4096)(hl:1≤bl∧bl≤4096):0≤b*bl∧b*bl≤16777216:=by
 refine⟨Int.mul_nonneg (by omega) (by omega),?_⟩
 have h1:b*bl≤4096*bl:=Int.mul_le_mul_of_nonneg_right hb.2 (by omega)
 omega

theorem ab6 (b bl ino lg:Int)(w:World)(h:¬ eY b bl ino lg)(hx:1048576<b*bl) :
  Calls Tryz.prog 40 #[.int .i64 b,.int .i64 bl,.int .i64 ino,.int .i64 lg] w fun r w'=>r=.returned (.tuple #[Pv bZ,.int .i64 5])∧Below w.heap.size w w':=by
 have H:=hide (lF h)
 have HZ:=hide (kH w)
 clear h
 obtain⟨m,hm⟩:∃ m,b*bl=m:=⟨_,rfl⟩
 rw[hm] at hx
 have q1:IntKind.i64.wrap (b*bl)=m:=by
  have h1:=iG (ah H).1
  have h2:=(ah H).2.1
  have h3:=tV h1 (bl:=bl) (by omega)
  rw[hm] at *
  rw[IntKind.wrap_i64];omega
 clear hm
 go_enter Tryz.func40,Tryz.ntmps40
 go_wp2_with fail
 go_at_call 65
 refine(bT b _ (ah H).1).mono ?_
 rintro e w' ⟨rfl,rfl⟩
 go_wp2_with fail
 go_at_call 66
 refine(bI _ _ _ _ (ah H).2.1).mono ?_
 rintro e w' ⟨rfl,rfl⟩
 go_wp2_with fail
 go_at_call 66
 refine(bI _ _ _ _ (ah H).2.2.1).mono ?_
 rintro e w' ⟨rfl,rfl⟩
 go_wp2_with fail
 go_at_call 66
 refine(bI _ _ _ _ (ah H).2.2.2).mono ?_
 rintro e w' ⟨rfl,rfl⟩
 go_wp2
 change bodyPost _ _ _ _ _ (w.alloc (.cells (Pc bZ) 24))
 obtain⟨hA,hW⟩:=ah HZ
 generalize w.alloc (.cells (Pc bZ) 24)=wf at *
 refine bodyPost_ret (v:=.tuple #[Pv bZ,.int .i64 5]) ?_ rfl ⟨rfl,hW⟩
 simp[results,Tryz.results40,go_sem,hA.cell 0 (by omega),hA.cell 1 (by omega),hA.cell 2 (by omega),hA.cell 3 (by omega),hA.cell 4 (by omega),hA.cell 5 (by omega),hA.cell 6 (by omega),hA.cell 7 (by omega),hA.cell 8 (by omega),hA.cell 9 (by omega),hA.cell 10 (by omega),hA.cell 11 (by omega)]

theorem aa8 {w w0 w1:World}(hz:R12 w0 w.heap.size bZ)(hb:Below w.heap.size w w0)(h1:Below w0.heap.size w0 w1)(Q:Nat→Int) :
  R12 (w1.alloc (.cells (Pc Q) 24)) w.heap.size bZ∧R12 (w1.alloc (.cells (Pc Q) 24)) w1.heap.size Q∧Below w.heap.size w (w1.alloc (.cells (Pc Q) 24))∧w.heap.size<w1.heap.size:=by
 have a:=hz.lt
 have b:=h1.size
 have c:=hb.size
 exact⟨(hz.below h1 a).alloc _,R12.new _ _,(hb.trans (h1.mono (by omega))).alloc (by omega) _,by omega⟩

theorem ab5 (b bl ino lg:Int)(w:World)(h:¬ eY b bl ino lg)(hx:¬ 1048576<b*bl)(Q:Nat→Int)(hQ:iC b bl ino lg=Q)(hc:bl≤Q 11) :
  Calls Tryz.prog 40 #[.int .i64 b,.int .i64 bl,.int .i64 ino,.int .i64 lg] w fun r w'=>r=.returned (.tuple #[Pv bZ,.int .i64 6])∧Below w.heap.size w w':=by
 have H:=hide (lF h)
 have HZ:=hide (kH w)
 clear h
 have HL:Hid (∀ wx:World,Calls Tryz.prog 67 #[.int .i64 b,.int .i64 bl,.int .i64 ino,.int .i64 lg] wx fun r w'=>r=.returned (Pv Q)∧Below wx.heap.size wx w'):=by
  intro wx
  rw[← hQ]
  have h1:=iG (ah H).1
  have h2:=(ah H).2
  exact ad7 b bl ino lg wx (by omega) (by omega) (by omega) (by omega)
 obtain⟨m,hm⟩:∃ m,b*bl=m:=⟨_,rfl⟩
 rw[hm] at hx
 have q1:IntKind.i64.wrap (b*bl)=m:=by
  have h1:=iG (ah H).1
  have h2:=(ah H).2.1
  have h3:=tV h1 (bl:=bl) (by omega)
  rw[hm] at *
  rw[IntKind.wrap_i64];omega
 clear hm hQ
 go_enter Tryz.func40,Tryz.ntmps40
 go_wp2_with fail
 go_at_call 65
 refine(bT b _ (ah H).1).mono ?_
 rintro e w' ⟨rfl,rfl⟩
 go_wp2_with fail
 go_at_call 66
 refine(bI _ _ _ _ (ah H).2.1).mono ?_
 rintro e w' ⟨rfl,rfl⟩
 go_wp2_with fail
 go_at_call 66
 refine(bI _ _ _ _ (ah H).2.2.1).mono ?_
 rintro e w' ⟨rfl,rfl⟩
 go_wp2_with fail
 go_at_call 66
 refine(bI _ _ _ _ (ah H).2.2.2).mono ?_
 rintro e w' ⟨rfl,rfl⟩
 go_wp2_with fail
 go_at_call 67
 refine(ah HL _).mono ?_
 rintro e w1 ⟨rfl,hb⟩
 have HZ1:=hide (aa8 (ah HZ).1 (ah HZ).2 hb Q)
 clear HZ hb HL q1
 go_upto_region 6 with fail
 change Code.wp _ _ _ _ (w1.alloc (.cells (Pc Q) 24))
 obtain⟨g,hg⟩:∃ g,w1.heap.size=g:=⟨_,rfl⟩
 rw[hg] at HZ1
 rw[hg]
 have HG:Hid (w.heap.size≠g):=hide (by have:=(ah HZ1).2.2.2;omega)
 have HZ:Hid (R12 (w1.alloc (.cells (Pc Q) 24)) w.heap.size bZ∧Below w.heap.size w (w1.alloc (.cells (Pc Q) 24))):=⟨(ah HZ1).1,(ah HZ1).2.2.1⟩
 have HQ:=hide (ah HZ1).2.1
 clear HZ1 hg
 generalize w1.alloc (.cells (Pc Q) 24)=wx at *
 have d1:w.heap.size≠g:=ah HG
 have f0:=(ah HQ).cell 0 (by omega)
 have f1:=(ah HQ).cell 1 (by omega)
 have f2:=(ah HQ).cell 2 (by omega)
 have f3:=(ah HQ).cell 3 (by omega)
 have f4:=(ah HQ).cell 4 (by omega)
 have f5:=(ah HQ).cell 5 (by omega)
 have f6:=(ah HQ).cell 6 (by omega)
 have f7:=(ah HQ).cell 7 (by omega)
 have f8:=(ah HQ).cell 8 (by omega)
 have f9:=(ah HQ).cell 9 (by omega)
 have f10:=(ah HQ).cell 10 (by omega)
 have f11:=(ah HQ).cell 11 (by omega)
 have z0:=(ah HZ).1.cell 0 (by omega)
 have z1:=(ah HZ).1.cell 1 (by omega)
 have z2:=(ah HZ).1.cell 2 (by omega)
 have z3:=(ah HZ).1.cell 3 (by omega)
 have z4:=(ah HZ).1.cell 4 (by omega)
 have z5:=(ah HZ).1.cell 5 (by omega)
 have z6:=(ah HZ).1.cell 6 (by omega)
 have z7:=(ah HZ).1.cell 7 (by omega)
 have z8:=(ah HZ).1.cell 8 (by omega)
 have z9:=(ah HZ).1.cell 9 (by omega)
 have z10:=(ah HZ).1.cell 10 (by omega)
 have z11:=(ah HZ).1.cell 11 (by omega)
 have u:=(ah HZ).1.free
 go_wp2
 have hW:Below w.heap.size w (lJ wx w.heap.size bZ):=kF (ah HZ).2 (Nat.le_refl _) _
 have hA:R12 (lJ wx w.heap.size bZ) w.heap.size bZ:=(ah HZ).1.all _
 change bodyPost _ _ _ _ _ (lJ wx w.heap.size bZ)
 generalize lJ wx w.heap.size bZ=wf at *
 refine bodyPost_ret (v:=.tuple #[Pv bZ,.int .i64 6]) ?_ rfl ⟨rfl,hW⟩
 simp[results,Tryz.results40,go_sem,hA.cell 0 (by omega),hA.cell 1 (by omega),hA.cell 2 (by omega),hA.cell 3 (by omega),hA.cell 4 (by omega),hA.cell 5 (by omega),hA.cell 6 (by omega),hA.cell 7 (by omega),hA.cell 8 (by omega),hA.cell 9 (by omega),hA.cell 10 (by omega),hA.cell 11 (by omega)]

theorem ah4 (b bl ino lg:Int)(w:World)(h:¬ eY b bl ino lg)(hx:¬ 1048576<b*bl)(Q:Nat→Int)(hQ:iC b bl ino lg=Q)(hc:¬ bl≤Q 11) :
  Calls Tryz.prog 40 #[.int .i64 b,.int .i64 bl,.int .i64 ino,.int .i64 lg] w fun r w'=>r=.returned (.tuple #[Pv Q,.int .i64 0])∧Below w.heap.size w w':=by
 have H:=hide (lF h)
 have HZ:=hide (kH w)
 clear h
 have HL:Hid (∀ wx:World,Calls Tryz.prog 67 #[.int .i64 b,.int .i64 bl,.int .i64 ino,.int .i64 lg] wx fun r w'=>r=.returned (Pv Q)∧Below wx.heap.size wx w'):=by
  intro wx
  rw[← hQ]
  have h1:=iG (ah H).1
  have h2:=(ah H).2
  exact ad7 b bl ino lg wx (by omega) (by omega) (by omega) (by omega)
 obtain⟨m,hm⟩:∃ m,b*bl=m:=⟨_,rfl⟩
 rw[hm] at hx
 have q1:IntKind.i64.wrap (b*bl)=m:=by
  have h1:=iG (ah H).1
  have h2:=(ah H).2.1
  have h3:=tV h1 (bl:=bl) (by omega)
  rw[hm] at *
  rw[IntKind.wrap_i64];omega
 clear hm hQ
 go_enter Tryz.func40,Tryz.ntmps40
 go_wp2_with fail
 go_at_call 65
 refine(bT b _ (ah H).1).mono ?_
 rintro e w' ⟨rfl,rfl⟩
 go_wp2_with fail
 go_at_call 66
 refine(bI _ _ _ _ (ah H).2.1).mono ?_
 rintro e w' ⟨rfl,rfl⟩
 go_wp2_with fail
 go_at_call 66
 refine(bI _ _ _ _ (ah H).2.2.1).mono ?_
 rintro e w' ⟨rfl,rfl⟩
 go_wp2_with fail
 go_at_call 66
 refine(bI _ _ _ _ (ah H).2.2.2).mono ?_
 rintro e w' ⟨rfl,rfl⟩
 go_wp2_with fail
 go_at_call 67
 refine(ah HL _).mono ?_
 rintro e w1 ⟨rfl,hb⟩
 have HZ1:=hide (aa8 (ah HZ).1 (ah HZ).2 hb Q)
 clear HZ hb HL q1
 go_upto_region 6 with fail
 change Code.wp _ _ _ _ (w1.alloc (.cells (Pc Q) 24))
 obtain⟨g,hg⟩:∃ g,w1.heap.size=g:=⟨_,rfl⟩
 rw[hg] at HZ1
 rw[hg]
 have HG:Hid (w.heap.size≠g):=hide (by have:=(ah HZ1).2.2.2;omega)
 have HZ:Hid (R12 (w1.alloc (.cells (Pc Q) 24)) w.heap.size bZ∧Below w.heap.size w (w1.alloc (.cells (Pc Q) 24))):=⟨(ah HZ1).1,(ah HZ1).2.2.1⟩
 have HQ:=hide (ah HZ1).2.1
 clear HZ1 hg
 generalize w1.alloc (.cells (Pc Q) 24)=wx at *
 have d1:w.heap.size≠g:=ah HG
 have f0:=(ah HQ).cell 0 (by omega)
 have f1:=(ah HQ).cell 1 (by omega)
 have f2:=(ah HQ).cell 2 (by omega)
 have f3:=(ah HQ).cell 3 (by omega)
 have f4:=(ah HQ).cell 4 (by omega)
 have f5:=(ah HQ).cell 5 (by omega)
 have f6:=(ah HQ).cell 6 (by omega)
 have f7:=(ah HQ).cell 7 (by omega)
 have f8:=(ah HQ).cell 8 (by omega)
 have f9:=(ah HQ).cell 9 (by omega)
 have f10:=(ah HQ).cell 10 (by omega)
 have f11:=(ah HQ).cell 11 (by omega)
 have z0:=(ah HZ).1.cell 0 (by omega)
 have z1:=(ah HZ).1.cell 1 (by omega)
 have z2:=(ah HZ).1.cell 2 (by omega)
 have z3:=(ah HZ).1.cell 3 (by omega)
 have z4:=(ah HZ).1.cell 4 (by omega)
 have z5:=(ah HZ).1.cell 5 (by omega)
 have z6:=(ah HZ).1.cell 6 (by omega)
 have z7:=(ah HZ).1.cell 7 (by omega)
 have z8:=(ah HZ).1.cell 8 (by omega)
 have z9:=(ah HZ).1.cell 9 (by omega)
 have z10:=(ah HZ).1.cell 10 (by omega)
 have z11:=(ah HZ).1.cell 11 (by omega)
 have u:=(ah HZ).1.free
 go_wp2
 have hW:Below w.heap.size w (lJ wx w.heap.size Q):=kF (ah HZ).2 (Nat.le_refl _) _
 have hA:R12 (lJ wx w.heap.size Q) w.heap.size Q:=(ah HZ).1.all _
 change bodyPost _ _ _ _ _ (lJ wx w.heap.size Q)
 generalize lJ wx w.heap.size Q=wf at *
 refine bodyPost_ret (v:=.tuple #[Pv Q,.int .i64 0]) ?_ rfl ⟨rfl,hW⟩
 simp[results,Tryz.results40,go_sem,hA.cell 0 (by omega),hA.cell 1 (by omega),hA.cell 2 (by omega),hA.cell 3 (by omega),hA.cell 4 (by omega),hA.cell 5 (by omega),hA.cell 6 (by omega),hA.cell 7 (by omega),hA.cell 8 (by omega),hA.cell 9 (by omega),hA.cell 10 (by omega),hA.cell 11 (by omega)]

theorem uy (b bl ino lg:Int)(w:World) :
  Calls Tryz.prog 40 #[.int .i64 b,.int .i64 bl,.int .i64 ino,.int .i64 lg] w fun r w'=>r=.returned (.tuple #[Pv (oZ b bl ino lg),.int .i64 (eF b bl ino lg)])∧Below w.heap.size w w':=by
 by_cases h:eY b bl ino lg
 ·rw[lZ (by rw[pG h];omega),pG h]
  exact afB b bl ino lg w h
 ·by_cases h1:1048576<b*bl
  ·rw[lZ (by rw[pF h h1];omega),pF h h1]
   exact ab6 b bl ino lg w h h1
  ·by_cases h2:bl≤iC b bl ino lg 11
   ·rw[lZ (by rw[pq h h1 h2];omega),pq h h1 h2]
    exact ab5 b bl ino lg w h h1 _ rfl h2
   ·rw[kZ (aa3 h h1 h2),aa3 h h1 h2]
    exact ah4 b bl ino lg w h h1 _ rfl h2

theorem uO (n e:Int)(w:World)(hn:0≤n∧n≤1099511627776)(he:1≤e∧e≤1099511627776) :
  Calls Tryz.prog 39 #[.int .i64 n,.int .i64 e] w fun r w'=>r=.returned (.int .i64 (cd n e))∧w=w':=by
 have HN:=hide hn
 have HE:=hide he
 clear hn he
 go_enter Tryz.func39,Tryz.ntmps39
 go_wp2
 go_loop [5] (fun i=>∃ k:Int,i=.int .i64 k∧Hid (0≤k∧k*e<n+e)) (fun i=>n.toNat+1 - (intOf i).toNat)
 case atStart=>exact⟨0,rfl,by omega,by have:=ah HN;have:=ah HE;omega⟩
 case round =>
  obtain⟨k,rfl,hH⟩:=hrel
  obtain⟨m,hm⟩:∃ m,k*e=m:=⟨_,rfl⟩
  have hk:k≤m:=by
   have:=Int.mul_le_mul_of_nonneg_left (ah HE).1 (ah hH).1
   omega
  have hm2:m<n+e:=by have:=(ah hH).2;omega
  have q1:IntKind.i64.wrap (k*e)=m:=by have:=ah HN;have:=ah HE;have:=ah hH;rw[hm,IntKind.wrap_i64];omega
  have HM:=hide hm
  have hb:k≤4398046511104:=by have:=ah HN;have:=ah HE;omega
  have hk0:=(ah hH).1
  clear hm hm2
  by_cases hlt:m<n
  ·go_wp2
   refine⟨⟨k+1,by go_num,by omega,?_⟩,by simp[intOf];omega⟩
   rw[Int.add_mul]
   have:=ah HM
   omega
  ·go_wp2
   go_ret
   refine⟨?_,rfl⟩
   rw[aeu (ah HE).1 (by have:=ah HM;omega) (ah hH).2]
   rfl

theorem afe (b:Int)(w:World)(h:isSize b):Calls Tryz.prog 38 #[.int .i64 b] w fun r w'=>r=.returned (.bool true)∧w=w' :=
 (size_any b w).mono fun r w' ⟨h1,h2⟩=>⟨h1.elim (fun x=>x.1) (fun x=>absurd h x.2),h2⟩

theorem jH (n e c:Int)(h:cd n e=c)(w:World)(hn:0≤n∧n≤1099511627776)(he:1≤e∧e≤1099511627776) :
  Calls Tryz.prog 39 #[.int .i64 n,.int .i64 e] w fun r w'=>r=.returned (.int .i64 c)∧w=w':=by
 subst h
 exact uO n e w hn he

def nK (b bl ino lg c1 c2 c3:Int):Nat→Int
 | 0=>b | 1=>bl | 2=>ino | 3=>lg | 4=>2 | 5=>2+lg | 6=>c1 | 7=>2+lg+c1 | 8=>c2 | 9=>2+lg+c1+c2
 | 10=>c3 | 11=>2+lg+c1+c2+c3 | _=>0

theorem afx (b bl ino lg:Int):iC b bl ino lg=nK b bl ino lg (cd ino (8*b)) (cd bl (8*b)) (cd ino (b / 32)):=rfl

theorem abl (b bl ino lg q c1 c2 c3:Int)(w:World)(h:¬ eY b bl ino lg)(hx:¬ 1048576<b*bl)(hq:b / 32=q)(h1:cd ino (8*b)=c1)(h2:cd bl (8*b)=c2)(h3:cd ino q=c3)(hc:¬ bl≤2+lg+c1+c2+c3) :
  Calls Tryz.prog 13 #[.int .i64 b,.int .i64 bl,.int .i64 ino,.int .i64 lg] w fun r w'=>r=.returned (.tuple #[Pv (nK b bl ino lg c1 c2 c3),.int .i64 0])∧Below w.heap.size w w':=by
 have H:=hide (lF h)
 have HZ:=hide (kH w)
 clear h
 have hb:=iG (ah H).1
 obtain⟨m,hm⟩:∃ m,b*bl=m:=⟨_,rfl⟩
 rw[hm] at hx
 have q1:IntKind.i64.wrap (b*bl)=m:=by
  have h2:=(ah H).2.1
  have h3:=tV hb (bl:=bl) (by omega)
  rw[hm] at *
  rw[IntKind.wrap_i64];omega
 clear hm
 have n0:¬ bl<1:=by have:=(ah H).2.1;omega
 have n1:¬ 4096<bl:=by have:=(ah H).2.1;omega
 have n2:¬ ino<2:=by have:=(ah H).2.2.1;omega
 have n3:¬ 1024<ino:=by have:=(ah H).2.2.1;omega
 have n4:¬ lg<4:=by have:=(ah H).2.2.2;omega
 have n5:¬ 512<lg:=by have:=(ah H).2.2.2;omega
 have k1:0≤c1∧c1≤4096:=by rw[← h1];exact uM _ _ (by omega) (by omega)
 have k2:0≤c2∧c2≤4096:=by rw[← h2];exact uM _ _ (by omega) (by omega)
 have k3:0≤c3∧c3≤4096:=by rw[← h3];exact uM _ _ (by omega) (by omega)
 have HX:Hid (2≤q∧q≤128):=hide (by omega)
 have H1:=hide h1
 have H2:=hide h2
 have H3:=hide h3
 have HQ:=hide hq
 clear h1 h2 h3 hq
 go_enter Tryz.func13,Tryz.ntmps13
 go_wp2_with fail
 go_at_call 38
 refine(afe b _ (ah H).1).mono ?_
 rintro e w' ⟨rfl,rfl⟩
 go_wp2_with fail
 go_at_call 39
 refine(jH _ _ c1 (ah H1) _ (by omega) (by omega)).mono ?_
 rintro e w' ⟨rfl,rfl⟩
 go_wp2_with fail
 go_at_call 39
 refine(jH _ _ c2 (ah H2) _ (by omega) (by omega)).mono ?_
 rintro e w' ⟨rfl,rfl⟩
 go_wp2_with fail
 go_at_call 39
 rw[ah HQ]
 refine(jH _ _ c3 (ah H3) _ (by omega) (by have:=ah HX;omega)).mono ?_
 rintro e w' ⟨rfl,rfl⟩
 go_wp2
 change bodyPost _ _ _ _ _ ((w.alloc (.cells (Pc (nK b bl ino lg c1 c2 c3)) 24)).alloc (.cells (Pc (nK b bl ino lg c1 c2 c3)) 24))
 have hA:R12 ((w.alloc (.cells (Pc (nK b bl ino lg c1 c2 c3)) 24)).alloc (.cells (Pc (nK b bl ino lg c1 c2 c3)) 24)) w.heap.size (nK b bl ino lg c1 c2 c3):=(R12.new w _).alloc _
 have hW:Below w.heap.size w ((w.alloc (.cells (Pc (nK b bl ino lg c1 c2 c3)) 24)).alloc (.cells (Pc (nK b bl ino lg c1 c2 c3)) 24)):=((Below.refl _ _).alloc (Nat.le_refl _) _).alloc (by simp) _
 generalize (w.alloc (.cells (Pc (nK b bl ino lg c1 c2 c3)) 24)).alloc (.cells (Pc (nK b bl ino lg c1 c2 c3)) 24)=wf at *
 refine bodyPost_ret (v:=.tuple #[Pv (nK b bl ino lg c1 c2 c3),.int .i64 0]) ?_ rfl ⟨rfl,hW⟩
 simp[results,Tryz.results13,go_sem,hA.cell 0 (by omega),hA.cell 1 (by omega),hA.cell 2 (by omega),hA.cell 3 (by omega),hA.cell 4 (by omega),hA.cell 5 (by omega),hA.cell 6 (by omega),hA.cell 7 (by omega),hA.cell 8 (by omega),hA.cell 9 (by omega),hA.cell 10 (by omega),hA.cell 11 (by omega)]

def acT (P Q:Nat→Int):Bool:=(List.range 12).all (fun k=>P k==Q k)

theorem lV {P Q:Nat→Int}:acT P Q=true↔∀ k,k<12→P k=Q k:=by simp[acT]

def bH (P:Nat→Int):Int:=if eF (P 0) (P 1) (P 2) (P 3)=0∧acT (oZ (P 0) (P 1) (P 2) (P 3)) P=true then 0 else 4

theorem xK {P:Nat→Int}(h1:eF (P 0) (P 1) (P 2) (P 3)=0)(h2:∀ k,k<12→oZ (P 0) (P 1) (P 2) (P 3) k=P k):bH P=0:=by rw[bH,if_pos ⟨h1,lV.2 h2⟩]
theorem xJ {P:Nat→Int}(h2:¬ ∀ k,k<12→oZ (P 0) (P 1) (P 2) (P 3) k=P k):bH P=4:=by rw[bH,if_neg (fun h=>h2 (lV.1 h.2))]
theorem aci {P:Nat→Int}(h1:eF (P 0) (P 1) (P 2) (P 3)≠0):bH P=4:=by rw[bH,if_neg (fun h=>h1 h.1)]
theorem ach (P:Nat→Int):bH P=0∨bH P=4:=by
 unfold bH
 split
 ·exact .inl rfl
 ·exact .inr rfl

theorem aer (P Q:Nat→Int)(e:Int)(w:World)(he:e≠0)(H1:Hid (∀ u:World,Calls Tryz.prog 40 #[.int .i64 (P 0),.int .i64 (P 1),.int .i64 (P 2),.int .i64 (P 3)] u fun r w'=>r=.returned (.tuple #[Pv Q,.int .i64 e])∧Below u.heap.size u w')) :
  Calls Tryz.prog 46 #[Pv P] w fun r w'=>r=.returned (.int .i64 4)∧Below w.heap.size w w':=by
 go_enter Tryz.func46,Tryz.ntmps46
 go_wp2_with fail
 go_at_call 40
 refine(ah H1 _).mono ?_
 rintro r w1 ⟨rfl,hb⟩
 have HB:=hide (((Below.refl w.heap.size w).alloc (Nat.le_refl _) (.cells (Pc P) 24)).trans (hb.mono (by simp)))
 clear hb H1
 go_wp2
 go_ret
 exact⟨rfl,(ah HB).alloc (ah HB).size _⟩

theorem xH (P Q:Nat→Int)(b:Bool)(w:World)(H1:Hid (∀ u:World,Calls Tryz.prog 40 #[.int .i64 (P 0),.int .i64 (P 1),.int .i64 (P 2),.int .i64 (P 3)] u fun r w'=>r=.returned (.tuple #[Pv Q,.int .i64 0])∧Below u.heap.size u w'))
  (hne:∀ u:World,(binOp .neq 24 (Pv Q) (Pv P)).run Tryz.prog u=.ok (.bool b) u) :
  Calls Tryz.prog 46 #[Pv P] w fun r w'=>r=.returned (.int .i64 (if b then 4 else 0))∧Below w.heap.size w w':=by
 go_enter Tryz.func46,Tryz.ntmps46
 go_wp2_with fail
 go_at_call 40
 refine(ah H1 _).mono ?_
 rintro r w1 ⟨rfl,hb⟩
 have HR:=hide (((R12.new w P).below hb (R12.new w P).lt).alloc (.cells (Pc Q) 24))
 have HB:=hide ((((Below.refl w.heap.size w).alloc (Nat.le_refl _) (.cells (Pc P) 24)).trans (hb.mono (by simp))).alloc (by have:=hb.size;simp at this;omega) (.cells (Pc Q) 24))
 clear hb H1
 go_upto_region 2 with fail
 change Code.wp _ _ _ _ (w1.alloc (.cells (Pc Q) 24))
 have HQ:=hide (R12.new w1 Q)
 generalize w1.alloc (.cells (Pc Q) 24)=wx at *
 have f0:=(ah HR).cell 0 (by omega)
 have f1:=(ah HR).cell 1 (by omega)
 have f2:=(ah HR).cell 2 (by omega)
 have f3:=(ah HR).cell 3 (by omega)
 have f4:=(ah HR).cell 4 (by omega)
 have f5:=(ah HR).cell 5 (by omega)
 have f6:=(ah HR).cell 6 (by omega)
 have f7:=(ah HR).cell 7 (by omega)
 have f8:=(ah HR).cell 8 (by omega)
 have f9:=(ah HR).cell 9 (by omega)
 have f10:=(ah HR).cell 10 (by omega)
 have f11:=(ah HR).cell 11 (by omega)
 have g0:=(ah HQ).cell 0 (by omega)
 have g1:=(ah HQ).cell 1 (by omega)
 have g2:=(ah HQ).cell 2 (by omega)
 have g3:=(ah HQ).cell 3 (by omega)
 have g4:=(ah HQ).cell 4 (by omega)
 have g5:=(ah HQ).cell 5 (by omega)
 have g6:=(ah HQ).cell 6 (by omega)
 have g7:=(ah HQ).cell 7 (by omega)
 have g8:=(ah HQ).cell 8 (by omega)
 have g9:=(ah HQ).cell 9 (by omega)
 have g10:=(ah HQ).cell 10 (by omega)
 have g11:=(ah HQ).cell 11 (by omega)
 cases b
 ·go_wp2
  go_ret
  exact⟨rfl,ah HB⟩
 ·go_wp2
  go_ret
  exact⟨rfl,ah HB⟩

theorem check_any (P:Nat→Int)(w:World):Calls Tryz.prog 46 #[Pv P] w fun r w'=>r=.returned (.int .i64 (bH P))∧Below w.heap.size w w':=by
 have h1:∀ u:World,Calls Tryz.prog 40 #[.int .i64 (P 0),.int .i64 (P 1),.int .i64 (P 2),.int .i64 (P 3)] u fun r w'=>r=.returned (.tuple #[Pv (oZ (P 0) (P 1) (P 2) (P 3)),.int .i64 (eF (P 0) (P 1) (P 2) (P 3))])∧Below u.heap.size u w':=uy (P 0) (P 1) (P 2) (P 3)
 by_cases he:eF (P 0) (P 1) (P 2) (P 3)=0
 ·rw[he] at h1
  by_cases hk:∀ k,k<12→oZ (P 0) (P 1) (P 2) (P 3) k=P k
  ·rw[xK he hk]
   exact xH P _ false w h1 (zk hk)
  ·rw[xJ hk]
   exact xH P _ true w h1 (wu hk)
 ·rw[aci he]
  exact aer P _ _ w he h1

theorem below_drewN {n:Nat}{w w':World}(h:Below n w w')(m:Nat):Below n w (w'.drewN m):=⟨h.os,h.tape,h.output,h.size,h.block⟩

structure Sound (P:Nat→Int):Prop where
 size:isSize (P 0)
 blocks:1≤P 1∧P 1≤4096
 aa9:2≤P 2∧P 2≤1024
 log:4≤P 3∧P 3≤512
 bytes:P 0*P 1≤1048576
 p4:P 4=2
 p5:P 5=2+P 3
 p6:P 6=cd (P 2) (8*P 0)
 p7:P 7=2+P 3+P 6
 p8:P 8=cd (P 1) (8*P 0)
 p9:P 9=2+P 3+P 6+P 8
 p10:P 10=cd (P 2) (P 0 / 32)
 p11:P 11=2+P 3+P 6+P 8+P 10
 data:P 11<P 1

theorem ab7 {b bl ino lg:Int}(h:eF b bl ino lg=0):¬ eY b bl ino lg∧¬ 1048576<b*bl∧¬ bl≤iC b bl ino lg 11:=by
 unfold eF at h
 split at h
 ·omega
 ·split at h
  ·omega
  ·split at h
   ·omega
   ·rename_i h1 h2 h3
    exact⟨fun x=>h1 (je.2 x),h2,h3⟩

theorem sound {P:Nat→Int}(h:bH P=0):Sound P:=by
 unfold bH at h
 split at h
 case isFalse=>omega
 case isTrue hc =>
  obtain⟨he,hs⟩:=hc
  have hk:=lV.1 hs
  rw[kZ he] at hk
  obtain⟨h1,h2,h3⟩:=ab7 he
  obtain⟨g1,g2,g3,g4⟩:=lF h1
  have k4:2=P 4:=hk 4 (by omega)
  have k5:2+P 3=P 5:=hk 5 (by omega)
  have k6:cd (P 2) (8*P 0)=P 6:=hk 6 (by omega)
  have k7:2+P 3+cd (P 2) (8*P 0)=P 7:=hk 7 (by omega)
  have k8:cd (P 1) (8*P 0)=P 8:=hk 8 (by omega)
  have k9:2+P 3+cd (P 2) (8*P 0)+cd (P 1) (8*P 0)=P 9:=hk 9 (by omega)
  have k10:cd (P 2) (P 0 / 32)=P 10:=hk 10 (by omega)
  have k11:2+P 3+cd (P 2) (8*P 0)+cd (P 1) (8*P 0)+cd (P 2) (P 0 / 32)=P 11:=hk 11 (by omega)
  rw[hk 11 (by omega)] at h3
  rw[k6] at k7 k9 k11
  rw[k8] at k9 k11
  rw[k10] at k11
  exact⟨g1,by omega,by omega,by omega,by omega,k4.symm,k5.symm,k6.symm,k7.symm,k8.symm,k9.symm,k10.symm,k11.symm,by omega⟩

theorem aev (n e:Int)(hn:1≤n)(he:1≤e):1≤cd n e:=by
 unfold cd
 rw[Int.le_ediv_iff_mul_le (by omega)]
 omega

theorem Sound.bd {P}(h:Sound P):(64≤P 0∧P 0≤4096)∧(1≤P 6∧P 6≤4096)∧(1≤P 8∧P 8≤4096)∧(1≤P 10∧P 10≤4096):=by
 have hs:=iG h.size
 have a:=h.blocks
 have b:=h.aa9
 have x:=uM (P 2) (8*P 0) (by omega) (by omega)
 have y:=uM (P 1) (8*P 0) (by omega) (by omega)
 have z:=uM (P 2) (P 0 / 32) (by omega) (by omega)
 have x':=aev (P 2) (8*P 0) (by omega) (by omega)
 have y':=aev (P 1) (8*P 0) (by omega) (by omega)
 have z':=aev (P 2) (P 0 / 32) (by omega) (by omega)
 rw[h.p6,h.p8,h.p10]
 exact⟨hs,⟨x',x.2⟩,⟨y',y.2⟩,⟨z',z.2⟩⟩

theorem aht (P:Nat→Int)(w:World)(h:64≤P 0∧P 0≤4096) :
  Calls Tryz.prog 130 #[Pv P] w fun e w'=>e=.returned (.int .i64 (P 0 / 2))∧w'=w.alloc (.cells (Pc P) 24):=by
 go_enter Tryz.func130,Tryz.ntmps130
 go_wp2
 go_ret
 refine⟨?_,rfl⟩
 go_num

end Go.Proofs.YtefdkpbmeoakgaaGreatDoor
