/- Joined: CEq, CIno, CReadI, CTakeI, IIno, EDirO, EUnD, CUnD. -/
import Derived.Test.YtefdkpbmeoakgaaGreatDoorDnJ20
import Derived.Test.YtefdkpbmeoakgaaGreatDoorDnJ19
import Derived.ChangeKeysEq
import Derived.Test.YtefdkpbmeoakgaaGreatDoorDnJ15
import Derived.Test.YtefdkpbmeoakgaaGreatDoorDnJ1
import Derived.Test.YtefdkpbmeoakgaaGreatDoorDnJ21
import Derived.BigQuiet
import Derived.OwnWalk
/- Structs with arrays and texts in them, compared. -/
namespace Go.Proofs.YtefdkpbmeoakgaaGreatDoor
set_option maxRecDepth 100000
set_option maxHeartbeats 8000000
open Go.RowKit Go.Shelf
set_option linter.unusedVariables false

abbrev Iv (X:Nat→Int):Value:=.agg #[.int .i64 (X 0),.int .i64 (X 1),.int .i64 (X 2),.int .i64 (X 3),.int .i64 (X 4),.int .i64 (X 5),.int .i64 (X 6),.int .i64 (X 7),.int .i64 (X 8),.int .i64 (X 9),.int .i64 (X 10),.int .i64 (X 11),.int .i64 (X 12)]
abbrev Ic (X:Nat→Int):Array Value:=#[.int .i64 (X 0),.int .i64 (X 1),.int .i64 (X 2),.int .i64 (X 3),.int .i64 (X 4),.int .i64 (X 5),.int .i64 (X 6),.int .i64 (X 7),.int .i64 (X 8),.int .i64 (X 9),.int .i64 (X 10),.int .i64 (X 11),.int .i64 (X 12)]
abbrev Iz:Array Value:=#[.int .i64 0,.int .i64 0,.int .i64 0,.int .i64 0,.int .i64 0,.int .i64 0,.int .i64 0,.int .i64 0,.int .i64 0,.int .i64 0,.int .i64 0,.int .i64 0,.int .i64 0]

theorem aiE:Tryz.prog.underlying 65=some (.struct (Tryz.prog.fieldsOf 65)):=by kernel_rfl
theorem aiL:Tryz.prog.stoodInHeld 65=false:=by kernel_rfl
theorem ac6:Tryz.prog.underlying 63=some (.array 8 3):=by kernel_rfl
theorem aix:Tryz.prog.cellsOf 63=8:=by kernel_rfl
theorem ajt:(Tryz.prog.info? 63).isSome=true:=by kernel_rfl
theorem aju:(Tryz.prog.info? 3).isSome=true:=by kernel_rfl
theorem aiy:Tryz.prog.cellsOf 3=1:=by kernel_rfl

theorem aed : (Tryz.prog.fieldsOf 65).toList.map (fun f => (f.name, f.type, f.offset)) = [("Kind", 3, 0), ("Links", 3, 1), ("Size", 3, 2), ("Direct", 63, 3), ("Single", 3, 11), ("Double", 3, 12)] := by kernel_rfl

theorem aaz {xs:Array Value}{k:Nat}{z:Int}(h:xs[k]?=some (.int .i64 z))(w:World):(part 3 xs k).run Tryz.prog w=.ok (.int .i64 z) w:=by
 simp only[part,isAgg,Sem.run_bind,run_underlying Tryz.underlying3,Result.andThen_ok,Sem.run_pure]
 rw[h]
 rfl

theorem adn (xs:Array Value)(k:Nat)(w:World):(part 63 xs k).run Tryz.prog w=.ok (.agg (xs.extract k (k+8))) w:=by
 obtain⟨i,hi⟩:=Option.isSome_iff_exists.1 ajt
 simp only[part,isAgg,Sem.run_bind,run_underlying ac6,Result.andThen_ok,Sem.run_pure,run_sizeOf w hi,if_true,aix]

theorem wL (xs ys:Array Value)(X Y:Nat→Int)(n:Nat)(hx:∀ i,i<n→xs[i]?=some (.int .i64 (X i)))(hy:∀ i,i<n→ys[i]?=some (.int .i64 (Y i)))(d:Nat)(w:World) :
  ∀ is:List Nat,(∀ i∈is,i<n)→(Op.eqItems (d+1) 3 1 xs ys is).run Tryz.prog w=.ok (is.all fun i=>X i==Y i) w
 | [],_=>by simp[Op.eqItems]
 | i::is,h=>by
  have hi:=h i (by simp)
  have ih:=wL xs ys X Y n hx hy d w is (fun j hj=>h j (by simp[hj]))
  have e1:(part 3 xs (i*1)).run Tryz.prog w=.ok (.int .i64 (X i)) w:=by rw[Nat.mul_one];exact aaz (hx i hi) w
  have e2:(part 3 ys (i*1)).run Tryz.prog w=.ok (.int .i64 (Y i)) w:=by rw[Nat.mul_one];exact aaz (hy i hi) w
  simp only[Op.eqItems,Sem.run_bind,e1,e2,Result.andThen_ok,run_equalIn_int w d 3 .i64 .i64 _ _ Tryz.underlying3,List.all_cons]
  cases X i==Y i
  ·simp
  ·simpa using ih

theorem aee {w : World} {d : Nat} {xs ys : Array Value} (G : Nat → Bool) : ∀ fs : List Field, (∀ f ∈ fs, f.name ≠ "_" ∧ ∃ a b, (part f.type xs f.offset).run Tryz.prog w = .ok a w ∧ (part f.type ys f.offset).run Tryz.prog w = .ok b w ∧ (Op.equalIn d f.type a b).run Tryz.prog w = .ok (G f.offset) w) →
  (Op.eqFields d xs ys fs).run Tryz.prog w=.ok (fs.all fun f=>G f.offset) w
 | [],_=>by simp[Op.eqFields]
 | f::fs,h=>by
  obtain⟨h1,a,b,ha,hb,he⟩:=h f (by simp)
  have ih:=aee G fs (fun g hg=>h g (by simp[hg]))
  simp only[Op.eqFields,h1,ne_eq,not_false_eq_true,if_true,Sem.run_bind,ha,hb,Result.andThen_ok,he,List.all_cons]
  cases G f.offset
  ·simp
  ·simpa using ih

theorem agu {fs:List Field}{L:List (String×TypeId×Nat)}(h:fs.map (fun f=>(f.name,f.type,f.offset))=L)(G:Nat→Bool):(fs.all fun f=>G f.offset)=L.all fun p=>G p.2.2:=by
 subst h
 rw[List.all_map]
 rfl

theorem adK (X:Nat→Int)(k:Nat)(hk:k<13):(Ic X)[k]?=some (.int .i64 (X k)):=by
 have:k=0∨k=1∨k=2∨k=3∨k=4∨k=5∨k=6∨k=7∨k=8∨k=9∨k=10∨k=11∨k=12:=by omega
 rcases this with rfl | rfl | rfl | rfl | rfl | rfl | rfl | rfl | rfl | rfl | rfl | rfl | rfl<;>rfl

def gY (X Y:Nat→Int):Bool:=(List.range 13).all fun k=>X k==Y k

theorem iV {X Y:Nat→Int}:gY X Y=true↔∀ k,k<13→X k=Y k:=by simp[gY]

theorem zY (X Y:Nat→Int)(w:World):(Op.equalIn 10000 65 (Iv X) (Iv Y)).run Tryz.prog w=.ok (gY X Y) w:=by
 rw[run_equalIn_struct w 9999 65 _ _ aiE aiL]
 have hG : ∀ f ∈ (Tryz.prog.fieldsOf 65).toList, f.name ≠ "_" ∧ ∃ a b, (part f.type (Ic X) f.offset).run Tryz.prog w = .ok a w ∧ (part f.type (Ic Y) f.offset).run Tryz.prog w = .ok b w ∧ (Op.equalIn 9999 f.type a b).run Tryz.prog w = .ok ((fun k => if k = 3 then (List.range 8).all (fun i => X (3 + i) == Y (3 + i)) else X k == Y k) f.offset) w := by
  intro f hf
  have hm:(f.name,f.type,f.offset)∈(Tryz.prog.fieldsOf 65).toList.map (fun f=>(f.name,f.type,f.offset)):=List.mem_map.2 ⟨f,hf,rfl⟩
  rw[aed] at hm
  have one:∀ k,k<13→k≠3→f.type=3→f.offset=k→∃ a b,(part f.type (Ic X) f.offset).run Tryz.prog w=.ok a w∧(part f.type (Ic Y) f.offset).run Tryz.prog w=.ok b w∧(Op.equalIn 9999 f.type a b).run Tryz.prog w=.ok ((fun k=>if k=3 then (List.range 8).all (fun i=>X (3+i)==Y (3+i)) else X k==Y k) f.offset) w:=by
   intro k hk hk3 h1 h2
   rw[h1,h2]
   refine⟨_,_,aaz (adK X k hk) w,aaz (adK Y k hk) w,?_⟩
   rw[run_equalIn_int w 9998 3 .i64 .i64 _ _ Tryz.underlying3]
   simp only[if_neg hk3]
  simp only[List.mem_cons,List.not_mem_nil,or_false,Prod.mk.injEq] at hm
  rcases hm with ⟨a,b,c⟩ | ⟨a,b,c⟩ | ⟨a,b,c⟩ | ⟨a,b,c⟩ | ⟨a,b,c⟩ | ⟨a,b,c⟩
  ·exact⟨by rw[a];decide,one 0 (by omega) (by omega) b c⟩
  ·exact⟨by rw[a];decide,one 1 (by omega) (by omega) b c⟩
  ·exact⟨by rw[a];decide,one 2 (by omega) (by omega) b c⟩
  ·refine⟨by rw[a];decide,?_⟩
   rw[b,c]
   refine⟨_,_,adn _ _ w,adn _ _ w,?_⟩
   obtain⟨i,hi⟩:=Option.isSome_iff_exists.1 aju
   rw[run_equalIn_array w 9998 _ _ ac6 hi,aiy]
   refine wL _ _ (fun i=>X (3+i)) (fun i=>Y (3+i)) 8 (fun i hi=>?_) (fun i hi=>?_) 9997 w _ (fun j hj=>by simpa using hj)
   ·have:i=0∨i=1∨i=2∨i=3∨i=4∨i=5∨i=6∨i=7:=by omega
    rcases this with rfl | rfl | rfl | rfl | rfl | rfl | rfl | rfl<;>rfl
   ·have:i=0∨i=1∨i=2∨i=3∨i=4∨i=5∨i=6∨i=7:=by omega
    rcases this with rfl | rfl | rfl | rfl | rfl | rfl | rfl | rfl<;>rfl
  ·exact⟨by rw[a];decide,one 11 (by omega) (by omega) b c⟩
  ·exact⟨by rw[a];decide,one 12 (by omega) (by omega) b c⟩
 refine(aee (fun k=>if k=3 then (List.range 8).all (fun i=>X (3+i)==Y (3+i)) else X k==Y k) _ hG).trans (congrArg (fun r=>Result.ok r w) ((agu aed (fun k=>if k=3 then (List.range 8).all (fun i=>X (3+i)==Y (3+i)) else X k==Y k)).trans ?_))
 have e8:List.range 8=[0,1,2,3,4,5,6,7]:=rfl
 have e13:List.range 13=[0,1,2,3,4,5,6,7,8,9,10,11,12]:=rfl
 simp only[gY,e8,e13,List.all_cons,List.all_nil,Bool.and_true]
 simp[Bool.and_assoc]

theorem adu (X Y:Nat→Int)(w:World):(binOp .neq 65 (Iv X) (Iv Y)).run Tryz.prog w=.ok (.bool (!gY X Y)) w:=by
 rw[run_neq_struct,zY];rfl

def dB:Nat→Int:=fun _=>0

def mg (k:Int):Bool:=decide (k=0)||decide (k=1)||decide (k=2)

theorem rJ (k:Int)(w:World):Calls Tryz.prog 79 #[.int .i64 k] w fun e w'=>e=.returned (.bool (mg k))∧w=w':=by
 obtain⟨b,hb⟩:∃ b,mg k=b:=⟨_,rfl⟩
 rw[hb]
 unfold mg at hb
 by_cases h0:k=0
 ·subst h0
  obtain rfl:b=true:=by rw[← hb];rfl
  clear hb
  go_enter Tryz.func79,Tryz.ntmps79
  go_wp2
  go_ret
  exact⟨rfl,rfl⟩
 ·by_cases h1:k=1
  ·subst h1
   obtain rfl:b=true:=by rw[← hb];rfl
   clear hb h0
   go_enter Tryz.func79,Tryz.ntmps79
   go_wp2
   go_ret
   exact⟨rfl,rfl⟩
  ·by_cases h2:k=2
   ·subst h2
    obtain rfl:b=true:=by rw[← hb];rfl
    clear hb h0 h1
    go_enter Tryz.func79,Tryz.ntmps79
    go_wp2
    go_ret
    exact⟨rfl,rfl⟩
   ·obtain rfl:b=false:=by rw[← hb];simp[h0,h1,h2]
    have d0:(k==0)=false:=by simpa using h0
    have d1:(k==1)=false:=by simpa using h1
    have d2:(k==2)=false:=by simpa using h2
    clear hb h0 h1 h2
    go_enter Tryz.func79,Tryz.ntmps79
    go_wp2
    go_ret
    exact⟨rfl,rfl⟩

theorem uF (wd:Nat)(hw:wd=2∨wd=4)(ns:List Int)(u:World)(hl:ns.length≤1000)(r:Bool)(hr:iD wd ns=r) :
  Calls Tryz.prog 80 #[.int .i64 (wd:Int),.slice (some ⟨u.heap.size,0,none⟩) ns.length ns.length] (u.alloc (.cells (ns.map (Value.int .i64)).toArray 3)) fun e w'=>e=.returned (.bool r)∧Below u.heap.size u w':=by
 subst hr
 refine(uG wd hw _ ns.length ns.length ns _ (aU u ns) (by omega)).mono ?_
 rintro e w' ⟨rfl,rfl⟩
 exact⟨rfl,(Below.refl _ u).alloc (Nat.le_refl _) _⟩

def iE (X:Nat→Int):List Int:=[X 3,X 4,X 5,X 6,X 7,X 8,X 9,X 10]

theorem uH {w u}{X:Nat→Int}(h:Bx w (Ic X) u):jh u (some ⟨w.heap.size,3,none⟩) 8 (iE X):=by
 refine⟨rfl,fun _=>⟨w.heap.size,3,rfl,fun j hj=>?_⟩⟩
 have:j=0∨j=1∨j=2∨j=3∨j=4∨j=5∨j=6∨j=7:=by omega
 rcases this with rfl | rfl | rfl | rfl | rfl | rfl | rfl | rfl
 all_goals exact h.1 _ _ rfl

theorem aaF {w u}{X:Nat→Int}(h:Bx w (Ic X) u)(r:Bool)(hr:iD 2 (iE X)=r) :
  Calls Tryz.prog 80 #[.int .i64 2,.slice (some ⟨w.heap.size,3,none⟩) 8 8] u fun e w'=>e=.returned (.bool r)∧u=w':=by
 subst hr
 exact uG 2 (.inl rfl) _ 8 8 (iE X) u (uH h) (by omega)

def pU (X:Nat→Int):Bool:=!mg (X 0)||(X 0==0&&!gY X dB)

def afM (X:Nat→Int):Bool:=iD 4 [X 2]&&iD 2 [X 1,X 11,X 12]&&iD 2 (iE X)

def dP (X:Nat→Int):List Int:=aH 1 [X 0,0]++(aH 2 [X 1]++(aH 4 [X 2]++(aH 2 (iE X)++aH 2 [X 11,X 12])))

theorem fB (X:Nat→Int):(dP X).length=28:=by simp[dP,jB,iE]

theorem pO (X:Nat→Int):∀ z∈dP X,0≤z∧z≤255:=by
 intro z hz
 simp only[dP,List.mem_append] at hz
 rcases hz with hz | hz | hz | hz | hz
 all_goals exact iJ _ _ z hz

theorem qY (X:Nat→Int)(a:Option Addr)(len cap:Nat)(w:World)(xs zs:List Int)(hh:Has w a len zs)(hz0:∀ z∈zs,0≤z∧z≤255)(hx:∀ z∈xs,0≤z∧z≤255)(he:decide (xs=zs)=true)(HT:Hid (∀ u,Below w.heap.size w u→Calls Tryz.prog 129 #[.slice a len cap] u fun e w'=>e=.returned (Iv X)∧Below u.heap.size u w'))(HW:Hid (∀ u,Below w.heap.size w u→Calls Tryz.prog 49 #[Iv X] u fun e w'=>∃ a' n' c',e=.returned (.tuple #[.slice a' n' c',.int .i64 0])∧Hid (Has w' a' n' xs)∧Below u.heap.size u w')) :
  Calls Tryz.prog 128 #[.slice a len cap,.func (.func 129) #[] #[],.func (.func 49) #[] #[]] w fun e w'=>e=.returned (.tuple #[Iv X,.int .i64 0])∧Below w.heap.size w w':=by
 have HH:=hide hh
 clear hh
 have hb0:Below w.heap.size w (w.alloc (.cells (Iz) 65)):=(Below.refl _ w).alloc (Nat.le_refl _) _
 have HZ:=hide (Bl.new w (Iz) 65)
 have HB:=hide hb0
 clear hb0
 go_enter Tryz.func128,Tryz.ntmps128
 go_wp2_with fail
 go_at_call 129
 refine(ah HT _ HB.out).mono ?_
 rintro e w1 ⟨rfl,hb⟩
 replace HZ:=hide ((HZ.out.call hb).alloc (.cells (Ic X) 65))
 replace HB:=hide ((aX HB.out hb (Nat.le_refl _)).alloc (aX HB.out hb (Nat.le_refl _)).size (.cells (Ic X) 65))
 have HV:=hide (Bl.new w1 (Ic X) 65)
 clear hb HT
 go_wp2_with fail
 go_at_call 49
 refine(ah HW _ HB.out).mono ?_
 rintro e w2 ⟨a',n',c',rfl,hx',hb⟩
 replace HZ:=hide (HZ.out.call hb)
 replace HB:=hide (aX HB.out hb (Nat.le_refl _))
 replace HV:=hide (HV.out.call hb)
 have KE:Hid (Calls Tryz.prog 143 #[.slice a' n' c',.slice a len cap] w2 fun e w'=>e=.returned (.bool true)∧w2=w'):=by
  have:=lH a' a n' c' len cap xs zs w2 hx'.out ((HH.out).later HB.out) hx hz0
  rwa [he] at this
 clear hb HW hx'
 go_wp2_with fail
 go_at_call 143
 refine(ah KE).mono ?_
 rintro e w' ⟨rfl,rfl⟩
 clear KE
 clear HH hz0 hx he
 have z0:=HZ.out.cell 0 _ rfl
 have z1:=HZ.out.cell 1 _ rfl
 have z2:=HZ.out.cell 2 _ rfl
 have z3:=HZ.out.cell 3 _ rfl
 have z4:=HZ.out.cell 4 _ rfl
 have z5:=HZ.out.cell 5 _ rfl
 have z6:=HZ.out.cell 6 _ rfl
 have z7:=HZ.out.cell 7 _ rfl
 have z8:=HZ.out.cell 8 _ rfl
 have z9:=HZ.out.cell 9 _ rfl
 have z10:=HZ.out.cell 10 _ rfl
 have z11:=HZ.out.cell 11 _ rfl
 have z12:=HZ.out.cell 12 _ rfl
 have v0:=HV.out.cell 0 _ rfl
 have v1:=HV.out.cell 1 _ rfl
 have v2:=HV.out.cell 2 _ rfl
 have v3:=HV.out.cell 3 _ rfl
 have v4:=HV.out.cell 4 _ rfl
 have v5:=HV.out.cell 5 _ rfl
 have v6:=HV.out.cell 6 _ rfl
 have v7:=HV.out.cell 7 _ rfl
 have v8:=HV.out.cell 8 _ rfl
 have v9:=HV.out.cell 9 _ rfl
 have v10:=HV.out.cell 10 _ rfl
 have v11:=HV.out.cell 11 _ rfl
 have v12:=HV.out.cell 12 _ rfl
 have hz:=HZ.out.free
 go_wp2_with fail
 have hW:Below w.heap.size w (au w2 w.heap.size 0 [.int .i64 (X 0),.int .i64 (X 1),.int .i64 (X 2),.int .i64 (X 3),.int .i64 (X 4),.int .i64 (X 5),.int .i64 (X 6),.int .i64 (X 7),.int .i64 (X 8),.int .i64 (X 9),.int .i64 (X 10),.int .i64 (X 11),.int .i64 (X 12)]):=aN (Nat.le_refl _) _ _ _ _ HB.out
 have hA:Bl (au w2 w.heap.size 0 [.int .i64 (X 0),.int .i64 (X 1),.int .i64 (X 2),.int .i64 (X 3),.int .i64 (X 4),.int .i64 (X 5),.int .i64 (X 6),.int .i64 (X 7),.int .i64 (X 8),.int .i64 (X 9),.int .i64 (X 10),.int .i64 (X 11),.int .i64 (X 12)]) w.heap.size (Ic X) 65:=aI [.int .i64 (X 0),.int .i64 (X 1),.int .i64 (X 2),.int .i64 (X 3),.int .i64 (X 4),.int .i64 (X 5),.int .i64 (X 6),.int .i64 (X 7),.int .i64 (X 8),.int .i64 (X 9),.int .i64 (X 10),.int .i64 (X 11),.int .i64 (X 12)] _ _ HZ.out rfl
 change bodyPost _ _ _ _ _ (au w2 w.heap.size 0 [.int .i64 (X 0),.int .i64 (X 1),.int .i64 (X 2),.int .i64 (X 3),.int .i64 (X 4),.int .i64 (X 5),.int .i64 (X 6),.int .i64 (X 7),.int .i64 (X 8),.int .i64 (X 9),.int .i64 (X 10),.int .i64 (X 11),.int .i64 (X 12)])
 generalize au w2 w.heap.size 0 [.int .i64 (X 0),.int .i64 (X 1),.int .i64 (X 2),.int .i64 (X 3),.int .i64 (X 4),.int .i64 (X 5),.int .i64 (X 6),.int .i64 (X 7),.int .i64 (X 8),.int .i64 (X 9),.int .i64 (X 10),.int .i64 (X 11),.int .i64 (X 12)]=wf at *
 refine bodyPost_ret (v:=.tuple #[Iv X,.int .i64 0]) ?_ rfl ⟨rfl,hW⟩
 simp[results,Tryz.results128,go_sem,hA.cell 0 _ rfl,hA.cell 1 _ rfl,hA.cell 2 _ rfl,hA.cell 3 _ rfl,hA.cell 4 _ rfl,hA.cell 5 _ rfl,hA.cell 6 _ rfl,hA.cell 7 _ rfl,hA.cell 8 _ rfl,hA.cell 9 _ rfl,hA.cell 10 _ rfl,hA.cell 11 _ rfl,hA.cell 12 _ rfl]

theorem abo (i:Int)(s:ByteArray)(a:Option Addr)(len cap:Nat)(w:World)(xs zs:List Int)(hh:Has w a len zs)(hz0:∀ z∈zs,0≤z∧z≤255)(hx:∀ z∈xs,0≤z∧z≤255)(he:decide (xs=zs)=true)(HT:Hid (∀ u,Below w.heap.size w u→Calls Tryz.prog 134 #[.slice a len cap] u fun e w'=>e=.returned (jO i s)∧Below u.heap.size u w'))(HW:Hid (∀ u,Below w.heap.size w u→Calls Tryz.prog 53 #[jO i s] u fun e w'=>∃ a' n' c',e=.returned (.tuple #[.slice a' n' c',.int .i64 0])∧Hid (Has w' a' n' xs)∧Below u.heap.size u w')) :
  Calls Tryz.prog 133 #[.slice a len cap,.func (.func 134) #[] #[],.func (.func 53) #[] #[]] w fun e w'=>e=.returned (.tuple #[jO i s,.int .i64 0])∧Below w.heap.size w w':=by
 have HH:=hide hh
 clear hh
 have hb0:Below w.heap.size w (w.alloc (.cells (#[.int .i64 0,.string ⟨#[]⟩]) 70)):=(Below.refl _ w).alloc (Nat.le_refl _) _
 have HZ:=hide (Bl.new w (#[.int .i64 0,.string ⟨#[]⟩]) 70)
 have HB:=hide hb0
 clear hb0
 go_enter Tryz.func133,Tryz.ntmps133
 go_wp2_with fail
 go_at_call 134
 refine(ah HT _ HB.out).mono ?_
 rintro e w1 ⟨rfl,hb⟩
 replace HZ:=hide ((HZ.out.call hb).alloc (.cells (Dc i s) 70))
 replace HB:=hide ((aX HB.out hb (Nat.le_refl _)).alloc (aX HB.out hb (Nat.le_refl _)).size (.cells (Dc i s) 70))
 have HV:=hide (Bl.new w1 (Dc i s) 70)
 clear hb HT
 go_wp2_with fail
 go_at_call 53
 refine(ah HW _ HB.out).mono ?_
 rintro e w2 ⟨a',n',c',rfl,hx',hb⟩
 replace HZ:=hide (HZ.out.call hb)
 replace HB:=hide (aX HB.out hb (Nat.le_refl _))
 replace HV:=hide (HV.out.call hb)
 have KE:Hid (Calls Tryz.prog 143 #[.slice a' n' c',.slice a len cap] w2 fun e w'=>e=.returned (.bool true)∧w2=w'):=by
  have:=lH a' a n' c' len cap xs zs w2 hx'.out ((HH.out).later HB.out) hx hz0
  rwa [he] at this
 clear hb HW hx'
 go_wp2_with fail
 go_at_call 143
 refine(ah KE).mono ?_
 rintro e w' ⟨rfl,rfl⟩
 clear KE
 clear HH hz0 hx he
 have z0:=HZ.out.cell 0 _ rfl
 have z1:=HZ.out.cell 1 _ rfl
 have v0:=HV.out.cell 0 _ rfl
 have v1:=HV.out.cell 1 _ rfl
 have hz:=HZ.out.free
 go_wp2_with fail
 have hW:Below w.heap.size w (au w2 w.heap.size 0 [.int .i64 i,.string s]):=aN (Nat.le_refl _) _ _ _ _ HB.out
 have hA:Bl (au w2 w.heap.size 0 [.int .i64 i,.string s]) w.heap.size (Dc i s) 70:=aI [.int .i64 i,.string s] _ _ HZ.out rfl
 change bodyPost _ _ _ _ _ (au w2 w.heap.size 0 [.int .i64 i,.string s])
 generalize au w2 w.heap.size 0 [.int .i64 i,.string s]=wf at *
 refine bodyPost_ret (v:=.tuple #[jO i s,.int .i64 0]) ?_ rfl ⟨rfl,hW⟩
 simp[results,Tryz.results133,go_sem,hA.cell 0 _ rfl,hA.cell 1 _ rfl]

def nI (X:Nat→Int) (k:Nat) (z:Int):Nat→Int:=fun j=>if j=k then z else X j

theorem agJ (X:Nat→Int)(k:Nat)(z:Int)(hk:k<13):(Ic X).setIfInBounds k (.int .i64 z)=Ic (nI X k z):=by
 have:k=0∨k=1∨k=2∨k=3∨k=4∨k=5∨k=6∨k=7∨k=8∨k=9∨k=10∨k=11∨k=12:=by omega
 rcases this with rfl | rfl | rfl | rfl | rfl | rfl | rfl | rfl | rfl | rfl | rfl | rfl | rfl<;>rfl

def ahL (zs:List Int):Nat→Int
 | 0=>ak zs 0 1
 | 1=>ak zs 2 2
 | 2=>ak zs 4 4
 | 11=>ak zs 24 2
 | 12=>ak zs 26 2
 | _=>0

def fQ (zs:List Int):Nat→Nat→Int
 | 0=>ahL zs
 | k+1=>nI (fQ zs k) (3+k) (ak zs (8+2*(k:Int)) 2)

def bD (zs:List Int):Nat→Int:=fQ zs 8

theorem eight {k:Nat}(hk:k<8):k=0∨k=1∨k=2∨k=3∨k=4∨k=5∨k=6∨k=7:=by omega

theorem Bl.ino {u g}{zs:List Int}{k:Nat}(h:Bl u g (Ic (fQ zs k)) 65)(hk:k<8):Bl (u.setCell ⟨g,3+k,none⟩ (.int .i64 (ak zs (8+2*(k:Int)) 2))) g (Ic (fQ zs (k+1))) 65:=by
 have:=h.set (3+k) (.int .i64 (ak zs (8+2*(k:Int)) 2))
 rw[agJ _ _ _ (by omega)] at this
 exact this

theorem kJ (a:Option Addr)(len cap:Nat)(zs:List Int)(w:World)(hr:Row w.heap.size w a len cap zs) :
  Calls Tryz.prog 129 #[.slice a len cap] w fun e w'=>e=.returned (Iv (bD zs))∧Below w.heap.size w w':=by
 have KG:Hid (∀ (at' n:Int) (u:World),at'≤1000→Below w.heap.size w u→Calls Tryz.prog 157 #[.slice a len cap,.int .i64 at',.int .i64 n] u fun e w'=>e=.returned (.int .i64 (ak zs at' n))∧Below u.heap.size u w') :=
  fun at' n u h1 hb=>uD a len cap zs at' n u (hr.below hb hb.size) (by omega)
 have HZ:=hide (Bl.new w Iz 65)
 have HB:=hide ((Below.refl _ w).alloc (Nat.le_refl _) (.cells Iz 65))
 clear hr
 unfold bD
 go_enter Tryz.func129,Tryz.ntmps129
 go_wp2_with fail
 go_at_call 157
 refine(ah KG _ _ _ (by omega) HB.out).mono ?_
 rintro e w1 ⟨rfl,hb⟩
 replace HB:=hide (aX HB.out hb (Nat.le_refl _))
 replace HZ:=hide (HZ.out.call hb)
 clear hb
 go_wp2_with fail
 go_at_call 157
 refine(ah KG _ _ _ (by omega) HB.out).mono ?_
 rintro e w2 ⟨rfl,hb⟩
 replace HB:=hide (aX HB.out hb (Nat.le_refl _))
 replace HZ:=hide (HZ.out.call hb)
 clear hb
 go_wp2_with fail
 go_at_call 157
 refine(ah KG _ _ _ (by omega) HB.out).mono ?_
 rintro e w3 ⟨rfl,hb⟩
 replace HB:=hide (aX HB.out hb (Nat.le_refl _))
 replace HZ:=hide (HZ.out.call hb)
 clear hb
 go_wp2_with fail
 go_at_call 157
 refine(ah KG _ _ _ (by omega) HB.out).mono ?_
 rintro e w4 ⟨rfl,hb⟩
 replace HB:=hide (aX HB.out hb (Nat.le_refl _))
 replace HZ:=hide (HZ.out.call hb)
 clear hb
 go_wp2_with fail
 go_at_call 157
 refine(ah KG _ _ _ (by omega) HB.out).mono ?_
 rintro e w5 ⟨rfl,hb⟩
 replace HB:=hide (aX HB.out hb (Nat.le_refl _))
 replace HZ:=hide (HZ.out.call hb)
 clear hb
 have HZ0:=hide HZ.out
 replace HB:=hide (HB.out.alloc HB.out.size (.cells (Ic (fQ zs 0)) 65))
 replace HZ:=hide (HZ.out.alloc (.cells (Ic (fQ zs 0)) 65))
 have HV:=hide (Bl.new w5 (Ic (fQ zs 0)) 65)
 have hg:Hid (w.heap.size<w5.heap.size):=by
  exact HZ0.out.lt
 clear HZ0
 go_upto_region 2 with fail
 change Code.wp _ _ _ _ (w5.alloc (.cells (Ic (fQ zs 0)) 65))
 generalize w5.alloc (.cells (Ic (fQ zs 0)) 65)=W at *
 generalize w5.heap.size=g1 at *
 go_upto_region 3 with fail
 go_loopw [16] (fun i wr=>∃ k:Nat,k≤8∧i=.int .i64 (k:Int)∧Hid (Bl wr g1 (Ic (fQ zs k)) 65)∧Hid (Bl wr w.heap.size Iz 65)∧Hid (Below w.heap.size w wr)) (fun i _=>8 - (intOf i).toNat)
 case atStart=>exact⟨0,by omega,rfl,HV,HZ,HB⟩
 case round =>
  obtain⟨k,hk,rfl,hV,hZ,hB⟩:=hrel
  clear HV HZ HB
  by_cases hlt:k<8
  ·have HX:Hid (∀ w2,Below wr.heap.size wr w2→Bl (w2.setCell ⟨g1,3+k,none⟩ (.int .i64 (ak zs (8+2*(k:Int)) 2))) g1 (Ic (fQ zs (k+1))) 65∧Bl (w2.setCell ⟨g1,3+k,none⟩ (.int .i64 (ak zs (8+2*(k:Int)) 2))) w.heap.size Iz 65∧Below w.heap.size w (w2.setCell ⟨g1,3+k,none⟩ (.int .i64 (ak zs (8+2*(k:Int)) 2)))):=fun w2 hb =>
    ⟨(hV.out.call hb).ino hlt,(hZ.out.call hb).other _ _ (by have:=hg.out;simp;omega),(aX hB.out hb (Nat.le_refl _)).setCell (by have:=hg.out;simp;omega) _⟩
   have HC:Hid (∀ w2,Below wr.heap.size wr w2→(∃ v,w2.cell? ⟨g1,3+k,none⟩=some (.int .i64 v))∧∀ i,w2.frozen? ⟨g1,i,none⟩=false):=fun w2 hb =>
    ⟨⟨_,(hV.out.call hb).cell (3+k) _ (adK _ _ (by omega))⟩,(hV.out.call hb).free⟩
   rcases eight hlt with rfl | rfl | rfl | rfl | rfl | rfl | rfl | rfl
   all_goals
    go_wp2_with fail
    go_at_call 157
    refine(ah KG _ _ _ (by omega) hB.out).mono ?_
    rintro e w2 ⟨rfl,hb⟩
    obtain⟨⟨v,hc⟩,hz⟩:=HC.out w2 hb
    obtain⟨x1,x2,x3⟩:=HX.out w2 hb
    have X1:=hide x1
    have X2:=hide x2
    have X3:=hide x3
    clear hb HC HX x1 x2 x3 hV hZ hB
    go_wp2_with fail
    exact⟨⟨_,by decide,rfl,X1,X2,X3⟩,by simp[intOf]⟩
  ·obtain rfl:k=8:=by omega
   have HZ:=hide hZ.out
   have HB:=hide hB.out
   generalize hX:fQ zs 8=X at *
   have HX:=hide hX
   clear hX
   have v0:=hV.out.cell 0 _ rfl
   have v1:=hV.out.cell 1 _ rfl
   have v2:=hV.out.cell 2 _ rfl
   have v3:=hV.out.cell 3 _ rfl
   have v4:=hV.out.cell 4 _ rfl
   have v5:=hV.out.cell 5 _ rfl
   have v6:=hV.out.cell 6 _ rfl
   have v7:=hV.out.cell 7 _ rfl
   have v8:=hV.out.cell 8 _ rfl
   have v9:=hV.out.cell 9 _ rfl
   have v10:=hV.out.cell 10 _ rfl
   have v11:=hV.out.cell 11 _ rfl
   have v12:=hV.out.cell 12 _ rfl
   have z0:=HZ.out.cell 0 _ rfl
   have z1:=HZ.out.cell 1 _ rfl
   have z2:=HZ.out.cell 2 _ rfl
   have z3:=HZ.out.cell 3 _ rfl
   have z4:=HZ.out.cell 4 _ rfl
   have z5:=HZ.out.cell 5 _ rfl
   have z6:=HZ.out.cell 6 _ rfl
   have z7:=HZ.out.cell 7 _ rfl
   have z8:=HZ.out.cell 8 _ rfl
   have z9:=HZ.out.cell 9 _ rfl
   have z10:=HZ.out.cell 10 _ rfl
   have z11:=HZ.out.cell 11 _ rfl
   have z12:=HZ.out.cell 12 _ rfl
   have hz:=HZ.out.free
   clear KG
   go_wp2_with fail
   have hW:Below w.heap.size w (au wr w.heap.size 0 [.int .i64 (X 0),.int .i64 (X 1),.int .i64 (X 2),.int .i64 (X 3),.int .i64 (X 4),.int .i64 (X 5),.int .i64 (X 6),.int .i64 (X 7),.int .i64 (X 8),.int .i64 (X 9),.int .i64 (X 10),.int .i64 (X 11),.int .i64 (X 12)]):=aN (Nat.le_refl _) _ _ _ _ HB.out
   have hA:Bl (au wr w.heap.size 0 [.int .i64 (X 0),.int .i64 (X 1),.int .i64 (X 2),.int .i64 (X 3),.int .i64 (X 4),.int .i64 (X 5),.int .i64 (X 6),.int .i64 (X 7),.int .i64 (X 8),.int .i64 (X 9),.int .i64 (X 10),.int .i64 (X 11),.int .i64 (X 12)]) w.heap.size #[.int .i64 (X 0),.int .i64 (X 1),.int .i64 (X 2),.int .i64 (X 3),.int .i64 (X 4),.int .i64 (X 5),.int .i64 (X 6),.int .i64 (X 7),.int .i64 (X 8),.int .i64 (X 9),.int .i64 (X 10),.int .i64 (X 11),.int .i64 (X 12)] 65:=aI [.int .i64 (X 0),.int .i64 (X 1),.int .i64 (X 2),.int .i64 (X 3),.int .i64 (X 4),.int .i64 (X 5),.int .i64 (X 6),.int .i64 (X 7),.int .i64 (X 8),.int .i64 (X 9),.int .i64 (X 10),.int .i64 (X 11),.int .i64 (X 12)] _ _ HZ.out rfl
   change bodyPost _ _ _ _ _ (au wr w.heap.size 0 [.int .i64 (X 0),.int .i64 (X 1),.int .i64 (X 2),.int .i64 (X 3),.int .i64 (X 4),.int .i64 (X 5),.int .i64 (X 6),.int .i64 (X 7),.int .i64 (X 8),.int .i64 (X 9),.int .i64 (X 10),.int .i64 (X 11),.int .i64 (X 12)])
   generalize au wr w.heap.size 0 [.int .i64 (X 0),.int .i64 (X 1),.int .i64 (X 2),.int .i64 (X 3),.int .i64 (X 4),.int .i64 (X 5),.int .i64 (X 6),.int .i64 (X 7),.int .i64 (X 8),.int .i64 (X 9),.int .i64 (X 10),.int .i64 (X 11),.int .i64 (X 12)]=wf at *
   refine bodyPost_ret (v:=Iv X) ?_ rfl ⟨by first | rfl | rw[HX.out],hW⟩
   simp[results,Tryz.results129,go_sem,hA.cell 0 _ rfl,hA.cell 1 _ rfl,hA.cell 2 _ rfl,hA.cell 3 _ rfl,hA.cell 4 _ rfl,hA.cell 5 _ rfl,hA.cell 6 _ rfl,hA.cell 7 _ rfl,hA.cell 8 _ rfl,hA.cell 9 _ rfl,hA.cell 10 _ rfl,hA.cell 11 _ rfl,hA.cell 12 _ rfl]

theorem qH (a:Option Addr)(len cap:Nat)(zs:List Int)(w:World)(hr:Row w.heap.size w a len cap zs) :
  Calls Tryz.prog 134 #[.slice a len cap] w fun e w'=>e=.returned (jO (ak zs 0 2) (jT zs 2 13))∧Below w.heap.size w w':=by
 have KG:Hid (∀ (at' n:Int) (u:World),at'≤1000→Below w.heap.size w u→Calls Tryz.prog 157 #[.slice a len cap,.int .i64 at',.int .i64 n] u fun e w'=>e=.returned (.int .i64 (ak zs at' n))∧Below u.heap.size u w') :=
  fun at' n u h1 hb=>uD a len cap zs at' n u (hr.below hb hb.size) (by omega)
 have KT:Hid (∀ u,Below w.heap.size w u→Calls Tryz.prog 171 #[.slice a len cap,.int .i64 2,.int .i64 13] u fun e w'=>∃ q,e=.returned (.tuple #[.string (jT zs 2 13),.int .i64 q])∧Below u.heap.size u w') :=
  fun u hb=>(aeX a len cap zs 2 13 u (hr.below hb hb.size).has hr.2.1 hr.2.2.1.1 (by omega) (by omega)).mono fun e w' ⟨h1,h2⟩=>⟨_,h1,h2 ▸ Below.refl _ _⟩
 have HZ:=hide (Bl.new w #[.int .i64 0,.string ⟨#[]⟩] 70)
 have HB:=hide ((Below.refl _ w).alloc (Nat.le_refl _) (.cells #[.int .i64 0,.string ⟨#[]⟩] 70))
 clear hr
 generalize jT zs 2 13=S at *
 go_enter Tryz.func134,Tryz.ntmps134
 go_wp2_with fail
 go_at_call 171
 refine(ah KT _ HB.out).mono ?_
 rintro e w1 ⟨q,rfl,hb⟩
 replace HB:=hide (aX HB.out hb (Nat.le_refl _))
 replace HZ:=hide (HZ.out.call hb)
 clear hb KT
 go_wp2_with fail
 go_at_call 157
 refine(ah KG _ _ _ (by omega) HB.out).mono ?_
 rintro e w2 ⟨rfl,hb⟩
 replace HB:=hide (aX HB.out hb (Nat.le_refl _))
 replace HZ:=hide (HZ.out.call hb)
 clear hb
 have z0:=HZ.out.cell 0 _ rfl
 have z1:=HZ.out.cell 1 _ rfl
 have hz:=HZ.out.free
 clear KG
 go_wp2_with fail
 have hW:Below w.heap.size w (au w2 w.heap.size 0 [.int .i64 (ak zs 0 2),.string S]):=aN (Nat.le_refl _) _ _ _ _ HB.out
 have hA:Bl (au w2 w.heap.size 0 [.int .i64 (ak zs 0 2),.string S]) w.heap.size #[.int .i64 (ak zs 0 2),.string S] 70:=aI [.int .i64 (ak zs 0 2),.string S] _ _ HZ.out rfl
 change bodyPost _ _ _ _ _ (au w2 w.heap.size 0 [.int .i64 (ak zs 0 2),.string S])
 generalize au w2 w.heap.size 0 [.int .i64 (ak zs 0 2),.string S]=wf at *
 refine bodyPost_ret (v:=jO (ak zs 0 2) S) ?_ rfl ⟨by first | rfl | rw[HX.out],hW⟩
 simp[results,Tryz.results134,go_sem,hA.cell 0 _ rfl,hA.cell 1 _ rfl]

def lU (n0 n:Nat) (xs:List Int) (v:Value) (w:World):Prop:=∃ g,v=.slice (some ⟨g,0,none⟩) n n∧n0≤g∧Has w (some ⟨g,0,none⟩) n xs

theorem uo (n0 n:Nat)(xs:List Int):agR n0 (lU n0 n xs):=fun _ _ _ ⟨g,e,hn,h⟩ hg=>⟨g,e,hn,h.grw hg⟩

theorem ajB {x y z:Int}(h:iD 2 [x,y,z]=true):iD 2 [x]=true:=by
 rw[dR] at h ⊢
 exact fun v hv=>h v (by simp at hv ⊢;exact .inl hv)

theorem ajA {x y z:Int}(h:iD 2 [x,y,z]=true):iD 2 [y,z]=true:=by
 rw[dR] at h ⊢
 exact fun v hv=>h v (by simp at hv ⊢;exact .inr hv)

theorem aa7 {k:Int}(h:mg k=true):iD 1 [k,0]=true:=by
 rw[dR]
 intro v hv
 simp[mg] at h
 simp at hv
 omega

theorem wM (X:Nat→Int)(w:World)(hk:mg (X 0)=true)(h0:(X 0==0)=false)(h4:iD 4 [X 2]=true)(h2:iD 2 [X 1,X 11,X 12]=true)(h8:iD 2 (iE X)=true) :
  Calls Tryz.prog 49 #[Iv X] w fun e w'=>∃ k,e=.returned (.tuple #[.slice (some ⟨k,0,none⟩) 32 32,.int .i64 0])∧Hid (Has w' (some ⟨k,0,none⟩) 32 (aZ 32 (dP X))∧w.heap.size≤k)∧Below w.heap.size w w':=by
 have HK:=hide (Bx.start w (Ic X) 65)
 have KK:Hid (∀ u,Calls Tryz.prog 79 #[.int .i64 (X 0)] u fun e w'=>e=.returned (.bool true)∧Below u.heap.size u w'):=fun u=>(rJ (X 0) u).mono fun e w' ⟨h1,h2⟩=>⟨by rw[h1,hk],h2 ▸ Below.refl _ _⟩
 have F4:Hid (∀ u:World,Calls Tryz.prog 80 #[.int .i64 4,.slice (some ⟨u.heap.size,0,none⟩) 1 1] (u.alloc (zI (X 2))) fun e w'=>e=.returned (.bool true)∧Below u.heap.size u w') :=
  fun u=>uF 4 (.inr rfl) [X 2] u (by simp) _ h4
 have F2:Hid (∀ u:World,Calls Tryz.prog 80 #[.int .i64 2,.slice (some ⟨u.heap.size,0,none⟩) 3 3] (u.alloc (.cells #[.int .i64 (X 1),.int .i64 (X 11),.int .i64 (X 12)] 3)) fun e w'=>e=.returned (.bool true)∧Below u.heap.size u w') :=
  fun u=>uF 2 (.inl rfl) [X 1,X 11,X 12] u (by simp) _ h2
 have F8:Hid (∀ u:World,Bx w (Ic X) u→Calls Tryz.prog 80 #[.int .i64 2,.slice (some ⟨w.heap.size,3,none⟩) 8 8] u fun e w'=>e=.returned (.bool true)∧u=w') :=
  fun u hB=>aaF hB _ h8
 have HH:=hide hk
 have H4:=hide h4
 have H2:=hide h2
 have H8:=hide h8
 clear hk h4 h2 h8
 go_enter Tryz.func49,Tryz.ntmps49
 go_wp2_with fail
 go_at_call 79
 refine(ah KK _).mono ?_
 rintro e w1 ⟨rfl,hb⟩
 replace HK:=hide ((ah HK).call hb)
 clear KK hb
 have f0:=HK.out.1 0 _ rfl
 have f2:=HK.out.1 2 _ rfl
 go_wp2_with fail
 go_at_call 80
 refine(ah F4 _).mono ?_
 rintro e w2 ⟨rfl,hb⟩
 replace HK:=hide ((ah HK).call hb)
 clear hb F4 f0 f2
 have f1:=HK.out.1 1 _ rfl
 have f11:=HK.out.1 11 _ rfl
 have f12:=HK.out.1 12 _ rfl
 go_wp2_with fail
 go_at_call 80
 refine(ah F2 _).mono ?_
 rintro e w3 ⟨rfl,hb⟩
 replace HK:=hide ((ah HK).call hb)
 clear hb F2 f1 f11 f12
 go_wp2_with fail
 go_at_call 80
 refine(ah F8 _ HK.out).mono ?_
 rintro e w' ⟨rfl,rfl⟩
 clear F8
 go_upto_region 5 with fail
 go_cut [2,3] (fun c q wx=>∃ k0,c=.slice (some ⟨k0,0,none⟩) 32 32∧q=.int .i64 0∧Hid (Has wx (some ⟨k0,0,none⟩) 32 (aZ 32 (dP X))∧w.heap.size≤k0)∧Hid (Bx w (Ic X) wx))
 case first =>
  refine dU (by kernel_rfl) w.heap.size [bG (.pointer (some ⟨w.heap.size,0,none⟩)),bG (.int .i64 (X 0)),bC [X 0,0],aC 2 (aH 1 [X 0,0]),bG (.pointer (some ⟨w.heap.size,1,none⟩)),bG (.int .i64 (X 1)),bC [X 1],aC 2 (aH 2 [X 1]),bG (.pointer (some ⟨w.heap.size,2,none⟩)),bG (.int .i64 (X 2)),bC [X 2],aC 4 (aH 4 [X 2]),bG (.pointer (some ⟨w.heap.size,3,none⟩)),bC (iE X),aC 16 (aH 2 (iE X)),bG (.pointer (some ⟨w.heap.size,11,none⟩)),bG (.int .i64 (X 11)),bG (.pointer (some ⟨w.heap.size,12,none⟩)),bG (.int .i64 (X 12)),bC [X 11,X 12],aC 4 (aH 2 [X 11,X 12]),dX 5 (dP X),lU w.heap.size 32 (aZ 32 (dP X)),lU w.heap.size 32 (aZ 32 (dP X)),bG (.int .i64 0)] ?_ (by kernel_rfl) (by kernel_rfl) ?_ ?_
  ·intro S hS
   simp only[List.mem_cons,List.not_mem_nil,or_false] at hS
   rcases hS with rfl | rfl | rfl | rfl | rfl | rfl | rfl | rfl | rfl | rfl | rfl | rfl | rfl | rfl | rfl | rfl | rfl | rfl | rfl | rfl | rfl | rfl | rfl | rfl | rfl<;>first | exact jK _ _ | exact gI _ _ _ | exact uo _ _ _ | exact iT _ _ | exact iK _ _ | exact gG _ _ _
  ·intro i o a u hi hF hA hG
   have hB:=HK.out.drew.grw hG
   have hn:w.heap.size≤u.heap.size:=hB.2.1.size
   have tb:a.tmps[1]?.getD undef=.pointer (some ⟨w.heap.size,0,none⟩):=iq hF 1 (by kernel_rfl)
   have hlt:=(Array.getElem?_eq_some_iff.1 hi).1
   have hcs:i=0∨i=1∨i=2∨i=3∨i=4∨i=5∨i=6∨i=7∨i=8∨i=9∨i=10∨i=11∨i=12∨i=13∨i=14∨i=15∨i=16∨i=17∨i=18∨i=19∨i=20∨i=21∨i=22∨i=23∨i=24:=by simp at hlt;omega
   clear hlt
   rcases hcs with rfl | rfl | rfl | rfl | rfl | rfl | rfl | rfl | rfl | rfl | rfl | rfl | rfl | rfl | rfl | rfl | rfl | rfl | rfl | rfl | rfl | rfl | rfl | rfl | rfl
   ·have ho:=Option.some.inj hi;subst ho
    have h0:=tb
    refine aB (w':=u) rfl rfl (.pointer (some ⟨w.heap.size,0,none⟩)) ?_ rfl (Grw.refl _ _)
    simp[execOp,Act.eval,h0,go_sem]
   ·have ho:=Option.some.inj hi;subst ho
    have h0:a.tmps[40]?.getD undef=.pointer (some ⟨w.heap.size,0,none⟩):=aj hA 0 40 (by kernel_rfl) rfl
    have f0:=hB.1 0 _ rfl
    refine aB (w':=u) rfl rfl (.int .i64 (X 0)) ?_ rfl (Grw.refl _ _)
    simp[execOp,Act.eval,h0,f0,go_sem]
   ·have ho:=Option.some.inj hi;subst ho
    have h0:a.tmps[41]?.getD undef=.int .i64 (X 0):=aj hA 1 41 (by kernel_rfl) rfl
    refine aB (w':=u.alloc (.cells ([X 0,0].map (Value.int .i64)).toArray 3)) rfl rfl (.slice (some ⟨u.heap.size,0,none⟩) 2 2) ?_ ⟨_,_,rfl,aU u [X 0,0]⟩ (Grw.alloc _ _ _ hn)
    simp[execOp,Act.eval,h0,go_sem]
   ·have ho:=Option.some.inj hi;subst ho
    have h0:bC [X 0,0] (a.tmps[42]?.getD undef) u:=aj hA 2 42 (by kernel_rfl) rfl
    refine bK rfl rfl 82 #[.int .i64 (1:Nat),a.tmps[42]?.getD undef] ?_ hn (aT 1 (.inl rfl) [X 0,0] _ u h0 (by first | (simp;done) | simp[iE]) (aa7 HH.out) 2 rfl)
    simp[execOp,Act.eval,go_sem]
   ·have ho:=Option.some.inj hi;subst ho
    have h0:=tb
    refine aB (w':=u) rfl rfl (.pointer (some ⟨w.heap.size,1,none⟩)) ?_ rfl (Grw.refl _ _)
    simp[execOp,Act.eval,h0,go_sem]
   ·have ho:=Option.some.inj hi;subst ho
    have h0:a.tmps[44]?.getD undef=.pointer (some ⟨w.heap.size,1,none⟩):=aj hA 4 44 (by kernel_rfl) rfl
    have f0:=hB.1 1 _ rfl
    refine aB (w':=u) rfl rfl (.int .i64 (X 1)) ?_ rfl (Grw.refl _ _)
    simp[execOp,Act.eval,h0,f0,go_sem]
   ·have ho:=Option.some.inj hi;subst ho
    have h0:a.tmps[45]?.getD undef=.int .i64 (X 1):=aj hA 5 45 (by kernel_rfl) rfl
    refine aB (w':=u.alloc (.cells ([X 1].map (Value.int .i64)).toArray 3)) rfl rfl (.slice (some ⟨u.heap.size,0,none⟩) 1 1) ?_ ⟨_,_,rfl,aU u [X 1]⟩ (Grw.alloc _ _ _ hn)
    simp[execOp,Act.eval,h0,go_sem]
   ·have ho:=Option.some.inj hi;subst ho
    have h0:bC [X 1] (a.tmps[46]?.getD undef) u:=aj hA 6 46 (by kernel_rfl) rfl
    refine bK rfl rfl 82 #[.int .i64 (2:Nat),a.tmps[46]?.getD undef] ?_ hn (aT 2 (.inr (.inl rfl)) [X 1] _ u h0 (by first | (simp;done) | simp[iE]) (ajB H2.out) 2 rfl)
    simp[execOp,Act.eval,go_sem]
   ·have ho:=Option.some.inj hi;subst ho
    have h0:=tb
    refine aB (w':=u) rfl rfl (.pointer (some ⟨w.heap.size,2,none⟩)) ?_ rfl (Grw.refl _ _)
    simp[execOp,Act.eval,h0,go_sem]
   ·have ho:=Option.some.inj hi;subst ho
    have h0:a.tmps[48]?.getD undef=.pointer (some ⟨w.heap.size,2,none⟩):=aj hA 8 48 (by kernel_rfl) rfl
    have f0:=hB.1 2 _ rfl
    refine aB (w':=u) rfl rfl (.int .i64 (X 2)) ?_ rfl (Grw.refl _ _)
    simp[execOp,Act.eval,h0,f0,go_sem]
   ·have ho:=Option.some.inj hi;subst ho
    have h0:a.tmps[49]?.getD undef=.int .i64 (X 2):=aj hA 9 49 (by kernel_rfl) rfl
    refine aB (w':=u.alloc (.cells ([X 2].map (Value.int .i64)).toArray 3)) rfl rfl (.slice (some ⟨u.heap.size,0,none⟩) 1 1) ?_ ⟨_,_,rfl,aU u [X 2]⟩ (Grw.alloc _ _ _ hn)
    simp[execOp,Act.eval,h0,go_sem]
   ·have ho:=Option.some.inj hi;subst ho
    have h0:bC [X 2] (a.tmps[50]?.getD undef) u:=aj hA 10 50 (by kernel_rfl) rfl
    refine bK rfl rfl 82 #[.int .i64 (4:Nat),a.tmps[50]?.getD undef] ?_ hn (aT 4 (.inr (.inr rfl)) [X 2] _ u h0 (by first | (simp;done) | simp[iE]) H4.out 4 rfl)
    simp[execOp,Act.eval,go_sem]
   ·have ho:=Option.some.inj hi;subst ho
    have h0:=tb
    refine aB (w':=u) rfl rfl (.pointer (some ⟨w.heap.size,3,none⟩)) ?_ rfl (Grw.refl _ _)
    simp[execOp,Act.eval,h0,go_sem]
   ·have ho:=Option.some.inj hi;subst ho
    have h0:a.tmps[52]?.getD undef=.pointer (some ⟨w.heap.size,3,none⟩):=aj hA 12 52 (by kernel_rfl) rfl
    refine aB (w':=u) rfl rfl (.slice (some ⟨w.heap.size,3,none⟩) 8 8) ?_ ⟨_,_,rfl,uH hB⟩ (Grw.refl _ _)
    simp[execOp,Act.eval,h0,go_sem]
   ·have ho:=Option.some.inj hi;subst ho
    have h0:bC (iE X) (a.tmps[53]?.getD undef) u:=aj hA 13 53 (by kernel_rfl) rfl
    refine bK rfl rfl 82 #[.int .i64 (2:Nat),a.tmps[53]?.getD undef] ?_ hn (aT 2 (.inr (.inl rfl)) (iE X) _ u h0 (by first | (simp;done) | simp[iE]) H8.out 16 rfl)
    simp[execOp,Act.eval,go_sem]
   ·have ho:=Option.some.inj hi;subst ho
    have h0:=tb
    refine aB (w':=u) rfl rfl (.pointer (some ⟨w.heap.size,11,none⟩)) ?_ rfl (Grw.refl _ _)
    simp[execOp,Act.eval,h0,go_sem]
   ·have ho:=Option.some.inj hi;subst ho
    have h0:a.tmps[55]?.getD undef=.pointer (some ⟨w.heap.size,11,none⟩):=aj hA 15 55 (by kernel_rfl) rfl
    have f0:=hB.1 11 _ rfl
    refine aB (w':=u) rfl rfl (.int .i64 (X 11)) ?_ rfl (Grw.refl _ _)
    simp[execOp,Act.eval,h0,f0,go_sem]
   ·have ho:=Option.some.inj hi;subst ho
    have h0:=tb
    refine aB (w':=u) rfl rfl (.pointer (some ⟨w.heap.size,12,none⟩)) ?_ rfl (Grw.refl _ _)
    simp[execOp,Act.eval,h0,go_sem]
   ·have ho:=Option.some.inj hi;subst ho
    have h0:a.tmps[57]?.getD undef=.pointer (some ⟨w.heap.size,12,none⟩):=aj hA 17 57 (by kernel_rfl) rfl
    have f0:=hB.1 12 _ rfl
    refine aB (w':=u) rfl rfl (.int .i64 (X 12)) ?_ rfl (Grw.refl _ _)
    simp[execOp,Act.eval,h0,f0,go_sem]
   ·have ho:=Option.some.inj hi;subst ho
    have h0:a.tmps[56]?.getD undef=.int .i64 (X 11):=aj hA 16 56 (by kernel_rfl) rfl
    have h1:a.tmps[58]?.getD undef=.int .i64 (X 12):=aj hA 18 58 (by kernel_rfl) rfl
    refine aB (w':=u.alloc (.cells ([X 11,X 12].map (Value.int .i64)).toArray 3)) rfl rfl (.slice (some ⟨u.heap.size,0,none⟩) 2 2) ?_ ⟨_,_,rfl,aU u [X 11,X 12]⟩ (Grw.alloc _ _ _ hn)
    simp[execOp,Act.eval,h0,h1,go_sem]
   ·have ho:=Option.some.inj hi;subst ho
    have h0:bC [X 11,X 12] (a.tmps[59]?.getD undef) u:=aj hA 19 59 (by kernel_rfl) rfl
    refine bK rfl rfl 82 #[.int .i64 (2:Nat),a.tmps[59]?.getD undef] ?_ hn (aT 2 (.inr (.inl rfl)) [X 11,X 12] _ u h0 (by first | (simp;done) | simp[iE]) (ajA H2.out) 4 rfl)
    simp[execOp,Act.eval,go_sem]
   ·have ho:=Option.some.inj hi;subst ho
    obtain⟨p0,c0,e0,b0,_,_⟩:aC 2 (aH 1 [X 0,0]) (a.tmps[43]?.getD undef) u:=aj hA 3 43 (by kernel_rfl) rfl
    obtain⟨p1,c1,e1,b1,_,_⟩:aC 2 (aH 2 [X 1]) (a.tmps[47]?.getD undef) u:=aj hA 7 47 (by kernel_rfl) rfl
    obtain⟨p2,c2,e2,b2,_,_⟩:aC 4 (aH 4 [X 2]) (a.tmps[51]?.getD undef) u:=aj hA 11 51 (by kernel_rfl) rfl
    obtain⟨p3,c3,e3,b3,_,_⟩:aC 16 (aH 2 (iE X)) (a.tmps[54]?.getD undef) u:=aj hA 14 54 (by kernel_rfl) rfl
    obtain⟨p4,c4,e4,b4,_,_⟩:aC 4 (aH 2 [X 11,X 12]) (a.tmps[60]?.getD undef) u:=aj hA 20 60 (by kernel_rfl) rfl
    have hp:=gV u [(p0,2,c0,(aH 1 [X 0,0])),(p1,2,c1,(aH 2 [X 1])),(p2,4,c2,(aH 4 [X 2])),(p3,16,c3,(aH 2 (iE X))),(p4,4,c4,(aH 2 [X 11,X 12]))] (by
     intro p hp
     simp only[List.mem_cons,List.not_mem_nil,or_false] at hp
     rcases hp with rfl | rfl | rfl | rfl | rfl
     ·exact b0
     ·exact b1
     ·exact b2
     ·exact b3
     ·exact b4)
    refine aB (w':=u.alloc (.cells ([(p0,2,c0,(aH 1 [X 0,0])),(p1,2,c1,(aH 2 [X 1])),(p2,4,c2,(aH 4 [X 2])),(p3,16,c3,(aH 2 (iE X))),(p4,4,c4,(aH 2 [X 11,X 12]))].map pv).toArray 71)) rfl rfl (.slice (some ⟨u.heap.size,0,none⟩) 5 5) ?_ ⟨_,_,_,rfl,hp,by simp[lK,dP]⟩ (Grw.alloc _ _ _ hn)
    simp[execOp,Act.eval,e0,e1,e2,e3,e4,go_sem]
    all_goals rfl
   ·have ho:=Option.some.inj hi;subst ho
    have h0:dX 5 (dP X) (a.tmps[61]?.getD undef) u:=aj hA 21 61 (by kernel_rfl) rfl
    refine bK rfl rfl 81 #[.int .i64 ((32:Nat):Int),a.tmps[61]?.getD undef] ?_ hn ((rG (32) 5 (dP X) _ u h0 (by omega) (by rw[fB];omega) (by omega) (pO X)).mono fun e w' ⟨v,e1,⟨_,gg,h1,h3,h4⟩,h2⟩=>⟨v,e1,⟨gg,h1,Nat.le_trans hn h3,h4.has (by rw[dH (by rw[fB];omega)])⟩,h2⟩)
    simp[execOp,Act.eval,go_sem]
   ·have ho:=Option.some.inj hi;subst ho
    have h0:lU w.heap.size 32 (aZ 32 (dP X)) (a.tmps[62]?.getD undef) u:=aj hA 22 62 (by kernel_rfl) rfl
    refine aB (w':=u) rfl rfl (a.tmps[62]?.getD undef) ?_ h0 (Grw.refl _ _)
    simp[execOp,Act.eval,go_sem]
   ·have ho:=Option.some.inj hi;subst ho
    refine aB (w':=u) rfl rfl (.int .i64 0) ?_ rfl (Grw.refl _ _)
    simp[execOp,Act.eval,go_sem]
  ·intro a u hF hR hG
   have q0:=iq hF 0 (by kernel_rfl)
   have q1:=iq hF 1 (by kernel_rfl)
   obtain⟨r0,r2,r1,r3⟩:lU w.heap.size 32 (aZ 32 (dP X)) (a.tmps[2]?.getD undef) u:=by have:=hR 23 _ 2 rfl rfl;rwa [Array.getD_eq_getD_getElem?] at this
   obtain p3:a.tmps[3]?.getD undef=(.int .i64 0):=by have:=hR 24 _ 3 rfl rfl;rwa [Array.getD_eq_getD_getElem?] at this
   have hB:=HK.out.drew.grw hG
   obtain⟨tm,df⟩:=a
   obtain⟨hs,hdf,_⟩:=hF
   have hs':tm.size=63:=hs
   have adN:df=[]:=hdf
   subst adN
   have he:tm=#[tm[0]?.getD undef,tm[1]?.getD undef,tm[2]?.getD undef,tm[3]?.getD undef,tm[4]?.getD undef,tm[5]?.getD undef,tm[6]?.getD undef,tm[7]?.getD undef,tm[8]?.getD undef,tm[9]?.getD undef,tm[10]?.getD undef,tm[11]?.getD undef,tm[12]?.getD undef,tm[13]?.getD undef,tm[14]?.getD undef,tm[15]?.getD undef,tm[16]?.getD undef,tm[17]?.getD undef,tm[18]?.getD undef,tm[19]?.getD undef,tm[20]?.getD undef,tm[21]?.getD undef,tm[22]?.getD undef,tm[23]?.getD undef,tm[24]?.getD undef,tm[25]?.getD undef,tm[26]?.getD undef,tm[27]?.getD undef,tm[28]?.getD undef,tm[29]?.getD undef,tm[30]?.getD undef,tm[31]?.getD undef,tm[32]?.getD undef,tm[33]?.getD undef,tm[34]?.getD undef,tm[35]?.getD undef,tm[36]?.getD undef,tm[37]?.getD undef,tm[38]?.getD undef,tm[39]?.getD undef,tm[40]?.getD undef,tm[41]?.getD undef,tm[42]?.getD undef,tm[43]?.getD undef,tm[44]?.getD undef,tm[45]?.getD undef,tm[46]?.getD undef,tm[47]?.getD undef,tm[48]?.getD undef,tm[49]?.getD undef,tm[50]?.getD undef,tm[51]?.getD undef,tm[52]?.getD undef,tm[53]?.getD undef,tm[54]?.getD undef,tm[55]?.getD undef,tm[56]?.getD undef,tm[57]?.getD undef,tm[58]?.getD undef,tm[59]?.getD undef,tm[60]?.getD undef,tm[61]?.getD undef,tm[62]?.getD undef]:=lT tm 63 hs'
   simp at q0
   simp at q1
   rw[he]
   simp only[q0,q1,r2,p3]
   clear he hR hG hs hs' hdf q0 q1 r2 p3
   go_wp2_with fail
   go_meet
   exact⟨r0,rfl,rfl,⟨r3,r1⟩,hB⟩
 case rest =>
  obtain⟨k0,rfl,rfl,hh,hB⟩:=hcut
  clear HK
  go_wp2_with fail
  go_ret2
  exact⟨k0,rfl,hh,hB.out.2.1⟩

theorem uZ (X:Nat→Int)(q:Int)(a:Option Addr)(len cap:Nat)(w:World)(K:Hid (∀ u,Below w.heap.size w u→Calls Tryz.prog 128 #[.slice a len cap,.func (.func 129) #[] #[],.func (.func 49) #[] #[]] u fun e w'=>e=.returned (.tuple #[Iv X,.int .i64 q])∧Below u.heap.size u w')) :
  Calls Tryz.prog 86 #[.slice a len cap] w fun e w'=>e=.returned (.tuple #[Iv X,.int .i64 q])∧Below w.heap.size w w':=by
 have HZ:=hide (Bl.new w Iz 65)
 have HB:=hide ((Below.refl _ w).alloc (Nat.le_refl _) (.cells Iz 65))
 go_enter Tryz.func86,Tryz.ntmps86
 go_wp2_with fail
 go_at_call 128
 refine(ah K _ HB.out).mono ?_
 rintro e w1 ⟨rfl,hb⟩
 replace HB:=hide (aX HB.out hb (Nat.le_refl _))
 replace HZ:=hide (HZ.out.call hb)
 clear hb K
 have z0:=HZ.out.cell 0 _ rfl
 have z1:=HZ.out.cell 1 _ rfl
 have z2:=HZ.out.cell 2 _ rfl
 have z3:=HZ.out.cell 3 _ rfl
 have z4:=HZ.out.cell 4 _ rfl
 have z5:=HZ.out.cell 5 _ rfl
 have z6:=HZ.out.cell 6 _ rfl
 have z7:=HZ.out.cell 7 _ rfl
 have z8:=HZ.out.cell 8 _ rfl
 have z9:=HZ.out.cell 9 _ rfl
 have z10:=HZ.out.cell 10 _ rfl
 have z11:=HZ.out.cell 11 _ rfl
 have z12:=HZ.out.cell 12 _ rfl
 have hz:=HZ.out.free
 go_wp2_with fail
 have hW:Below w.heap.size w (au w1 w.heap.size 0 [.int .i64 (X 0),.int .i64 (X 1),.int .i64 (X 2),.int .i64 (X 3),.int .i64 (X 4),.int .i64 (X 5),.int .i64 (X 6),.int .i64 (X 7),.int .i64 (X 8),.int .i64 (X 9),.int .i64 (X 10),.int .i64 (X 11),.int .i64 (X 12)]):=aN (Nat.le_refl _) _ _ _ _ HB.out
 have hA:Bl (au w1 w.heap.size 0 [.int .i64 (X 0),.int .i64 (X 1),.int .i64 (X 2),.int .i64 (X 3),.int .i64 (X 4),.int .i64 (X 5),.int .i64 (X 6),.int .i64 (X 7),.int .i64 (X 8),.int .i64 (X 9),.int .i64 (X 10),.int .i64 (X 11),.int .i64 (X 12)]) w.heap.size #[.int .i64 (X 0),.int .i64 (X 1),.int .i64 (X 2),.int .i64 (X 3),.int .i64 (X 4),.int .i64 (X 5),.int .i64 (X 6),.int .i64 (X 7),.int .i64 (X 8),.int .i64 (X 9),.int .i64 (X 10),.int .i64 (X 11),.int .i64 (X 12)] 65:=aI [.int .i64 (X 0),.int .i64 (X 1),.int .i64 (X 2),.int .i64 (X 3),.int .i64 (X 4),.int .i64 (X 5),.int .i64 (X 6),.int .i64 (X 7),.int .i64 (X 8),.int .i64 (X 9),.int .i64 (X 10),.int .i64 (X 11),.int .i64 (X 12)] _ _ HZ.out rfl
 change bodyPost _ _ _ _ _ (au w1 w.heap.size 0 [.int .i64 (X 0),.int .i64 (X 1),.int .i64 (X 2),.int .i64 (X 3),.int .i64 (X 4),.int .i64 (X 5),.int .i64 (X 6),.int .i64 (X 7),.int .i64 (X 8),.int .i64 (X 9),.int .i64 (X 10),.int .i64 (X 11),.int .i64 (X 12)])
 generalize au w1 w.heap.size 0 [.int .i64 (X 0),.int .i64 (X 1),.int .i64 (X 2),.int .i64 (X 3),.int .i64 (X 4),.int .i64 (X 5),.int .i64 (X 6),.int .i64 (X 7),.int .i64 (X 8),.int .i64 (X 9),.int .i64 (X 10),.int .i64 (X 11),.int .i64 (X 12)]=wf at *
 refine bodyPost_ret (v:=.tuple #[Iv X,.int .i64 q]) ?_ rfl ⟨by first | rfl | rw[HX.out],hW⟩
 simp[results,Tryz.results86,go_sem,hA.cell 0 _ rfl,hA.cell 1 _ rfl,hA.cell 2 _ rfl,hA.cell 3 _ rfl,hA.cell 4 _ rfl,hA.cell 5 _ rfl,hA.cell 6 _ rfl,hA.cell 7 _ rfl,hA.cell 8 _ rfl,hA.cell 9 _ rfl,hA.cell 10 _ rfl,hA.cell 11 _ rfl,hA.cell 12 _ rfl]

def pR (zs:List Int):Prop:=pU (bD zs)=false∧afM (bD zs)=true∧aZ 32 (dP (bD zs))=zs∧(bD zs 0==0)=false

theorem akw (X:Nat→Int):∀ z∈aZ 32 (dP X),0≤z∧z≤255:=pJ _ _ (pO X)

theorem yu (a:Option Addr)(len cap:Nat)(zs:List Int)(w:World)(hr:Row w.heap.size w a len cap zs)(h:pR zs) :
  Calls Tryz.prog 86 #[.slice a len cap] w fun e w'=>e=.returned (.tuple #[Iv (bD zs),.int .i64 0])∧Below w.heap.size w w':=by
 refine uZ (bD zs) 0 a len cap w fun u hb=>?_
 have hru:=hr.below hb hb.size
 have hf:=h.2.1
 have hk:mg (bD zs 0)=true:=by
  have:=h.1
  unfold pU at this
  simp only[Bool.or_eq_false_iff,Bool.not_eq_false'] at this
  exact this.1
 unfold afM at hf
 simp only[Bool.and_eq_true] at hf
 obtain⟨⟨h4,h2⟩,h8⟩:=hf
 refine qY (bD zs) a len cap u zs zs hru.has hr.2.2.2.1 hr.2.2.2.1 (by simp) (fun u2 hb2=>kJ a len cap zs u2 (hru.below hb2 hb2.size)) fun u2 hb2=>?_
 refine(wM (bD zs) u2 hk h.2.2.2 h4 h2 h8).mono ?_
 rintro e w' ⟨k,rfl,hh,hb⟩
 have h1:=hh.out.1
 rw[h.2.2.1] at h1
 exact⟨_,_,_,rfl,h1,hb⟩

theorem acd (i:Int)(s:ByteArray)(w:World)(hi:i≠0)(hs:s.size≤13)(hf:iD 2 [i]=true)(KN:Hid (∀ u,Calls Tryz.prog 52 #[.string s] u fun e w'=>e=.returned (.int .i64 0)∧Below u.heap.size u w')) :
  Calls Tryz.prog 53 #[jO i s] w fun e w'=>∃ k,e=.returned (.tuple #[.slice (some ⟨k,0,none⟩) 16 16,.int .i64 0])∧Hid (Has w' (some ⟨k,0,none⟩) 16 (aZ 16 (iZ i s))∧w.heap.size≤k)∧Below w.heap.size w w':=by
 have HK:=hide (Bx.start w (Dc i s) 70)
 have F2:Hid (∀ u:World,Calls Tryz.prog 80 #[.int .i64 2,.slice (some ⟨u.heap.size,0,none⟩) 1 1] (u.alloc (zI i)) fun e w'=>e=.returned (.bool true)∧Below u.heap.size u w'):=fun u=>zU 2 (.inl rfl) i u true hf
 have HF:=hide hf
 have HS:=hide hs
 have hi1:(i==0)=false:=by simpa using hi
 have hi2:(i != 0)=true:=by simpa using hi
 clear hf hi hs
 go_enter Tryz.func53,Tryz.ntmps53
 go_wp2_with fail
 go_at_call 52
 refine(ah KN _).mono ?_
 rintro e w1 ⟨rfl,hb⟩
 replace HK:=hide ((ah HK).call hb)
 have f0:=HK.out.1 0 _ rfl
 clear hb KN
 go_wp2_with fail
 go_at_call 80
 refine(ah F2 _).mono ?_
 rintro e w2 ⟨rfl,hb⟩
 replace HK:=hide ((ah HK).call hb)
 clear f0 hb F2
 go_upto_region 7 with fail
 go_cut [2,3] (fun c q wx=>∃ k0,c=.slice (some ⟨k0,0,none⟩) 16 16∧q=.int .i64 0∧Hid (Has wx (some ⟨k0,0,none⟩) 16 (aZ 16 (iZ i s))∧w.heap.size≤k0)∧Hid (Bx w (Dc i s) wx))
 case first =>
  refine dU (by kernel_rfl) w.heap.size [bG (.pointer (some ⟨w.heap.size,0,none⟩)),bG (.int .i64 (i)),bC [i],aC 2 (aH 2 [i]),bG (.pointer (some ⟨w.heap.size,1,none⟩)),bG (.string s),aC s.size (iF s),dX 2 (iZ i s),lU w.heap.size 16 (aZ 16 (iZ i s)),lU w.heap.size 16 (aZ 16 (iZ i s)),bG (.int .i64 0)] ?_ (by kernel_rfl) (by kernel_rfl) ?_ ?_
  ·intro S hS
   simp only[List.mem_cons,List.not_mem_nil,or_false] at hS
   rcases hS with rfl | rfl | rfl | rfl | rfl | rfl | rfl | rfl | rfl | rfl | rfl<;>first | exact jK _ _ | exact gI _ _ _ | exact uo _ _ _ | exact iT _ _ | exact iK _ _ | exact gG _ _ _
  ·intro i o a u hi hF hA hG
   have hB:=HK.out.drew.grw hG
   have hn:w.heap.size≤u.heap.size:=hB.2.1.size
   have tb:a.tmps[1]?.getD undef=.pointer (some ⟨w.heap.size,0,none⟩):=iq hF 1 (by kernel_rfl)
   have hlt:=(Array.getElem?_eq_some_iff.1 hi).1
   have hcs:i=0∨i=1∨i=2∨i=3∨i=4∨i=5∨i=6∨i=7∨i=8∨i=9∨i=10:=by simp at hlt;omega
   clear hlt
   rcases hcs with rfl | rfl | rfl | rfl | rfl | rfl | rfl | rfl | rfl | rfl | rfl
   ·have ho:=Option.some.inj hi;subst ho
    have h0:=tb
    refine aB (w':=u) rfl rfl (.pointer (some ⟨w.heap.size,0,none⟩)) ?_ rfl (Grw.refl _ _)
    simp[execOp,Act.eval,h0,go_sem]
   ·have ho:=Option.some.inj hi;subst ho
    have h0:a.tmps[26]?.getD undef=.pointer (some ⟨w.heap.size,0,none⟩):=aj hA 0 26 (by kernel_rfl) rfl
    have f0:=hB.1 0 _ rfl
    refine aB (w':=u) rfl rfl (.int .i64 (i)) ?_ rfl (Grw.refl _ _)
    simp[execOp,Act.eval,h0,f0,go_sem]
   ·have ho:=Option.some.inj hi;subst ho
    have h0:a.tmps[27]?.getD undef=.int .i64 (i):=aj hA 1 27 (by kernel_rfl) rfl
    refine aB (w':=u.alloc (.cells ([i].map (Value.int .i64)).toArray 3)) rfl rfl (.slice (some ⟨u.heap.size,0,none⟩) 1 1) ?_ ⟨_,_,rfl,aU u [i]⟩ (Grw.alloc _ _ _ hn)
    simp[execOp,Act.eval,h0,go_sem]
   ·have ho:=Option.some.inj hi;subst ho
    have h0:bC [i] (a.tmps[28]?.getD undef) u:=aj hA 2 28 (by kernel_rfl) rfl
    refine bK rfl rfl 82 #[.int .i64 (2:Nat),a.tmps[28]?.getD undef] ?_ hn (aT 2 (.inr (.inl rfl)) [i] _ u h0 (by simp) HF.out 2 rfl)
    simp[execOp,Act.eval,go_sem]
   ·have ho:=Option.some.inj hi;subst ho
    have h0:=tb
    refine aB (w':=u) rfl rfl (.pointer (some ⟨w.heap.size,1,none⟩)) ?_ rfl (Grw.refl _ _)
    simp[execOp,Act.eval,h0,go_sem]
   ·have ho:=Option.some.inj hi;subst ho
    have h0:a.tmps[30]?.getD undef=.pointer (some ⟨w.heap.size,1,none⟩):=aj hA 4 30 (by kernel_rfl) rfl
    have f0:=hB.1 1 _ rfl
    refine aB (w':=u) rfl rfl (.string s) ?_ rfl (Grw.refl _ _)
    simp[execOp,Act.eval,h0,f0,go_sem]
   ·have ho:=Option.some.inj hi;subst ho
    have h0:a.tmps[31]?.getD undef=.string s:=aj hA 5 31 (by kernel_rfl) rfl
    obtain⟨v,u',hr,hS,hg⟩:=jm w.heap.size s u hn (by have:=HS.out;omega)
    refine aB (w':=u') rfl rfl v ?_ hS hg
    simp[execOp,Act.eval,h0,hr,go_sem]
   ·have ho:=Option.some.inj hi;subst ho
    obtain⟨p0,c0,e0,b0,_,_⟩:aC 2 (aH 2 [i]) (a.tmps[29]?.getD undef) u:=aj hA 3 29 (by kernel_rfl) rfl
    obtain⟨p1,c1,e1,b1,_,_⟩:aC s.size (iF s) (a.tmps[32]?.getD undef) u:=aj hA 6 32 (by kernel_rfl) rfl
    have hp:=gV u [(p0,2,c0,(aH 2 [i])),(p1,s.size,c1,(iF s))] (by
     intro p hp
     simp only[List.mem_cons,List.not_mem_nil,or_false] at hp
     rcases hp with rfl | rfl
     ·exact b0
     ·exact b1)
    refine aB (w':=u.alloc (.cells ([(p0,2,c0,(aH 2 [i])),(p1,s.size,c1,(iF s))].map pv).toArray 71)) rfl rfl (.slice (some ⟨u.heap.size,0,none⟩) 2 2) ?_ ⟨_,_,_,rfl,hp,by simp[lK,iZ]⟩ (Grw.alloc _ _ _ hn)
    simp[execOp,Act.eval,e0,e1,go_sem]
    all_goals rfl
   ·have ho:=Option.some.inj hi;subst ho
    have h0:dX 2 (iZ i s) (a.tmps[33]?.getD undef) u:=aj hA 7 33 (by kernel_rfl) rfl
    refine bK rfl rfl 81 #[.int .i64 ((16:Nat):Int),a.tmps[33]?.getD undef] ?_ hn ((rG (16) 2 (iZ i s) _ u h0 (by omega) (by rw[iY];have:=HS.out;omega) (by omega) (qo i s)).mono fun e w' ⟨v,e1,⟨_,gg,h1,h3,h4⟩,h2⟩=>⟨v,e1,⟨gg,h1,Nat.le_trans hn h3,h4.has (by rw[dH (by rw[iY];have:=HS.out;omega)])⟩,h2⟩)
    simp[execOp,Act.eval,go_sem]
   ·have ho:=Option.some.inj hi;subst ho
    have h0:lU w.heap.size 16 (aZ 16 (iZ i s)) (a.tmps[34]?.getD undef) u:=aj hA 8 34 (by kernel_rfl) rfl
    refine aB (w':=u) rfl rfl (a.tmps[34]?.getD undef) ?_ h0 (Grw.refl _ _)
    simp[execOp,Act.eval,go_sem]
   ·have ho:=Option.some.inj hi;subst ho
    refine aB (w':=u) rfl rfl (.int .i64 0) ?_ rfl (Grw.refl _ _)
    simp[execOp,Act.eval,go_sem]
  ·intro a u hF hR hG
   have q0:=iq hF 0 (by kernel_rfl)
   have q1:=iq hF 1 (by kernel_rfl)
   obtain⟨r0,r2,r1,r3⟩:lU w.heap.size 16 (aZ 16 (iZ i s)) (a.tmps[2]?.getD undef) u:=by have:=hR 9 _ 2 rfl rfl;rwa [Array.getD_eq_getD_getElem?] at this
   obtain p3:a.tmps[3]?.getD undef=(.int .i64 0):=by have:=hR 10 _ 3 rfl rfl;rwa [Array.getD_eq_getD_getElem?] at this
   have hB:=HK.out.drew.grw hG
   obtain⟨tm,df⟩:=a
   obtain⟨hs,hdf,_⟩:=hF
   have hs':tm.size=35:=hs
   have adN:df=[]:=hdf
   subst adN
   have he:tm=#[tm[0]?.getD undef,tm[1]?.getD undef,tm[2]?.getD undef,tm[3]?.getD undef,tm[4]?.getD undef,tm[5]?.getD undef,tm[6]?.getD undef,tm[7]?.getD undef,tm[8]?.getD undef,tm[9]?.getD undef,tm[10]?.getD undef,tm[11]?.getD undef,tm[12]?.getD undef,tm[13]?.getD undef,tm[14]?.getD undef,tm[15]?.getD undef,tm[16]?.getD undef,tm[17]?.getD undef,tm[18]?.getD undef,tm[19]?.getD undef,tm[20]?.getD undef,tm[21]?.getD undef,tm[22]?.getD undef,tm[23]?.getD undef,tm[24]?.getD undef,tm[25]?.getD undef,tm[26]?.getD undef,tm[27]?.getD undef,tm[28]?.getD undef,tm[29]?.getD undef,tm[30]?.getD undef,tm[31]?.getD undef,tm[32]?.getD undef,tm[33]?.getD undef,tm[34]?.getD undef]:=lT tm 35 hs'
   simp at q0
   simp at q1
   rw[he]
   simp only[q0,q1,r2,p3]
   clear he hR hG hs hs' hdf q0 q1 r2 p3
   go_wp2_with fail
   go_meet
   exact⟨r0,rfl,rfl,⟨r3,r1⟩,hB⟩
 case rest =>
  obtain⟨k0,rfl,rfl,hh,hB⟩:=hcut
  clear HK
  go_wp2_with fail
  go_ret2
  exact⟨k0,rfl,hh,hB.out.2.1⟩

theorem xQ (s:ByteArray)(i:Int)(w:World)(h:nameB s=true)(hi:1≤i∧i≤65535)(hf:iD 2 [i]=true) :
  Calls Tryz.prog 25 #[.string s,.int .i64 i] w fun e w'=>∃ k,e=.returned (.tuple #[.slice (some ⟨k,0,none⟩) 16 16,.int .i64 0])∧Hid (Has w' (some ⟨k,0,none⟩) 16 (aZ 16 (iZ i s))∧w.heap.size≤k)∧Below w.heap.size w w':=by
 have K:=hide (iR s w h)
 have KD:Hid (∀ u,Calls Tryz.prog 53 #[.agg #[.int .i64 i,.string s]] u fun e w'=>∃ k,e=.returned (.tuple #[.slice (some ⟨k,0,none⟩) 16 16,.int .i64 0])∧Hid (Has w' (some ⟨k,0,none⟩) 16 (aZ 16 (iZ i s))∧u.heap.size≤k)∧Below u.heap.size u w'):=fun u=>acd i s u (by omega) (rC h) hf (fun v=>iR s v h)
 have d1:decide (i<1)=false:=by simp;omega
 have d2:decide (i > 65535)=false:=by simp;omega
 clear h hf
 go_enter Tryz.func25,Tryz.ntmps25
 go_wp2_with fail
 refine(ah K).mono ?_
 rintro e w1 ⟨rfl,hb⟩
 have HB:=hide hb
 have HB1:=hide hb
 clear K hb
 go_wp2_with fail
 refine(ah KD _).mono ?_
 rintro e w2 ⟨k,rfl,hh,hb⟩
 have HB:=hide (HB.out.trans (hb.mono HB.out.size))
 have HH:Hid (Has w2 (some ⟨k,0,none⟩) 16 (aZ 16 (iZ i s))∧w.heap.size≤k):=⟨hh.out.1,Nat.le_trans (ah HB1).size hh.out.2⟩
 clear KD hb hh
 go_wp2_with fail
 go_ret2
 exact⟨k,rfl,HH,HB.out⟩

theorem ahR {u v:World}{k n:Nat}{xs}(h:Has u (some ⟨k,0,none⟩) n xs)(e:v.heap[k]?=u.heap[k]?):Has v (some ⟨k,0,none⟩) n xs:=by
 refine⟨h.1,fun hp=>?_⟩
 obtain⟨b,off,e1,hc⟩:=h.2 hp
 obtain⟨rfl,rfl⟩:k=b∧0=off:=by simpa using e1
 refine⟨k,0,rfl,fun j hj=>?_⟩
 rw[← hc j hj]
 simp only[World.cell?,e]

theorem aaT (i:Int)(s:ByteArray)(q:Int)(a:Option Addr)(len cap:Nat)(w:World)(K:Hid (∀ u,Below w.heap.size w u→Calls Tryz.prog 133 #[.slice a len cap,.func (.func 134) #[] #[],.func (.func 53) #[] #[]] u fun e w'=>e=.returned (.tuple #[jO i s,.int .i64 q])∧Below u.heap.size u w')) :
  Calls Tryz.prog 89 #[.slice a len cap] w fun e w'=>e=.returned (.tuple #[jO i s,.int .i64 q])∧Below w.heap.size w w':=by
 have HZ:=hide (Bl.new w #[.int .i64 0,.string ⟨#[]⟩] 70)
 have HB:=hide ((Below.refl _ w).alloc (Nat.le_refl _) (.cells #[.int .i64 0,.string ⟨#[]⟩] 70))
 go_enter Tryz.func89,Tryz.ntmps89
 go_wp2_with fail
 go_at_call 133
 refine(ah K _ HB.out).mono ?_
 rintro e w1 ⟨rfl,hb⟩
 replace HB:=hide (aX HB.out hb (Nat.le_refl _))
 replace HZ:=hide (HZ.out.call hb)
 clear hb K
 have z0:=HZ.out.cell 0 _ rfl
 have z1:=HZ.out.cell 1 _ rfl
 have hz:=HZ.out.free
 go_wp2_with fail
 have hW:Below w.heap.size w (au w1 w.heap.size 0 [.int .i64 i,.string s]):=aN (Nat.le_refl _) _ _ _ _ HB.out
 have hA:Bl (au w1 w.heap.size 0 [.int .i64 i,.string s]) w.heap.size #[.int .i64 i,.string s] 70:=aI [.int .i64 i,.string s] _ _ HZ.out rfl
 change bodyPost _ _ _ _ _ (au w1 w.heap.size 0 [.int .i64 i,.string s])
 generalize au w1 w.heap.size 0 [.int .i64 i,.string s]=wf at *
 refine bodyPost_ret (v:=.tuple #[jO i s,.int .i64 q]) ?_ rfl ⟨by first | rfl | rw[HX.out],hW⟩
 simp[results,Tryz.results89,go_sem,hA.cell 0 _ rfl,hA.cell 1 _ rfl]

def agN (zs:List Int):Int:=ak zs 0 2
def agM (zs:List Int):ByteArray:=jT zs 2 13

def aip (zs:List Int):Prop:=ajT (agN zs) (agM zs)=0∧aZ 16 (iZ (agN zs) (agM zs))=zs

theorem vw (a:Option Addr)(len cap:Nat)(zs:List Int)(w:World)(hr:Row w.heap.size w a len cap zs)(h:aip zs) :
  Calls Tryz.prog 89 #[.slice a len cap] w fun e w'=>e=.returned (.tuple #[jO (agN zs) (agM zs),.int .i64 0])∧Below w.heap.size w w':=by
 refine aaT (agN zs) (agM zs) 0 a len cap w fun u hb=>?_
 have hru:=hr.below hb hb.size
 refine abo (agN zs) (agM zs) a len cap u zs zs hru.has hr.2.2.2.1 hr.2.2.2.1 (by simp) (fun u2 hb2=>qH a len cap zs u2 (hru.below hb2 hb2.size)) fun u2 hb2=>?_
 refine(aek (agN zs) (agM zs) u2 h.1).mono ?_
 rintro e w' ⟨a',c',rfl,hh,hb⟩
 have h1:=hh.out.1
 rw[h.2] at h1
 exact⟨_,_,_,rfl,h1,hb⟩

def dN (zs:List Int):Nat:=if (zs.length:Int) / 2<ak zs 8 2 then zs.length / 2 else (ak zs 8 2).toNat

def ajJ (zs:List Int):Prop:=akB (zs.length:Int) (ak zs 4 4) (ahj zs (dN zs))=0∧aiq zs.length (ak zs 4 4) (ahj zs (dN zs))=zs

end Go.Proofs.YtefdkpbmeoakgaaGreatDoor
