/- Joined: CEq, CIno, CReadI, CTakeI, IIno. -/
import Derived.Test.YtokngjcfkkceiaaGreatDoorInJ25
import Derived.Laws.IdiomStrings
import Derived.ChangeKeysEq
import Derived.Test.YtokngjcfkkceiaaGreatDoorInJ22
import Derived.Test.YtokngjcfkkceiaaGreatDoorInJ1
/- Structs with arrays and texts in them, compared. -/
namespace Go.Proofs.YtokngjcfkkceiaaGreatDoor
set_option maxRecDepth 100000
set_option maxHeartbeats 8000000
open Go.RowKit Go.Shelf
set_option linter.unusedVariables false

abbrev Iv (X:Nat→Int):Value:=.agg #[.int .i64 (X 0),.int .i64 (X 1),.int .i64 (X 2),.int .i64 (X 3),.int .i64 (X 4),.int .i64 (X 5),.int .i64 (X 6),.int .i64 (X 7),.int .i64 (X 8),.int .i64 (X 9),.int .i64 (X 10),.int .i64 (X 11),.int .i64 (X 12)]
abbrev Ic (X:Nat→Int):Array Value:=#[.int .i64 (X 0),.int .i64 (X 1),.int .i64 (X 2),.int .i64 (X 3),.int .i64 (X 4),.int .i64 (X 5),.int .i64 (X 6),.int .i64 (X 7),.int .i64 (X 8),.int .i64 (X 9),.int .i64 (X 10),.int .i64 (X 11),.int .i64 (X 12)]
abbrev Iz:Array Value:=#[.int .i64 0,.int .i64 0,.int .i64 0,.int .i64 0,.int .i64 0,.int .i64 0,.int .i64 0,.int .i64 0,.int .i64 0,.int .i64 0,.int .i64 0,.int .i64 0,.int .i64 0]

theorem underI:Tryz.prog.underlying 50=some (.struct (Tryz.prog.fieldsOf 50)):=by kernel_rfl
theorem stoodI:Tryz.prog.stoodInHeld 50=false:=by kernel_rfl
theorem underA8:Tryz.prog.underlying 48=some (.array 8 3):=by kernel_rfl
theorem cellsA8:Tryz.prog.cellsOf 48=8:=by kernel_rfl
theorem infoA8:(Tryz.prog.info? 48).isSome=true:=by kernel_rfl
theorem info3e:(Tryz.prog.info? 3).isSome=true:=by kernel_rfl
theorem cells3e:Tryz.prog.cellsOf 3=1:=by kernel_rfl

theorem fieldsI : (Tryz.prog.fieldsOf 50).toList.map (fun f => (f.name, f.type, f.offset)) = [("Kind", 3, 0), ("Links", 3, 1), ("Size", 3, 2), ("Direct", 48, 3), ("Single", 3, 11), ("Double", 3, 12)] := by kernel_rfl

theorem part_i {xs:Array Value}{k:Nat}{z:Int}(h:xs[k]?=some (.int .i64 z))(w:World):(part 3 xs k).run Tryz.prog w=.ok (.int .i64 z) w:=by
 simp only[part,isAgg,Sem.run_bind,run_underlying Tryz.underlying3,Result.andThen_ok,Sem.run_pure]
 rw[h]
 rfl

theorem part_a8 (xs:Array Value)(k:Nat)(w:World):(part 48 xs k).run Tryz.prog w=.ok (.agg (xs.extract k (k+8))) w:=by
 obtain⟨i,hi⟩:=Option.isSome_iff_exists.1 infoA8
 simp only[part,isAgg,Sem.run_bind,run_underlying underA8,Result.andThen_ok,Sem.run_pure,run_sizeOf w hi,if_true,cellsA8]

theorem items_int (xs ys:Array Value)(X Y:Nat→Int)(n:Nat)(hx:∀ i,i<n→xs[i]?=some (.int .i64 (X i)))(hy:∀ i,i<n→ys[i]?=some (.int .i64 (Y i)))(d:Nat)(w:World) :
  ∀ is:List Nat,(∀ i∈is,i<n)→(Op.eqItems (d+1) 3 1 xs ys is).run Tryz.prog w=.ok (is.all fun i=>X i==Y i) w
 | [],_=>by simp[Op.eqItems]
 | i::is,h=>by
  have hi:=h i (by simp)
  have ih:=items_int xs ys X Y n hx hy d w is (fun j hj=>h j (by simp[hj]))
  have e1:(part 3 xs (i*1)).run Tryz.prog w=.ok (.int .i64 (X i)) w:=by rw[Nat.mul_one];exact part_i (hx i hi) w
  have e2:(part 3 ys (i*1)).run Tryz.prog w=.ok (.int .i64 (Y i)) w:=by rw[Nat.mul_one];exact part_i (hy i hi) w
  simp only[Op.eqItems,Sem.run_bind,e1,e2,Result.andThen_ok,run_equalIn_int w d 3 .i64 .i64 _ _ Tryz.underlying3,List.all_cons]
  cases X i==Y i
  ·simp
  ·simpa using ih

theorem eqF_all {w : World} {d : Nat} {xs ys : Array Value} (G : Nat → Bool) : ∀ fs : List Field, (∀ f ∈ fs, f.name ≠ "_" ∧ ∃ a b, (part f.type xs f.offset).run Tryz.prog w = .ok a w ∧ (part f.type ys f.offset).run Tryz.prog w = .ok b w ∧ (Op.equalIn d f.type a b).run Tryz.prog w = .ok (G f.offset) w) →
  (Op.eqFields d xs ys fs).run Tryz.prog w=.ok (fs.all fun f=>G f.offset) w
 | [],_=>by simp[Op.eqFields]
 | f::fs,h=>by
  obtain⟨h1,a,b,ha,hb,he⟩:=h f (by simp)
  have ih:=eqF_all G fs (fun g hg=>h g (by simp[hg]))
  simp only[Op.eqFields,h1,ne_eq,not_false_eq_true,if_true,Sem.run_bind,ha,hb,Result.andThen_ok,he,List.all_cons]
  cases G f.offset
  ·simp
  ·simpa using ih

theorem all_offs {fs:List Field}{L:List (String×TypeId×Nat)}(h:fs.map (fun f=>(f.name,f.type,f.offset))=L)(G:Nat→Bool):(fs.all fun f=>G f.offset)=L.all fun p=>G p.2.2:=by
 subst h
 rw[List.all_map]
 rfl

theorem ic_get (X:Nat→Int)(k:Nat)(hk:k<13):(Ic X)[k]?=some (.int .i64 (X k)):=by
 have:k=0∨k=1∨k=2∨k=3∨k=4∨k=5∨k=6∨k=7∨k=8∨k=9∨k=10∨k=11∨k=12:=by omega
 rcases this with rfl | rfl | rfl | rfl | rfl | rfl | rfl | rfl | rfl | rfl | rfl | rfl | rfl<;>rfl

def inoSame (X Y:Nat→Int):Bool:=(List.range 13).all fun k=>X k==Y k

theorem inoSame_iff {X Y:Nat→Int}:inoSame X Y=true↔∀ k,k<13→X k=Y k:=by simp[inoSame]

theorem equal_inode (X Y:Nat→Int)(w:World):(Op.equalIn 10000 50 (Iv X) (Iv Y)).run Tryz.prog w=.ok (inoSame X Y) w:=by
 rw[run_equalIn_struct w 9999 50 _ _ underI stoodI]
 have hG : ∀ f ∈ (Tryz.prog.fieldsOf 50).toList, f.name ≠ "_" ∧ ∃ a b, (part f.type (Ic X) f.offset).run Tryz.prog w = .ok a w ∧ (part f.type (Ic Y) f.offset).run Tryz.prog w = .ok b w ∧ (Op.equalIn 9999 f.type a b).run Tryz.prog w = .ok ((fun k => if k = 3 then (List.range 8).all (fun i => X (3 + i) == Y (3 + i)) else X k == Y k) f.offset) w := by
  intro f hf
  have hm:(f.name,f.type,f.offset)∈(Tryz.prog.fieldsOf 50).toList.map (fun f=>(f.name,f.type,f.offset)):=List.mem_map.2 ⟨f,hf,rfl⟩
  rw[fieldsI] at hm
  have one:∀ k,k<13→k≠3→f.type=3→f.offset=k→∃ a b,(part f.type (Ic X) f.offset).run Tryz.prog w=.ok a w∧(part f.type (Ic Y) f.offset).run Tryz.prog w=.ok b w∧(Op.equalIn 9999 f.type a b).run Tryz.prog w=.ok ((fun k=>if k=3 then (List.range 8).all (fun i=>X (3+i)==Y (3+i)) else X k==Y k) f.offset) w:=by
   intro k hk hk3 h1 h2
   rw[h1,h2]
   refine⟨_,_,part_i (ic_get X k hk) w,part_i (ic_get Y k hk) w,?_⟩
   rw[run_equalIn_int w 9998 3 .i64 .i64 _ _ Tryz.underlying3]
   simp only[if_neg hk3]
  simp only[List.mem_cons,List.not_mem_nil,or_false,Prod.mk.injEq] at hm
  rcases hm with ⟨a,b,c⟩ | ⟨a,b,c⟩ | ⟨a,b,c⟩ | ⟨a,b,c⟩ | ⟨a,b,c⟩ | ⟨a,b,c⟩
  ·exact⟨by rw[a];decide,one 0 (by omega) (by omega) b c⟩
  ·exact⟨by rw[a];decide,one 1 (by omega) (by omega) b c⟩
  ·exact⟨by rw[a];decide,one 2 (by omega) (by omega) b c⟩
  ·refine⟨by rw[a];decide,?_⟩
   rw[b,c]
   refine⟨_,_,part_a8 _ _ w,part_a8 _ _ w,?_⟩
   obtain⟨i,hi⟩:=Option.isSome_iff_exists.1 info3e
   rw[run_equalIn_array w 9998 _ _ underA8 hi,cells3e]
   refine items_int _ _ (fun i=>X (3+i)) (fun i=>Y (3+i)) 8 (fun i hi=>?_) (fun i hi=>?_) 9997 w _ (fun j hj=>by simpa using hj)
   ·have:i=0∨i=1∨i=2∨i=3∨i=4∨i=5∨i=6∨i=7:=by omega
    rcases this with rfl | rfl | rfl | rfl | rfl | rfl | rfl | rfl<;>rfl
   ·have:i=0∨i=1∨i=2∨i=3∨i=4∨i=5∨i=6∨i=7:=by omega
    rcases this with rfl | rfl | rfl | rfl | rfl | rfl | rfl | rfl<;>rfl
  ·exact⟨by rw[a];decide,one 11 (by omega) (by omega) b c⟩
  ·exact⟨by rw[a];decide,one 12 (by omega) (by omega) b c⟩
 refine(eqF_all (fun k=>if k=3 then (List.range 8).all (fun i=>X (3+i)==Y (3+i)) else X k==Y k) _ hG).trans (congrArg (fun r=>Result.ok r w) ((all_offs fieldsI (fun k=>if k=3 then (List.range 8).all (fun i=>X (3+i)==Y (3+i)) else X k==Y k)).trans ?_))
 have e8:List.range 8=[0,1,2,3,4,5,6,7]:=rfl
 have e13:List.range 13=[0,1,2,3,4,5,6,7,8,9,10,11,12]:=rfl
 simp only[inoSame,e8,e13,List.all_cons,List.all_nil,Bool.and_true]
 simp[Bool.and_assoc]

theorem neq_inode (X Y:Nat→Int)(w:World):(binOp .neq 50 (Iv X) (Iv Y)).run Tryz.prog w=.ok (.bool (!inoSame X Y)) w:=by
 rw[run_neq_struct,equal_inode];rfl

def zeroX:Nat→Int:=fun _=>0

def kindB (k:Int):Bool:=decide (k=0)||decide (k=1)||decide (k=2)

theorem isKind_any (k:Int)(w:World):Calls Tryz.prog 88 #[.int .i64 k] w fun e w'=>e=.returned (.bool (kindB k))∧w=w':=by
 obtain⟨b,hb⟩:∃ b,kindB k=b:=⟨_,rfl⟩
 rw[hb]
 unfold kindB at hb
 by_cases h0:k=0
 ·subst h0
  obtain rfl:b=true:=by rw[← hb];rfl
  clear hb
  go_enter Tryz.func88,Tryz.ntmps88
  go_wp2
  go_ret
  exact⟨rfl,rfl⟩
 ·by_cases h1:k=1
  ·subst h1
   obtain rfl:b=true:=by rw[← hb];rfl
   clear hb h0
   go_enter Tryz.func88,Tryz.ntmps88
   go_wp2
   go_ret
   exact⟨rfl,rfl⟩
  ·by_cases h2:k=2
   ·subst h2
    obtain rfl:b=true:=by rw[← hb];rfl
    clear hb h0 h1
    go_enter Tryz.func88,Tryz.ntmps88
    go_wp2
    go_ret
    exact⟨rfl,rfl⟩
   ·obtain rfl:b=false:=by rw[← hb];simp[h0,h1,h2]
    have d0:(k==0)=false:=by simpa using h0
    have d1:(k==1)=false:=by simpa using h1
    have d2:(k==2)=false:=by simpa using h2
    clear hb h0 h1 h2
    go_enter Tryz.func88,Tryz.ntmps88
    go_wp2
    go_ret
    exact⟨rfl,rfl⟩

theorem fit_lst (wd:Nat)(hw:wd=2∨wd=4)(ns:List Int)(u:World)(hl:ns.length≤1000)(r:Bool)(hr:fitB wd ns=r) :
  Calls Tryz.prog 89 #[.int .i64 (wd:Int),.slice (some ⟨u.heap.size,0,none⟩) ns.length ns.length] (u.alloc (.cells (ns.map (Value.int .i64)).toArray 3)) fun e w'=>e=.returned (.bool r)∧Below u.heap.size u w':=by
 subst hr
 refine(fit_any wd hw _ ns.length ns.length ns _ (ihas_list u ns) (by omega)).mono ?_
 rintro e w' ⟨rfl,rfl⟩
 exact⟨rfl,(Below.refl _ u).alloc (Nat.le_refl _) _⟩

def dirs (X:Nat→Int):List Int:=[X 3,X 4,X 5,X 6,X 7,X 8,X 9,X 10]

theorem dirs_has {w u:World}{X:Nat→Int}(h:Bx w (Ic X) u):IHas u (some ⟨w.heap.size,3,none⟩) 8 (dirs X):=by
 refine⟨rfl,fun _=>⟨w.heap.size,3,rfl,fun j hj=>?_⟩⟩
 have:j=0∨j=1∨j=2∨j=3∨j=4∨j=5∨j=6∨j=7:=by omega
 rcases this with rfl | rfl | rfl | rfl | rfl | rfl | rfl | rfl
 all_goals exact h.1 _ _ rfl

theorem fit_dirs {w u:World}{X:Nat→Int}(h:Bx w (Ic X) u)(r:Bool)(hr:fitB 2 (dirs X)=r) :
  Calls Tryz.prog 89 #[.int .i64 2,.slice (some ⟨w.heap.size,3,none⟩) 8 8] u fun e w'=>e=.returned (.bool r)∧u=w':=by
 subst hr
 exact fit_any 2 (.inl rfl) _ 8 8 (dirs X) u (dirs_has h) (by omega)

def inoBad (X:Nat→Int):Bool:=!kindB (X 0)||(X 0==0&&!inoSame X zeroX)

def inoF (X:Nat→Int):Bool:=fitB 4 [X 2]&&fitB 2 [X 1,X 11,X 12]&&fitB 2 (dirs X)

def inoL (X:Nat→Int):List Int:=numsB 1 [X 0,0]++(numsB 2 [X 1]++(numsB 4 [X 2]++(numsB 2 (dirs X)++numsB 2 [X 11,X 12])))

theorem inoL_length (X:Nat→Int):(inoL X).length=28:=by simp[inoL,length_numsB,dirs]

theorem inoL_byts (X:Nat→Int):∀ z∈inoL X,0≤z∧z≤255:=by
 intro z hz
 simp only[inoL,List.mem_append] at hz
 rcases hz with hz | hz | hz | hz | hz
 all_goals exact numsB_byte _ _ z hz

theorem inode_kind (X:Nat→Int)(w:World)(hk:kindB (X 0)=false) :
  Calls Tryz.prog 45 #[Iv X] w fun e w'=>e=.returned (.tuple #[.slice none 0 0,.int .i64 4])∧Below w.heap.size w w':=by
 have HK:=hide (Bx.start w (Ic X) 50)
 have KK:Hid (∀ u,Calls Tryz.prog 88 #[.int .i64 (X 0)] u fun e w'=>e=.returned (.bool false)∧Below u.heap.size u w'):=fun u=>(isKind_any (X 0) u).mono fun e w' ⟨h1,h2⟩=>⟨by rw[h1,hk],h2 ▸ Below.refl _ _⟩
 clear hk
 go_enter Tryz.func45,Tryz.ntmps45
 go_wp2_with fail
 go_at_call 88
 refine(unhide KK _).mono ?_
 rintro e w1 ⟨rfl,hb⟩
 replace HK:=hide ((unhide HK).call hb)
 clear KK hb
 go_wp2_with fail
 go_ret2
 exact⟨rfl,HK.out.2.1⟩

theorem inode_free (X:Nat→Int)(w:World)(h0:X 0=0)(hs:inoSame X zeroX=false) :
  Calls Tryz.prog 45 #[Iv X] w fun e w'=>e=.returned (.tuple #[.slice none 0 0,.int .i64 4])∧Below w.heap.size w w':=by
 have HK:=hide (Bx.start w (Ic X) 50)
 have hk:kindB (X 0)=true:=by rw[h0];rfl
 have KK:Hid (∀ u,Calls Tryz.prog 88 #[.int .i64 (X 0)] u fun e w'=>e=.returned (.bool true)∧Below u.heap.size u w'):=fun u=>(isKind_any (X 0) u).mono fun e w' ⟨h1,h2⟩=>⟨by rw[h1,hk],h2 ▸ Below.refl _ _⟩
 have hq:∀ u:World,(binOp .neq 50 (Iv X) (.agg Iz)).run Tryz.prog u=.ok (.bool true) u:=fun u=>by
  have:=neq_inode X zeroX u
  rw[hs] at this
  exact this
 have h0':(X 0==0)=true:=by simpa using h0
 clear hk hs h0
 go_enter Tryz.func45,Tryz.ntmps45
 go_wp2_with fail
 go_at_call 88
 refine(unhide KK _).mono ?_
 rintro e w1 ⟨rfl,hb⟩
 replace HK:=hide ((unhide HK).call hb)
 clear KK hb
 have f0:=HK.out.1 0 _ rfl
 have f1:=HK.out.1 1 _ rfl
 have f2:=HK.out.1 2 _ rfl
 have f3:=HK.out.1 3 _ rfl
 have f4:=HK.out.1 4 _ rfl
 have f5:=HK.out.1 5 _ rfl
 have f6:=HK.out.1 6 _ rfl
 have f7:=HK.out.1 7 _ rfl
 have f8:=HK.out.1 8 _ rfl
 have f9:=HK.out.1 9 _ rfl
 have f10:=HK.out.1 10 _ rfl
 have f11:=HK.out.1 11 _ rfl
 have f12:=HK.out.1 12 _ rfl
 go_wp2_with fail
 go_ret2
 exact⟨rfl,HK.out.2.1⟩

theorem readI_same (X:Nat→Int)(a:Option Addr)(len cap:Nat)(w:World)(xs zs:List Int)(hh:Has w a len zs)(hz0:∀ z∈zs,0≤z∧z≤255)(hx:∀ z∈xs,0≤z∧z≤255)(he:decide (xs=zs)=true)(HT:Hid (∀ u,Below w.heap.size w u→Calls Tryz.prog 103 #[.slice a len cap] u fun e w'=>e=.returned (Iv X)∧Below u.heap.size u w'))(HW:Hid (∀ u,Below w.heap.size w u→Calls Tryz.prog 45 #[Iv X] u fun e w'=>∃ a' n' c',e=.returned (.tuple #[.slice a' n' c',.int .i64 0])∧Hid (Has w' a' n' xs)∧Below u.heap.size u w')) :
  Calls Tryz.prog 102 #[.slice a len cap,.func (.func 103) #[] #[],.func (.func 45) #[] #[]] w fun e w'=>e=.returned (.tuple #[Iv X,.int .i64 0])∧Below w.heap.size w w':=by
 have HH:=hide hh
 clear hh
 have hb0:Below w.heap.size w (w.alloc (.cells (Iz) 50)):=(Below.refl _ w).alloc (Nat.le_refl _) _
 have HZ:=hide (Bl.new w (Iz) 50)
 have HB:=hide hb0
 clear hb0
 go_enter Tryz.func102,Tryz.ntmps102
 go_wp2_with fail
 go_at_call 103
 refine(unhide HT _ HB.out).mono ?_
 rintro e w1 ⟨rfl,hb⟩
 replace HZ:=hide ((HZ.out.call hb).alloc (.cells (Ic X) 50))
 replace HB:=hide ((bchain HB.out hb (Nat.le_refl _)).alloc (bchain HB.out hb (Nat.le_refl _)).size (.cells (Ic X) 50))
 have HV:=hide (Bl.new w1 (Ic X) 50)
 clear hb HT
 go_wp2_with fail
 go_at_call 45
 refine(unhide HW _ HB.out).mono ?_
 rintro e w2 ⟨a',n',c',rfl,hx',hb⟩
 replace HZ:=hide (HZ.out.call hb)
 replace HB:=hide (bchain HB.out hb (Nat.le_refl _))
 replace HV:=hide (HV.out.call hb)
 have KE:Hid (Calls Tryz.prog 148 #[.slice a' n' c',.slice a len cap] w2 fun e w'=>e=.returned (.bool true)∧w2=w'):=by
  have:=equal_any a' a n' c' len cap xs zs w2 hx'.out ((HH.out).later HB.out) hx hz0
  rwa [he] at this
 clear hb HW hx'
 go_wp2_with fail
 go_at_call 148
 refine(unhide KE).mono ?_
 rintro e w' ⟨rfl,rfl⟩
 clear KE
 clear HH hz0 hx he
 have z0:=HZ.out.cell 0 _ rfl
 have z1:=HZ.out.cell 1 _ rfl
 have z2:=HZ.out.cell 2 _ rfl
 have z3:=HZ.out.cell 3 _ rfl
 have z4:=HZ.out.cell 4 _ rfl
 have z5:=HZ.out.cell 5 _ rfl
 have z6:=HZ.out.cell 6 _ rfl
 have z7:=HZ.out.cell 7 _ rfl
 have z8:=HZ.out.cell 8 _ rfl
 have z9:=HZ.out.cell 9 _ rfl
 have z10:=HZ.out.cell 10 _ rfl
 have z11:=HZ.out.cell 11 _ rfl
 have z12:=HZ.out.cell 12 _ rfl
 have v0:=HV.out.cell 0 _ rfl
 have v1:=HV.out.cell 1 _ rfl
 have v2:=HV.out.cell 2 _ rfl
 have v3:=HV.out.cell 3 _ rfl
 have v4:=HV.out.cell 4 _ rfl
 have v5:=HV.out.cell 5 _ rfl
 have v6:=HV.out.cell 6 _ rfl
 have v7:=HV.out.cell 7 _ rfl
 have v8:=HV.out.cell 8 _ rfl
 have v9:=HV.out.cell 9 _ rfl
 have v10:=HV.out.cell 10 _ rfl
 have v11:=HV.out.cell 11 _ rfl
 have v12:=HV.out.cell 12 _ rfl
 have hz:=HZ.out.free
 go_wp2_with fail
 have hW:Below w.heap.size w (setAll w2 w.heap.size 0 [.int .i64 (X 0),.int .i64 (X 1),.int .i64 (X 2),.int .i64 (X 3),.int .i64 (X 4),.int .i64 (X 5),.int .i64 (X 6),.int .i64 (X 7),.int .i64 (X 8),.int .i64 (X 9),.int .i64 (X 10),.int .i64 (X 11),.int .i64 (X 12)]):=below_setAll (Nat.le_refl _) _ _ _ _ HB.out
 have hA:Bl (setAll w2 w.heap.size 0 [.int .i64 (X 0),.int .i64 (X 1),.int .i64 (X 2),.int .i64 (X 3),.int .i64 (X 4),.int .i64 (X 5),.int .i64 (X 6),.int .i64 (X 7),.int .i64 (X 8),.int .i64 (X 9),.int .i64 (X 10),.int .i64 (X 11),.int .i64 (X 12)]) w.heap.size (Ic X) 50:=setAll_whole [.int .i64 (X 0),.int .i64 (X 1),.int .i64 (X 2),.int .i64 (X 3),.int .i64 (X 4),.int .i64 (X 5),.int .i64 (X 6),.int .i64 (X 7),.int .i64 (X 8),.int .i64 (X 9),.int .i64 (X 10),.int .i64 (X 11),.int .i64 (X 12)] _ _ HZ.out rfl
 change bodyPost _ _ _ _ _ (setAll w2 w.heap.size 0 [.int .i64 (X 0),.int .i64 (X 1),.int .i64 (X 2),.int .i64 (X 3),.int .i64 (X 4),.int .i64 (X 5),.int .i64 (X 6),.int .i64 (X 7),.int .i64 (X 8),.int .i64 (X 9),.int .i64 (X 10),.int .i64 (X 11),.int .i64 (X 12)])
 generalize setAll w2 w.heap.size 0 [.int .i64 (X 0),.int .i64 (X 1),.int .i64 (X 2),.int .i64 (X 3),.int .i64 (X 4),.int .i64 (X 5),.int .i64 (X 6),.int .i64 (X 7),.int .i64 (X 8),.int .i64 (X 9),.int .i64 (X 10),.int .i64 (X 11),.int .i64 (X 12)]=wf at *
 refine bodyPost_ret (v:=.tuple #[Iv X,.int .i64 0]) ?_ rfl ⟨rfl,hW⟩
 simp[results,Tryz.results102,go_sem,hA.cell 0 _ rfl,hA.cell 1 _ rfl,hA.cell 2 _ rfl,hA.cell 3 _ rfl,hA.cell 4 _ rfl,hA.cell 5 _ rfl,hA.cell 6 _ rfl,hA.cell 7 _ rfl,hA.cell 8 _ rfl,hA.cell 9 _ rfl,hA.cell 10 _ rfl,hA.cell 11 _ rfl,hA.cell 12 _ rfl]

def updX (X:Nat→Int) (k:Nat) (z:Int):Nat→Int:=fun j=>if j=k then z else X j

theorem ic_set (X:Nat→Int)(k:Nat)(z:Int)(hk:k<13):(Ic X).setIfInBounds k (.int .i64 z)=Ic (updX X k z):=by
 have:k=0∨k=1∨k=2∨k=3∨k=4∨k=5∨k=6∨k=7∨k=8∨k=9∨k=10∨k=11∨k=12:=by omega
 rcases this with rfl | rfl | rfl | rfl | rfl | rfl | rfl | rfl | rfl | rfl | rfl | rfl | rfl<;>rfl

def inoBase (zs:List Int):Nat→Int
 | 0=>getVal zs 0 1
 | 1=>getVal zs 2 2
 | 2=>getVal zs 4 4
 | 11=>getVal zs 24 2
 | 12=>getVal zs 26 2
 | _=>0

def inoTake (zs:List Int):Nat→Nat→Int
 | 0=>inoBase zs
 | k+1=>updX (inoTake zs k) (3+k) (getVal zs (8+2*(k:Int)) 2)

def inoOf (zs:List Int):Nat→Int:=inoTake zs 8

theorem eight {k:Nat}(hk:k<8):k=0∨k=1∨k=2∨k=3∨k=4∨k=5∨k=6∨k=7:=by omega

theorem Bl.ino {u:World}{g:Nat}{zs:List Int}{k:Nat}(h:Bl u g (Ic (inoTake zs k)) 50)(hk:k<8):Bl (u.setCell ⟨g,3+k,none⟩ (.int .i64 (getVal zs (8+2*(k:Int)) 2))) g (Ic (inoTake zs (k+1))) 50:=by
 have:=h.set (3+k) (.int .i64 (getVal zs (8+2*(k:Int)) 2))
 rw[ic_set _ _ _ (by omega)] at this
 exact this

theorem takeInode_any (a:Option Addr)(len cap:Nat)(zs:List Int)(w:World)(hr:Row w.heap.size w a len cap zs) :
  Calls Tryz.prog 103 #[.slice a len cap] w fun e w'=>e=.returned (Iv (inoOf zs))∧Below w.heap.size w w':=by
 have KG:Hid (∀ (at' n:Int) (u:World),at'≤1000→Below w.heap.size w u→Calls Tryz.prog 149 #[.slice a len cap,.int .i64 at',.int .i64 n] u fun e w'=>e=.returned (.int .i64 (getVal zs at' n))∧Below u.heap.size u w') :=
  fun at' n u h1 hb=>get_drop a len cap zs at' n u (hr.below hb hb.size) (by omega)
 have HZ:=hide (Bl.new w Iz 50)
 have HB:=hide ((Below.refl _ w).alloc (Nat.le_refl _) (.cells Iz 50))
 clear hr
 unfold inoOf
 go_enter Tryz.func103,Tryz.ntmps103
 go_wp2_with fail
 go_at_call 149
 refine(unhide KG _ _ _ (by omega) HB.out).mono ?_
 rintro e w1 ⟨rfl,hb⟩
 replace HB:=hide (bchain HB.out hb (Nat.le_refl _))
 replace HZ:=hide (HZ.out.call hb)
 clear hb
 go_wp2_with fail
 go_at_call 149
 refine(unhide KG _ _ _ (by omega) HB.out).mono ?_
 rintro e w2 ⟨rfl,hb⟩
 replace HB:=hide (bchain HB.out hb (Nat.le_refl _))
 replace HZ:=hide (HZ.out.call hb)
 clear hb
 go_wp2_with fail
 go_at_call 149
 refine(unhide KG _ _ _ (by omega) HB.out).mono ?_
 rintro e w3 ⟨rfl,hb⟩
 replace HB:=hide (bchain HB.out hb (Nat.le_refl _))
 replace HZ:=hide (HZ.out.call hb)
 clear hb
 go_wp2_with fail
 go_at_call 149
 refine(unhide KG _ _ _ (by omega) HB.out).mono ?_
 rintro e w4 ⟨rfl,hb⟩
 replace HB:=hide (bchain HB.out hb (Nat.le_refl _))
 replace HZ:=hide (HZ.out.call hb)
 clear hb
 go_wp2_with fail
 go_at_call 149
 refine(unhide KG _ _ _ (by omega) HB.out).mono ?_
 rintro e w5 ⟨rfl,hb⟩
 replace HB:=hide (bchain HB.out hb (Nat.le_refl _))
 replace HZ:=hide (HZ.out.call hb)
 clear hb
 have HZ0:=hide HZ.out
 replace HB:=hide (HB.out.alloc HB.out.size (.cells (Ic (inoTake zs 0)) 50))
 replace HZ:=hide (HZ.out.alloc (.cells (Ic (inoTake zs 0)) 50))
 have HV:=hide (Bl.new w5 (Ic (inoTake zs 0)) 50)
 have hg:Hid (w.heap.size<w5.heap.size):=by
  exact HZ0.out.lt
 clear HZ0
 go_upto_region 2 with fail
 change Code.wp _ _ _ _ (w5.alloc (.cells (Ic (inoTake zs 0)) 50))
 generalize w5.alloc (.cells (Ic (inoTake zs 0)) 50)=W at *
 generalize w5.heap.size=g1 at *
 go_upto_region 3 with fail
 go_loopw [16] (fun i wr=>∃ k:Nat,k≤8∧i=.int .i64 (k:Int)∧Hid (Bl wr g1 (Ic (inoTake zs k)) 50)∧Hid (Bl wr w.heap.size Iz 50)∧Hid (Below w.heap.size w wr)) (fun i _=>8 - (intOf i).toNat)
 case atStart=>exact⟨0,by omega,rfl,HV,HZ,HB⟩
 case round =>
  obtain⟨k,hk,rfl,hV,hZ,hB⟩:=hrel
  clear HV HZ HB
  by_cases hlt:k<8
  ·have HX:Hid (∀ w2,Below wr.heap.size wr w2→Bl (w2.setCell ⟨g1,3+k,none⟩ (.int .i64 (getVal zs (8+2*(k:Int)) 2))) g1 (Ic (inoTake zs (k+1))) 50∧Bl (w2.setCell ⟨g1,3+k,none⟩ (.int .i64 (getVal zs (8+2*(k:Int)) 2))) w.heap.size Iz 50∧Below w.heap.size w (w2.setCell ⟨g1,3+k,none⟩ (.int .i64 (getVal zs (8+2*(k:Int)) 2)))):=fun w2 hb =>
    ⟨(hV.out.call hb).ino hlt,(hZ.out.call hb).other _ _ (by have:=hg.out;simp;omega),(bchain hB.out hb (Nat.le_refl _)).setCell (by have:=hg.out;simp;omega) _⟩
   have HC:Hid (∀ w2,Below wr.heap.size wr w2→(∃ v,w2.cell? ⟨g1,3+k,none⟩=some (.int .i64 v))∧∀ i,w2.frozen? ⟨g1,i,none⟩=false):=fun w2 hb =>
    ⟨⟨_,(hV.out.call hb).cell (3+k) _ (ic_get _ _ (by omega))⟩,(hV.out.call hb).free⟩
   rcases eight hlt with rfl | rfl | rfl | rfl | rfl | rfl | rfl | rfl
   all_goals
    go_wp2_with fail
    go_at_call 149
    refine(unhide KG _ _ _ (by omega) hB.out).mono ?_
    rintro e w2 ⟨rfl,hb⟩
    obtain⟨⟨v,hc⟩,hz⟩:=HC.out w2 hb
    obtain⟨x1,x2,x3⟩:=HX.out w2 hb
    have X1:=hide x1
    have X2:=hide x2
    have X3:=hide x3
    clear hb HC HX x1 x2 x3 hV hZ hB
    go_wp2_with fail
    exact⟨⟨_,by decide,rfl,X1,X2,X3⟩,by simp[intOf]⟩
  ·obtain rfl:k=8:=by omega
   have HZ:=hide hZ.out
   have HB:=hide hB.out
   generalize hX:inoTake zs 8=X at *
   have HX:=hide hX
   clear hX
   have v0:=hV.out.cell 0 _ rfl
   have v1:=hV.out.cell 1 _ rfl
   have v2:=hV.out.cell 2 _ rfl
   have v3:=hV.out.cell 3 _ rfl
   have v4:=hV.out.cell 4 _ rfl
   have v5:=hV.out.cell 5 _ rfl
   have v6:=hV.out.cell 6 _ rfl
   have v7:=hV.out.cell 7 _ rfl
   have v8:=hV.out.cell 8 _ rfl
   have v9:=hV.out.cell 9 _ rfl
   have v10:=hV.out.cell 10 _ rfl
   have v11:=hV.out.cell 11 _ rfl
   have v12:=hV.out.cell 12 _ rfl
   have z0:=HZ.out.cell 0 _ rfl
   have z1:=HZ.out.cell 1 _ rfl
   have z2:=HZ.out.cell 2 _ rfl
   have z3:=HZ.out.cell 3 _ rfl
   have z4:=HZ.out.cell 4 _ rfl
   have z5:=HZ.out.cell 5 _ rfl
   have z6:=HZ.out.cell 6 _ rfl
   have z7:=HZ.out.cell 7 _ rfl
   have z8:=HZ.out.cell 8 _ rfl
   have z9:=HZ.out.cell 9 _ rfl
   have z10:=HZ.out.cell 10 _ rfl
   have z11:=HZ.out.cell 11 _ rfl
   have z12:=HZ.out.cell 12 _ rfl
   have hz:=HZ.out.free
   clear KG
   go_wp2_with fail
   have hW:Below w.heap.size w (setAll wr w.heap.size 0 [.int .i64 (X 0),.int .i64 (X 1),.int .i64 (X 2),.int .i64 (X 3),.int .i64 (X 4),.int .i64 (X 5),.int .i64 (X 6),.int .i64 (X 7),.int .i64 (X 8),.int .i64 (X 9),.int .i64 (X 10),.int .i64 (X 11),.int .i64 (X 12)]):=below_setAll (Nat.le_refl _) _ _ _ _ HB.out
   have hA:Bl (setAll wr w.heap.size 0 [.int .i64 (X 0),.int .i64 (X 1),.int .i64 (X 2),.int .i64 (X 3),.int .i64 (X 4),.int .i64 (X 5),.int .i64 (X 6),.int .i64 (X 7),.int .i64 (X 8),.int .i64 (X 9),.int .i64 (X 10),.int .i64 (X 11),.int .i64 (X 12)]) w.heap.size #[.int .i64 (X 0),.int .i64 (X 1),.int .i64 (X 2),.int .i64 (X 3),.int .i64 (X 4),.int .i64 (X 5),.int .i64 (X 6),.int .i64 (X 7),.int .i64 (X 8),.int .i64 (X 9),.int .i64 (X 10),.int .i64 (X 11),.int .i64 (X 12)] 50:=setAll_whole [.int .i64 (X 0),.int .i64 (X 1),.int .i64 (X 2),.int .i64 (X 3),.int .i64 (X 4),.int .i64 (X 5),.int .i64 (X 6),.int .i64 (X 7),.int .i64 (X 8),.int .i64 (X 9),.int .i64 (X 10),.int .i64 (X 11),.int .i64 (X 12)] _ _ HZ.out rfl
   change bodyPost _ _ _ _ _ (setAll wr w.heap.size 0 [.int .i64 (X 0),.int .i64 (X 1),.int .i64 (X 2),.int .i64 (X 3),.int .i64 (X 4),.int .i64 (X 5),.int .i64 (X 6),.int .i64 (X 7),.int .i64 (X 8),.int .i64 (X 9),.int .i64 (X 10),.int .i64 (X 11),.int .i64 (X 12)])
   generalize setAll wr w.heap.size 0 [.int .i64 (X 0),.int .i64 (X 1),.int .i64 (X 2),.int .i64 (X 3),.int .i64 (X 4),.int .i64 (X 5),.int .i64 (X 6),.int .i64 (X 7),.int .i64 (X 8),.int .i64 (X 9),.int .i64 (X 10),.int .i64 (X 11),.int .i64 (X 12)]=wf at *
   refine bodyPost_ret (v:=Iv X) ?_ rfl ⟨by first | rfl | rw[HX.out],hW⟩
   simp[results,Tryz.results103,go_sem,hA.cell 0 _ rfl,hA.cell 1 _ rfl,hA.cell 2 _ rfl,hA.cell 3 _ rfl,hA.cell 4 _ rfl,hA.cell 5 _ rfl,hA.cell 6 _ rfl,hA.cell 7 _ rfl,hA.cell 8 _ rfl,hA.cell 9 _ rfl,hA.cell 10 _ rfl,hA.cell 11 _ rfl,hA.cell 12 _ rfl]

def spRow (n0 n:Nat) (xs:List Int) (v:Value) (w:World):Prop:=∃ g,v=.slice (some ⟨g,0,none⟩) n n∧n0≤g∧Has w (some ⟨g,0,none⟩) n xs

theorem mono_row (n0 n:Nat)(xs:List Int):Mono n0 (spRow n0 n xs):=fun _ _ _ ⟨g,e,hn,h⟩ hg=>⟨g,e,hn,h.grw hg⟩

theorem fit_a {x y z:Int}(h:fitB 2 [x,y,z]=true):fitB 2 [x]=true:=by
 rw[fitB_iff] at h ⊢
 exact fun v hv=>h v (by simp at hv ⊢;exact .inl hv)

theorem fit_b {x y z:Int}(h:fitB 2 [x,y,z]=true):fitB 2 [y,z]=true:=by
 rw[fitB_iff] at h ⊢
 exact fun v hv=>h v (by simp at hv ⊢;exact .inr hv)

theorem kind_fit {k:Int}(h:kindB k=true):fitB 1 [k,0]=true:=by
 rw[fitB_iff]
 intro v hv
 simp[kindB] at h
 simp at hv
 omega

theorem inode_own (X:Nat→Int)(w:World)(hk:kindB (X 0)=true)(h0:(X 0==0)=false)(h4:fitB 4 [X 2]=true)(h2:fitB 2 [X 1,X 11,X 12]=true)(h8:fitB 2 (dirs X)=true) :
  Calls Tryz.prog 45 #[Iv X] w fun e w'=>∃ k,e=.returned (.tuple #[.slice (some ⟨k,0,none⟩) 32 32,.int .i64 0])∧Hid (Has w' (some ⟨k,0,none⟩) 32 (layB 32 (inoL X))∧w.heap.size≤k)∧Below w.heap.size w w':=by
 have HK:=hide (Bx.start w (Ic X) 50)
 have KK:Hid (∀ u,Calls Tryz.prog 88 #[.int .i64 (X 0)] u fun e w'=>e=.returned (.bool true)∧Below u.heap.size u w'):=fun u=>(isKind_any (X 0) u).mono fun e w' ⟨h1,h2⟩=>⟨by rw[h1,hk],h2 ▸ Below.refl _ _⟩
 have F4:Hid (∀ u:World,Calls Tryz.prog 89 #[.int .i64 4,.slice (some ⟨u.heap.size,0,none⟩) 1 1] (u.alloc (.cells #[.int .i64 (X 2)] 3)) fun e w'=>e=.returned (.bool true)∧Below u.heap.size u w') :=
  fun u=>fit_lst 4 (.inr rfl) [X 2] u (by simp) _ h4
 have F2:Hid (∀ u:World,Calls Tryz.prog 89 #[.int .i64 2,.slice (some ⟨u.heap.size,0,none⟩) 3 3] (u.alloc (.cells #[.int .i64 (X 1),.int .i64 (X 11),.int .i64 (X 12)] 3)) fun e w'=>e=.returned (.bool true)∧Below u.heap.size u w') :=
  fun u=>fit_lst 2 (.inl rfl) [X 1,X 11,X 12] u (by simp) _ h2
 have F8:Hid (∀ u:World,Bx w (Ic X) u→Calls Tryz.prog 89 #[.int .i64 2,.slice (some ⟨w.heap.size,3,none⟩) 8 8] u fun e w'=>e=.returned (.bool true)∧u=w') :=
  fun u hB=>fit_dirs hB _ h8
 have HH:=hide hk
 have H4:=hide h4
 have H2:=hide h2
 have H8:=hide h8
 clear hk h4 h2 h8
 go_enter Tryz.func45,Tryz.ntmps45
 go_wp2_with fail
 go_at_call 88
 refine(unhide KK _).mono ?_
 rintro e w1 ⟨rfl,hb⟩
 replace HK:=hide ((unhide HK).call hb)
 clear KK hb
 have f0:=HK.out.1 0 _ rfl
 have f2:=HK.out.1 2 _ rfl
 go_wp2_with fail
 go_at_call 89
 refine(unhide F4 _).mono ?_
 rintro e w2 ⟨rfl,hb⟩
 replace HK:=hide ((unhide HK).call hb)
 clear hb F4 f0 f2
 have f1:=HK.out.1 1 _ rfl
 have f11:=HK.out.1 11 _ rfl
 have f12:=HK.out.1 12 _ rfl
 go_wp2_with fail
 go_at_call 89
 refine(unhide F2 _).mono ?_
 rintro e w3 ⟨rfl,hb⟩
 replace HK:=hide ((unhide HK).call hb)
 clear hb F2 f1 f11 f12
 go_wp2_with fail
 go_at_call 89
 refine(unhide F8 _ HK.out).mono ?_
 rintro e w' ⟨rfl,rfl⟩
 clear F8
 go_upto_region 5 with fail
 go_cut [2,3] (fun c q wx=>∃ k0,c=.slice (some ⟨k0,0,none⟩) 32 32∧q=.int .i64 0∧Hid (Has wx (some ⟨k0,0,none⟩) 32 (layB 32 (inoL X))∧w.heap.size≤k0)∧Hid (Bx w (Ic X) wx))
 case first =>
  refine wp_region_sp (by kernel_rfl) w.heap.size [spVal (.pointer (some ⟨w.heap.size,0,none⟩)),spVal (.int .i64 (X 0)),spInts [X 0,0],spBytes 2 (numsB 1 [X 0,0]),spVal (.pointer (some ⟨w.heap.size,1,none⟩)),spVal (.int .i64 (X 1)),spInts [X 1],spBytes 2 (numsB 2 [X 1]),spVal (.pointer (some ⟨w.heap.size,2,none⟩)),spVal (.int .i64 (X 2)),spInts [X 2],spBytes 4 (numsB 4 [X 2]),spVal (.pointer (some ⟨w.heap.size,3,none⟩)),spInts (dirs X),spBytes 16 (numsB 2 (dirs X)),spVal (.pointer (some ⟨w.heap.size,11,none⟩)),spVal (.int .i64 (X 11)),spVal (.pointer (some ⟨w.heap.size,12,none⟩)),spVal (.int .i64 (X 12)),spInts [X 11,X 12],spBytes 4 (numsB 2 [X 11,X 12]),spParts 5 (inoL X),spRow w.heap.size 32 (layB 32 (inoL X)),spRow w.heap.size 32 (layB 32 (inoL X)),spVal (.int .i64 0)] ?_ (by kernel_rfl) (by kernel_rfl) ?_ ?_
  ·intro S hS
   simp only[List.mem_cons,List.not_mem_nil,or_false] at hS
   rcases hS with rfl | rfl | rfl | rfl | rfl | rfl | rfl | rfl | rfl | rfl | rfl | rfl | rfl | rfl | rfl | rfl | rfl | rfl | rfl | rfl | rfl | rfl | rfl | rfl | rfl<;>first | exact mono_val _ _ | exact mono_bytes _ _ _ | exact mono_row _ _ _ | exact mono_lit _ _ | exact mono_ints _ _ | exact mono_parts _ _ _
  ·intro i o a u hi hF hA hG
   have hB:=HK.out.drew.grw hG
   have hn:w.heap.size≤u.heap.size:=hB.2.1.size
   have tb:a.tmps[1]?.getD undef=.pointer (some ⟨w.heap.size,0,none⟩):=fr_at hF 1 (by kernel_rfl)
   have hlt:=(Array.getElem?_eq_some_iff.1 hi).1
   have hcs:i=0∨i=1∨i=2∨i=3∨i=4∨i=5∨i=6∨i=7∨i=8∨i=9∨i=10∨i=11∨i=12∨i=13∨i=14∨i=15∨i=16∨i=17∨i=18∨i=19∨i=20∨i=21∨i=22∨i=23∨i=24:=by simp at hlt;omega
   clear hlt
   rcases hcs with rfl | rfl | rfl | rfl | rfl | rfl | rfl | rfl | rfl | rfl | rfl | rfl | rfl | rfl | rfl | rfl | rfl | rfl | rfl | rfl | rfl | rfl | rfl | rfl | rfl
   ·have ho:=Option.some.inj hi;subst ho
    have h0:=tb
    refine st_val (w':=u) rfl rfl (.pointer (some ⟨w.heap.size,0,none⟩)) ?_ rfl (Grw.refl _ _)
    simp[execOp,Act.eval,h0,go_sem]
   ·have ho:=Option.some.inj hi;subst ho
    have h0:a.tmps[40]?.getD undef=.pointer (some ⟨w.heap.size,0,none⟩):=ahead_at hA 0 40 (by kernel_rfl) rfl
    have f0:=hB.1 0 _ rfl
    refine st_val (w':=u) rfl rfl (.int .i64 (X 0)) ?_ rfl (Grw.refl _ _)
    simp[execOp,Act.eval,h0,f0,go_sem]
   ·have ho:=Option.some.inj hi;subst ho
    have h0:a.tmps[41]?.getD undef=.int .i64 (X 0):=ahead_at hA 1 41 (by kernel_rfl) rfl
    refine st_val (w':=u.alloc (.cells ([X 0,0].map (Value.int .i64)).toArray 3)) rfl rfl (.slice (some ⟨u.heap.size,0,none⟩) 2 2) ?_ ⟨_,_,rfl,ihas_list u [X 0,0]⟩ (Grw.alloc _ _ _ hn)
    simp[execOp,Act.eval,h0,go_sem]
   ·have ho:=Option.some.inj hi;subst ho
    have h0:spInts [X 0,0] (a.tmps[42]?.getD undef) u:=ahead_at hA 2 42 (by kernel_rfl) rfl
    refine st_call rfl rfl 91 #[.int .i64 (1:Nat),a.tmps[42]?.getD undef] ?_ hn (numbers_sp 1 (.inl rfl) [X 0,0] _ u h0 (by first | (simp;done) | simp[dirs]) (kind_fit HH.out) 2 rfl)
    simp[execOp,Act.eval,go_sem]
   ·have ho:=Option.some.inj hi;subst ho
    have h0:=tb
    refine st_val (w':=u) rfl rfl (.pointer (some ⟨w.heap.size,1,none⟩)) ?_ rfl (Grw.refl _ _)
    simp[execOp,Act.eval,h0,go_sem]
   ·have ho:=Option.some.inj hi;subst ho
    have h0:a.tmps[44]?.getD undef=.pointer (some ⟨w.heap.size,1,none⟩):=ahead_at hA 4 44 (by kernel_rfl) rfl
    have f0:=hB.1 1 _ rfl
    refine st_val (w':=u) rfl rfl (.int .i64 (X 1)) ?_ rfl (Grw.refl _ _)
    simp[execOp,Act.eval,h0,f0,go_sem]
   ·have ho:=Option.some.inj hi;subst ho
    have h0:a.tmps[45]?.getD undef=.int .i64 (X 1):=ahead_at hA 5 45 (by kernel_rfl) rfl
    refine st_val (w':=u.alloc (.cells ([X 1].map (Value.int .i64)).toArray 3)) rfl rfl (.slice (some ⟨u.heap.size,0,none⟩) 1 1) ?_ ⟨_,_,rfl,ihas_list u [X 1]⟩ (Grw.alloc _ _ _ hn)
    simp[execOp,Act.eval,h0,go_sem]
   ·have ho:=Option.some.inj hi;subst ho
    have h0:spInts [X 1] (a.tmps[46]?.getD undef) u:=ahead_at hA 6 46 (by kernel_rfl) rfl
    refine st_call rfl rfl 91 #[.int .i64 (2:Nat),a.tmps[46]?.getD undef] ?_ hn (numbers_sp 2 (.inr (.inl rfl)) [X 1] _ u h0 (by first | (simp;done) | simp[dirs]) (fit_a H2.out) 2 rfl)
    simp[execOp,Act.eval,go_sem]
   ·have ho:=Option.some.inj hi;subst ho
    have h0:=tb
    refine st_val (w':=u) rfl rfl (.pointer (some ⟨w.heap.size,2,none⟩)) ?_ rfl (Grw.refl _ _)
    simp[execOp,Act.eval,h0,go_sem]
   ·have ho:=Option.some.inj hi;subst ho
    have h0:a.tmps[48]?.getD undef=.pointer (some ⟨w.heap.size,2,none⟩):=ahead_at hA 8 48 (by kernel_rfl) rfl
    have f0:=hB.1 2 _ rfl
    refine st_val (w':=u) rfl rfl (.int .i64 (X 2)) ?_ rfl (Grw.refl _ _)
    simp[execOp,Act.eval,h0,f0,go_sem]
   ·have ho:=Option.some.inj hi;subst ho
    have h0:a.tmps[49]?.getD undef=.int .i64 (X 2):=ahead_at hA 9 49 (by kernel_rfl) rfl
    refine st_val (w':=u.alloc (.cells ([X 2].map (Value.int .i64)).toArray 3)) rfl rfl (.slice (some ⟨u.heap.size,0,none⟩) 1 1) ?_ ⟨_,_,rfl,ihas_list u [X 2]⟩ (Grw.alloc _ _ _ hn)
    simp[execOp,Act.eval,h0,go_sem]
   ·have ho:=Option.some.inj hi;subst ho
    have h0:spInts [X 2] (a.tmps[50]?.getD undef) u:=ahead_at hA 10 50 (by kernel_rfl) rfl
    refine st_call rfl rfl 91 #[.int .i64 (4:Nat),a.tmps[50]?.getD undef] ?_ hn (numbers_sp 4 (.inr (.inr rfl)) [X 2] _ u h0 (by first | (simp;done) | simp[dirs]) H4.out 4 rfl)
    simp[execOp,Act.eval,go_sem]
   ·have ho:=Option.some.inj hi;subst ho
    have h0:=tb
    refine st_val (w':=u) rfl rfl (.pointer (some ⟨w.heap.size,3,none⟩)) ?_ rfl (Grw.refl _ _)
    simp[execOp,Act.eval,h0,go_sem]
   ·have ho:=Option.some.inj hi;subst ho
    have h0:a.tmps[52]?.getD undef=.pointer (some ⟨w.heap.size,3,none⟩):=ahead_at hA 12 52 (by kernel_rfl) rfl
    refine st_val (w':=u) rfl rfl (.slice (some ⟨w.heap.size,3,none⟩) 8 8) ?_ ⟨_,_,rfl,dirs_has hB⟩ (Grw.refl _ _)
    simp[execOp,Act.eval,h0,go_sem]
   ·have ho:=Option.some.inj hi;subst ho
    have h0:spInts (dirs X) (a.tmps[53]?.getD undef) u:=ahead_at hA 13 53 (by kernel_rfl) rfl
    refine st_call rfl rfl 91 #[.int .i64 (2:Nat),a.tmps[53]?.getD undef] ?_ hn (numbers_sp 2 (.inr (.inl rfl)) (dirs X) _ u h0 (by first | (simp;done) | simp[dirs]) H8.out 16 rfl)
    simp[execOp,Act.eval,go_sem]
   ·have ho:=Option.some.inj hi;subst ho
    have h0:=tb
    refine st_val (w':=u) rfl rfl (.pointer (some ⟨w.heap.size,11,none⟩)) ?_ rfl (Grw.refl _ _)
    simp[execOp,Act.eval,h0,go_sem]
   ·have ho:=Option.some.inj hi;subst ho
    have h0:a.tmps[55]?.getD undef=.pointer (some ⟨w.heap.size,11,none⟩):=ahead_at hA 15 55 (by kernel_rfl) rfl
    have f0:=hB.1 11 _ rfl
    refine st_val (w':=u) rfl rfl (.int .i64 (X 11)) ?_ rfl (Grw.refl _ _)
    simp[execOp,Act.eval,h0,f0,go_sem]
   ·have ho:=Option.some.inj hi;subst ho
    have h0:=tb
    refine st_val (w':=u) rfl rfl (.pointer (some ⟨w.heap.size,12,none⟩)) ?_ rfl (Grw.refl _ _)
    simp[execOp,Act.eval,h0,go_sem]
   ·have ho:=Option.some.inj hi;subst ho
    have h0:a.tmps[57]?.getD undef=.pointer (some ⟨w.heap.size,12,none⟩):=ahead_at hA 17 57 (by kernel_rfl) rfl
    have f0:=hB.1 12 _ rfl
    refine st_val (w':=u) rfl rfl (.int .i64 (X 12)) ?_ rfl (Grw.refl _ _)
    simp[execOp,Act.eval,h0,f0,go_sem]
   ·have ho:=Option.some.inj hi;subst ho
    have h0:a.tmps[56]?.getD undef=.int .i64 (X 11):=ahead_at hA 16 56 (by kernel_rfl) rfl
    have h1:a.tmps[58]?.getD undef=.int .i64 (X 12):=ahead_at hA 18 58 (by kernel_rfl) rfl
    refine st_val (w':=u.alloc (.cells ([X 11,X 12].map (Value.int .i64)).toArray 3)) rfl rfl (.slice (some ⟨u.heap.size,0,none⟩) 2 2) ?_ ⟨_,_,rfl,ihas_list u [X 11,X 12]⟩ (Grw.alloc _ _ _ hn)
    simp[execOp,Act.eval,h0,h1,go_sem]
   ·have ho:=Option.some.inj hi;subst ho
    have h0:spInts [X 11,X 12] (a.tmps[59]?.getD undef) u:=ahead_at hA 19 59 (by kernel_rfl) rfl
    refine st_call rfl rfl 91 #[.int .i64 (2:Nat),a.tmps[59]?.getD undef] ?_ hn (numbers_sp 2 (.inr (.inl rfl)) [X 11,X 12] _ u h0 (by first | (simp;done) | simp[dirs]) (fit_b H2.out) 4 rfl)
    simp[execOp,Act.eval,go_sem]
   ·have ho:=Option.some.inj hi;subst ho
    obtain⟨p0,c0,e0,b0,_,_⟩:spBytes 2 (numsB 1 [X 0,0]) (a.tmps[43]?.getD undef) u:=ahead_at hA 3 43 (by kernel_rfl) rfl
    obtain⟨p1,c1,e1,b1,_,_⟩:spBytes 2 (numsB 2 [X 1]) (a.tmps[47]?.getD undef) u:=ahead_at hA 7 47 (by kernel_rfl) rfl
    obtain⟨p2,c2,e2,b2,_,_⟩:spBytes 4 (numsB 4 [X 2]) (a.tmps[51]?.getD undef) u:=ahead_at hA 11 51 (by kernel_rfl) rfl
    obtain⟨p3,c3,e3,b3,_,_⟩:spBytes 16 (numsB 2 (dirs X)) (a.tmps[54]?.getD undef) u:=ahead_at hA 14 54 (by kernel_rfl) rfl
    obtain⟨p4,c4,e4,b4,_,_⟩:spBytes 4 (numsB 2 [X 11,X 12]) (a.tmps[60]?.getD undef) u:=ahead_at hA 20 60 (by kernel_rfl) rfl
    have hp:=phas_list u [(p0,2,c0,(numsB 1 [X 0,0])),(p1,2,c1,(numsB 2 [X 1])),(p2,4,c2,(numsB 4 [X 2])),(p3,16,c3,(numsB 2 (dirs X))),(p4,4,c4,(numsB 2 [X 11,X 12]))] (by
     intro p hp
     simp only[List.mem_cons,List.not_mem_nil,or_false] at hp
     rcases hp with rfl | rfl | rfl | rfl | rfl
     ·exact b0
     ·exact b1
     ·exact b2
     ·exact b3
     ·exact b4)
    refine st_val (w':=u.alloc (.cells ([(p0,2,c0,(numsB 1 [X 0,0])),(p1,2,c1,(numsB 2 [X 1])),(p2,4,c2,(numsB 4 [X 2])),(p3,16,c3,(numsB 2 (dirs X))),(p4,4,c4,(numsB 2 [X 11,X 12]))].map pv).toArray 94)) rfl rfl (.slice (some ⟨u.heap.size,0,none⟩) 5 5) ?_ ⟨_,_,_,rfl,hp,by simp[allP,inoL]⟩ (Grw.alloc _ _ _ hn)
    simp[execOp,Act.eval,e0,e1,e2,e3,e4,go_sem]
    all_goals rfl
   ·have ho:=Option.some.inj hi;subst ho
    have h0:spParts 5 (inoL X) (a.tmps[61]?.getD undef) u:=ahead_at hA 21 61 (by kernel_rfl) rfl
    refine st_call rfl rfl 90 #[.int .i64 ((32:Nat):Int),a.tmps[61]?.getD undef] ?_ hn ((lay_sp (32) 5 (inoL X) _ u h0 (by omega) (by rw[inoL_length];omega) (by omega) (inoL_byts X)).mono fun e w' ⟨v,e1,⟨_,gg,h1,h3,h4⟩,h2⟩=>⟨v,e1,⟨gg,h1,Nat.le_trans hn h3,h4.has (by rw[length_layB (by rw[inoL_length];omega)])⟩,h2⟩)
    simp[execOp,Act.eval,go_sem]
   ·have ho:=Option.some.inj hi;subst ho
    have h0:spRow w.heap.size 32 (layB 32 (inoL X)) (a.tmps[62]?.getD undef) u:=ahead_at hA 22 62 (by kernel_rfl) rfl
    refine st_val (w':=u) rfl rfl (a.tmps[62]?.getD undef) ?_ h0 (Grw.refl _ _)
    simp[execOp,Act.eval,go_sem]
   ·have ho:=Option.some.inj hi;subst ho
    refine st_val (w':=u) rfl rfl (.int .i64 0) ?_ rfl (Grw.refl _ _)
    simp[execOp,Act.eval,go_sem]
  ·intro a u hF hR hG
   have q0:=fr_at hF 0 (by kernel_rfl)
   have q1:=fr_at hF 1 (by kernel_rfl)
   obtain⟨r0,r2,r1,r3⟩:spRow w.heap.size 32 (layB 32 (inoL X)) (a.tmps[2]?.getD undef) u:=by have:=hR 23 _ 2 rfl rfl;rwa [Array.getD_eq_getD_getElem?] at this
   obtain p3:a.tmps[3]?.getD undef=(.int .i64 0):=by have:=hR 24 _ 3 rfl rfl;rwa [Array.getD_eq_getD_getElem?] at this
   have hB:=HK.out.drew.grw hG
   obtain⟨tm,df⟩:=a
   obtain⟨hs,hdf,_⟩:=hF
   have hs':tm.size=63:=hs
   have hdf':df=[]:=hdf
   subst hdf'
   have he:tm=#[tm[0]?.getD undef,tm[1]?.getD undef,tm[2]?.getD undef,tm[3]?.getD undef,tm[4]?.getD undef,tm[5]?.getD undef,tm[6]?.getD undef,tm[7]?.getD undef,tm[8]?.getD undef,tm[9]?.getD undef,tm[10]?.getD undef,tm[11]?.getD undef,tm[12]?.getD undef,tm[13]?.getD undef,tm[14]?.getD undef,tm[15]?.getD undef,tm[16]?.getD undef,tm[17]?.getD undef,tm[18]?.getD undef,tm[19]?.getD undef,tm[20]?.getD undef,tm[21]?.getD undef,tm[22]?.getD undef,tm[23]?.getD undef,tm[24]?.getD undef,tm[25]?.getD undef,tm[26]?.getD undef,tm[27]?.getD undef,tm[28]?.getD undef,tm[29]?.getD undef,tm[30]?.getD undef,tm[31]?.getD undef,tm[32]?.getD undef,tm[33]?.getD undef,tm[34]?.getD undef,tm[35]?.getD undef,tm[36]?.getD undef,tm[37]?.getD undef,tm[38]?.getD undef,tm[39]?.getD undef,tm[40]?.getD undef,tm[41]?.getD undef,tm[42]?.getD undef,tm[43]?.getD undef,tm[44]?.getD undef,tm[45]?.getD undef,tm[46]?.getD undef,tm[47]?.getD undef,tm[48]?.getD undef,tm[49]?.getD undef,tm[50]?.getD undef,tm[51]?.getD undef,tm[52]?.getD undef,tm[53]?.getD undef,tm[54]?.getD undef,tm[55]?.getD undef,tm[56]?.getD undef,tm[57]?.getD undef,tm[58]?.getD undef,tm[59]?.getD undef,tm[60]?.getD undef,tm[61]?.getD undef,tm[62]?.getD undef]:=tmps_eq tm 63 hs'
   simp at q0
   simp at q1
   rw[he]
   simp only[q0,q1,r2,p3]
   clear he hR hG hs hs' hdf q0 q1 r2 p3
   go_wp2_with fail
   go_meet
   exact⟨r0,rfl,rfl,⟨r3,r1⟩,hB⟩
 case rest =>
  obtain⟨k0,rfl,rfl,hh,hB⟩:=hcut
  clear HK
  go_wp2_with fail
  go_ret2
  exact⟨k0,rfl,hh,hB.out.2.1⟩

theorem inode_bad (X:Nat→Int)(w:World)(h:inoBad X=true):Calls Tryz.prog 45 #[Iv X] w fun e w'=>e=.returned (.tuple #[.slice none 0 0,.int .i64 4])∧Below w.heap.size w w':=by
 unfold inoBad at h
 by_cases hk:kindB (X 0)=true
 ·rw[hk] at h
  simp at h
  exact inode_free X w h.1 h.2
 ·exact inode_kind X w (by simpa using hk)

theorem uninode_w (X:Nat→Int)(q:Int)(a:Option Addr)(len cap:Nat)(w:World)(K:Hid (∀ u,Below w.heap.size w u→Calls Tryz.prog 102 #[.slice a len cap,.func (.func 103) #[] #[],.func (.func 45) #[] #[]] u fun e w'=>e=.returned (.tuple #[Iv X,.int .i64 q])∧Below u.heap.size u w')) :
  Calls Tryz.prog 52 #[.slice a len cap] w fun e w'=>e=.returned (.tuple #[Iv X,.int .i64 q])∧Below w.heap.size w w':=by
 have HZ:=hide (Bl.new w Iz 50)
 have HB:=hide ((Below.refl _ w).alloc (Nat.le_refl _) (.cells Iz 50))
 go_enter Tryz.func52,Tryz.ntmps52
 go_wp2_with fail
 go_at_call 102
 refine(unhide K _ HB.out).mono ?_
 rintro e w1 ⟨rfl,hb⟩
 replace HB:=hide (bchain HB.out hb (Nat.le_refl _))
 replace HZ:=hide (HZ.out.call hb)
 clear hb K
 have z0:=HZ.out.cell 0 _ rfl
 have z1:=HZ.out.cell 1 _ rfl
 have z2:=HZ.out.cell 2 _ rfl
 have z3:=HZ.out.cell 3 _ rfl
 have z4:=HZ.out.cell 4 _ rfl
 have z5:=HZ.out.cell 5 _ rfl
 have z6:=HZ.out.cell 6 _ rfl
 have z7:=HZ.out.cell 7 _ rfl
 have z8:=HZ.out.cell 8 _ rfl
 have z9:=HZ.out.cell 9 _ rfl
 have z10:=HZ.out.cell 10 _ rfl
 have z11:=HZ.out.cell 11 _ rfl
 have z12:=HZ.out.cell 12 _ rfl
 have hz:=HZ.out.free
 go_wp2_with fail
 have hW:Below w.heap.size w (setAll w1 w.heap.size 0 [.int .i64 (X 0),.int .i64 (X 1),.int .i64 (X 2),.int .i64 (X 3),.int .i64 (X 4),.int .i64 (X 5),.int .i64 (X 6),.int .i64 (X 7),.int .i64 (X 8),.int .i64 (X 9),.int .i64 (X 10),.int .i64 (X 11),.int .i64 (X 12)]):=below_setAll (Nat.le_refl _) _ _ _ _ HB.out
 have hA:Bl (setAll w1 w.heap.size 0 [.int .i64 (X 0),.int .i64 (X 1),.int .i64 (X 2),.int .i64 (X 3),.int .i64 (X 4),.int .i64 (X 5),.int .i64 (X 6),.int .i64 (X 7),.int .i64 (X 8),.int .i64 (X 9),.int .i64 (X 10),.int .i64 (X 11),.int .i64 (X 12)]) w.heap.size #[.int .i64 (X 0),.int .i64 (X 1),.int .i64 (X 2),.int .i64 (X 3),.int .i64 (X 4),.int .i64 (X 5),.int .i64 (X 6),.int .i64 (X 7),.int .i64 (X 8),.int .i64 (X 9),.int .i64 (X 10),.int .i64 (X 11),.int .i64 (X 12)] 50:=setAll_whole [.int .i64 (X 0),.int .i64 (X 1),.int .i64 (X 2),.int .i64 (X 3),.int .i64 (X 4),.int .i64 (X 5),.int .i64 (X 6),.int .i64 (X 7),.int .i64 (X 8),.int .i64 (X 9),.int .i64 (X 10),.int .i64 (X 11),.int .i64 (X 12)] _ _ HZ.out rfl
 change bodyPost _ _ _ _ _ (setAll w1 w.heap.size 0 [.int .i64 (X 0),.int .i64 (X 1),.int .i64 (X 2),.int .i64 (X 3),.int .i64 (X 4),.int .i64 (X 5),.int .i64 (X 6),.int .i64 (X 7),.int .i64 (X 8),.int .i64 (X 9),.int .i64 (X 10),.int .i64 (X 11),.int .i64 (X 12)])
 generalize setAll w1 w.heap.size 0 [.int .i64 (X 0),.int .i64 (X 1),.int .i64 (X 2),.int .i64 (X 3),.int .i64 (X 4),.int .i64 (X 5),.int .i64 (X 6),.int .i64 (X 7),.int .i64 (X 8),.int .i64 (X 9),.int .i64 (X 10),.int .i64 (X 11),.int .i64 (X 12)]=wf at *
 refine bodyPost_ret (v:=.tuple #[Iv X,.int .i64 q]) ?_ rfl ⟨by first | rfl | rw[HX.out],hW⟩
 simp[results,Tryz.results52,go_sem,hA.cell 0 _ rfl,hA.cell 1 _ rfl,hA.cell 2 _ rfl,hA.cell 3 _ rfl,hA.cell 4 _ rfl,hA.cell 5 _ rfl,hA.cell 6 _ rfl,hA.cell 7 _ rfl,hA.cell 8 _ rfl,hA.cell 9 _ rfl,hA.cell 10 _ rfl,hA.cell 11 _ rfl,hA.cell 12 _ rfl]

def inoIs (zs:List Int):Prop:=inoBad (inoOf zs)=false∧inoF (inoOf zs)=true∧layB 32 (inoL (inoOf zs))=zs∧(inoOf zs 0==0)=false

theorem ino32 (X:Nat→Int):∀ z∈layB 32 (inoL X),0≤z∧z≤255:=layB_byte _ _ (inoL_byts X)

theorem uninode_yes (a:Option Addr)(len cap:Nat)(zs:List Int)(w:World)(hr:Row w.heap.size w a len cap zs)(h:inoIs zs) :
  Calls Tryz.prog 52 #[.slice a len cap] w fun e w'=>e=.returned (.tuple #[Iv (inoOf zs),.int .i64 0])∧Below w.heap.size w w':=by
 refine uninode_w (inoOf zs) 0 a len cap w fun u hb=>?_
 have hru:=hr.below hb hb.size
 have hf:=h.2.1
 have hk:kindB (inoOf zs 0)=true:=by
  have:=h.1
  unfold inoBad at this
  simp only[Bool.or_eq_false_iff,Bool.not_eq_false'] at this
  exact this.1
 unfold inoF at hf
 simp only[Bool.and_eq_true] at hf
 obtain⟨⟨h4,h2⟩,h8⟩:=hf
 refine readI_same (inoOf zs) a len cap u zs zs hru.has hr.2.2.2.1 hr.2.2.2.1 (by simp) (fun u2 hb2=>takeInode_any a len cap zs u2 (hru.below hb2 hb2.size)) fun u2 hb2=>?_
 refine(inode_own (inoOf zs) u2 hk h.2.2.2 h4 h2 h8).mono ?_
 rintro e w' ⟨k,rfl,hh,hb⟩
 have h1:=hh.out.1
 rw[h.2.2.1] at h1
 exact⟨_,_,_,rfl,h1,hb⟩

end Go.Proofs.YtokngjcfkkceiaaGreatDoor
