/- Joined: CEq, CIno, CReadI, CTakeI, IIno, CUnD. -/
import Derived.Test.YtbofhdfhhbgdgaaGreatDoorIaJ21
import Derived.Laws.IdiomStrings
import Derived.ChangeKeysEq
import Derived.Test.YtbofhdfhhbgdgaaGreatDoorIaJ18
import Derived.Test.YtbofhdfhhbgdgaaGreatDoorIaJ1
import Derived.Test.YtbofhdfhhbgdgaaGreatDoorIaJ22
import Derived.Test.YtbofhdfhhbgdgaaGreatDoorIaJ23
import Derived.BigQuiet
import Derived.OwnWalk
/- Structs with arrays and texts in them, compared. -/
namespace Go.Proofs.YtbofhdfhhbgdgaaGreatDoor
set_option maxRecDepth 100000
set_option maxHeartbeats 8000000
open Go.RowKit Go.Shelf
set_option linter.unusedVariables false
abbrev Iv (X:Nat->Int):Value:=.agg #[.int .i64 (X 0),.int .i64 (X 1),.int .i64 (X 2),.int .i64 (X 3),.int .i64 (X 4),.int .i64 (X 5),.int .i64 (X 6),.int .i64 (X 7),.int .i64 (X 8),.int .i64 (X 9),.int .i64 (X 10),.int .i64 (X 11),.int .i64 (X 12)]
abbrev Ic (X:Nat->Int):Array Value:=#[.int .i64 (X 0),.int .i64 (X 1),.int .i64 (X 2),.int .i64 (X 3),.int .i64 (X 4),.int .i64 (X 5),.int .i64 (X 6),.int .i64 (X 7),.int .i64 (X 8),.int .i64 (X 9),.int .i64 (X 10),.int .i64 (X 11),.int .i64 (X 12)]
abbrev Iz:Array Value:=#[.int .i64 0,.int .i64 0,.int .i64 0,.int .i64 0,.int .i64 0,.int .i64 0,.int .i64 0,.int .i64 0,.int .i64 0,.int .i64 0,.int .i64 0,.int .i64 0,.int .i64 0]
theorem ajH (X:Nat->Int)(k:Nat)(hk:k<13):(Ic X)[k]?=some (.int .i64 (X k)):=by
 have:k=0\/k=1\/k=2\/k=3\/k=4\/k=5\/k=6\/k=7\/k=8\/k=9\/k=10\/k=11\/k=12:=by omega
 rcases this with rfl | rfl | rfl | rfl | rfl | rfl | rfl | rfl | rfl | rfl | rfl | rfl | rfl<;>rfl
def jP (X Y:Nat->Int):Bool:=(List.range 13).all fun k=>X k==Y k
theorem iG {X Y:Nat->Int}:jP X Y=true↔∀ k,k<13->X k=Y k:=by simp[jP]
def wX:Nat->Int:=fun _=>0
def oH (k:Int):Bool:=decide (k=0)||decide (k=1)||decide (k=2)
theorem aby (k:Int)(w:World):Calls Tryz.prog 114 #[.int .i64 k] w fun e w'=>e=.returned (.bool (oH k))/\w=w':=by
 obtain⟨b,hb⟩:∃ b,oH k=b:=⟨_,rfl⟩
 rw[hb]
 unfold oH at hb
 by_cases h0:k=0
 ·subst h0
  obtain rfl:b=true:=by rw[← hb];rfl
  clear hb
  go_enter Tryz.func114,Tryz.ntmps114
  go_wp2
  go_ret
  exact⟨rfl,rfl⟩
 ·by_cases h1:k=1
  ·subst h1
   obtain rfl:b=true:=by rw[← hb];rfl
   clear hb h0
   go_enter Tryz.func114,Tryz.ntmps114
   go_wp2
   go_ret
   exact⟨rfl,rfl⟩
  ·by_cases h2:k=2
   ·subst h2
    obtain rfl:b=true:=by rw[← hb];rfl
    clear hb h0 h1
    go_enter Tryz.func114,Tryz.ntmps114
    go_wp2
    go_ret
    exact⟨rfl,rfl⟩
   ·obtain rfl:b=false:=by rw[← hb];simp[h0,h1,h2]
    have d0:(k==0)=false:=by simpa using h0
    have d1:(k==1)=false:=by simpa using h1
    have d2:(k==2)=false:=by simpa using h2
    clear hb h0 h1 h2
    go_enter Tryz.func114,Tryz.ntmps114
    go_wp2
    go_ret
    exact⟨rfl,rfl⟩
theorem adZ (wd:Nat)(hw:wd=2\/wd=4)(ns:List Int)(u:World)(hl:ns.length<=1000)(r:Bool)(hr:jR wd ns=r) :
  Calls Tryz.prog 115 #[.int .i64 (wd:Int),.slice (some ⟨u.heap.size,0,none⟩) ns.length ns.length] (u.alloc (.cells (ns.map (Value.int .i64)).toArray 3)) fun e w'=>e=.returned (.bool r)/\Below u.heap.size u w':=by
 subst hr
 refine(zx wd hw _ ns.length ns.length ns _ (dQ u ns) (by omega)).mono ?_
 rintro e w' ⟨rfl,rfl⟩
 exact⟨rfl,(Below.refl _ u).alloc (Nat.le_refl _) _⟩
def iJ (X:Nat->Int):List Int:=[X 3,X 4,X 5,X 6,X 7,X 8,X 9,X 10]
theorem aa1 {w u}{X:Nat->Int}(h:Bx w (Ic X) u):gq u (some ⟨w.heap.size,3,none⟩) 8 (iJ X):=by
 refine⟨rfl,fun _=>⟨w.heap.size,3,rfl,fun j hj=>?_⟩⟩
 have:j=0\/j=1\/j=2\/j=3\/j=4\/j=5\/j=6\/j=7:=by omega
 rcases this with rfl | rfl | rfl | rfl | rfl | rfl | rfl | rfl
 all_goals exact h.1 _ _ rfl
theorem ags {w u}{X:Nat->Int}(h:Bx w (Ic X) u)(r:Bool)(hr:jR 2 (iJ X)=r) :
  Calls Tryz.prog 115 #[.int .i64 2,.slice (some ⟨w.heap.size,3,none⟩) 8 8] u fun e w'=>e=.returned (.bool r)/\u=w':=by
 subst hr
 exact zx 2 (.inl rfl) _ 8 8 (iJ X) u (aa1 h) (by omega)
def oK (X:Nat->Int):Bool:=!oH (X 0)||(X 0==0&&!jP X wX)
def adE (X:Nat->Int):Bool:=jR 4 [X 2]&&jR 2 [X 1,X 11,X 12]&&jR 2 (iJ X)
def dG (X:Nat->Int):List Int:=aQ 1 [X 0,0]++(aQ 2 [X 1]++(aQ 4 [X 2]++(aQ 2 (iJ X)++aQ 2 [X 11,X 12])))
theorem iH (X:Nat->Int):(dG X).length=28:=by simp[dG,lV,iJ]
theorem vV (X:Nat->Int):∀ z∈dG X,0<=z/\z<=255:=by
 intro z hz
 simp only[dG,List.mem_append] at hz
 rcases hz with hz | hz | hz | hz | hz
 all_goals exact jG _ _ z hz
theorem abd (X:Nat->Int)(a:Option Addr)(len cap:Nat)(w:World)(xs zs:List Int)(hh:Has w a len zs)(hz0:∀ z∈zs,0<=z/\z<=255)(hx:∀ z∈xs,0<=z/\z<=255)(he:decide (xs=zs)=true)(HT:Hid (∀ u,Below w.heap.size w u->Calls Tryz.prog 129 #[.slice a len cap] u fun e w'=>e=.returned (Iv X)/\Below u.heap.size u w'))(HW:Hid (∀ u,Below w.heap.size w u->Calls Tryz.prog 56 #[Iv X] u fun e w'=>∃ a' n' c',e=.returned (.tuple #[.slice a' n' c',.int .i64 0])/\Hid (Has w' a' n' xs)/\Below u.heap.size u w')) :
  Calls Tryz.prog 128 #[.slice a len cap,.func (.func 129) #[] #[],.func (.func 56) #[] #[]] w fun e w'=>e=.returned (.tuple #[Iv X,.int .i64 0])/\Below w.heap.size w w':=by
 have HH:=hide hh
 clear hh
 have hb0:Below w.heap.size w (w.alloc (.cells (Iz) 50)):=(Below.refl _ w).alloc (Nat.le_refl _) _
 have HZ:=hide (Bl.new w (Iz) 50)
 have HB:=hide hb0
 clear hb0
 go_enter Tryz.func128,Tryz.ntmps128
 go_wp2_with fail
 go_at_call 129
 refine(ah HT _ HB.out).mono ?_
 rintro e w1 ⟨rfl,hb⟩
 replace HZ:=hide ((HZ.out.call hb).alloc (.cells (Ic X) 50))
 replace HB:=hide ((bF HB.out hb (Nat.le_refl _)).alloc (bF HB.out hb (Nat.le_refl _)).size (.cells (Ic X) 50))
 have HV:=hide (Bl.new w1 (Ic X) 50)
 clear hb HT
 go_wp2_with fail
 go_at_call 56
 refine(ah HW _ HB.out).mono ?_
 rintro e w2 ⟨a',n',c',rfl,hx',hb⟩
 replace HZ:=hide (HZ.out.call hb)
 replace HB:=hide (bF HB.out hb (Nat.le_refl _))
 replace HV:=hide (HV.out.call hb)
 have KE:Hid (Calls Tryz.prog 150 #[.slice a' n' c',.slice a len cap] w2 fun e w'=>e=.returned (.bool true)/\w2=w'):=by
  have:=pF a' a n' c' len cap xs zs w2 hx'.out ((HH.out).later HB.out) hx hz0
  rwa [he] at this
 clear hb HW hx'
 go_wp2_with fail
 go_at_call 150
 refine(ah KE).mono ?_
 rintro e w' ⟨rfl,rfl⟩
 clear KE
 clear HH hz0 hx he
 have z0:=HZ.out.cell 0 _ rfl
 have z1:=HZ.out.cell 1 _ rfl
 have z2:=HZ.out.cell 2 _ rfl
 have z3:=HZ.out.cell 3 _ rfl
 have z4:=HZ.out.cell 4 _ rfl
 have z5:=HZ.out.cell 5 _ rfl
 have z6:=HZ.out.cell 6 _ rfl
 have z7:=HZ.out.cell 7 _ rfl
 have z8:=HZ.out.cell 8 _ rfl
 have z9:=HZ.out.cell 9 _ rfl
 have z10:=HZ.out.cell 10 _ rfl
 have z11:=HZ.out.cell 11 _ rfl
 have z12:=HZ.out.cell 12 _ rfl
 have v0:=HV.out.cell 0 _ rfl
 have v1:=HV.out.cell 1 _ rfl
 have v2:=HV.out.cell 2 _ rfl
 have v3:=HV.out.cell 3 _ rfl
 have v4:=HV.out.cell 4 _ rfl
 have v5:=HV.out.cell 5 _ rfl
 have v6:=HV.out.cell 6 _ rfl
 have v7:=HV.out.cell 7 _ rfl
 have v8:=HV.out.cell 8 _ rfl
 have v9:=HV.out.cell 9 _ rfl
 have v10:=HV.out.cell 10 _ rfl
 have v11:=HV.out.cell 11 _ rfl
 have v12:=HV.out.cell 12 _ rfl
 have hz:=HZ.out.free
 go_wp2_with fail
 have hW:Below w.heap.size w (aI w2 w.heap.size 0 [.int .i64 (X 0),.int .i64 (X 1),.int .i64 (X 2),.int .i64 (X 3),.int .i64 (X 4),.int .i64 (X 5),.int .i64 (X 6),.int .i64 (X 7),.int .i64 (X 8),.int .i64 (X 9),.int .i64 (X 10),.int .i64 (X 11),.int .i64 (X 12)]):=aW (Nat.le_refl _) _ _ _ _ HB.out
 have hA:Bl (aI w2 w.heap.size 0 [.int .i64 (X 0),.int .i64 (X 1),.int .i64 (X 2),.int .i64 (X 3),.int .i64 (X 4),.int .i64 (X 5),.int .i64 (X 6),.int .i64 (X 7),.int .i64 (X 8),.int .i64 (X 9),.int .i64 (X 10),.int .i64 (X 11),.int .i64 (X 12)]) w.heap.size (Ic X) 50:=aU [.int .i64 (X 0),.int .i64 (X 1),.int .i64 (X 2),.int .i64 (X 3),.int .i64 (X 4),.int .i64 (X 5),.int .i64 (X 6),.int .i64 (X 7),.int .i64 (X 8),.int .i64 (X 9),.int .i64 (X 10),.int .i64 (X 11),.int .i64 (X 12)] _ _ HZ.out rfl
 change bodyPost _ _ _ _ _ (aI w2 w.heap.size 0 [.int .i64 (X 0),.int .i64 (X 1),.int .i64 (X 2),.int .i64 (X 3),.int .i64 (X 4),.int .i64 (X 5),.int .i64 (X 6),.int .i64 (X 7),.int .i64 (X 8),.int .i64 (X 9),.int .i64 (X 10),.int .i64 (X 11),.int .i64 (X 12)])
 generalize aI w2 w.heap.size 0 [.int .i64 (X 0),.int .i64 (X 1),.int .i64 (X 2),.int .i64 (X 3),.int .i64 (X 4),.int .i64 (X 5),.int .i64 (X 6),.int .i64 (X 7),.int .i64 (X 8),.int .i64 (X 9),.int .i64 (X 10),.int .i64 (X 11),.int .i64 (X 12)]=wf at *
 refine bodyPost_ret (v:=.tuple #[Iv X,.int .i64 0]) ?_ rfl ⟨rfl,hW⟩
 simp[results,Tryz.results128,go_sem,hA.cell 0 _ rfl,hA.cell 1 _ rfl,hA.cell 2 _ rfl,hA.cell 3 _ rfl,hA.cell 4 _ rfl,hA.cell 5 _ rfl,hA.cell 6 _ rfl,hA.cell 7 _ rfl,hA.cell 8 _ rfl,hA.cell 9 _ rfl,hA.cell 10 _ rfl,hA.cell 11 _ rfl,hA.cell 12 _ rfl]
def bU (X:Nat->Int) (k:Nat) (z:Int):Nat->Int:=fun j=>if j=k then z else X j
theorem ahf (X:Nat->Int)(k:Nat)(z:Int)(hk:k<13):(Ic X).setIfInBounds k (.int .i64 z)=Ic (bU X k z):=by
 have:k=0\/k=1\/k=2\/k=3\/k=4\/k=5\/k=6\/k=7\/k=8\/k=9\/k=10\/k=11\/k=12:=by omega
 rcases this with rfl | rfl | rfl | rfl | rfl | rfl | rfl | rfl | rfl | rfl | rfl | rfl | rfl<;>rfl
def aio (zs:List Int):Nat->Int
 | 0=>ak zs 0 1
 | 1=>ak zs 2 2
 | 2=>ak zs 4 4
 | 11=>ak zs 24 2
 | 12=>ak zs 26 2
 | _=>0
def fB (zs:List Int):Nat->Nat->Int
 | 0=>aio zs
 | k+1=>bU (fB zs k) (3+k) (ak zs (8+2*(k:Int)) 2)
def bG (zs:List Int):Nat->Int:=fB zs 8
theorem eight {k:Nat}(hk:k<8):k=0\/k=1\/k=2\/k=3\/k=4\/k=5\/k=6\/k=7:=by omega
theorem Bl.ino {u g}{zs:List Int}{k:Nat}(h:Bl u g (Ic (fB zs k)) 50)(hk:k<8):Bl (u.setCell ⟨g,3+k,none⟩ (.int .i64 (ak zs (8+2*(k:Int)) 2))) g (Ic (fB zs (k+1))) 50:=by
 have:=h.set (3+k) (.int .i64 (ak zs (8+2*(k:Int)) 2))
 rw[ahf _ _ _ (by omega)] at this
 exact this
theorem rH (a:Option Addr)(len cap:Nat)(zs:List Int)(w:World)(hr:Row w.heap.size w a len cap zs) :
  Calls Tryz.prog 129 #[.slice a len cap] w fun e w'=>e=.returned (Iv (bG zs))/\Below w.heap.size w w':=by
 have KG:Hid (∀ (at' n:Int) (u:World),at'<=1000->Below w.heap.size w u->Calls Tryz.prog 186 #[.slice a len cap,.int .i64 at',.int .i64 n] u fun e w'=>e=.returned (.int .i64 (ak zs at' n))/\Below u.heap.size u w') :=
  fun at' n u h1 hb=>aav a len cap zs at' n u (hr.below hb hb.size) (by omega)
 have HZ:=hide (Bl.new w Iz 50)
 have HB:=hide ((Below.refl _ w).alloc (Nat.le_refl _) (.cells Iz 50))
 clear hr
 unfold bG
 go_enter Tryz.func129,Tryz.ntmps129
 go_wp2_with fail
 go_at_call 186
 refine(ah KG _ _ _ (by omega) HB.out).mono ?_
 rintro e w1 ⟨rfl,hb⟩
 replace HB:=hide (bF HB.out hb (Nat.le_refl _))
 replace HZ:=hide (HZ.out.call hb)
 clear hb
 go_wp2_with fail
 go_at_call 186
 refine(ah KG _ _ _ (by omega) HB.out).mono ?_
 rintro e w2 ⟨rfl,hb⟩
 replace HB:=hide (bF HB.out hb (Nat.le_refl _))
 replace HZ:=hide (HZ.out.call hb)
 clear hb
 go_wp2_with fail
 go_at_call 186
 refine(ah KG _ _ _ (by omega) HB.out).mono ?_
 rintro e w3 ⟨rfl,hb⟩
 replace HB:=hide (bF HB.out hb (Nat.le_refl _))
 replace HZ:=hide (HZ.out.call hb)
 clear hb
 go_wp2_with fail
 go_at_call 186
 refine(ah KG _ _ _ (by omega) HB.out).mono ?_
 rintro e w4 ⟨rfl,hb⟩
 replace HB:=hide (bF HB.out hb (Nat.le_refl _))
 replace HZ:=hide (HZ.out.call hb)
 clear hb
 go_wp2_with fail
 go_at_call 186
 refine(ah KG _ _ _ (by omega) HB.out).mono ?_
 rintro e w5 ⟨rfl,hb⟩
 replace HB:=hide (bF HB.out hb (Nat.le_refl _))
 replace HZ:=hide (HZ.out.call hb)
 clear hb
 have HZ0:=hide HZ.out
 replace HB:=hide (HB.out.alloc HB.out.size (.cells (Ic (fB zs 0)) 50))
 replace HZ:=hide (HZ.out.alloc (.cells (Ic (fB zs 0)) 50))
 have HV:=hide (Bl.new w5 (Ic (fB zs 0)) 50)
 have hg:Hid (w.heap.size<w5.heap.size):=by
  exact HZ0.out.lt
 clear HZ0
 go_upto_region 2 with fail
 change Code.wp _ _ _ _ (w5.alloc (.cells (Ic (fB zs 0)) 50))
 generalize w5.alloc (.cells (Ic (fB zs 0)) 50)=W at *
 generalize w5.heap.size=g1 at *
 go_upto_region 3 with fail
 go_loopw [16] (fun i wr=>∃ k:Nat,k<=8/\i=.int .i64 (k:Int)/\Hid (Bl wr g1 (Ic (fB zs k)) 50)/\Hid (Bl wr w.heap.size Iz 50)/\Hid (Below w.heap.size w wr)) (fun i _=>8 - (intOf i).toNat)
 case atStart=>exact⟨0,by omega,rfl,HV,HZ,HB⟩
 case round =>
  obtain⟨k,hk,rfl,hV,hZ,hB⟩:=hrel
  clear HV HZ HB
  by_cases hlt:k<8
  ·have HX:Hid (∀ w2,Below wr.heap.size wr w2->Bl (w2.setCell ⟨g1,3+k,none⟩ (.int .i64 (ak zs (8+2*(k:Int)) 2))) g1 (Ic (fB zs (k+1))) 50/\Bl (w2.setCell ⟨g1,3+k,none⟩ (.int .i64 (ak zs (8+2*(k:Int)) 2))) w.heap.size Iz 50/\Below w.heap.size w (w2.setCell ⟨g1,3+k,none⟩ (.int .i64 (ak zs (8+2*(k:Int)) 2)))):=fun w2 hb =>
    ⟨(hV.out.call hb).ino hlt,(hZ.out.call hb).other _ _ (by have:=hg.out;simp;omega),(bF hB.out hb (Nat.le_refl _)).setCell (by have:=hg.out;simp;omega) _⟩
   have HC:Hid (∀ w2,Below wr.heap.size wr w2->(∃ v,w2.cell? ⟨g1,3+k,none⟩=some (.int .i64 v))/\∀ i,w2.frozen? ⟨g1,i,none⟩=false):=fun w2 hb =>
    ⟨⟨_,(hV.out.call hb).cell (3+k) _ (ajH _ _ (by omega))⟩,(hV.out.call hb).free⟩
   rcases eight hlt with rfl | rfl | rfl | rfl | rfl | rfl | rfl | rfl
   all_goals
    go_wp2_with fail
    go_at_call 186
    refine(ah KG _ _ _ (by omega) hB.out).mono ?_
    rintro e w2 ⟨rfl,hb⟩
    obtain⟨⟨v,hc⟩,hz⟩:=HC.out w2 hb
    obtain⟨x1,x2,x3⟩:=HX.out w2 hb
    have X1:=hide x1
    have X2:=hide x2
    have X3:=hide x3
    clear hb HC HX x1 x2 x3 hV hZ hB
    go_wp2_with fail
    exact⟨⟨_,by decide,rfl,X1,X2,X3⟩,by simp[intOf]⟩
  ·obtain rfl:k=8:=by omega
   have HZ:=hide hZ.out
   have HB:=hide hB.out
   generalize hX:fB zs 8=X at *
   have HX:=hide hX
   clear hX
   have v0:=hV.out.cell 0 _ rfl
   have v1:=hV.out.cell 1 _ rfl
   have v2:=hV.out.cell 2 _ rfl
   have v3:=hV.out.cell 3 _ rfl
   have v4:=hV.out.cell 4 _ rfl
   have v5:=hV.out.cell 5 _ rfl
   have v6:=hV.out.cell 6 _ rfl
   have v7:=hV.out.cell 7 _ rfl
   have v8:=hV.out.cell 8 _ rfl
   have v9:=hV.out.cell 9 _ rfl
   have v10:=hV.out.cell 10 _ rfl
   have v11:=hV.out.cell 11 _ rfl
   have v12:=hV.out.cell 12 _ rfl
   have z0:=HZ.out.cell 0 _ rfl
   have z1:=HZ.out.cell 1 _ rfl
   have z2:=HZ.out.cell 2 _ rfl
   have z3:=HZ.out.cell 3 _ rfl
   have z4:=HZ.out.cell 4 _ rfl
   have z5:=HZ.out.cell 5 _ rfl
   have z6:=HZ.out.cell 6 _ rfl
   have z7:=HZ.out.cell 7 _ rfl
   have z8:=HZ.out.cell 8 _ rfl
   have z9:=HZ.out.cell 9 _ rfl
   have z10:=HZ.out.cell 10 _ rfl
   have z11:=HZ.out.cell 11 _ rfl
   have z12:=HZ.out.cell 12 _ rfl
   have hz:=HZ.out.free
   clear KG
   go_wp2_with fail
   have hW:Below w.heap.size w (aI wr w.heap.size 0 [.int .i64 (X 0),.int .i64 (X 1),.int .i64 (X 2),.int .i64 (X 3),.int .i64 (X 4),.int .i64 (X 5),.int .i64 (X 6),.int .i64 (X 7),.int .i64 (X 8),.int .i64 (X 9),.int .i64 (X 10),.int .i64 (X 11),.int .i64 (X 12)]):=aW (Nat.le_refl _) _ _ _ _ HB.out
   have hA:Bl (aI wr w.heap.size 0 [.int .i64 (X 0),.int .i64 (X 1),.int .i64 (X 2),.int .i64 (X 3),.int .i64 (X 4),.int .i64 (X 5),.int .i64 (X 6),.int .i64 (X 7),.int .i64 (X 8),.int .i64 (X 9),.int .i64 (X 10),.int .i64 (X 11),.int .i64 (X 12)]) w.heap.size #[.int .i64 (X 0),.int .i64 (X 1),.int .i64 (X 2),.int .i64 (X 3),.int .i64 (X 4),.int .i64 (X 5),.int .i64 (X 6),.int .i64 (X 7),.int .i64 (X 8),.int .i64 (X 9),.int .i64 (X 10),.int .i64 (X 11),.int .i64 (X 12)] 50:=aU [.int .i64 (X 0),.int .i64 (X 1),.int .i64 (X 2),.int .i64 (X 3),.int .i64 (X 4),.int .i64 (X 5),.int .i64 (X 6),.int .i64 (X 7),.int .i64 (X 8),.int .i64 (X 9),.int .i64 (X 10),.int .i64 (X 11),.int .i64 (X 12)] _ _ HZ.out rfl
   change bodyPost _ _ _ _ _ (aI wr w.heap.size 0 [.int .i64 (X 0),.int .i64 (X 1),.int .i64 (X 2),.int .i64 (X 3),.int .i64 (X 4),.int .i64 (X 5),.int .i64 (X 6),.int .i64 (X 7),.int .i64 (X 8),.int .i64 (X 9),.int .i64 (X 10),.int .i64 (X 11),.int .i64 (X 12)])
   generalize aI wr w.heap.size 0 [.int .i64 (X 0),.int .i64 (X 1),.int .i64 (X 2),.int .i64 (X 3),.int .i64 (X 4),.int .i64 (X 5),.int .i64 (X 6),.int .i64 (X 7),.int .i64 (X 8),.int .i64 (X 9),.int .i64 (X 10),.int .i64 (X 11),.int .i64 (X 12)]=wf at *
   refine bodyPost_ret (v:=Iv X) ?_ rfl ⟨by first | rfl | rw[HX.out],hW⟩
   simp[results,Tryz.results129,go_sem,hA.cell 0 _ rfl,hA.cell 1 _ rfl,hA.cell 2 _ rfl,hA.cell 3 _ rfl,hA.cell 4 _ rfl,hA.cell 5 _ rfl,hA.cell 6 _ rfl,hA.cell 7 _ rfl,hA.cell 8 _ rfl,hA.cell 9 _ rfl,hA.cell 10 _ rfl,hA.cell 11 _ rfl,hA.cell 12 _ rfl]
def acC (n0 n:Nat) (xs:List Int) (v:Value) (w:World):Prop:=∃ g,v=.slice (some ⟨g,0,none⟩) n n/\n0<=g/\Has w (some ⟨g,0,none⟩) n xs
theorem afK (n0 n:Nat)(xs:List Int):ahp n0 (acC n0 n xs):=fun _ _ _ ⟨g,e,hn,h⟩ hg=>⟨g,e,hn,h.grw hg⟩
theorem akY {x y z:Int}(h:jR 2 [x,y,z]=true):jR 2 [x]=true:=by
 rw[bT] at h ⊢
 exact fun v hv=>h v (by simp at hv ⊢;exact .inl hv)
theorem akX {x y z:Int}(h:jR 2 [x,y,z]=true):jR 2 [y,z]=true:=by
 rw[bT] at h ⊢
 exact fun v hv=>h v (by simp at hv ⊢;exact .inr hv)
theorem afV {k:Int}(h:oH k=true):jR 1 [k,0]=true:=by
 rw[bT]
 intro v hv
 simp[oH] at h
 simp at hv
 omega
theorem vU (X:Nat->Int)(w:World)(hk:oH (X 0)=true)(h0:(X 0==0)=false)(h4:jR 4 [X 2]=true)(h2:jR 2 [X 1,X 11,X 12]=true)(h8:jR 2 (iJ X)=true) :
  Calls Tryz.prog 56 #[Iv X] w fun e w'=>∃ k,e=.returned (.tuple #[.slice (some ⟨k,0,none⟩) 32 32,.int .i64 0])/\Hid (Has w' (some ⟨k,0,none⟩) 32 (bW 32 (dG X))/\w.heap.size<=k)/\Below w.heap.size w w':=by
 have HK:=hide (Bx.start w (Ic X) 50)
 have KK:Hid (∀ u,Calls Tryz.prog 114 #[.int .i64 (X 0)] u fun e w'=>e=.returned (.bool true)/\Below u.heap.size u w'):=fun u=>(aby (X 0) u).mono fun e w' ⟨h1,h2⟩=>⟨by rw[h1,hk],h2 ▸ Below.refl _ _⟩
 have F4:Hid (∀ u:World,Calls Tryz.prog 115 #[.int .i64 4,.slice (some ⟨u.heap.size,0,none⟩) 1 1] (u.alloc (zI (X 2))) fun e w'=>e=.returned (.bool true)/\Below u.heap.size u w') :=
  fun u=>adZ 4 (.inr rfl) [X 2] u (by simp) _ h4
 have F2:Hid (∀ u:World,Calls Tryz.prog 115 #[.int .i64 2,.slice (some ⟨u.heap.size,0,none⟩) 3 3] (u.alloc (.cells #[.int .i64 (X 1),.int .i64 (X 11),.int .i64 (X 12)] 3)) fun e w'=>e=.returned (.bool true)/\Below u.heap.size u w') :=
  fun u=>adZ 2 (.inl rfl) [X 1,X 11,X 12] u (by simp) _ h2
 have F8:Hid (∀ u:World,Bx w (Ic X) u->Calls Tryz.prog 115 #[.int .i64 2,.slice (some ⟨w.heap.size,3,none⟩) 8 8] u fun e w'=>e=.returned (.bool true)/\u=w') :=
  fun u hB=>ags hB _ h8
 have HH:=hide hk
 have H4:=hide h4
 have H2:=hide h2
 have H8:=hide h8
 clear hk h4 h2 h8
 go_enter Tryz.func56,Tryz.ntmps56
 go_wp2_with fail
 go_at_call 114
 refine(ah KK _).mono ?_
 rintro e w1 ⟨rfl,hb⟩
 replace HK:=hide ((ah HK).call hb)
 clear KK hb
 have f0:=HK.out.1 0 _ rfl
 have f2:=HK.out.1 2 _ rfl
 go_wp2_with fail
 go_at_call 115
 refine(ah F4 _).mono ?_
 rintro e w2 ⟨rfl,hb⟩
 replace HK:=hide ((ah HK).call hb)
 clear hb F4 f0 f2
 have f1:=HK.out.1 1 _ rfl
 have f11:=HK.out.1 11 _ rfl
 have f12:=HK.out.1 12 _ rfl
 go_wp2_with fail
 go_at_call 115
 refine(ah F2 _).mono ?_
 rintro e w3 ⟨rfl,hb⟩
 replace HK:=hide ((ah HK).call hb)
 clear hb F2 f1 f11 f12
 go_wp2_with fail
 go_at_call 115
 refine(ah F8 _ HK.out).mono ?_
 rintro e w' ⟨rfl,rfl⟩
 clear F8
 go_upto_region 5 with fail
 go_cut [2,3] (fun c q wx=>∃ k0,c=.slice (some ⟨k0,0,none⟩) 32 32/\q=.int .i64 0/\Hid (Has wx (some ⟨k0,0,none⟩) 32 (bW 32 (dG X))/\w.heap.size<=k0)/\Hid (Bx w (Ic X) wx))
 case first =>
  refine lN (by kernel_rfl) w.heap.size [iq (.pointer (some ⟨w.heap.size,0,none⟩)),iq (.int .i64 (X 0)),fE [X 0,0],bg 2 (aQ 1 [X 0,0]),iq (.pointer (some ⟨w.heap.size,1,none⟩)),iq (.int .i64 (X 1)),fE [X 1],bg 2 (aQ 2 [X 1]),iq (.pointer (some ⟨w.heap.size,2,none⟩)),iq (.int .i64 (X 2)),fE [X 2],bg 4 (aQ 4 [X 2]),iq (.pointer (some ⟨w.heap.size,3,none⟩)),fE (iJ X),bg 16 (aQ 2 (iJ X)),iq (.pointer (some ⟨w.heap.size,11,none⟩)),iq (.int .i64 (X 11)),iq (.pointer (some ⟨w.heap.size,12,none⟩)),iq (.int .i64 (X 12)),fE [X 11,X 12],bg 4 (aQ 2 [X 11,X 12]),l9 5 (dG X),acC w.heap.size 32 (bW 32 (dG X)),acC w.heap.size 32 (bW 32 (dG X)),iq (.int .i64 0)] ?_ (by kernel_rfl) (by kernel_rfl) ?_ ?_
  ·intro S hS
   simp only[List.mem_cons,List.not_mem_nil,or_false] at hS
   rcases hS with rfl | rfl | rfl | rfl | rfl | rfl | rfl | rfl | rfl | rfl | rfl | rfl | rfl | rfl | rfl | rfl | rfl | rfl | rfl | rfl | rfl | rfl | rfl | rfl | rfl<;>first | exact aak _ _ | exact qF _ _ _ | exact afK _ _ _ | exact sH _ _ | exact vJ _ _ | exact qE _ _ _
  ·intro i o a u hi hF hA hG
   have hB:=HK.out.drew.grw hG
   have hn:w.heap.size<=u.heap.size:=hB.2.1.size
   have tb:a.tmps[1]?.getD undef=.pointer (some ⟨w.heap.size,0,none⟩):=qh hF 1 (by kernel_rfl)
   have hlt:=(Array.getElem?_eq_some_iff.1 hi).1
   have hcs:i=0\/i=1\/i=2\/i=3\/i=4\/i=5\/i=6\/i=7\/i=8\/i=9\/i=10\/i=11\/i=12\/i=13\/i=14\/i=15\/i=16\/i=17\/i=18\/i=19\/i=20\/i=21\/i=22\/i=23\/i=24:=by simp at hlt;omega
   clear hlt
   rcases hcs with rfl | rfl | rfl | rfl | rfl | rfl | rfl | rfl | rfl | rfl | rfl | rfl | rfl | rfl | rfl | rfl | rfl | rfl | rfl | rfl | rfl | rfl | rfl | rfl | rfl
   ·have ho:=Option.some.inj hi;subst ho
    have h0:=tb
    refine aX (w':=u) rfl rfl (.pointer (some ⟨w.heap.size,0,none⟩)) ?_ rfl (Grw.refl _ _)
    simp[execOp,Act.eval,h0,go_sem]
   ·have ho:=Option.some.inj hi;subst ho
    have h0:a.tmps[40]?.getD undef=.pointer (some ⟨w.heap.size,0,none⟩):=ay hA 0 40 (by kernel_rfl) rfl
    have f0:=hB.1 0 _ rfl
    refine aX (w':=u) rfl rfl (.int .i64 (X 0)) ?_ rfl (Grw.refl _ _)
    simp[execOp,Act.eval,h0,f0,go_sem]
   ·have ho:=Option.some.inj hi;subst ho
    have h0:a.tmps[41]?.getD undef=.int .i64 (X 0):=ay hA 1 41 (by kernel_rfl) rfl
    refine aX (w':=u.alloc (.cells ([X 0,0].map (Value.int .i64)).toArray 3)) rfl rfl (.slice (some ⟨u.heap.size,0,none⟩) 2 2) ?_ ⟨_,_,rfl,dQ u [X 0,0]⟩ (Grw.alloc _ _ _ hn)
    simp[execOp,Act.eval,h0,go_sem]
   ·have ho:=Option.some.inj hi;subst ho
    have h0:fE [X 0,0] (a.tmps[42]?.getD undef) u:=ay hA 2 42 (by kernel_rfl) rfl
    refine ig rfl rfl 117 #[.int .i64 (1:Nat),a.tmps[42]?.getD undef] ?_ hn (dY 1 (.inl rfl) [X 0,0] _ u h0 (by first | (simp;done) | simp[iJ]) (afV HH.out) 2 rfl)
    simp[execOp,Act.eval,go_sem]
   ·have ho:=Option.some.inj hi;subst ho
    have h0:=tb
    refine aX (w':=u) rfl rfl (.pointer (some ⟨w.heap.size,1,none⟩)) ?_ rfl (Grw.refl _ _)
    simp[execOp,Act.eval,h0,go_sem]
   ·have ho:=Option.some.inj hi;subst ho
    have h0:a.tmps[44]?.getD undef=.pointer (some ⟨w.heap.size,1,none⟩):=ay hA 4 44 (by kernel_rfl) rfl
    have f0:=hB.1 1 _ rfl
    refine aX (w':=u) rfl rfl (.int .i64 (X 1)) ?_ rfl (Grw.refl _ _)
    simp[execOp,Act.eval,h0,f0,go_sem]
   ·have ho:=Option.some.inj hi;subst ho
    have h0:a.tmps[45]?.getD undef=.int .i64 (X 1):=ay hA 5 45 (by kernel_rfl) rfl
    refine aX (w':=u.alloc (.cells ([X 1].map (Value.int .i64)).toArray 3)) rfl rfl (.slice (some ⟨u.heap.size,0,none⟩) 1 1) ?_ ⟨_,_,rfl,dQ u [X 1]⟩ (Grw.alloc _ _ _ hn)
    simp[execOp,Act.eval,h0,go_sem]
   ·have ho:=Option.some.inj hi;subst ho
    have h0:fE [X 1] (a.tmps[46]?.getD undef) u:=ay hA 6 46 (by kernel_rfl) rfl
    refine ig rfl rfl 117 #[.int .i64 (2:Nat),a.tmps[46]?.getD undef] ?_ hn (dY 2 (.inr (.inl rfl)) [X 1] _ u h0 (by first | (simp;done) | simp[iJ]) (akY H2.out) 2 rfl)
    simp[execOp,Act.eval,go_sem]
   ·have ho:=Option.some.inj hi;subst ho
    have h0:=tb
    refine aX (w':=u) rfl rfl (.pointer (some ⟨w.heap.size,2,none⟩)) ?_ rfl (Grw.refl _ _)
    simp[execOp,Act.eval,h0,go_sem]
   ·have ho:=Option.some.inj hi;subst ho
    have h0:a.tmps[48]?.getD undef=.pointer (some ⟨w.heap.size,2,none⟩):=ay hA 8 48 (by kernel_rfl) rfl
    have f0:=hB.1 2 _ rfl
    refine aX (w':=u) rfl rfl (.int .i64 (X 2)) ?_ rfl (Grw.refl _ _)
    simp[execOp,Act.eval,h0,f0,go_sem]
   ·have ho:=Option.some.inj hi;subst ho
    have h0:a.tmps[49]?.getD undef=.int .i64 (X 2):=ay hA 9 49 (by kernel_rfl) rfl
    refine aX (w':=u.alloc (.cells ([X 2].map (Value.int .i64)).toArray 3)) rfl rfl (.slice (some ⟨u.heap.size,0,none⟩) 1 1) ?_ ⟨_,_,rfl,dQ u [X 2]⟩ (Grw.alloc _ _ _ hn)
    simp[execOp,Act.eval,h0,go_sem]
   ·have ho:=Option.some.inj hi;subst ho
    have h0:fE [X 2] (a.tmps[50]?.getD undef) u:=ay hA 10 50 (by kernel_rfl) rfl
    refine ig rfl rfl 117 #[.int .i64 (4:Nat),a.tmps[50]?.getD undef] ?_ hn (dY 4 (.inr (.inr rfl)) [X 2] _ u h0 (by first | (simp;done) | simp[iJ]) H4.out 4 rfl)
    simp[execOp,Act.eval,go_sem]
   ·have ho:=Option.some.inj hi;subst ho
    have h0:=tb
    refine aX (w':=u) rfl rfl (.pointer (some ⟨w.heap.size,3,none⟩)) ?_ rfl (Grw.refl _ _)
    simp[execOp,Act.eval,h0,go_sem]
   ·have ho:=Option.some.inj hi;subst ho
    have h0:a.tmps[52]?.getD undef=.pointer (some ⟨w.heap.size,3,none⟩):=ay hA 12 52 (by kernel_rfl) rfl
    refine aX (w':=u) rfl rfl (.slice (some ⟨w.heap.size,3,none⟩) 8 8) ?_ ⟨_,_,rfl,aa1 hB⟩ (Grw.refl _ _)
    simp[execOp,Act.eval,h0,go_sem]
   ·have ho:=Option.some.inj hi;subst ho
    have h0:fE (iJ X) (a.tmps[53]?.getD undef) u:=ay hA 13 53 (by kernel_rfl) rfl
    refine ig rfl rfl 117 #[.int .i64 (2:Nat),a.tmps[53]?.getD undef] ?_ hn (dY 2 (.inr (.inl rfl)) (iJ X) _ u h0 (by first | (simp;done) | simp[iJ]) H8.out 16 rfl)
    simp[execOp,Act.eval,go_sem]
   ·have ho:=Option.some.inj hi;subst ho
    have h0:=tb
    refine aX (w':=u) rfl rfl (.pointer (some ⟨w.heap.size,11,none⟩)) ?_ rfl (Grw.refl _ _)
    simp[execOp,Act.eval,h0,go_sem]
   ·have ho:=Option.some.inj hi;subst ho
    have h0:a.tmps[55]?.getD undef=.pointer (some ⟨w.heap.size,11,none⟩):=ay hA 15 55 (by kernel_rfl) rfl
    have f0:=hB.1 11 _ rfl
    refine aX (w':=u) rfl rfl (.int .i64 (X 11)) ?_ rfl (Grw.refl _ _)
    simp[execOp,Act.eval,h0,f0,go_sem]
   ·have ho:=Option.some.inj hi;subst ho
    have h0:=tb
    refine aX (w':=u) rfl rfl (.pointer (some ⟨w.heap.size,12,none⟩)) ?_ rfl (Grw.refl _ _)
    simp[execOp,Act.eval,h0,go_sem]
   ·have ho:=Option.some.inj hi;subst ho
    have h0:a.tmps[57]?.getD undef=.pointer (some ⟨w.heap.size,12,none⟩):=ay hA 17 57 (by kernel_rfl) rfl
    have f0:=hB.1 12 _ rfl
    refine aX (w':=u) rfl rfl (.int .i64 (X 12)) ?_ rfl (Grw.refl _ _)
    simp[execOp,Act.eval,h0,f0,go_sem]
   ·have ho:=Option.some.inj hi;subst ho
    have h0:a.tmps[56]?.getD undef=.int .i64 (X 11):=ay hA 16 56 (by kernel_rfl) rfl
    have h1:a.tmps[58]?.getD undef=.int .i64 (X 12):=ay hA 18 58 (by kernel_rfl) rfl
    refine aX (w':=u.alloc (.cells ([X 11,X 12].map (Value.int .i64)).toArray 3)) rfl rfl (.slice (some ⟨u.heap.size,0,none⟩) 2 2) ?_ ⟨_,_,rfl,dQ u [X 11,X 12]⟩ (Grw.alloc _ _ _ hn)
    simp[execOp,Act.eval,h0,h1,go_sem]
   ·have ho:=Option.some.inj hi;subst ho
    have h0:fE [X 11,X 12] (a.tmps[59]?.getD undef) u:=ay hA 19 59 (by kernel_rfl) rfl
    refine ig rfl rfl 117 #[.int .i64 (2:Nat),a.tmps[59]?.getD undef] ?_ hn (dY 2 (.inr (.inl rfl)) [X 11,X 12] _ u h0 (by first | (simp;done) | simp[iJ]) (akX H2.out) 4 rfl)
    simp[execOp,Act.eval,go_sem]
   ·have ho:=Option.some.inj hi;subst ho
    obtain⟨p0,c0,e0,b0,_,_⟩:bg 2 (aQ 1 [X 0,0]) (a.tmps[43]?.getD undef) u:=ay hA 3 43 (by kernel_rfl) rfl
    obtain⟨p1,c1,e1,b1,_,_⟩:bg 2 (aQ 2 [X 1]) (a.tmps[47]?.getD undef) u:=ay hA 7 47 (by kernel_rfl) rfl
    obtain⟨p2,c2,e2,b2,_,_⟩:bg 4 (aQ 4 [X 2]) (a.tmps[51]?.getD undef) u:=ay hA 11 51 (by kernel_rfl) rfl
    obtain⟨p3,c3,e3,b3,_,_⟩:bg 16 (aQ 2 (iJ X)) (a.tmps[54]?.getD undef) u:=ay hA 14 54 (by kernel_rfl) rfl
    obtain⟨p4,c4,e4,b4,_,_⟩:bg 4 (aQ 2 [X 11,X 12]) (a.tmps[60]?.getD undef) u:=ay hA 20 60 (by kernel_rfl) rfl
    have hp:=nX u [(p0,2,c0,(aQ 1 [X 0,0])),(p1,2,c1,(aQ 2 [X 1])),(p2,4,c2,(aQ 4 [X 2])),(p3,16,c3,(aQ 2 (iJ X))),(p4,4,c4,(aQ 2 [X 11,X 12]))] (by
     intro p hp
     simp only[List.mem_cons,List.not_mem_nil,or_false] at hp
     rcases hp with rfl | rfl | rfl | rfl | rfl
     ·exact b0
     ·exact b1
     ·exact b2
     ·exact b3
     ·exact b4)
    refine aX (w':=u.alloc (.cells ([(p0,2,c0,(aQ 1 [X 0,0])),(p1,2,c1,(aQ 2 [X 1])),(p2,4,c2,(aQ 4 [X 2])),(p3,16,c3,(aQ 2 (iJ X))),(p4,4,c4,(aQ 2 [X 11,X 12]))].map pv).toArray 62)) rfl rfl (.slice (some ⟨u.heap.size,0,none⟩) 5 5) ?_ ⟨_,_,_,rfl,hp,by simp[mZ,dG]⟩ (Grw.alloc _ _ _ hn)
    simp[execOp,Act.eval,e0,e1,e2,e3,e4,go_sem]
    all_goals rfl
   ·have ho:=Option.some.inj hi;subst ho
    have h0:l9 5 (dG X) (a.tmps[61]?.getD undef) u:=ay hA 21 61 (by kernel_rfl) rfl
    refine ig rfl rfl 116 #[.int .i64 ((32:Nat):Int),a.tmps[61]?.getD undef] ?_ hn ((ahc (32) 5 (dG X) _ u h0 (by omega) (by rw[iH];omega) (by omega) (vV X)).mono fun e w' ⟨v,e1,⟨_,gg,h1,h3,h4⟩,h2⟩=>⟨v,e1,⟨gg,h1,Nat.le_trans hn h3,h4.has (by rw[eG (by rw[iH];omega)])⟩,h2⟩)
    simp[execOp,Act.eval,go_sem]
   ·have ho:=Option.some.inj hi;subst ho
    have h0:acC w.heap.size 32 (bW 32 (dG X)) (a.tmps[62]?.getD undef) u:=ay hA 22 62 (by kernel_rfl) rfl
    refine aX (w':=u) rfl rfl (a.tmps[62]?.getD undef) ?_ h0 (Grw.refl _ _)
    simp[execOp,Act.eval,go_sem]
   ·have ho:=Option.some.inj hi;subst ho
    refine aX (w':=u) rfl rfl (.int .i64 0) ?_ rfl (Grw.refl _ _)
    simp[execOp,Act.eval,go_sem]
  ·intro a u hF hR hG
   have q0:=qh hF 0 (by kernel_rfl)
   have q1:=qh hF 1 (by kernel_rfl)
   obtain⟨r0,r2,r1,r3⟩:acC w.heap.size 32 (bW 32 (dG X)) (a.tmps[2]?.getD undef) u:=by have:=hR 23 _ 2 rfl rfl;rwa [Array.getD_eq_getD_getElem?] at this
   obtain p3:a.tmps[3]?.getD undef=(.int .i64 0):=by have:=hR 24 _ 3 rfl rfl;rwa [Array.getD_eq_getD_getElem?] at this
   have hB:=HK.out.drew.grw hG
   obtain⟨tm,df⟩:=a
   obtain⟨hs,hdf,_⟩:=hF
   have hs':tm.size=63:=hs
   have akR:df=[]:=hdf
   subst akR
   have he:tm=#[tm[0]?.getD undef,tm[1]?.getD undef,tm[2]?.getD undef,tm[3]?.getD undef,tm[4]?.getD undef,tm[5]?.getD undef,tm[6]?.getD undef,tm[7]?.getD undef,tm[8]?.getD undef,tm[9]?.getD undef,tm[10]?.getD undef,tm[11]?.getD undef,tm[12]?.getD undef,tm[13]?.getD undef,tm[14]?.getD undef,tm[15]?.getD undef,tm[16]?.getD undef,tm[17]?.getD undef,tm[18]?.getD undef,tm[19]?.getD undef,tm[20]?.getD undef,tm[21]?.getD undef,tm[22]?.getD undef,tm[23]?.getD undef,tm[24]?.getD undef,tm[25]?.getD undef,tm[26]?.getD undef,tm[27]?.getD undef,tm[28]?.getD undef,tm[29]?.getD undef,tm[30]?.getD undef,tm[31]?.getD undef,tm[32]?.getD undef,tm[33]?.getD undef,tm[34]?.getD undef,tm[35]?.getD undef,tm[36]?.getD undef,tm[37]?.getD undef,tm[38]?.getD undef,tm[39]?.getD undef,tm[40]?.getD undef,tm[41]?.getD undef,tm[42]?.getD undef,tm[43]?.getD undef,tm[44]?.getD undef,tm[45]?.getD undef,tm[46]?.getD undef,tm[47]?.getD undef,tm[48]?.getD undef,tm[49]?.getD undef,tm[50]?.getD undef,tm[51]?.getD undef,tm[52]?.getD undef,tm[53]?.getD undef,tm[54]?.getD undef,tm[55]?.getD undef,tm[56]?.getD undef,tm[57]?.getD undef,tm[58]?.getD undef,tm[59]?.getD undef,tm[60]?.getD undef,tm[61]?.getD undef,tm[62]?.getD undef]:=acw tm 63 hs'
   simp at q0
   simp at q1
   rw[he]
   simp only[q0,q1,r2,p3]
   clear he hR hG hs hs' hdf q0 q1 r2 p3
   go_wp2_with fail
   go_meet
   exact⟨r0,rfl,rfl,⟨r3,r1⟩,hB⟩
 case rest =>
  obtain⟨k0,rfl,rfl,hh,hB⟩:=hcut
  clear HK
  go_wp2_with fail
  go_ret2
  exact⟨k0,rfl,hh,hB.out.2.1⟩
theorem acv (X:Nat->Int)(q:Int)(a:Option Addr)(len cap:Nat)(w:World)(K:Hid (∀ u,Below w.heap.size w u->Calls Tryz.prog 128 #[.slice a len cap,.func (.func 129) #[] #[],.func (.func 56) #[] #[]] u fun e w'=>e=.returned (.tuple #[Iv X,.int .i64 q])/\Below u.heap.size u w')) :
  Calls Tryz.prog 63 #[.slice a len cap] w fun e w'=>e=.returned (.tuple #[Iv X,.int .i64 q])/\Below w.heap.size w w':=by
 have HZ:=hide (Bl.new w Iz 50)
 have HB:=hide ((Below.refl _ w).alloc (Nat.le_refl _) (.cells Iz 50))
 go_enter Tryz.func63,Tryz.ntmps63
 go_wp2_with fail
 go_at_call 128
 refine(ah K _ HB.out).mono ?_
 rintro e w1 ⟨rfl,hb⟩
 replace HB:=hide (bF HB.out hb (Nat.le_refl _))
 replace HZ:=hide (HZ.out.call hb)
 clear hb K
 have z0:=HZ.out.cell 0 _ rfl
 have z1:=HZ.out.cell 1 _ rfl
 have z2:=HZ.out.cell 2 _ rfl
 have z3:=HZ.out.cell 3 _ rfl
 have z4:=HZ.out.cell 4 _ rfl
 have z5:=HZ.out.cell 5 _ rfl
 have z6:=HZ.out.cell 6 _ rfl
 have z7:=HZ.out.cell 7 _ rfl
 have z8:=HZ.out.cell 8 _ rfl
 have z9:=HZ.out.cell 9 _ rfl
 have z10:=HZ.out.cell 10 _ rfl
 have z11:=HZ.out.cell 11 _ rfl
 have z12:=HZ.out.cell 12 _ rfl
 have hz:=HZ.out.free
 go_wp2_with fail
 have hW:Below w.heap.size w (aI w1 w.heap.size 0 [.int .i64 (X 0),.int .i64 (X 1),.int .i64 (X 2),.int .i64 (X 3),.int .i64 (X 4),.int .i64 (X 5),.int .i64 (X 6),.int .i64 (X 7),.int .i64 (X 8),.int .i64 (X 9),.int .i64 (X 10),.int .i64 (X 11),.int .i64 (X 12)]):=aW (Nat.le_refl _) _ _ _ _ HB.out
 have hA:Bl (aI w1 w.heap.size 0 [.int .i64 (X 0),.int .i64 (X 1),.int .i64 (X 2),.int .i64 (X 3),.int .i64 (X 4),.int .i64 (X 5),.int .i64 (X 6),.int .i64 (X 7),.int .i64 (X 8),.int .i64 (X 9),.int .i64 (X 10),.int .i64 (X 11),.int .i64 (X 12)]) w.heap.size #[.int .i64 (X 0),.int .i64 (X 1),.int .i64 (X 2),.int .i64 (X 3),.int .i64 (X 4),.int .i64 (X 5),.int .i64 (X 6),.int .i64 (X 7),.int .i64 (X 8),.int .i64 (X 9),.int .i64 (X 10),.int .i64 (X 11),.int .i64 (X 12)] 50:=aU [.int .i64 (X 0),.int .i64 (X 1),.int .i64 (X 2),.int .i64 (X 3),.int .i64 (X 4),.int .i64 (X 5),.int .i64 (X 6),.int .i64 (X 7),.int .i64 (X 8),.int .i64 (X 9),.int .i64 (X 10),.int .i64 (X 11),.int .i64 (X 12)] _ _ HZ.out rfl
 change bodyPost _ _ _ _ _ (aI w1 w.heap.size 0 [.int .i64 (X 0),.int .i64 (X 1),.int .i64 (X 2),.int .i64 (X 3),.int .i64 (X 4),.int .i64 (X 5),.int .i64 (X 6),.int .i64 (X 7),.int .i64 (X 8),.int .i64 (X 9),.int .i64 (X 10),.int .i64 (X 11),.int .i64 (X 12)])
 generalize aI w1 w.heap.size 0 [.int .i64 (X 0),.int .i64 (X 1),.int .i64 (X 2),.int .i64 (X 3),.int .i64 (X 4),.int .i64 (X 5),.int .i64 (X 6),.int .i64 (X 7),.int .i64 (X 8),.int .i64 (X 9),.int .i64 (X 10),.int .i64 (X 11),.int .i64 (X 12)]=wf at *
 refine bodyPost_ret (v:=.tuple #[Iv X,.int .i64 q]) ?_ rfl ⟨by first | rfl | rw[HX.out],hW⟩
 simp[results,Tryz.results63,go_sem,hA.cell 0 _ rfl,hA.cell 1 _ rfl,hA.cell 2 _ rfl,hA.cell 3 _ rfl,hA.cell 4 _ rfl,hA.cell 5 _ rfl,hA.cell 6 _ rfl,hA.cell 7 _ rfl,hA.cell 8 _ rfl,hA.cell 9 _ rfl,hA.cell 10 _ rfl,hA.cell 11 _ rfl,hA.cell 12 _ rfl]
def iQ (zs:List Int):Prop:=oK (bG zs)=false/\adE (bG zs)=true/\bW 32 (dG (bG zs))=zs/\(bG zs 0==0)=false
theorem akL (X:Nat->Int):∀ z∈bW 32 (dG X),0<=z/\z<=255:=oD _ _ (vV X)
theorem xB (a:Option Addr)(len cap:Nat)(zs:List Int)(w:World)(hr:Row w.heap.size w a len cap zs)(h:iQ zs) :
  Calls Tryz.prog 63 #[.slice a len cap] w fun e w'=>e=.returned (.tuple #[Iv (bG zs),.int .i64 0])/\Below w.heap.size w w':=by
 refine acv (bG zs) 0 a len cap w fun u hb=>?_
 have hru:=hr.below hb hb.size
 have hf:=h.2.1
 have hk:oH (bG zs 0)=true:=by
  have:=h.1
  unfold oK at this
  simp only[Bool.or_eq_false_iff,Bool.not_eq_false'] at this
  exact this.1
 unfold adE at hf
 simp only[Bool.and_eq_true] at hf
 obtain⟨⟨h4,h2⟩,h8⟩:=hf
 refine abd (bG zs) a len cap u zs zs hru.has hr.2.2.2.1 hr.2.2.2.1 (by simp) (fun u2 hb2=>rH a len cap zs u2 (hru.below hb2 hb2.size)) fun u2 hb2=>?_
 refine(vU (bG zs) u2 hk h.2.2.2 h4 h2 h8).mono ?_
 rintro e w' ⟨k,rfl,hh,hb⟩
 have h1:=hh.out.1
 rw[h.2.2.1] at h1
 exact⟨_,_,_,rfl,h1,hb⟩
def dN (zs:List Int):Nat:=if (zs.length:Int) / 2<ak zs 8 2 then zs.length / 2 else (ak zs 8 2).toNat
def ajX (zs:List Int):Prop:=alc (zs.length:Int) (ak zs 4 4) (ah6 zs (dN zs))=0/\ai0 zs.length (ak zs 4 4) (ah6 zs (dN zs))=zs
end Go.Proofs.YtbofhdfhhbgdgaaGreatDoor
