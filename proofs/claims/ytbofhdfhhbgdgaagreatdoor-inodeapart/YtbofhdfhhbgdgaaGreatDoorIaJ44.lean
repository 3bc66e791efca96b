/- Joined: IBlk, IWkA, ITree, IWkB. -/
import Derived.Test.YtbofhdfhhbgdgaaGreatDoorIaIList
import Derived.Lib.AppendZeros
import Derived.Deep.DeepCutAuto
import Derived.Deep.RegionHeld3
/- What Blocks does with a block of a file. -/
namespace Go.Proofs.YtbofhdfhhbgdgaaGreatDoor
set_option maxRecDepth 100000
set_option maxHeartbeats 8000000
open Go.RowKit Go.Shelf Go.Maps
set_option linter.unusedVariables false
theorem Two.later {w P G E g o rows i V F V' K u}{u':World}{dg pg ds ps}(h:Two w P G E g o rows i V F V' K dg pg ds ps u)(hb:Below u.heap.size u u'):Two w P G E g o rows i V F V' K dg pg ds ps u':=by
 obtain⟨da,dc,Rd,pa,pc,Rp,t,l⟩:=h
 exact⟨da,dc,Rd,pa,pc,Rp,t,l.later hb⟩
theorem Ir.ext {B}{ks ks':List (Nat×Obj)}{da dl dc ds R}(h:Ir B ks da dl dc ds R){n:Nat}(hR:∀ x∈R,x.1<n)(hk:∀ y∈ks',y∈ks\/n<=y.1):Ir B ks' da dl dc ds R:=by
 refine h.sub (fun q ob hm y hy=>?_)
 rcases hk y hy with e | e
 ·obtain⟨_,_,_,h4⟩:=h
  rcases h4 with ⟨_,_,_,e4⟩ | ⟨q',cur,_,_,e4,_,_,e7⟩
  ·rw[e4] at hm;simp at hm
  ·rw[e4,List.mem_singleton] at hm
   cases hm
   exact e7 y e
 ·have:=hR _ hm
  simp only at this
  omega
theorem Two.push {w P G E g o rows i V F V' K u}{u':World}{dg pg ds ps}(h:Two w P G E g o rows i V F V' K dg pg ds ps u)(hb:Below u.heap.size u u'){k:Nat}{ob:Obj}(hk:u.heap.size<=k)(ho:u'.heap[k]?=some ob):Two w P G E g o ((k,ob)::rows) i V F V' K dg pg ds ps u':=by
 obtain⟨da,dc,Rd,pa,pc,Rp,t,l⟩:=h
 have hd:dg<u.heap.size:=l.lt (x:=(dg,.cells #[.slice da ds.length dc] 22)) (by simp)
 have hp:pg<u.heap.size:=l.lt (x:=(pg,.cells #[.slice pa ps.length pc] 22)) (by simp)
 refine⟨da,dc,Rd,pa,pc,Rp,⟨t.d.ext (n:=u.heap.size) (fun x hx=>l.lt (by simp[hx])) (fun y hy=>?_),t.p.ext (n:=u.heap.size) (fun x hx=>l.lt (by simp[hx])) (fun y hy=>?_),t.dp,fun y hy=>?_,fun y hy=>?_,t.bd,t.bp⟩,(l.push hb hk ho).sub (fun x hx=>?_)⟩
 ·simp only[List.mem_cons,List.mem_append] at hy ⊢
  rcases hy with e | e | e | e | e
  ·exact .inl (.inl e)
  ·exact .inl (.inr (.inl e))
  ·exact .inl (.inr (.inr (.inl e)))
  ·exact .inr (by rw[e];exact hk)
  ·exact .inl (.inr (.inr (.inr e)))
 ·simp only[List.mem_cons,List.mem_append] at hy ⊢
  rcases hy with e | e | e | e | e
  ·exact .inl (.inl e)
  ·exact .inl (.inr (.inl e))
  ·exact .inl (.inr (.inr (.inl e)))
  ·exact .inr (by rw[e];exact hk)
  ·exact .inl (.inr (.inr (.inr e)))
 ·rcases List.mem_cons.1 hy with e | e
  ·rw[e];simp only;omega
  ·exact t.rd y e
 ·rcases List.mem_cons.1 hy with e | e
  ·rw[e];simp only;omega
  ·exact t.rp y e
 ·simp only[List.mem_cons,List.mem_append] at hx ⊢
  rcases hx with e | e | e | e | e | e
  ·exact .inr (.inl e)
  ·exact .inr (.inr (.inl e))
  ·exact .inr (.inr (.inr (.inl e)))
  ·exact .inr (.inr (.inr (.inr (.inl e))))
  ·exact .inl e
  ·exact .inr (.inr (.inr (.inr (.inr e))))
theorem Two.new {w P G E g o rows i V F V' K u dg pg ds ps}(h:Two w P G E g o rows i V F V' K dg pg ds ps u)(ob:Obj):Two w P G E g o ((u.heap.size,ob)::rows) i V F V' K dg pg ds ps (u.alloc ob) :=
 h.push ((Below.refl _ _).alloc (Nat.le_refl _) _) (Nat.le_refl _) (World.alloc_heap_new u ob)
theorem Two.sub {w P G E g o rows i V F V' K u}{rows':List (Nat×Obj)}{dg pg ds ps}(h:Two w P G E g o rows i V F V' K dg pg ds ps u)(hr:∀ x∈rows',x∈rows):Two w P G E g o rows' i V F V' K dg pg ds ps u:=by
 obtain⟨da,dc,Rd,pa,pc,Rp,t,l⟩:=h
 refine⟨da,dc,Rd,pa,pc,Rp,⟨t.d.ext (n:=u.heap.size) (fun x hx=>l.lt (by simp[hx])) (fun y hy=>?_),t.p.ext (n:=u.heap.size) (fun x hx=>l.lt (by simp[hx])) (fun y hy=>?_),t.dp,fun y hy=>t.rd y (hr y hy),fun y hy=>t.rp y (hr y hy),t.bd,t.bp⟩,l.sub (fun x hx=>?_)⟩
 ·simp only[List.mem_cons,List.mem_append] at hy ⊢
  rcases hy with e | e | e | e
  ·exact .inl (.inl e)
  ·exact .inl (.inr (.inl e))
  ·exact .inl (.inr (.inr (.inl e)))
  ·exact .inl (.inr (.inr (.inr (hr y e))))
 ·simp only[List.mem_cons,List.mem_append] at hy ⊢
  rcases hy with e | e | e | e
  ·exact .inl (.inl e)
  ·exact .inl (.inr (.inl e))
  ·exact .inl (.inr (.inr (.inl e)))
  ·exact .inl (.inr (.inr (.inr (hr y e))))
 ·simp only[List.mem_cons,List.mem_append] at hx ⊢
  rcases hx with e | e | e | e | e
  ·exact .inl e
  ·exact .inr (.inl e)
  ·exact .inr (.inr (.inl e))
  ·exact .inr (.inr (.inr (.inl e)))
  ·exact .inr (.inr (.inr (.inr (hr x e))))
theorem Two.pop {w P G E g o}{rows:List (Nat×Obj)}{i V F V' K u}{x:Nat×Obj}{dg pg ds ps}(h:Two w P G E g o (x::rows) i V F V' K dg pg ds ps u):Two w P G E g o rows i V F V' K dg pg ds ps u:=h.sub (fun y hy=>List.mem_cons_of_mem _ hy)
theorem Two.row {w P G E g o rows i V F V' K u dg pg ds ps}(h:Two w P G E g o rows i V F V' K dg pg ds ps u){x:Nat×Obj}(hx:x∈rows):u.heap[x.1]?=some x.2:=h.lp.row hx
theorem ag9 {w P G E g o rows i V F V' K u dg pg ds ps}(h:Two w P G E g o rows i V F V' K dg pg ds ps u)(h0:0<w.heap.size)(b:Int)(nm:Nat)(hn:ds.length<=nm)(hm:nm<=10000) :
  Calls Tryz.prog 48 #[.agg #[.int .i64 b,.int .i64 (nm:Int),.int .i64 1,.slice none 0 0],.pointer (some ⟨pg,0,none⟩),.pointer (some ⟨dg,0,none⟩)] u fun e u'=>e=.returned (.int .i64 0)/\Hid (Two w P G E g o rows i V F V' K dg pg (ds++List.replicate (nm - ds.length) 0++[b]) ps u'):=by
 obtain⟨L0,hL0⟩:∃ L0:Nat,L0=ds.length:=⟨_,rfl⟩
 obtain⟨kz,hkz⟩:∃ kz:Nat,kz=nm - L0:=⟨_,rfl⟩
 have H0:=hide (h.new (.cells #[.int .i64 b,.int .i64 (nm:Int),.int .i64 1,.slice none 0 0] 110))
 have BX:Hid (∀ ds' v,Two w P G E g o ((u.heap.size,(.cells #[.int .i64 b,.int .i64 (nm:Int),.int .i64 1,.slice none 0 0] 110))::rows) i V F V' K dg pg ds' ps v->Bl v u.heap.size #[.int .i64 b,.int .i64 (nm:Int),.int .i64 1,.slice none 0 0] 110):=fun ds' v hv=>hv.row (x:=(u.heap.size,(.cells #[.int .i64 b,.int .i64 (nm:Int),.int .i64 1,.slice none 0 0] 110))) (by simp)
 obtain⟨da,dc,a1,c1,u1,x1,r1,x2,x3,z1⟩:=(ah H0).zeros h0 kz (by omega)
 rw[← hL0] at x1 r1 x2 z1
 have hs:L0+kz=nm:=by omega
 rw[hs] at r1 z1
 have KO:Hid (∀ v,Two w P G E g o ((u.heap.size,(.cells #[.int .i64 b,.int .i64 (nm:Int),.int .i64 1,.slice none 0 0] 110))::rows) i V F V' K dg pg (ds++List.replicate kz 0) ps v->∃ da dc a' c' u',v.cell? ⟨dg,0,none⟩=some (.slice da nm dc)/\Hid (∀ ty,(Builtin.append_ #[22,22] ty #[.slice da nm dc,.slice (some ⟨v.heap.size,0,none⟩) 1 1]).run Tryz.prog (v.alloc (zI b))=.ok (.slice a' (nm+1) c') u')/\u'.cell? ⟨dg,0,none⟩=some (.slice da nm dc)/\u'.frozen? ⟨dg,0,none⟩=false/\Hid (Two w P G E g o ((u.heap.size,(.cells #[.int .i64 b,.int .i64 (nm:Int),.int .i64 1,.slice none 0 0] 110))::rows) i V F V' K dg pg (ds++List.replicate kz 0++[b]) ps (u'.setCell ⟨dg,0,none⟩ (.slice a' (nm+1) c')))):=fun v hv=>by
  have:=hv.one h0 b (by simp;omega)
  have e:(ds++List.replicate kz 0).length=nm:=by simp;omega
  rw[e] at this
  exact this
 have b0:=(ah BX _ _ (ah H0)).cell 0 _ rfl
 have b1:=(ah BX _ _ (ah H0)).cell 1 _ rfl
 have b2:=(ah BX _ _ (ah H0)).cell 2 _ rfl
 have hsub:(nm:Int) - (L0:Int)=(kz:Int):=by omega
 have B1':=hide (show (nm:Int)<=10000/\(L0:Int)<=10000 by omega)
 have HS:=hide hsub
 rw[← hL0,← hkz]
 clear h h0 hn hm hL0 hkz H0 hs hsub
 generalize ds++List.replicate kz 0++[b]=D2 at *
 generalize ds++List.replicate kz 0=D1 at *
 go_enter Tryz.func48,Tryz.ntmps48
 go_upto_region 1 with fail
 change Code.wp _ _ _ _ (u.alloc (.cells #[.int .i64 b,.int .i64 (nm:Int),.int .i64 1,.slice none 0 0] 110))
 generalize u.alloc (.cells #[.int .i64 b,.int .i64 (nm:Int),.int .i64 1,.slice none 0 0] 110)=w0 at *
 generalize u.heap.size=m at *
 obtain⟨q1,q2⟩:=ah B1'
 have hsub:=ah HS
 go_upto_region 4 with fail
 go_upto_region 5 with (at_builtin;refine Lib.wpList_append_run _ rfl _ _ _ _ rfl _ _ rfl rfl _ _ (ah r1 _) ?_;clear r1)
 change Code.wp _ _ _ _ (u1.setCell ⟨dg,0,none⟩ (.slice a1 nm c1))
 generalize u1.setCell ⟨dg,0,none⟩ (.slice a1 nm c1)=w1 at *
 have d0:=(ah BX _ _ (ah z1)).cell 0 _ rfl
 obtain⟨da2,dc2,a2,c2,u2,y1,r2,y2,y3,z2⟩:=ah KO w1 (ah z1)
 clear KO BX z1 x1 x2 x3 b0 b1 b2 q1 q2 hsub HS B1'
 go_upto_region 6 with (at_builtin;refine Lib.wpList_append_run _ rfl _ _ _ _ rfl _ _ rfl rfl _ _ (ah r2 _) ?_;clear r2)
 change Code.wp _ _ _ _ (u2.setCell ⟨dg,0,none⟩ (.slice a2 (nm+1) c2))
 generalize u2.setCell ⟨dg,0,none⟩ (.slice a2 (nm+1) c2)=w2 at *
 clear y1 y2 y3 d0
 go_wp2_with fail
 go_ret
 exact⟨rfl,hide (ah z2).pop⟩
theorem aez {w P G E g o rows i V F V' K u dg pg ds ps}(h:Two w P G E g o rows i V F V' K dg pg ds ps u)(h0:0<w.heap.size)(b sp:Int)(nm:Nat)(sa:Option Addr)(sl sc:Nat)(hsp:1<sp)(hl:ps.length<=10000) :
  Calls Tryz.prog 48 #[.agg #[.int .i64 b,.int .i64 (nm:Int),.int .i64 sp,.slice sa sl sc],.pointer (some ⟨pg,0,none⟩),.pointer (some ⟨dg,0,none⟩)] u fun e u'=>e=.returned (.int .i64 0)/\Hid (Two w P G E g o rows i V F V' K dg pg ds (ps++[b]) u'):=by
 obtain⟨L0,hL0⟩:∃ L0:Nat,L0=ps.length:=⟨_,rfl⟩
 have H0:=hide (h.new (.cells #[.int .i64 b,.int .i64 (nm:Int),.int .i64 sp,.slice sa sl sc] 110))
 have BX:=(ah H0).row (x:=(u.heap.size,(.cells #[.int .i64 b,.int .i64 (nm:Int),.int .i64 sp,.slice sa sl sc] 110))) (by simp)
 have BB:Bl (u.alloc (.cells #[.int .i64 b,.int .i64 (nm:Int),.int .i64 sp,.slice sa sl sc] 110)) u.heap.size #[.int .i64 b,.int .i64 (nm:Int),.int .i64 sp,.slice sa sl sc] 110:=BX
 obtain⟨pa,pc,a1,c1,u1,x1,r1,x2,x3,z1⟩:=(ah H0).swap.one h0 b (by omega)
 rw[← hL0] at x1 r1 x2 z1
 have b0:=BB.cell 0 _ rfl
 have b2:=BB.cell 2 _ rfl
 clear h h0 hl hL0 H0 BX BB
 generalize ps++[b]=P2 at *
 go_enter Tryz.func48,Tryz.ntmps48
 go_upto_region 1 with fail
 change Code.wp _ _ _ _ (u.alloc (.cells #[.int .i64 b,.int .i64 (nm:Int),.int .i64 sp,.slice sa sl sc] 110))
 generalize u.alloc (.cells #[.int .i64 b,.int .i64 (nm:Int),.int .i64 sp,.slice sa sl sc] 110)=w0 at *
 generalize u.heap.size=m at *
 go_upto_region 3 with (at_builtin;refine Lib.wpList_append_run _ rfl _ _ _ _ rfl _ _ rfl rfl _ _ (ah r1 _) ?_;clear r1)
 change Code.wp _ _ _ _ (u1.setCell ⟨pg,0,none⟩ (.slice a1 (L0+1) c1))
 generalize u1.setCell ⟨pg,0,none⟩ (.slice a1 (L0+1) c1)=w1 at *
 clear x1 x2 x3 b0 b2 hsp
 go_wp2_with fail
 go_ret
 exact⟨rfl,hide (ah z1).swap.pop⟩
structure Wk (rows:List (Nat×Obj)) (P:Nat->Int) (o tb a dg pg k3 k4 k5 k6 k7 k8:Nat):Prop where
 r3:(k3,zI 0)∈rows
 r4:(k4,.cells #[.func (.func 48) #[] #[.pointer (some ⟨pg,0,none⟩),.pointer (some ⟨dg,0,none⟩)]] 111)∈rows
 r5:(k5,zC tb 29)∈rows
 r6:(k6,zC o 32)∈rows
 r7:(k7,zI 32)∈rows
 r8:(k8,.cells #[.func (.func 108) #[] #[.pointer (some ⟨k3,0,none⟩),.pointer (some ⟨k4,0,none⟩),.pointer (some ⟨k5,0,none⟩),.pointer (some ⟨k6,0,none⟩),.pointer (some ⟨k7,0,none⟩),.pointer (some ⟨k8,0,none⟩)]] 184)∈rows
 tb:(tb,tbO a P)∈rows
theorem Wk.cons {rows P o tb a dg pg k3 k4 k5 k6 k7 k8}(h:Wk rows P o tb a dg pg k3 k4 k5 k6 k7 k8)(x:Nat×Obj):Wk (x::rows) P o tb a dg pg k3 k4 k5 k6 k7 k8 :=
 ⟨List.mem_cons_of_mem _ h.r3,List.mem_cons_of_mem _ h.r4,List.mem_cons_of_mem _ h.r5,List.mem_cons_of_mem _ h.r6,List.mem_cons_of_mem _ h.r7,List.mem_cons_of_mem _ h.r8,List.mem_cons_of_mem _ h.tb⟩
def s1 (st:List Int×List Int) (b:Int) (nm:Nat):List Int×List Int:=if b=0 then st else (st.1++List.replicate (nm - st.1.length) 0++[b],st.2)
theorem acP {st:List Int×List Int}{b:Int}{nm:Nat}(h:st.1.length<=nm):(s1 st b nm).1.length<=nm+1/\(s1 st b nm).2=st.2:=by
 unfold s1
 split
 ·exact⟨by omega,rfl⟩
 ·refine⟨?_,rfl⟩
  simp
  omega
def sF (f:List Int×List Int->Int->Nat->List Int×List Int) (p:Nat->Int) (each nm:Nat):Nat->List Int×List Int->List Int×List Int
 | 0,st=>st
 | k+1,st=>f (sF f p each nm k st) (p k) (nm+k*each)
def gV (V':Nat->List Int) (b:Int) (k:Nat):Int:=ak (V' b.toNat) ((k:Int)*2) 2
def s32 (V':Nat->List Int) (st:List Int×List Int) (b:Int) (nm:Nat):List Int×List Int:=if b=0 then st else sF s1 (gV V' b) 1 nm 32 (st.1,st.2++[b])
def uS (V':Nat->List Int) (st:List Int×List Int) (b:Int) (nm:Nat):List Int×List Int:=if b=0 then st else sF (s32 V') (gV V' b) 32 nm 32 (st.1,st.2++[b])
theorem kY (n sp:Int)(u:World)(k3 k4 k5 k6 k7 k8:Nat):Calls Tryz.prog 108 #[.int .i64 0,.int .i64 n,.int .i64 sp,.pointer (some ⟨k3,0,none⟩),.pointer (some ⟨k4,0,none⟩),.pointer (some ⟨k5,0,none⟩),.pointer (some ⟨k6,0,none⟩),.pointer (some ⟨k7,0,none⟩),.pointer (some ⟨k8,0,none⟩)] u fun e u'=>e=.returned (.int .i64 0)/\u=u':=by
 go_enter Tryz.func108,Tryz.ntmps108
 go_wp2_with fail
 go_ret
 exact⟨rfl,rfl⟩
theorem aa0 {w P G E g o rows i V F V' K u}{tb a dg pg k3 k4 k5 k6 k7 k8:Nat}{st:List Int×List Int}(h:Two w P G E g o rows i V F V' K dg pg st.1 st.2 u)(hk:Wk rows P o tb a dg pg k3 k4 k5 k6 k7 k8)(h0:0<w.heap.size)(b:Int)(nm:Nat)(hn:st.1.length<=nm)(hm:nm<=10000) :
  Calls Tryz.prog 108 #[.int .i64 b,.int .i64 (nm:Int),.int .i64 1,.pointer (some ⟨k3,0,none⟩),.pointer (some ⟨k4,0,none⟩),.pointer (some ⟨k5,0,none⟩),.pointer (some ⟨k6,0,none⟩),.pointer (some ⟨k7,0,none⟩),.pointer (some ⟨k8,0,none⟩)] u fun e u'=>e=.returned (.int .i64 0)/\Hid (Two w P G E g o rows i V F V' K dg pg (s1 st b nm).1 (s1 st b nm).2 u'):=by
 unfold s1
 by_cases hb:b=0
 ·subst hb
  rw[if_pos rfl]
  refine(kY _ 1 u k3 k4 k5 k6 k7 k8).mono ?_
  rintro e u' ⟨rfl,rfl⟩
  exact⟨rfl,h⟩
 ·rw[if_neg hb]
  have hb1:(b==0)=false:=by simpa using hb
  have KB:=hide (ag9 h h0 b nm hn hm)
  have c3:=aj (h.row hk.r3)
  have c4:=aj (h.row hk.r4)
  have hd:decide ((nm:Int)+1<=0)=false:=decide_eq_false (by omega)
  have hnn:(0:Int)<=(nm:Int)/\(nm:Int)<=10000:=by omega
  obtain⟨n1,n2⟩:=hnn
  clear h hk h0 hn hm hb
  simp only
  generalize st.1++List.replicate (nm - st.1.length) 0++[b]=D2 at *
  generalize (nm:Int)=ni at *
  go_enter Tryz.func108,Tryz.ntmps108
  go_wp2_with fail
  go_at_call 48
  refine(ah KB).mono ?_
  rintro e w1 ⟨rfl,Z⟩
  clear KB c3 c4
  go_wp2_with fail
  go_ret
  exact⟨rfl,Z⟩
end Go.Proofs.YtbofhdfhhbgdgaaGreatDoor
/- Two files as slots of pointers: no block is named twice, and a step of Make turns one slot. -/
namespace Go.Proofs.YtbofhdfhhbgdgaaGreatDoor
set_option maxRecDepth 100000
set_option maxHeartbeats 8000000
open Go.RowKit Go.Shelf
set_option linter.unusedVariables false
def mQ (V':Nat->List Int) (b:Int) (k:Nat):Int:=if b=0 then 0 else gV V' b k
abbrev Slot:=Nat×Nat×Nat×Nat
def sOk (s:Slot):Prop:=s.2.1<2/\(s.1=0/\s.2.2.1<10/\s.2.2.2=0\/s.1=1/\s.2.2.1<32/\s.2.2.2=0\/s.1=2/\s.2.2.1<32/\s.2.2.2=0\/s.1=3/\s.2.2.1<32/\s.2.2.2<32)
def aT (X:Nat->Nat->Int) (V':Nat->List Int) (s:Slot):Int :=
 if s.1=0 then X s.2.1 (pof s.2.2.1) else if s.1=1 then mQ V' (X s.2.1 11) s.2.2.1 else if s.1=2 then mQ V' (X s.2.1 12) s.2.2.1 else mQ V' (mQ V' (X s.2.1 12) s.2.2.1) s.2.2.2
def dW (s:Slot):Slot:=if s.1=1 then (0,s.2.1,8,0) else if s.1=2 then (0,s.2.1,9,0) else (2,s.2.1,s.2.2.1,0)
def sIx (s:Slot):Nat:=if s.1=3 then s.2.2.2 else s.2.2.1
theorem jD {X:Nat->Nat->Int}{V':Nat->List Int}{s}(h:sOk s)(h0:s.1≠0):aT X V' s=mQ V' (aT X V' (dW s)) (sIx s):=by
 obtain⟨q,f,k,l⟩:=s
 obtain⟨h1,h2⟩:=h
 simp only at h0 h1 h2
 rcases h2 with ⟨e,_⟩ | ⟨e,_⟩ | ⟨e,_⟩ | ⟨e,_⟩
 ·exact absurd e h0
 ·subst e;rfl
 ·subst e;rfl
 ·subst e;rfl
theorem gJ {s}(h:sOk s)(h0:s.1≠0):sOk (dW s)/\dW s≠s/\((dW s).1=0/\s.1≠3\/(dW s).1=2/\s.1=3)/\sIx s<32:=by
 obtain⟨q,f,k,l⟩:=s
 obtain⟨h1,h2⟩:=h
 simp only at h0 h1 h2
 rcases h2 with ⟨e,_⟩ | ⟨e,h3,h4⟩ | ⟨e,h3,h4⟩ | ⟨e,h3,h4⟩
 ·exact absurd e h0
 ·subst e;exact⟨⟨h1,.inl ⟨rfl,by show 8<10;omega,rfl⟩⟩,by simp[dW],.inl ⟨rfl,by show (1:Nat)≠3;omega⟩,h3⟩
 ·subst e;exact⟨⟨h1,.inl ⟨rfl,by show 9<10;omega,rfl⟩⟩,by simp[dW],.inl ⟨rfl,by show (2:Nat)≠3;omega⟩,h3⟩
 ·subst e;exact⟨⟨h1,.inr (.inr (.inl ⟨rfl,h3,rfl⟩))⟩,by simp[dW],.inr ⟨rfl,rfl⟩,h4⟩
theorem afq {s t:Slot}(hs:sOk s)(ht:sOk t)(s0:s.1≠0)(t0:t.1≠0)(hp:dW s=dW t)(hi:sIx s=sIx t):s=t:=by
 obtain⟨q,f,k,l⟩:=s
 obtain⟨q',f',k',l'⟩:=t
 obtain⟨h1,h2⟩:=hs
 obtain⟨h3,h4⟩:=ht
 simp only at s0 t0 h1 h2 h3 h4
 rcases h2 with ⟨e,_⟩ | ⟨e,_,e2⟩ | ⟨e,_,e2⟩ | ⟨e,_,e2⟩
 ·exact absurd e s0
 all_goals
  rcases h4 with ⟨e',_⟩ | ⟨e',_,e2'⟩ | ⟨e',_,e2'⟩ | ⟨e',_,e2'⟩
  ·exact absurd e' t0
  all_goals
   subst e e'
   first
    | (simp[dW,sIx] at hp hi;done)
    | (simp[dW,sIx] at hp hi;subst e2;subst e2';simp[hp,hi];done)
    | (simp[dW,sIx] at hp hi;simp[hp,hi])
structure Tree (E:Nat->Bool) (V':Nat->List Int) (X:Nat->Nat->Int) (β:Nat->Bool):Prop where
 rng:∀ s,sOk s->aT X V' s≠0->37<=aT X V' s/\aT X V' s<90/\β (aT X V' s).toNat=true
 inj:∀ s t,sOk s->sOk t->aT X V' s≠0->aT X V' s=aT X V' t->s=t
 pe:∀ s,sOk s->sOk (dW s)->s.1≠0->aT X V' (dW s)≠0->E (aT X V' (dW s)).toNat=true
theorem af6 {zs:List Int}(hl:zs.length=64){s k:Nat}(hs:s<32)(hk:k<32){n:Int}(h0:0<=n)(h1:n<65536):ak (ptZ zs s n) ((k:Int)*2) 2=if k=s then n else ak zs ((k:Int)*2) 2:=by
 by_cases e:k=s
 ·rw[if_pos e,e]
  have:=ab8 zs (2*s) 2 n (by omega) (by omega) h0 (by omega)
  rw[show ((2*s:Nat):Int)=(s:Int)*2 by omega] at this
  exact this
 ·rw[if_neg e]
  have hlp:(ptZ zs s n).length=zs.length:=by
   unfold ptZ
   rw[gY _ _ _ (by rw[length_digits];omega)]
  have e1:((k:Int)*2).toNat=2*k:=by omega
  have ed:((ptZ zs s n).drop (2*k)).take 2=(zs.drop (2*k)).take 2:=by
   apply List.ext_getElem?
   intro j
   by_cases hj:j<2
   ·rw[List.getElem?_take_of_lt hj,List.getElem?_take_of_lt hj,List.getElem?_drop,List.getElem?_drop]
    unfold ptZ
    refine uY _ _ _ _ (by rw[length_digits];omega) ?_
    rw[length_digits]
    omega
   ·rw[List.getElem?_take_eq_none (by omega),List.getElem?_take_eq_none (by omega)]
  unfold ak
  rw[hlp,e1]
  rw[show (2:Int).toNat=2 from rfl,ed]
theorem adb {k:Nat}(hk:k<32):ak (List.replicate 64 0) ((k:Int)*2) 2=0:=by
 unfold ak
 have e1:((k:Int)*2).toNat=2*k:=by omega
 rw[e1]
 split
 ·rw[List.drop_replicate,List.take_replicate,show (2:Int).toNat=2 from rfl,Nat.min_eq_left (by omega)]
  rfl
 ·rfl
theorem Tree.turn {E V' X β}(h:Tree E V' X β){V2:Nat->List Int}{X2:Nat->Nat->Int}{t:Slot}{nb:Nat}(ht:sOk t)(ht0:aT X V' t=0)(hnb:37<=nb/\nb<90)(hβ:β nb=false)
  (ha:∀ f p,f<2->p<10->aT X2 V2 (0,f,p,0)=if (0,f,p,0)=t then (nb:Int) else aT X V' (0,f,p,0))
  (hv:∀ b:Nat,37<=b->b<90->b≠nb->(t.1≠0->(b:Int)≠aT X V' (dW t))->V2 b=V' b)
  (hp:t.1≠0->aT X V' (dW t)≠0/\(V' (aT X V' (dW t)).toNat).length=64/\V2 (aT X V' (dW t)).toNat=ptZ (V' (aT X V' (dW t)).toNat) (sIx t) (nb:Int))
  (hz:(t.1=2\/t.1=0/\(t.2.2.1=8\/t.2.2.1=9))->V2 nb=List.replicate 64 0) :
  ∀ s,sOk s->aT X2 V2 s=if s=t then (nb:Int) else aT X V' s:=by
 have step:∀ s,sOk s->s.1≠0->aT X2 V2 (dW s)=(if dW s=t then (nb:Int) else aT X V' (dW s))->aT X2 V2 s=if s=t then (nb:Int) else aT X V' s:=by
  intro s hs s0 hps
  obtain⟨po,pn,pk,pi⟩:=gJ hs s0
  rw[jD hs s0,hps,jD (X:=X) (V':=V') hs s0]
  by_cases e:dW s=t
  ·rw[if_pos e]
   have hst:s≠t:=fun e2=>pn (e.trans e2.symm)
   rw[if_neg hst,e,ht0]
   unfold mQ
   rw[if_neg (by omega),if_pos rfl]
   have hzz:=hz (by
    rw[← e]
    rcases pk with ⟨k1,k2⟩ | ⟨k1,_⟩
    ·refine .inr ⟨k1,?_⟩
     unfold dW
     obtain⟨q,f,k,l⟩:=s
     obtain⟨_,h2⟩:=hs
     simp only at s0 h2 k2 ⊢
     rcases h2 with ⟨x,_⟩ | ⟨x,_⟩ | ⟨x,_⟩ | ⟨x,_⟩
     ·exact absurd x s0
     ·subst x;simp
     ·subst x;simp
     ·exact absurd x k2
    ·exact .inl k1)
   unfold gV
   rw[Int.toNat_natCast,hzz]
   exact adb pi
  ·rw[if_neg e]
   by_cases r0:aT X V' (dW s)=0
   ·have hst:s≠t:=fun e2=>(hp (by rw[← e2];exact s0)).1 (by rw[← e2];exact r0)
    rw[if_neg hst,r0]
    rfl
   ·obtain⟨g1,g2,g3⟩:=h.rng _ po r0
    obtain⟨r,hr⟩:∃ r:Nat,aT X V' (dW s)=(r:Int):=⟨_,(Int.toNat_of_nonneg (by omega)).symm⟩
    rw[hr] at g1 g2 g3 r0 ⊢
    rw[Int.toNat_natCast] at g3
    have rn:r≠nb:=fun e2=>by rw[e2,hβ] at g3;cases g3
    unfold mQ
    rw[if_neg r0,if_neg r0]
    by_cases hb:t.1≠0/\(r:Int)=aT X V' (dW t)
    ·obtain⟨t0,hb⟩:=hb
     obtain⟨p1,p2,p3⟩:=hp t0
     have es:dW s=dW t:=h.inj _ _ po (gJ ht t0).1 (by rw[hr];exact r0) (by rw[hr];exact hb)
     rw[← hb] at p2 p3
     rw[Int.toNat_natCast] at p2 p3
     unfold gV
     rw[Int.toNat_natCast,p3,af6 p2 (gJ ht t0).2.2.2 pi (by omega) (by omega)]
     by_cases ei:sIx s=sIx t
     ·rw[if_pos ei,if_pos (afq hs ht s0 t0 es ei)]
     ·rw[if_neg ei,if_neg (fun e2=>ei (by rw[e2]))]
    ·have hst:s≠t:=fun e2=>hb ⟨by rw[← e2];exact s0,by rw[← e2];exact hr.symm⟩
     rw[if_neg hst]
     unfold gV
     rw[Int.toNat_natCast,hv r (by omega) (by omega) rn (fun t0 e2=>hb ⟨t0,e2⟩)]
 have alM:∀ s,sOk s->s.1=0->aT X2 V2 s=if s=t then (nb:Int) else aT X V' s:=by
  intro s hs s0
  obtain⟨q,f,k,l⟩:=s
  obtain⟨h1,h2⟩:=hs
  simp only at s0 h1 h2
  subst s0
  rcases h2 with ⟨_,h3,h4⟩ | ⟨x,_⟩ | ⟨x,_⟩ | ⟨x,_⟩
  ·subst h4;exact ha f k h1 h3
  ·omega
  ·omega
  ·omega
 have lvl1:∀ s,sOk s->s.1≠3->aT X2 V2 s=if s=t then (nb:Int) else aT X V' s:=by
  intro s hs s3
  by_cases s0:s.1=0
  ·exact alM s hs s0
  ·obtain⟨po,pn,pk,pi⟩:=gJ hs s0
   rcases pk with ⟨k1,_⟩ | ⟨_,k2⟩
   ·exact step s hs s0 (alM _ po k1)
   ·exact absurd k2 s3
 intro s hs
 by_cases s3:s.1=3
 ·have s0:s.1≠0:=by omega
  obtain⟨po,pn,pk,pi⟩:=gJ hs s0
  rcases pk with ⟨_,k2⟩ | ⟨k1,_⟩
  ·exact absurd s3 k2
  ·exact step s hs s0 (lvl1 _ po (by omega))
 ·exact lvl1 s hs s3
theorem Tree.step {E E2:Nat->Bool}{V' V2:Nat->List Int}{X X2:Nat->Nat->Int}{β β2:Nat->Bool}(h:Tree E V' X β){t:Slot}{nb:Nat}(ht:sOk t)(hnb:37<=nb/\nb<90)(hβ:β nb=false)(hval:∀ s,sOk s->aT X2 V2 s=if s=t then (nb:Int) else aT X V' s)(hb:∀ j,β2 j=if j=nb then true else β j)(hE:∀ j,E j=true->E2 j=true)(hEn:(t.1=2\/t.1=0/\(t.2.2.1=8\/t.2.2.1=9))->E2 nb=true):Tree E2 V2 X2 β2:=by
 refine⟨fun s hs h0=>?_,fun s r hs hr h0 he=>?_,fun s hs hps s0 h0=>?_⟩
 ·rw[hval s hs] at h0 ⊢
  by_cases e:s=t
  ·rw[if_pos e]
   refine⟨by omega,by omega,?_⟩
   rw[Int.toNat_natCast,hb,if_pos rfl]
  ·rw[if_neg e] at h0 ⊢
   obtain⟨g1,g2,g3⟩:=h.rng s hs h0
   refine⟨g1,g2,?_⟩
   rw[hb]
   split
   ·rfl
   ·exact g3
 ·rw[hval s hs] at h0 he
  rw[hval r hr] at he
  by_cases e:s=t
  ·by_cases e2:r=t
   ·exact e.trans e2.symm
   ·rw[if_pos e,if_neg e2] at he
    obtain⟨g1,g2,g3⟩:=h.rng r hr (by omega)
    rw[← he,Int.toNat_natCast,hβ] at g3
    cases g3
  ·by_cases e2:r=t
   ·rw[if_neg e,if_pos e2] at he
    rw[if_neg e] at h0
    obtain⟨g1,g2,g3⟩:=h.rng s hs h0
    rw[he,Int.toNat_natCast,hβ] at g3
    cases g3
   ·rw[if_neg e,if_neg e2] at he
    rw[if_neg e] at h0
    exact h.inj s r hs hr h0 he
 ·rw[hval _ hps] at h0 ⊢
  by_cases e:dW s=t
  ·rw[if_pos e,Int.toNat_natCast]
   refine hEn ?_
   rw[← e]
   obtain⟨po,pn,pk,pi⟩:=gJ hs s0
   rcases pk with ⟨k1,k2⟩ | ⟨k1,_⟩
   ·refine .inr ⟨k1,?_⟩
    unfold dW
    obtain⟨q,f,k,l⟩:=s
    obtain⟨_,h2⟩:=hs
    simp only at s0 h2 k2 ⊢
    rcases h2 with ⟨x,_⟩ | ⟨x,_⟩ | ⟨x,_⟩ | ⟨x,_⟩
    ·exact absurd x s0
    ·subst x;simp
    ·subst x;simp
    ·exact absurd x k2
   ·exact .inl k1
  ·rw[if_neg e] at h0 ⊢
   exact hE _ (h.pe s hs hps s0 h0)
end Go.Proofs.YtbofhdfhhbgdgaaGreatDoor
/- The walk at a block with pointers. -/
namespace Go.Proofs.YtbofhdfhhbgdgaaGreatDoor
set_option maxRecDepth 100000
set_option maxHeartbeats 8000000
open Go.RowKit Go.Shelf Go.Maps
set_option linter.unusedVariables false
theorem Two.ins {w:World}{P:Nat->Int}{G:Geo}{E:Nat->Bool}{g o:Nat}{rows}{i:Nat}{V:Nat->List Int}{F:Nat->Bool}{V':Nat->List Int}{K:Nat->Bool}{u:World}{u':World}{dg pg ds ps da dc Rd pa pc Rp}(t:alo w.heap.size rows dg pg ds ps da dc Rd pa pc Rp)(l:Lp w P G E g o (Rd++((dg,.cells #[.slice da ds.length dc] 22)::(Rp++((pg,.cells #[.slice pa ps.length pc] 22)::rows)))) i V F V' K u){k:Nat}{ob:Obj}(hk:u.heap.size<=k)(l':Lp w P G E g o ((k,ob)::(Rd++((dg,.cells #[.slice da ds.length dc] 22)::(Rp++((pg,.cells #[.slice pa ps.length pc] 22)::rows))))) i V F V' K u'):Two w P G E g o ((k,ob)::rows) i V F V' K dg pg ds ps u':=by
 have hd:dg<u.heap.size:=l.lt (x:=(dg,.cells #[.slice da ds.length dc] 22)) (by simp)
 have hp:pg<u.heap.size:=l.lt (x:=(pg,.cells #[.slice pa ps.length pc] 22)) (by simp)
 refine⟨da,dc,Rd,pa,pc,Rp,⟨t.d.ext (n:=u.heap.size) (fun x hx=>l.lt (by simp[hx])) (fun y hy=>?_),t.p.ext (n:=u.heap.size) (fun x hx=>l.lt (by simp[hx])) (fun y hy=>?_),t.dp,fun y hy=>?_,fun y hy=>?_,t.bd,t.bp⟩,l'.sub (fun x hx=>?_)⟩
 ·simp only[List.mem_cons,List.mem_append] at hy ⊢
  rcases hy with e | e | e | e | e
  ·exact .inl (.inl e)
  ·exact .inl (.inr (.inl e))
  ·exact .inl (.inr (.inr (.inl e)))
  ·exact .inr (by rw[e];exact hk)
  ·exact .inl (.inr (.inr (.inr e)))
 ·simp only[List.mem_cons,List.mem_append] at hy ⊢
  rcases hy with e | e | e | e | e
  ·exact .inl (.inl e)
  ·exact .inl (.inr (.inl e))
  ·exact .inl (.inr (.inr (.inl e)))
  ·exact .inr (by rw[e];exact hk)
  ·exact .inl (.inr (.inr (.inr e)))
 ·rcases List.mem_cons.1 hy with e | e
  ·rw[e];simp only;omega
  ·exact t.rd y e
 ·rcases List.mem_cons.1 hy with e | e
  ·rw[e];simp only;omega
  ·exact t.rp y e
 ·simp only[List.mem_cons,List.mem_append] at hx ⊢
  rcases hx with e | e | e | e | e | e
  ·exact .inr (.inl e)
  ·exact .inr (.inr (.inl e))
  ·exact .inr (.inr (.inr (.inl e)))
  ·exact .inr (.inr (.inr (.inr (.inl e))))
  ·exact .inl e
  ·exact .inr (.inr (.inr (.inr (.inr e))))
theorem Two.read {w P G E g o rows i V F V' K u}{tb a dg pg b:Nat}{ds ps}(h:Two w P G E g o rows i V F V' K dg pg ds ps u)(ht:(tb,tbO a P)∈rows)(hb:E b=true) :
  Calls Tryz.prog 57 #[.pointer (some ⟨tb,0,none⟩),.pointer (some ⟨o,0,none⟩),.int .i64 (b:Int)] u fun e u1=>∃ k c,e=.returned (.tuple #[.slice (some ⟨k,0,none⟩) G.blk c,.int .i64 0])/\Hid (∃ ob,Dr c G.blk (V' b) ob/\Two w P G E g o ((k,ob)::rows) i V F V' K dg pg ds ps u1):=by
 obtain⟨da,dc,Rd,pa,pc,Rp,t,l⟩:=h
 refine(jy (a:=a) l (by simp[ht]) hb).mono ?_
 rintro e u1 ⟨k,c,rfl,Y⟩
 obtain⟨ob,hd,hk,hl⟩:=ah Y
 exact⟨k,c,rfl,ob,hd,Two.ins t l hk hl⟩
theorem aek {w P G E g o rows i V F V' K u}{tb a dg pg k3 k4 k5 k6 k7 k8:Nat}{st:List Int×List Int}(h:Two w P G E g o rows i V F V' K dg pg st.1 st.2 u)(hk:Wk rows P o tb a dg pg k3 k4 k5 k6 k7 k8)(h0:0<w.heap.size)(hB:G.blk=64)(b nm:Nat)(hb:b≠0)(hE:E b=true)(hn:st.1.length<=nm)(hm:nm<=4000)(hp:st.2.length<=1000) :
  Calls Tryz.prog 108 #[.int .i64 (b:Int),.int .i64 (nm:Int),.int .i64 32,.pointer (some ⟨k3,0,none⟩),.pointer (some ⟨k4,0,none⟩),.pointer (some ⟨k5,0,none⟩),.pointer (some ⟨k6,0,none⟩),.pointer (some ⟨k7,0,none⟩),.pointer (some ⟨k8,0,none⟩)] u fun e u'=>e=.returned (.int .i64 0)/\Hid (Two w P G E g o rows i V F V' K dg pg (sF s1 (gV V' (b:Int)) 1 nm 32 (st.1,st.2++[(b:Int)])).1 (sF s1 (gV V' (b:Int)) 1 nm 32 (st.1,st.2++[(b:Int)])).2 u'):=by
 have hvb:=h.lp.vb hE
 have c3:=aj (h.row hk.r3)
 have c5:=aj (h.row hk.r5)
 have c6:=aj (h.row hk.r6)
 obtain⟨S,hS⟩:∃ S:Nat->List Int×List Int,S=fun j=>sF s1 (gV V' (b:Int)) 1 nm j (st.1,st.2++[(b:Int)]):=⟨_,rfl⟩
 have hS0:S 0=(st.1,st.2++[(b:Int)]):=by rw[hS];rfl
 have hSs:∀ j,S (j+1)=s1 (S j) (gV V' (b:Int) j) (nm+j*1):=fun j=>by rw[hS];rfl
 have ajP:sF s1 (gV V' (b:Int)) 1 nm 32 (st.1,st.2++[(b:Int)])=S 32:=by rw[hS]
 have hlen:∀ j,j<=32->(S j).1.length<=nm+j*1/\(S j).2.length<=1001+33*j:=fun j=>by
  induction j with
  | zero=>intro _;rw[hS0];simp;omega
  | succ j ih =>
   intro hj
   obtain⟨i1,i2⟩:=ih (by omega)
   rw[hSs]
   obtain⟨x1,x2⟩:=acP (b:=gV V' (b:Int) j) i1
   rw[x2]
   omega
 have hbk:=h.lp.ok.ok.blk
 have KR:=hide (h.read (a:=a) hk.tb hE)
 have HC:Hid (∀ v k ob (st2:List Int×List Int),Two w P G E g o ((k,ob)::rows) i V F V' K dg pg st2.1 st2.2 v->v.cell? ⟨k4,0,none⟩=some (.func (.func 48) #[] #[.pointer (some ⟨pg,0,none⟩),.pointer (some ⟨dg,0,none⟩)])/\v.cell? ⟨k7,0,none⟩=some (.int .i64 32)/\v.cell? ⟨k8,0,none⟩=some (.func (.func 108) #[] #[.pointer (some ⟨k3,0,none⟩),.pointer (some ⟨k4,0,none⟩),.pointer (some ⟨k5,0,none⟩),.pointer (some ⟨k6,0,none⟩),.pointer (some ⟨k7,0,none⟩),.pointer (some ⟨k8,0,none⟩)])):=fun v k ob st2 hv=>⟨aj (hv.row (List.mem_cons_of_mem _ hk.r4)),aj (hv.row (List.mem_cons_of_mem _ hk.r7)),aj (hv.row (List.mem_cons_of_mem _ hk.r8))⟩
 have KV:Hid (∀ v k ob c,Two w P G E g o ((k,ob)::rows) i V F V' K dg pg st.1 st.2 v->Calls Tryz.prog 48 #[.agg #[.int .i64 (b:Int),.int .i64 (nm:Int),.int .i64 32,.slice (some ⟨k,0,none⟩) G.blk c],.pointer (some ⟨pg,0,none⟩),.pointer (some ⟨dg,0,none⟩)] v fun e u'=>e=.returned (.int .i64 0)/\Hid (Two w P G E g o ((k,ob)::rows) i V F V' K dg pg (S 0).1 (S 0).2 u')):=fun v k ob c hv=>by
  rw[hS0]
  exact aez hv h0 (b:Int) 32 nm _ _ _ (by omega) (by omega)
 have KN2:Hid (∀ v k c ob (j:Nat),Dr c G.blk (V' b) ob->j<32->∀ wr,Two w P G E g o ((k,ob)::rows) i V F V' K dg pg (S j).1 (S j).2 wr->Below wr.heap.size wr v->Calls Tryz.prog 109 #[.slice (some ⟨k,0,none⟩) G.blk c,.int .i64 (j:Int)] v fun r u2=>r=.returned (.int .i64 (gV V' (b:Int) j))/\Hid (Below wr.heap.size wr u2)/\u2.cell? ⟨k8,0,none⟩=some (.func (.func 108) #[] #[.pointer (some ⟨k3,0,none⟩),.pointer (some ⟨k4,0,none⟩),.pointer (some ⟨k5,0,none⟩),.pointer (some ⟨k6,0,none⟩),.pointer (some ⟨k7,0,none⟩),.pointer (some ⟨k8,0,none⟩)])):=fun v k c ob j hd hj wr hw hv=>by
  have h2:=hw.later hv
  refine(jA _ _ _ _ (j:Int) v (hd.row (h2.row (x:=(k,ob)) (by simp)) (by omega) hvb.2) (by omega)).mono ?_
  rintro r u2 ⟨rfl,b1⟩
  exact⟨rfl,hv.trans (b1.mono hv.size),(ah HC _ _ _ (S j) (h2.later b1)).2.2⟩
 have KD:Hid (∀ v k ob (j:Nat),j<32->Two w P G E g o ((k,ob)::rows) i V F V' K dg pg (S j).1 (S j).2 v->Calls Tryz.prog 108 #[.int .i64 (gV V' (b:Int) j),.int .i64 ((nm+j*1:Nat):Int),.int .i64 1,.pointer (some ⟨k3,0,none⟩),.pointer (some ⟨k4,0,none⟩),.pointer (some ⟨k5,0,none⟩),.pointer (some ⟨k6,0,none⟩),.pointer (some ⟨k7,0,none⟩),.pointer (some ⟨k8,0,none⟩)] v fun e u'=>e=.returned (.int .i64 0)/\Hid (Two w P G E g o ((k,ob)::rows) i V F V' K dg pg (S (j+1)).1 (S (j+1)).2 u')):=fun v k ob j hj hv=>by
  obtain⟨l1,l2⟩:=hlen j (by omega)
  rw[hSs]
  exact aa0 hv (hk.cons _) h0 _ _ l1 (by omega)
 have hd0:decide ((nm:Int)+32<=0)=false:=decide_eq_false (by omega)
 have hb1:(((b:Nat):Int)==0)=false:=by simp;omega
 have hnn:(0:Int)<=(nm:Int)/\(nm:Int)<=4000:=by omega
 obtain⟨n1,n2⟩:=hnn
 rw[ajP]
 clear h hk h0 hb hE hn hm hp hvb hS hS0 hSs ajP hlen hB
 generalize (b:Int)=bi at *
 go_enter Tryz.func108,Tryz.ntmps108
 go_wp2_with fail
 go_at_call 57
 refine(ah KR).mono ?_
 rintro e w1 ⟨k,c,rfl,Y⟩
 obtain⟨ob,hd,hl⟩:=ah Y
 have HD:=hide hd
 have K2:=hide (ah KV w1 k ob c hl)
 obtain⟨d4,_,_⟩:=ah HC _ _ _ st hl
 clear KR KV Y hd hl c3 c5 c6
 go_wp2_with fail
 go_at_call 48
 refine(ah K2).mono ?_
 rintro e w2 ⟨rfl,Z2⟩
 obtain⟨_,d7,_⟩:=ah HC _ _ _ (S 0) (ah Z2)
 clear K2 d4
 go_upto_region 13 with fail
 go_loopw [58] (fun iv wr=>∃ j:Nat,j<=32/\iv=.int .i64 (j:Int)/\Hid (Two w P G E g o ((k,ob)::rows) i V F V' K dg pg (S j).1 (S j).2 wr)) (fun iv _=>32 - (intOf iv).toNat)
 case atStart=>exact⟨0,by omega,rfl,Z2⟩
 case round =>
  obtain⟨j,hj,rfl,ZJ⟩:=hrel
  clear Z2
  by_cases hj2:j<32
  ·have hjI:(j:Int)<32:=by omega
   have K3:Hid (∀ v,Below wr.heap.size wr v->Calls Tryz.prog 109 #[.slice (some ⟨k,0,none⟩) G.blk c,.int .i64 (j:Int)] v fun r u2=>r=.returned (.int .i64 (gV V' bi j))/\Hid (Below wr.heap.size wr u2)/\u2.cell? ⟨k8,0,none⟩=some (.func (.func 108) #[] #[.pointer (some ⟨k3,0,none⟩),.pointer (some ⟨k4,0,none⟩),.pointer (some ⟨k5,0,none⟩),.pointer (some ⟨k6,0,none⟩),.pointer (some ⟨k7,0,none⟩),.pointer (some ⟨k8,0,none⟩)])):=fun v hv=>ah KN2 v k c ob j (ah HD) hj2 wr (ah ZJ) hv
   have K4:Hid (∀ v,Below wr.heap.size wr v->Calls Tryz.prog 108 #[.int .i64 (gV V' bi j),.int .i64 ((nm+j*1:Nat):Int),.int .i64 1,.pointer (some ⟨k3,0,none⟩),.pointer (some ⟨k4,0,none⟩),.pointer (some ⟨k5,0,none⟩),.pointer (some ⟨k6,0,none⟩),.pointer (some ⟨k7,0,none⟩),.pointer (some ⟨k8,0,none⟩)] v fun e u'=>e=.returned (.int .i64 0)/\Hid (Two w P G E g o ((k,ob)::rows) i V F V' K dg pg (S (j+1)).1 (S (j+1)).2 u')):=fun v hv=>ah KD v k ob j hj2 ((ah ZJ).later hv)
   obtain⟨_,_,d8⟩:=ah HC _ _ _ (S j) (ah ZJ)
   have hq1:IntKind.i64.wrap ((j:Int)*1)=(j:Int)*1:=by rw[IntKind.wrap_i64];omega
   have hq2:IntKind.i64.wrap ((nm:Int)+(j:Int)*1)=((nm+j*1:Nat):Int):=by rw[IntKind.wrap_i64];omega
   have hq3:IntKind.i64.wrap (j:Int)=(j:Int):=by rw[IntKind.wrap_i64];omega
   have hq4:IntKind.i64.wrap ((nm:Int)+(j:Int))=((nm+j*1:Nat):Int):=by rw[IntKind.wrap_i64];omega
   have HJ:=hide hj2
   clear ZJ hj2 hj
   generalize hnj:((nm+j*1:Nat):Int)=nj at *
   clear hnj
   generalize gV V' bi j=pv at *
   go_upto_region 15 with fail
   go_cut [14] (fun cc wx=>cc=.int .i64 0/\Hid (Two w P G E g o ((k,ob)::rows) i V F V' K dg pg (S (j+1)).1 (S (j+1)).2 wx))
   case first =>
    clear KN2 KD HD
    have d8d:wr.drew.cell? ⟨k8,0,none⟩=some (.func (.func 108) #[] #[.pointer (some ⟨k3,0,none⟩),.pointer (some ⟨k4,0,none⟩),.pointer (some ⟨k5,0,none⟩),.pointer (some ⟨k6,0,none⟩),.pointer (some ⟨k7,0,none⟩),.pointer (some ⟨k8,0,none⟩)]):=d8
    go_region_held3 (fun u=>u.cell? ⟨k8,0,none⟩=some (.func (.func 108) #[] #[.pointer (some ⟨k3,0,none⟩),.pointer (some ⟨k4,0,none⟩),.pointer (some ⟨k5,0,none⟩),.pointer (some ⟨k6,0,none⟩),.pointer (some ⟨k7,0,none⟩),.pointer (some ⟨k8,0,none⟩)]))
     (with_reducible (first | exact d8 | exact d8d | exact d8b | exact d8c | exact d8e | exact d8f))
     (first
      | (go_at_call 109;refine(ah K3 _ (by first | exact Below.refl _ _ | exact(Below.refl _ _).drew)).mono ?_;rintro e w4 ⟨rfl,hb4,d8b⟩;have d8c:w4.drew.cell? ⟨k8,0,none⟩=some (.func (.func 108) #[] #[.pointer (some ⟨k3,0,none⟩),.pointer (some ⟨k4,0,none⟩),.pointer (some ⟨k5,0,none⟩),.pointer (some ⟨k6,0,none⟩),.pointer (some ⟨k7,0,none⟩),.pointer (some ⟨k8,0,none⟩)]):=d8b;clear K3)
      | (go_at_call 108;refine(ah K4 _ (by first | exact ah hb4 | exact(ah hb4).drew)).mono ?_;rintro e w5 ⟨rfl,Z5⟩;have d8e:=(ah HC _ _ _ (S (j+1)) (ah Z5)).2.2;have d8f:w5.drew.cell? ⟨k8,0,none⟩=some (.func (.func 108) #[] #[.pointer (some ⟨k3,0,none⟩),.pointer (some ⟨k4,0,none⟩),.pointer (some ⟨k5,0,none⟩),.pointer (some ⟨k6,0,none⟩),.pointer (some ⟨k7,0,none⟩),.pointer (some ⟨k8,0,none⟩)]):=d8e;clear K4))
    all_goals (go_wp2_with fail;go_meet;first | exact⟨rfl,Z5⟩ | exact⟨rfl,hide ((ah Z5).later (Below.refl _ _).drew)⟩)
   case rest =>
    obtain⟨rfl,Z5⟩:=hcut
    clear K3 K4 d8 hq1 hq2 hq3 hq4
    go_wp2_with fail
    go_roundw
    case rel=>exact⟨j+1,by have:=ah HJ;omega,by go_num,Z5⟩
    case measure=>have:=ah HJ;simp[intOf];omega
  ·obtain rfl:j=32:=by omega
   have hjI:¬ ((32:Nat):Int)<32:=by omega
   clear HC KN2 KD HD
   go_wp2_with fail
   go_ret
   exact⟨rfl,hide (ah ZJ).pop⟩
theorem agR {p:Nat->Int}{nm:Nat}{st:List Int×List Int}(h:st.1.length<=nm):∀ k,(sF s1 p 1 nm k st).1.length<=nm+k/\(sF s1 p 1 nm k st).2=st.2
 | 0=>⟨h,rfl⟩
 | k+1=>by
  obtain⟨i1,i2⟩:=agR (p:=p) h k
  have:=acP (b:=p k) (nm:=nm+k*1) (st:=sF s1 p 1 nm k st) (by omega)
  unfold sF
  rw[this.2,i2]
  exact⟨by omega,rfl⟩
theorem rU {V':Nat->List Int}{st:List Int×List Int}{b:Int}{nm:Nat}(h:st.1.length<=nm):(s32 V' st b nm).1.length<=nm+32/\(s32 V' st b nm).2.length<=st.2.length+1:=by
 unfold s32
 split
 ·omega
 ·obtain⟨i1,i2⟩:=agR (p:=gV V' b) (nm:=nm) (st:=(st.1,st.2++[b])) h 32
  rw[i2]
  exact⟨i1,by simp⟩
theorem ael {w P G E g o rows i V F V' K u}{tb a dg pg k3 k4 k5 k6 k7 k8:Nat}{st:List Int×List Int}(h:Two w P G E g o rows i V F V' K dg pg st.1 st.2 u)(hk:Wk rows P o tb a dg pg k3 k4 k5 k6 k7 k8)(h0:0<w.heap.size)(hB:G.blk=64)(b nm:Nat)(hb:b≠0)(hE:E b=true)(hn:st.1.length<=nm)(hm:nm<=2000)(hp:st.2.length<=900)(hok:∀ k,k<32->gV V' (b:Int) k=0\/∃ n:Nat,gV V' (b:Int) k=(n:Int)/\n≠0/\E n=true) :
  Calls Tryz.prog 108 #[.int .i64 (b:Int),.int .i64 (nm:Int),.int .i64 1024,.pointer (some ⟨k3,0,none⟩),.pointer (some ⟨k4,0,none⟩),.pointer (some ⟨k5,0,none⟩),.pointer (some ⟨k6,0,none⟩),.pointer (some ⟨k7,0,none⟩),.pointer (some ⟨k8,0,none⟩)] u fun e u'=>e=.returned (.int .i64 0)/\Hid (Two w P G E g o rows i V F V' K dg pg (sF (s32 V') (gV V' (b:Int)) 32 nm 32 (st.1,st.2++[(b:Int)])).1 (sF (s32 V') (gV V' (b:Int)) 32 nm 32 (st.1,st.2++[(b:Int)])).2 u'):=by
 have hvb:=h.lp.vb hE
 have c3:=aj (h.row hk.r3)
 have c5:=aj (h.row hk.r5)
 have c6:=aj (h.row hk.r6)
 obtain⟨S,hS⟩:∃ S:Nat->List Int×List Int,S=fun j=>sF (s32 V') (gV V' (b:Int)) 32 nm j (st.1,st.2++[(b:Int)]):=⟨_,rfl⟩
 have hS0:S 0=(st.1,st.2++[(b:Int)]):=by rw[hS];rfl
 have hSs:∀ j,S (j+1)=(s32 V') (S j) (gV V' (b:Int) j) (nm+j*32):=fun j=>by rw[hS];rfl
 have ajP:sF (s32 V') (gV V' (b:Int)) 32 nm 32 (st.1,st.2++[(b:Int)])=S 32:=by rw[hS]
 have hlen:∀ j,j<=32->(S j).1.length<=nm+j*32/\(S j).2.length<=901+j:=fun j=>by
  induction j with
  | zero=>intro _;rw[hS0];simp;omega
  | succ j ih =>
   intro hj
   obtain⟨i1,i2⟩:=ih (by omega)
   rw[hSs]
   obtain⟨x1,x2⟩:=rU (V':=V') (b:=gV V' (b:Int) j) i1
   omega
 have hbk:=h.lp.ok.ok.blk
 have KR:=hide (h.read (a:=a) hk.tb hE)
 have HC:Hid (∀ v k ob (st2:List Int×List Int),Two w P G E g o ((k,ob)::rows) i V F V' K dg pg st2.1 st2.2 v->v.cell? ⟨k4,0,none⟩=some (.func (.func 48) #[] #[.pointer (some ⟨pg,0,none⟩),.pointer (some ⟨dg,0,none⟩)])/\v.cell? ⟨k7,0,none⟩=some (.int .i64 32)/\v.cell? ⟨k8,0,none⟩=some (.func (.func 108) #[] #[.pointer (some ⟨k3,0,none⟩),.pointer (some ⟨k4,0,none⟩),.pointer (some ⟨k5,0,none⟩),.pointer (some ⟨k6,0,none⟩),.pointer (some ⟨k7,0,none⟩),.pointer (some ⟨k8,0,none⟩)])):=fun v k ob st2 hv=>⟨aj (hv.row (List.mem_cons_of_mem _ hk.r4)),aj (hv.row (List.mem_cons_of_mem _ hk.r7)),aj (hv.row (List.mem_cons_of_mem _ hk.r8))⟩
 have KV:Hid (∀ v k ob c,Two w P G E g o ((k,ob)::rows) i V F V' K dg pg st.1 st.2 v->Calls Tryz.prog 48 #[.agg #[.int .i64 (b:Int),.int .i64 (nm:Int),.int .i64 1024,.slice (some ⟨k,0,none⟩) G.blk c],.pointer (some ⟨pg,0,none⟩),.pointer (some ⟨dg,0,none⟩)] v fun e u'=>e=.returned (.int .i64 0)/\Hid (Two w P G E g o ((k,ob)::rows) i V F V' K dg pg (S 0).1 (S 0).2 u')):=fun v k ob c hv=>by
  rw[hS0]
  exact aez hv h0 (b:Int) 1024 nm _ _ _ (by omega) (by omega)
 have KN2:Hid (∀ v k c ob (j:Nat),Dr c G.blk (V' b) ob->j<32->∀ wr,Two w P G E g o ((k,ob)::rows) i V F V' K dg pg (S j).1 (S j).2 wr->Below wr.heap.size wr v->Calls Tryz.prog 109 #[.slice (some ⟨k,0,none⟩) G.blk c,.int .i64 (j:Int)] v fun r u2=>r=.returned (.int .i64 (gV V' (b:Int) j))/\Hid (Below wr.heap.size wr u2)/\u2.cell? ⟨k8,0,none⟩=some (.func (.func 108) #[] #[.pointer (some ⟨k3,0,none⟩),.pointer (some ⟨k4,0,none⟩),.pointer (some ⟨k5,0,none⟩),.pointer (some ⟨k6,0,none⟩),.pointer (some ⟨k7,0,none⟩),.pointer (some ⟨k8,0,none⟩)])):=fun v k c ob j hd hj wr hw hv=>by
  have h2:=hw.later hv
  refine(jA _ _ _ _ (j:Int) v (hd.row (h2.row (x:=(k,ob)) (by simp)) (by omega) hvb.2) (by omega)).mono ?_
  rintro r u2 ⟨rfl,b1⟩
  exact⟨rfl,hv.trans (b1.mono hv.size),(ah HC _ _ _ (S j) (h2.later b1)).2.2⟩
 have KD:Hid (∀ v k ob (j:Nat),j<32->Two w P G E g o ((k,ob)::rows) i V F V' K dg pg (S j).1 (S j).2 v->Calls Tryz.prog 108 #[.int .i64 (gV V' (b:Int) j),.int .i64 ((nm+j*32:Nat):Int),.int .i64 32,.pointer (some ⟨k3,0,none⟩),.pointer (some ⟨k4,0,none⟩),.pointer (some ⟨k5,0,none⟩),.pointer (some ⟨k6,0,none⟩),.pointer (some ⟨k7,0,none⟩),.pointer (some ⟨k8,0,none⟩)] v fun e u'=>e=.returned (.int .i64 0)/\Hid (Two w P G E g o ((k,ob)::rows) i V F V' K dg pg (S (j+1)).1 (S (j+1)).2 u')):=fun v k ob j hj hv=>by
  obtain⟨l1,l2⟩:=hlen j (by omega)
  rw[hSs]
  rcases hok j hj with e | ⟨n,e,hn0,hEn⟩
  ·rw[e]
   have e2:s32 V' (S j) 0 (nm+j*32)=S j:=by unfold s32;rw[if_pos rfl]
   rw[e2]
   refine(kY _ 32 v k3 k4 k5 k6 k7 k8).mono ?_
   rintro e u' ⟨rfl,rfl⟩
   exact⟨rfl,hv⟩
  ·rw[e]
   have e2:s32 V' (S j) (n:Int) (nm+j*32)=sF s1 (gV V' (n:Int)) 1 (nm+j*32) 32 ((S j).1,(S j).2++[(n:Int)]):=by unfold s32;rw[if_neg (by omega)]
   rw[e2]
   exact aek hv (hk.cons _) h0 hB n _ hn0 hEn l1 (by omega) (by omega)
 have hd0:decide ((nm:Int)+1024<=0)=false:=decide_eq_false (by omega)
 have hb1:(((b:Nat):Int)==0)=false:=by simp;omega
 have hnn:(0:Int)<=(nm:Int)/\(nm:Int)<=4000:=by omega
 obtain⟨n1,n2⟩:=hnn
 rw[ajP]
 clear h hk h0 hb hE hn hm hp hvb hS hS0 hSs ajP hlen hB hok
 generalize (b:Int)=bi at *
 go_enter Tryz.func108,Tryz.ntmps108
 go_wp2_with fail
 go_at_call 57
 refine(ah KR).mono ?_
 rintro e w1 ⟨k,c,rfl,Y⟩
 obtain⟨ob,hd,hl⟩:=ah Y
 have HD:=hide hd
 have K2:=hide (ah KV w1 k ob c hl)
 obtain⟨d4,_,_⟩:=ah HC _ _ _ st hl
 clear KR KV Y hd hl c3 c5 c6
 go_wp2_with fail
 go_at_call 48
 refine(ah K2).mono ?_
 rintro e w2 ⟨rfl,Z2⟩
 obtain⟨_,d7,_⟩:=ah HC _ _ _ (S 0) (ah Z2)
 clear K2 d4
 go_upto_region 13 with fail
 go_loopw [58] (fun iv wr=>∃ j:Nat,j<=32/\iv=.int .i64 (j:Int)/\Hid (Two w P G E g o ((k,ob)::rows) i V F V' K dg pg (S j).1 (S j).2 wr)) (fun iv _=>32 - (intOf iv).toNat)
 case atStart=>exact⟨0,by omega,rfl,Z2⟩
 case round =>
  obtain⟨j,hj,rfl,ZJ⟩:=hrel
  clear Z2
  by_cases hj2:j<32
  ·have hjI:(j:Int)<32:=by omega
   have K3:Hid (∀ v,Below wr.heap.size wr v->Calls Tryz.prog 109 #[.slice (some ⟨k,0,none⟩) G.blk c,.int .i64 (j:Int)] v fun r u2=>r=.returned (.int .i64 (gV V' bi j))/\Hid (Below wr.heap.size wr u2)/\u2.cell? ⟨k8,0,none⟩=some (.func (.func 108) #[] #[.pointer (some ⟨k3,0,none⟩),.pointer (some ⟨k4,0,none⟩),.pointer (some ⟨k5,0,none⟩),.pointer (some ⟨k6,0,none⟩),.pointer (some ⟨k7,0,none⟩),.pointer (some ⟨k8,0,none⟩)])):=fun v hv=>ah KN2 v k c ob j (ah HD) hj2 wr (ah ZJ) hv
   have K4:Hid (∀ v,Below wr.heap.size wr v->Calls Tryz.prog 108 #[.int .i64 (gV V' bi j),.int .i64 ((nm+j*32:Nat):Int),.int .i64 32,.pointer (some ⟨k3,0,none⟩),.pointer (some ⟨k4,0,none⟩),.pointer (some ⟨k5,0,none⟩),.pointer (some ⟨k6,0,none⟩),.pointer (some ⟨k7,0,none⟩),.pointer (some ⟨k8,0,none⟩)] v fun e u'=>e=.returned (.int .i64 0)/\Hid (Two w P G E g o ((k,ob)::rows) i V F V' K dg pg (S (j+1)).1 (S (j+1)).2 u')):=fun v hv=>ah KD v k ob j hj2 ((ah ZJ).later hv)
   obtain⟨_,_,d8⟩:=ah HC _ _ _ (S j) (ah ZJ)
   have hq1:IntKind.i64.wrap ((j:Int)*32)=(j:Int)*32:=by rw[IntKind.wrap_i64];omega
   have hq2:IntKind.i64.wrap ((nm:Int)+(j:Int)*32)=((nm+j*32:Nat):Int):=by rw[IntKind.wrap_i64];omega
   have hq3:IntKind.i64.wrap (j:Int)=(j:Int):=by rw[IntKind.wrap_i64];omega
   have HJ:=hide hj2
   clear ZJ hj2 hj
   generalize hnj:((nm+j*32:Nat):Int)=nj at *
   clear hnj
   generalize gV V' bi j=pv at *
   go_upto_region 15 with fail
   go_cut [14] (fun cc wx=>cc=.int .i64 0/\Hid (Two w P G E g o ((k,ob)::rows) i V F V' K dg pg (S (j+1)).1 (S (j+1)).2 wx))
   case first =>
    clear KN2 KD HD
    have d8d:wr.drew.cell? ⟨k8,0,none⟩=some (.func (.func 108) #[] #[.pointer (some ⟨k3,0,none⟩),.pointer (some ⟨k4,0,none⟩),.pointer (some ⟨k5,0,none⟩),.pointer (some ⟨k6,0,none⟩),.pointer (some ⟨k7,0,none⟩),.pointer (some ⟨k8,0,none⟩)]):=d8
    go_region_held3 (fun u=>u.cell? ⟨k8,0,none⟩=some (.func (.func 108) #[] #[.pointer (some ⟨k3,0,none⟩),.pointer (some ⟨k4,0,none⟩),.pointer (some ⟨k5,0,none⟩),.pointer (some ⟨k6,0,none⟩),.pointer (some ⟨k7,0,none⟩),.pointer (some ⟨k8,0,none⟩)]))
     (with_reducible (first | exact d8 | exact d8d | exact d8b | exact d8c | exact d8e | exact d8f))
     (first
      | (go_at_call 109;refine(ah K3 _ (by first | exact Below.refl _ _ | exact(Below.refl _ _).drew)).mono ?_;rintro e w4 ⟨rfl,hb4,d8b⟩;have d8c:w4.drew.cell? ⟨k8,0,none⟩=some (.func (.func 108) #[] #[.pointer (some ⟨k3,0,none⟩),.pointer (some ⟨k4,0,none⟩),.pointer (some ⟨k5,0,none⟩),.pointer (some ⟨k6,0,none⟩),.pointer (some ⟨k7,0,none⟩),.pointer (some ⟨k8,0,none⟩)]):=d8b;clear K3)
      | (go_at_call 108;refine(ah K4 _ (by first | exact ah hb4 | exact(ah hb4).drew)).mono ?_;rintro e w5 ⟨rfl,Z5⟩;have d8e:=(ah HC _ _ _ (S (j+1)) (ah Z5)).2.2;have d8f:w5.drew.cell? ⟨k8,0,none⟩=some (.func (.func 108) #[] #[.pointer (some ⟨k3,0,none⟩),.pointer (some ⟨k4,0,none⟩),.pointer (some ⟨k5,0,none⟩),.pointer (some ⟨k6,0,none⟩),.pointer (some ⟨k7,0,none⟩),.pointer (some ⟨k8,0,none⟩)]):=d8e;clear K4))
    all_goals (go_wp2_with fail;go_meet;first | exact⟨rfl,Z5⟩ | exact⟨rfl,hide ((ah Z5).later (Below.refl _ _).drew)⟩)
   case rest =>
    obtain⟨rfl,Z5⟩:=hcut
    clear K3 K4 d8 hq1 hq2 hq3
    go_wp2_with fail
    go_roundw
    case rel=>exact⟨j+1,by have:=ah HJ;omega,by go_num,Z5⟩
    case measure=>have:=ah HJ;simp[intOf];omega
  ·obtain rfl:j=32:=by omega
   have hjI:¬ ((32:Nat):Int)<32:=by omega
   clear HC KN2 KD HD
   go_wp2_with fail
   go_ret
   exact⟨rfl,hide (ah ZJ).pop⟩
end Go.Proofs.YtbofhdfhhbgdgaaGreatDoor
