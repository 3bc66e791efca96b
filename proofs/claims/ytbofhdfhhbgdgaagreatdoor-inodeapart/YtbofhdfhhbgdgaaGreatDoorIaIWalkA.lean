/- The walk through a file, and Blocks. -/
import Derived.Test.YtbofhdfhhbgdgaaGreatDoorIaJ44
import Derived.LoopN
import Derived.BigRegion
namespace Go.Proofs.YtbofhdfhhbgdgaaGreatDoor
set_option maxRecDepth 100000
set_option maxHeartbeats 8000000
open Go.RowKit Go.Shelf Go.Maps
set_option linter.unusedVariables false
theorem afd {u:World}{tb a:Nat}{P:Nat->Int}(ht:u.heap[tb]?=some (tbO a P))(hp:P 0=64):Calls Tryz.prog 107 #[.pointer (some ⟨tb,0,none⟩)] u fun e u'=>e=.returned (.int .i64 32)/\u=u':=by
 have c1:=(aS ht).1
 rw[hp] at c1
 clear ht hp
 go_enter Tryz.func107,Tryz.ntmps107
 go_wp2_with fail
 go_ret
 exact⟨rfl,rfl⟩
theorem Two.turn {w P G E g o}{rows:List (Nat×Obj)}{i V F V' K u}{dg pg k:Nat}{ds ps}{ob ob':Obj}(h:Two w P G E g o ((k,ob)::rows) i V F V' K dg pg ds ps u)(h0:0<w.heap.size)(hk:w.heap.size<=k)(hn:∀ y∈rows,y.1≠k)(v:Value)(ho:(u.setCell ⟨k,0,none⟩ v).heap[k]?=some ob'):Two w P G E g o ((k,ob')::rows) i V F V' K dg pg ds ps (u.setCell ⟨k,0,none⟩ v):=by
 obtain⟨da,dc,Rd,pa,pc,Rp,t,l⟩:=h
 have nq:∀ {ks:List (Nat×Obj)} {a0:Option Addr} {n0 c0:Nat} {xs:List Int} {R:List (Nat×Obj)},Ir w.heap.size ks a0 n0 c0 xs R->(∃ y∈ks,y.1=k)->∀ x∈R,x.1≠k:=fun hI ⟨y,hy,ey⟩ x hx e=>by
  obtain⟨_,_,_,h4⟩:=hI
  rcases h4 with ⟨_,_,_,e4⟩ | ⟨q,cur,_,_,e4,_,_,e7⟩
  ·rw[e4] at hx;simp at hx
  ·rw[e4,List.mem_singleton] at hx
   rw[hx] at e
   exact e7 y hy (ey.trans e.symm)
 have l1:Lp w P G E g o ((k,ob)::(Rd++((dg,.cells #[.slice da ds.length dc] 22)::(Rp++((pg,.cells #[.slice pa ps.length pc] 22)::rows))))) i V F V' K u:=l.sub (fun x hx=>by
  simp only[List.mem_cons,List.mem_append] at hx ⊢
  rcases hx with e | e | e | e | e | e
  ·exact .inr (.inr (.inr (.inr (.inl e))))
  ·exact .inl e
  ·exact .inr (.inl e)
  ·exact .inr (.inr (.inl e))
  ·exact .inr (.inr (.inr (.inl e)))
  ·exact .inr (.inr (.inr (.inr (.inr e)))))
 have l2:=l1.swap hk h0 (fun y hy=>by
  simp only[List.mem_cons,List.mem_append] at hy
  rcases hy with e | e | e | e | e
  ·exact nq t.d ⟨(k,ob),by simp,rfl⟩ y e
  ·rw[e];exact fun e2=>t.rd (k,ob) (by simp) e2.symm
  ·exact nq t.p ⟨(k,ob),by simp,rfl⟩ y e
  ·rw[e];exact fun e2=>t.rp (k,ob) (by simp) e2.symm
  ·exact hn y e) (u':=u.setCell ⟨k,0,none⟩ v) (fun q hq=>Below.heap_setCell _ _ _ _ hq) ((Below.refl _ _).setCell (p:=⟨k,0,none⟩) hk _) ho
 refine⟨da,dc,Rd,pa,pc,Rp,⟨t.d.sub (fun q ob2 hm y hy=>?_),t.p.sub (fun q ob2 hm y hy=>?_),t.dp,fun y hy=>?_,fun y hy=>?_,t.bd,t.bp⟩,l2.sub (fun x hx=>?_)⟩
 ·simp only[List.mem_cons,List.mem_append] at hy
  have e7:=(t.d.key (q:=q) (by
   obtain⟨_,_,_,h4⟩:=t.d
   rcases h4 with ⟨_,_,_,e4⟩ | ⟨q',cur,e1,_,e4,_,_,_⟩
   ·rw[e4] at hm;simp at hm
   ·rw[e4,List.mem_singleton] at hm
    cases hm
    exact e1)).2
  rcases hy with e | e | e | e | e
  ·exact e7 y (by simp[e])
  ·exact e7 y (by simp[e])
  ·exact e7 y (by simp[e])
  ·rw[e];exact e7 (k,ob) (by simp)
  ·exact e7 y (by simp[e])
 ·simp only[List.mem_cons,List.mem_append] at hy
  have e7:=(t.p.key (q:=q) (by
   obtain⟨_,_,_,h4⟩:=t.p
   rcases h4 with ⟨_,_,_,e4⟩ | ⟨q',cur,e1,_,e4,_,_,_⟩
   ·rw[e4] at hm;simp at hm
   ·rw[e4,List.mem_singleton] at hm
    cases hm
    exact e1)).2
  rcases hy with e | e | e | e | e
  ·exact e7 y (by simp[e])
  ·exact e7 y (by simp[e])
  ·exact e7 y (by simp[e])
  ·rw[e];exact e7 (k,ob) (by simp)
  ·exact e7 y (by simp[e])
 ·rcases List.mem_cons.1 hy with e | e
  ·rw[e];exact t.rd (k,ob) (by simp)
  ·exact t.rd y (List.mem_cons_of_mem _ e)
 ·rcases List.mem_cons.1 hy with e | e
  ·rw[e];exact t.rp (k,ob) (by simp)
  ·exact t.rp y (List.mem_cons_of_mem _ e)
 ·simp only[List.mem_cons,List.mem_append] at hx ⊢
  rcases hx with e | e | e | e | e | e
  ·exact .inr (.inl e)
  ·exact .inr (.inr (.inl e))
  ·exact .inr (.inr (.inr (.inl e)))
  ·exact .inr (.inr (.inr (.inr (.inl e))))
  ·exact .inl e
  ·exact .inr (.inr (.inr (.inr (.inr e))))
def iC (X:Nat->Int):Nat->List Int×List Int->List Int×List Int
 | 0,st=>st
 | k+1,st=>s1 (iC X k st) (X (3+k)) k
def sW (V':Nat->List Int) (X:Nat->Int):List Int×List Int:=uS V' (s32 V' (iC X 8 ([],[])) (X 11) 8) (X 12) 40
theorem iy {X:Nat->Int}{st:List Int×List Int}(h:st.1=[]):∀ k,(iC X k st).1.length<=k/\(iC X k st).2=st.2
 | 0=>⟨by show st.1.length<=0;rw[h];exact Nat.le_refl _,rfl⟩
 | k+1=>by
  obtain⟨i1,i2⟩:=iy (X:=X) h k
  have:=acP (b:=X (3+k)) (nm:=k) (st:=iC X k st) i1
  unfold iC
  rw[this.2,i2]
  exact⟨this.1,rfl⟩
def okP (E:Nat->Bool) (b:Int):Prop:=b=0\/∃ n:Nat,b=(n:Int)/\n≠0/\E n=true
theorem ag4 {w P G E g o rows i V F V' K u}{tb a dg pg k3 k4 k5 k6 k7 k8:Nat}{st:List Int×List Int}(h:Two w P G E g o rows i V F V' K dg pg st.1 st.2 u)(hk:Wk rows P o tb a dg pg k3 k4 k5 k6 k7 k8)(h0:0<w.heap.size)(hB:G.blk=64)(b:Int)(nm:Nat)(hb:okP E b)(hn:st.1.length<=nm)(hm:nm<=4000)(hp:st.2.length<=1000) :
  Calls Tryz.prog 108 #[.int .i64 b,.int .i64 (nm:Int),.int .i64 32,.pointer (some ⟨k3,0,none⟩),.pointer (some ⟨k4,0,none⟩),.pointer (some ⟨k5,0,none⟩),.pointer (some ⟨k6,0,none⟩),.pointer (some ⟨k7,0,none⟩),.pointer (some ⟨k8,0,none⟩)] u fun e u'=>e=.returned (.int .i64 0)/\Hid (Two w P G E g o rows i V F V' K dg pg (s32 V' st b nm).1 (s32 V' st b nm).2 u'):=by
 unfold s32
 rcases hb with rfl | ⟨n,rfl,h1,h2⟩
 ·rw[if_pos rfl]
  refine(kY _ 32 u k3 k4 k5 k6 k7 k8).mono ?_
  rintro e u' ⟨rfl,rfl⟩
  exact⟨rfl,h⟩
 ·rw[if_neg (by omega)]
  exact aek h hk h0 hB n nm h1 h2 hn hm hp
theorem abP {w P G E g o rows i V F V' K u}{tb a dg pg k3 k4 k5 k6 k7 k8:Nat}{st:List Int×List Int}(h:Two w P G E g o rows i V F V' K dg pg st.1 st.2 u)(hk:Wk rows P o tb a dg pg k3 k4 k5 k6 k7 k8)(h0:0<w.heap.size)(hB:G.blk=64)(b:Int)(nm:Nat)(hb:okP E b)(hok:b≠0->∀ k,k<32->okP E (gV V' b k))(hn:st.1.length<=nm)(hm:nm<=2000)(hp:st.2.length<=900) :
  Calls Tryz.prog 108 #[.int .i64 b,.int .i64 (nm:Int),.int .i64 1024,.pointer (some ⟨k3,0,none⟩),.pointer (some ⟨k4,0,none⟩),.pointer (some ⟨k5,0,none⟩),.pointer (some ⟨k6,0,none⟩),.pointer (some ⟨k7,0,none⟩),.pointer (some ⟨k8,0,none⟩)] u fun e u'=>e=.returned (.int .i64 0)/\Hid (Two w P G E g o rows i V F V' K dg pg (uS V' st b nm).1 (uS V' st b nm).2 u'):=by
 unfold uS
 rcases hb with rfl | ⟨n,rfl,h1,h2⟩
 ·rw[if_pos rfl]
  refine(kY _ 1024 u k3 k4 k5 k6 k7 k8).mono ?_
  rintro e u' ⟨rfl,rfl⟩
  exact⟨rfl,h⟩
 ·rw[if_neg (by omega)]
  exact ael h hk h0 hB n nm h1 h2 hn hm hp (hok (by omega))
end Go.Proofs.YtbofhdfhhbgdgaaGreatDoor
