/- Joined: IFnd, ISw, ILed, IKpC, IApM, IApN, IApQ. -/
import Derived.Test.YtbofhdfhhbgdgaaGreatDoorIaJ49
import Derived.Test.YtbofhdfhhbgdgaaGreatDoorIaJ41
import Derived.Test.YtbofhdfhhbgdgaaGreatDoorIaJ48
import Derived.Test.YtbofhdfhhbgdgaaGreatDoorIaJ1
/- Find, Make and Blocks at every number of the two files. -/
namespace Go.Proofs.YtbofhdfhhbgdgaaGreatDoor
set_option maxRecDepth 100000
set_option maxHeartbeats 8000000
open Go.RowKit Go.Shelf Go.Maps
set_option linter.unusedVariables false
theorem pG {w:World}{g o a tb:Nat}{rows:List (Nat×Obj)}{E V' X β}(h:Fst E V' X β)(ht:(tb,tbO a aP)∈rows){s:Slot}(hs:sOk s)(s0:s.1≠0)(hb0:aT X V' (dW s)≠0)(la:Bool) :
  aiG w aP aG g o 1 aV (fun _=>false) (fun _=>false) rows tb (aT X V' (dW s)) ((sIx s:Nat):Int) la E V' (aT X V' s) 0 E V':=by
 obtain⟨po,pn,pk,pi⟩:=gJ hs s0
 obtain⟨g1,g2,g3⟩:=h.t.rng _ po hb0
 have hE:=h.t.pe s hs po s0 hb0
 obtain⟨bn,hbn⟩:∃ bn:Nat,aT X V' (dW s)=(bn:Int):=⟨_,(Int.toNat_of_nonneg (by omega)).symm⟩
 have hv:aT X V' s=ak (V' bn) (((sIx s:Nat):Int)*2) 2:=by
  rw[jD hs s0,hbn]
  unfold mQ gV
  rw[if_neg (by omega),Int.toNat_natCast]
 rw[hv,hbn]
 rw[hbn,Int.toNat_natCast] at hE
 exact agx (a:=a) ht hE (by show 2*sIx s+2<=64;omega)
theorem jY {X:Nat->Nat->Int}{V':Nat->List Int}{s}(hs:sOk s)(s0:s.1≠0)(h:aT X V' (dW s)=0):aT X V' s=0:=by
 rw[jD hs s0,h]
 rfl
theorem agO {w}{g o a tb:Nat}{rows u E V'}{X:Nat->Nat->Int}{β:Nat->Bool}(L:Lp w aP aG E g o rows 1 aV (fun _=>false) V' (fun _=>false) u)(h:Fst E V' X β)(ht:(tb,tbO a aP)∈rows)(h0:0<w.heap.size){f n:Nat}(hf:f<2)(hn:n<1064) :
  Calls Tryz.prog 13 #[.pointer (some ⟨tb,0,none⟩),.pointer (some ⟨o,0,none⟩),.int .i64 ((2+f:Nat):Int),.int .i64 (n:Int)] u fun r u'=>r=.returned (.tuple #[.int .i64 (aT X V' (sOf f n)),.int .i64 0])/\Hid (Lp w aP aG E g o rows 1 aV (fun _=>false) V' (fun _=>false) u'):=by
 obtain⟨p1,p2,p3⟩:=akm hf
 have hfit:fAt f+32<=aG.blk:=by show 32*f+32<=64;omega
 obtain⟨hi,hX⟩:=h.ino hf
 have hm:¬ mfb aP<=(n:Int):=by rw[aa7];omega
 have hneg:¬ (n:Int)<0:=by omega
 obtain⟨so1,so2⟩:=iW hf hn
 refine ac0 (Q:=fun u'=>Lp w aP aG E g o rows 1 aV (fun _=>false) V' (fun _=>false) u') ?_
 by_cases h8:n<8
 ·have es:sOf f n=(0,f,n,0):=by unfold sOf;rw[if_pos h8]
  rw[es]
  exact agn (a:=a) (bk:=35) (at0:=fAt f) (s0:=n) L ht h0 p1 p2 p3 hfit h.e35 hi hX (by omega) (fun v=>nM aP (n:Int) 32 v aPG.chk hneg hm ai8 (by omega)) jv
 ·by_cases h40:n<40
  ·have es:sOf f n=(1,f,n - 8,0):=by unfold sOf;rw[if_neg h8,if_pos h40]
   rw[es] at so1 so2 ⊢
   have hS:∀ v,Calls Tryz.prog 102 #[Pv aP,.int .i64 (n:Int)] v fun r w'=>(∃ k,r=.returned (.tuple #[.slice (some ⟨k,0,none⟩) 2 2,.int .i64 0])/\v.heap.size<=k/\w'.heap[k]?=some (.cells #[.int .i64 ((8:Nat):Int),.int .i64 ((n:Int) - 8)] 3))/\Below v.heap.size v w':=fun v=>uK aP (n:Int) 32 v aPG.chk hneg hm ai8 (by omega) (by omega)
   by_cases hz:aT X V' (0,f,8,0)=0
   ·rw[jY so1 (by simp) hz]
    exact ql (a:=a) (bk:=35) (at0:=fAt f) (s0:=8) L ht h0 p1 p2 p3 hfit h.e35 hi hX (by omega) hS (jv (X:=X f)) ⟨rfl,hz⟩
   ·have hE:=pG (w:=w) (g:=g) (o:=o) h ht so1 (by simp) hz true
    rw[show dW (1,f,n - 8,0)=(0,f,8,0) from rfl,show sIx (1,f,n - 8,0)=n - 8 from rfl,show ((n - 8:Nat):Int)=(n:Int) - 8 by omega] at hE
    exact agm (a:=a) (bk:=35) (at0:=fAt f) (s0:=8) L ht h0 p1 p2 p3 hfit h.e35 hi hX (by omega) hS (jv (X:=X f)) hE ⟨rfl,hz⟩
  ·have es:sOf f n=(3,f,(n - 40) / 32,(n - 40)%32):=by unfold sOf;rw[if_neg h8,if_neg h40]
   rw[es] at so1 so2 ⊢
   have hS:∀ v,Calls Tryz.prog 102 #[Pv aP,.int .i64 (n:Int)] v fun r w'=>(∃ k,r=.returned (.tuple #[.slice (some ⟨k,0,none⟩) 3 3,.int .i64 0])/\v.heap.size<=k/\w'.heap[k]?=some (.cells #[.int .i64 ((9:Nat):Int),.int .i64 (((n:Int) - 8 - 32) / 32),.int .i64 (((n:Int) - 8 - 32)%32)] 3))/\Below v.heap.size v w':=fun v=>nK aP (n:Int) 32 v aPG.chk hneg hm ai8 (by omega) (by omega)
   have t2:sOk (2,f,(n - 40) / 32,0):=⟨hf,.inr (.inr (.inl ⟨rfl,by show (n - 40) / 32<32;omega,rfl⟩))⟩
   by_cases hz:aT X V' (0,f,9,0)=0
   ·rw[jY so1 (by simp) (jY (s:=(2,f,(n - 40) / 32,0)) t2 (by simp) hz)]
    exact mO (a:=a) (bk:=35) (at0:=fAt f) (s0:=9) L ht h0 p1 p2 p3 hfit h.e35 hi hX (by omega) hS (jv (X:=X f)) ⟨rfl,hz⟩
   ·have hE:=pG (w:=w) (g:=g) (o:=o) h ht t2 (by simp) hz false
    rw[show dW (2,f,(n - 40) / 32,0)=(0,f,9,0) from rfl,show sIx (2,f,(n - 40) / 32,0)=(n - 40) / 32 from rfl,show (((n - 40) / 32:Nat):Int)=((n:Int) - 8 - 32) / 32 by omega] at hE
    by_cases hz2:aT X V' (2,f,(n - 40) / 32,0)=0
    ·rw[jY so1 (by simp) hz2]
     exact mM (a:=a) (bk:=35) (at0:=fAt f) (s0:=9) L ht h0 p1 p2 p3 hfit h.e35 hi hX (by omega) hS (jv (X:=X f)) hE ⟨rfl,hz⟩ ⟨rfl,hz2⟩
    ·have hE2:=pG (w:=w) (g:=g) (o:=o) h ht so1 (by simp) hz2 true
     rw[show dW (3,f,(n - 40) / 32,(n - 40)%32)=(2,f,(n - 40) / 32,0) from rfl,show sIx (3,f,(n - 40) / 32,(n - 40)%32)=(n - 40)%32 from rfl,show (((n - 40)%32:Nat):Int)=((n:Int) - 8 - 32)%32 by omega] at hE2
     exact abI (a:=a) (bk:=35) (at0:=fAt f) (s0:=9) L ht h0 p1 p2 p3 hfit h.e35 hi hX (by omega) hS (jv (X:=X f)) hE hE2 ⟨rfl,hz⟩ ⟨rfl,hz2⟩
theorem uM {n:Int}(hn:n<0\/1064<=n)(v:World):Calls Tryz.prog 102 #[Pv aP,.int .i64 n] v fun r w'=>(∃ a n c,r=.returned (.tuple #[.slice a n c,.int .i64 2]))/\Below v.heap.size v w':=by
 by_cases h:n<0
 ·refine(ac7 aP n v aPG.chk h).mono ?_
  rintro r w1 ⟨⟨a,n,c,e,_⟩,b⟩
  exact⟨⟨a,n,c,e⟩,b⟩
 ·refine(aaO aP n v aPG.chk h (by rw[aa7];omega)).mono ?_
  rintro r w1 ⟨⟨a,n,c,e,_⟩,b⟩
  exact⟨⟨a,n,c,e⟩,b⟩
theorem aaM {w}{g o a tb:Nat}{rows u E V'}{X:Nat->Nat->Int}{β:Nat->Bool}(L:Lp w aP aG E g o rows 1 aV (fun _=>false) V' (fun _=>false) u)(ht:(tb,tbO a aP)∈rows){j n:Int}(hn:n<0\/1064<=n) :
  Calls Tryz.prog 13 #[.pointer (some ⟨tb,0,none⟩),.pointer (some ⟨o,0,none⟩),.int .i64 j,.int .i64 n] u fun r u'=>r=.returned (.tuple #[.int .i64 0,.int .i64 2])/\Hid (Lp w aP aG E g o rows 1 aV (fun _=>false) V' (fun _=>false) u'):=by
 refine(xI u (some ⟨o,0,none⟩) j n (L.row ht) (fun v=>uM hn v)).mono ?_
 rintro r u' ⟨rfl,b⟩
 exact⟨rfl,L.later b⟩
theorem aaL {w}{g o a tb:Nat}{rows u E V'}{X:Nat->Nat->Int}{β:Nat->Bool}(L:Lp w aP aG E g o rows 1 aV (fun _=>false) V' (fun _=>false) u)(ht:(tb,tbO a aP)∈rows){j n:Int}(hn:n<0\/1064<=n) :
  Calls Tryz.prog 14 #[.pointer (some ⟨tb,0,none⟩),.pointer (some ⟨o,0,none⟩),.int .i64 j,.int .i64 n] u fun r u'=>r=.returned (.tuple #[.int .i64 0,.bool false,.int .i64 2])/\Hid (Lp w aP aG E g o rows 1 aV (fun _=>false) V' (fun _=>false) u'):=by
 refine(xG u (some ⟨o,0,none⟩) j n (L.row ht) (fun v=>uM hn v)).mono ?_
 rintro r u' ⟨rfl,b⟩
 exact⟨rfl,L.later b⟩
theorem ajc {w}{g o a tb:Nat}{rows u E V'}{X:Nat->Nat->Int}{β:Nat->Bool}(L:Lp w aP aG E g o rows 1 aV (fun _=>false) V' (fun _=>false) u)(h:Fst E V' X β)(ht:(tb,tbO a aP)∈rows)(ha:(a,alO g aP)∈rows)(h0:0<w.heap.size){f n:Nat}(hf:f<2)(hn:n<1064) :
  ∃ b e q E1 V1 X1 β1,Calls Tryz.prog 14 #[.pointer (some ⟨tb,0,none⟩),.pointer (some ⟨o,0,none⟩),.int .i64 ((2+f:Nat):Int),.int .i64 (n:Int)] u (fun r u'=>r=.returned (.tuple #[.int .i64 b,.bool q,.int .i64 e])/\Hid (Lp w aP aG E1 g o rows 1 aV (fun _=>false) V1 (fun _=>false) u'))/\Fst E1 V1 X1 β1/\MkR X V' X1 V1 (sOf f n) b e q/\(e=10->b=0/\q=false):=by
 obtain⟨b,e,q,E1,V1,X1,β1,HF,hF,hR⟩:=adY (g:=g) (o:=o) (a:=a) (tb:=tb) h0 h hf hn
 by_cases he:e=0
 ·subst he
  exact⟨b,0,q,E1,V1,X1,β1,qZ L h0 rfl (HF rows ht ha),hF,hR,fun x=>absurd x (by omega)⟩
 ·refine⟨0,e,false,E1,V1,X1,β1,uF L h0 he (HF rows ht ha),hF,⟨?_,hR.d,hR.k,hR.z⟩,fun _=>⟨rfl,rfl⟩⟩
  rcases hR.o with x | x
  ·exact absurd x.1 he
  ·exact .inr x
theorem Fst.ahM {E V' X β}(h:Fst E V' X β){s:Slot}(hs:sOk s)(s0:s.1≠0):okP E (aT X V' (dW s)):=by
 by_cases hz:aT X V' (dW s)=0
 ·exact .inl hz
 ·obtain⟨po,pn,pk,pi⟩:=gJ hs s0
  obtain⟨g1,g2,g3⟩:=h.t.rng _ po hz
  exact .inr ⟨(aT X V' (dW s)).toNat,by omega,by omega,h.t.pe s hs po s0 hz⟩
theorem afg {w}{g o a tb:Nat}{rows u E V'}{X:Nat->Nat->Int}{β:Nat->Bool}(L:Lp w aP aG E g o rows 1 aV (fun _=>false) V' (fun _=>false) u)(h:Fst E V' X β)(ht:(tb,tbO a aP)∈rows)(h0:0<w.heap.size){f:Nat}(hf:f<2) :
  Calls Tryz.prog 15 #[.pointer (some ⟨tb,0,none⟩),.pointer (some ⟨o,0,none⟩),.int .i64 ((2+f:Nat):Int)] u fun e u'=>∃ da dc pa pc,e=.returned (.tuple #[.slice da (sW V' (X f)).1.length dc,.slice pa (sW V' (X f)).2.length pc,.int .i64 0])/\Hid (akj w aP aG E g o rows 1 aV (fun _=>false) V' (fun _=>false) (sW V' (X f)).1 (sW V' (X f)).2 da dc pa pc u'):=by
 obtain⟨p1,p2,p3⟩:=akm hf
 have hfit:fAt f+32<=aG.blk:=by show 32*f+32<=64;omega
 obtain⟨hi,hX⟩:=h.ino hf
 have k1:sOk (1,f,0,0):=⟨hf,.inr (.inl ⟨rfl,by show 0<32;omega,rfl⟩)⟩
 have k2:∀ k,k<32->sOk (2,f,k,0):=fun k hk=>⟨hf,.inr (.inr (.inl ⟨rfl,hk,rfl⟩))⟩
 have k3:∀ k,k<32->sOk (3,f,k,0):=fun k hk=>⟨hf,.inr (.inr (.inr ⟨rfl,hk,by show 0<32;omega⟩))⟩
 refine aaI (a:=a) (bk:=35) (at0:=fAt f) L (X f) _ ht h0 p1 p2 p3 hfit h.e35 hi hX rfl (by rw[gQ];decide) (h.ahM k1 (by simp)) (h.ahM (k2 0 (by omega)) (by simp)) ?_
 intro hx k hk
 have:=h.ahM (k3 k hk) (by simp)
 rw[show dW (3,f,k,0)=(2,f,k,0) from rfl,jD (k2 k hk) (by simp)] at this
 unfold mQ at this
 rw[if_neg (show aT X V' (dW (2,f,k,0))≠0 from hx)] at this
 exact this
def nzL (l:List Int):List Int:=l.filter (fun b=>b != 0)
theorem dM (l m:List Int):nzL (l++m)=nzL l++nzL m:=List.filter_append ..
theorem ahQ (n:Nat):nzL (List.replicate n 0)=[]:=by
 unfold nzL
 rw[List.filter_eq_nil_iff]
 intro x hx
 rw[(List.mem_replicate.1 hx).2]
 decide
theorem kD {l:List Int}(h:∀ x∈l,x=0):nzL l=[]:=by
 unfold nzL
 rw[List.filter_eq_nil_iff]
 intro x hx
 rw[h x hx]
 decide
theorem adu {l:List Int}{b:Int}:b∈nzL l↔b∈l/\b≠0:=by
 unfold nzL
 rw[List.mem_filter]
 simp
theorem ajh (st:List Int×List Int)(b:Int)(nm:Nat):nzL (s1 st b nm).1=nzL st.1++nzL [b]/\(s1 st b nm).2=st.2:=by
 unfold s1
 split
 ·rename_i h
  rw[h]
  refine⟨?_,rfl⟩
  rw[kD (l:=[0]) (by simp),List.append_nil]
 ·refine⟨?_,rfl⟩
  show nzL (st.1++List.replicate (nm - st.1.length) 0++[b])=_
  rw[dM,dM,ahQ,List.append_nil]
theorem sS {α β:Type}(f:Nat->β)(k:Nat):(List.range (k+1)).map f=(List.range k).map f++[f k]:=by
 rw[List.range_succ,List.map_append]
 rfl
theorem agS (p:Nat->Int)(each nm:Nat)(st:List Int×List Int):∀ k,nzL (sF s1 p each nm k st).1=nzL st.1++nzL ((List.range k).map p)/\(sF s1 p each nm k st).2=st.2
 | 0=>⟨by simp[sF,nzL],rfl⟩
 | k+1=>by
  obtain⟨i1,i2⟩:=agS p each nm st k
  obtain⟨j1,j2⟩:=ajh (sF s1 p each nm k st) (p k) (nm+k*each)
  refine⟨?_,j2.trans i2⟩
  show nzL (s1 (sF s1 p each nm k st) (p k) (nm+k*each)).1=_
  rw[j1,i1,sS (α:=Nat),dM,List.append_assoc]
theorem acO (X:Nat->Int)(st:List Int×List Int):∀ k,nzL (iC X k st).1=nzL st.1++nzL ((List.range k).map (fun j=>X (3+j)))/\(iC X k st).2=st.2
 | 0=>⟨by simp[iC,nzL],rfl⟩
 | k+1=>by
  obtain⟨i1,i2⟩:=acO X st k
  obtain⟨j1,j2⟩:=ajh (iC X k st) (X (3+k)) k
  refine⟨?_,j2.trans i2⟩
  show nzL (s1 (iC X k st) (X (3+k)) k).1=_
  rw[j1,i1,sS (α:=Nat),dM,List.append_assoc]
theorem aaj (V':Nat->List Int)(k:Nat):nzL ((List.range k).map (mQ V' 0))=[]:=by
 refine kD fun x hx=>?_
 obtain⟨j,_,rfl⟩:=List.mem_map.1 hx
 rfl
theorem uJ (V':Nat->List Int){b:Int}(h:b≠0):mQ V' b=gV V' b:=by
 funext k
 unfold mQ
 rw[if_neg h]
theorem agT (V':Nat->List Int)(st:List Int×List Int)(b:Int)(nm:Nat):nzL (s32 V' st b nm).1=nzL st.1++nzL ((List.range 32).map (mQ V' b))/\(s32 V' st b nm).2=st.2++nzL [b]:=by
 unfold s32
 split
 ·rename_i h
  rw[h,aaj,kD (l:=[0]) (by simp),List.append_nil,List.append_nil]
  exact⟨rfl,rfl⟩
 ·rename_i h
  obtain⟨i1,i2⟩:=agS (gV V' b) 1 nm (st.1,st.2++[b]) 32
  rw[i1,i2,uJ V' h]
  refine⟨rfl,?_⟩
  have:nzL [b]=[b]:=by simp[nzL,h]
  rw[this]
theorem acN (V':Nat->List Int)(p:Nat->Int)(each nm:Nat)(st:List Int×List Int):∀ k,nzL (sF (s32 V') p each nm k st).1=nzL st.1++nzL ((List.range k).flatMap (fun j=>(List.range 32).map (mQ V' (p j))))/\(sF (s32 V') p each nm k st).2=st.2++nzL ((List.range k).map p)
 | 0=>⟨by simp[sF,nzL],by simp[sF,nzL]⟩
 | k+1=>by
  obtain⟨i1,i2⟩:=acN V' p each nm st k
  obtain⟨j1,j2⟩:=agT V' (sF (s32 V') p each nm k st) (p k) (nm+k*each)
  constructor
  ·show nzL (s32 V' (sF (s32 V') p each nm k st) (p k) (nm+k*each)).1=_
   rw[j1,i1,List.range_succ (n:=k),List.flatMap_append,dM,List.append_assoc,List.flatMap_singleton]
  ·show (s32 V' (sF (s32 V') p each nm k st) (p k) (nm+k*each)).2=_
   rw[j2,i2,sS (α:=Nat),dM,List.append_assoc]
theorem afr (V':Nat->List Int)(st:List Int×List Int)(b:Int)(nm:Nat):nzL (uS V' st b nm).1=nzL st.1++nzL ((List.range 32).flatMap (fun j=>(List.range 32).map (mQ V' (mQ V' b j))))/\(uS V' st b nm).2=st.2++nzL [b]++nzL ((List.range 32).map (mQ V' b)):=by
 unfold uS
 split
 ·rename_i h
  have e:nzL ((List.range 32).flatMap (fun j=>(List.range 32).map (mQ V' (mQ V' 0 j))))=[]:=by
   refine kD fun x hx=>?_
   obtain⟨j,_,hx⟩:=List.mem_flatMap.1 hx
   obtain⟨l,_,rfl⟩:=List.mem_map.1 hx
   rfl
  rw[h,e,aaj,kD (l:=[0]) (by simp),List.append_nil,List.append_nil,List.append_nil]
  exact⟨rfl,rfl⟩
 ·rename_i h
  obtain⟨i1,i2⟩:=acN V' (gV V' b) 32 nm (st.1,st.2++[b]) 32
  rw[i1,i2,uJ V' h]
  refine⟨rfl,?_⟩
  have:nzL [b]=[b]:=by simp[nzL,h]
  rw[this]
def dSl (f:Nat):List Slot:=(List.range 8).map (fun k=>(0,f,k,0))++(List.range 32).map (fun k=>(1,f,k,0))++(List.range 32).flatMap (fun k=>(List.range 32).map (fun l=>(3,f,k,l)))
def pSl (f:Nat):List Slot:=(0,f,8,0)::(0,f,9,0)::(List.range 32).map (fun k=>(2,f,k,0))
theorem yK {f:Nat}(hf:f<2){s:Slot}:s∈dSl f↔sOk s/\dS s/\s.2.1=f:=by
 obtain⟨q,f',k,l⟩:=s
 unfold dSl sOk dS
 simp only[List.mem_append,List.mem_map,List.mem_flatMap,List.mem_range,Prod.mk.injEq]
 constructor
 ·rintro ((⟨j,h,rfl,rfl,rfl,rfl⟩ | ⟨j,h,rfl,rfl,rfl,rfl⟩) | ⟨j,h,m,h2,rfl,rfl,rfl,rfl⟩)<;>omega
 ·rintro ⟨⟨h1,h2⟩,h3,rfl⟩
  rcases h2 with ⟨rfl,h,rfl⟩ | ⟨rfl,h,rfl⟩ | ⟨rfl,h,rfl⟩ | ⟨rfl,h,h'⟩
  ·exact .inl (.inl ⟨k,by omega,rfl,rfl,rfl,rfl⟩)
  ·exact .inl (.inr ⟨k,by omega,rfl,rfl,rfl,rfl⟩)
  ·omega
  ·exact .inr ⟨k,by omega,l,by omega,rfl,rfl,rfl,rfl⟩
theorem yI {f:Nat}(hf:f<2){s:Slot}:s∈pSl f↔sOk s/\¬ dS s/\s.2.1=f:=by
 obtain⟨q,f',k,l⟩:=s
 unfold pSl sOk dS
 simp only[List.mem_cons,List.mem_map,List.mem_range,Prod.mk.injEq]
 constructor
 ·rintro (⟨rfl,rfl,rfl,rfl⟩ | ⟨rfl,rfl,rfl,rfl⟩ | ⟨j,h,rfl,rfl,rfl,rfl⟩)<;>omega
 ·rintro ⟨⟨h1,h2⟩,h3,rfl⟩
  rcases h2 with ⟨rfl,h,rfl⟩ | ⟨rfl,h,rfl⟩ | ⟨rfl,h,rfl⟩ | ⟨rfl,h,h'⟩
  ·by_cases e:k=8
   ·exact .inl ⟨rfl,rfl,e,rfl⟩
   ·exact .inr (.inl ⟨rfl,rfl,by omega,rfl⟩)
  ·omega
  ·exact .inr (.inr ⟨k,by omega,rfl,rfl,rfl,rfl⟩)
  ·omega
theorem afp (X:Nat->Nat->Int)(V':Nat->List Int)(f:Nat):nzL (sW V' (X f)).1=nzL ((dSl f).map (aT X V'))/\(sW V' (X f)).2=nzL ((pSl f).map (aT X V')):=by
 obtain⟨a1,a2⟩:=acO (X f) ([],[]) 8
 obtain⟨b1,b2⟩:=agT V' (iC (X f) 8 ([],[])) (X f 11) 8
 obtain⟨c1,c2⟩:=afr V' (s32 V' (iC (X f) 8 ([],[])) (X f 11) 8) (X f 12) 40
 have d1:(List.range 8).map (fun j=>X f (3+j))=((List.range 8).map (fun k=>((0,f,k,0):Slot))).map (aT X V'):=by
  rw[List.map_map]
  rfl
 have d2:(List.range 32).map (mQ V' (X f 11))=((List.range 32).map (fun k=>((1,f,k,0):Slot))).map (aT X V'):=by
  rw[List.map_map]
  rfl
 have d3:(List.range 32).flatMap (fun j=>(List.range 32).map (mQ V' (mQ V' (X f 12) j)))=((List.range 32).flatMap (fun k=>(List.range 32).map (fun l=>((3,f,k,l):Slot)))).map (aT X V'):=by
  rw[List.map_flatMap]
  congr 1
 have d4:(List.range 32).map (mQ V' (X f 12))=((List.range 32).map (fun k=>((2,f,k,0):Slot))).map (aT X V'):=by
  rw[List.map_map]
  rfl
 unfold sW
 constructor
 ·rw[c1,b1,a1,d1,d2,d3]
  unfold dSl
  rw[List.map_append,List.map_append,dM,dM]
  rfl
 ·rw[c2,b2,a2,d4]
  unfold pSl
  rw[List.map_cons,List.map_cons,show ∀ (x y:Int) (l:List Int),x::y::l=[x]++[y]++l from fun _ _ _=>rfl,dM,dM]
  rfl
theorem jC {s}(hs:sOk s):aT (fun _=>x1) aV s=0:=by
 have h1:∀ k,3<=k->x1 k=0:=fun k hk=>by
  unfold x1
  rw[if_neg (by omega),if_neg (by omega)]
 obtain⟨q,f,k,l⟩:=s
 obtain⟨h2,h3⟩:=hs
 simp only at h2 h3
 rcases h3 with ⟨rfl,h,rfl⟩ | ⟨rfl,h,rfl⟩ | ⟨rfl,h,rfl⟩ | ⟨rfl,h,h'⟩
 ·exact h1 _ (fO (s:=k) (by omega)).2
 ·rfl
 ·rfl
 ·rfl
theorem adT:Fst aE aV (fun _=>x1) (fun j=>decide (j<37)):=by
 refine⟨⟨fun s hs h=>absurd (jC hs) h,fun s t hs ht h=>absurd (jC hs) h,fun s hs hp s0 h=>absurd (jC hp) h⟩,fun j hj=>?_,rfl,fun f hf=>ng,rfl,rfl,rfl,fun b hb=>?_,?_⟩
 ·exact tY 64 37 (by omega) j
 ·unfold aV
  by_cases e1:b=35
  ·rw[if_pos e1];unfold tbZ;rw[List.length_append,fP]
  ·rw[if_neg e1]
   by_cases e2:b=33
   ·rw[if_pos e2];exact fU _ _
   ·rw[if_neg e2]
    by_cases e3:b=32
    ·rw[if_pos e3];exact fU _ _
    ·rw[if_neg e3];exact ahi 0
 ·exact jl 64 (upTo 37)
theorem xZ {f n f' n':Nat}(hn:n<1064)(hn':n'<1064)(h:sOf f n=sOf f' n'):f=f'/\n=n':=by
 unfold sOf at h
 by_cases a:n<8
 ·rw[if_pos a] at h
  by_cases b:n'<8
  ·rw[if_pos b] at h;simp at h;exact h
  ·rw[if_neg b] at h
   by_cases c:n'<40
   ·rw[if_pos c] at h;simp at h
   ·rw[if_neg c] at h;simp at h
 ·rw[if_neg a] at h
  by_cases a2:n<40
  ·rw[if_pos a2] at h
   by_cases b:n'<8
   ·rw[if_pos b] at h;simp at h
   ·rw[if_neg b] at h
    by_cases c:n'<40
    ·rw[if_pos c] at h;simp at h;omega
    ·rw[if_neg c] at h;simp at h
  ·rw[if_neg a2] at h
   by_cases b:n'<8
   ·rw[if_pos b] at h;simp at h
   ·rw[if_neg b] at h
    by_cases c:n'<40
    ·rw[if_pos c] at h;simp at h
    ·rw[if_neg c] at h;simp at h;omega
theorem zW (f n:Nat):(sOf f n).2.1=f:=by
 unfold sOf
 split
 ·rfl
 ·split<;>rfl
theorem ah9 {s}(hs:sOk s)(hd:dS s):∃ n,n<1064/\s=sOf s.2.1 n:=by
 obtain⟨q,f,k,l⟩:=s
 obtain⟨h1,h2⟩:=hs
 unfold dS at hd
 simp only at h1 h2 hd ⊢
 rcases h2 with ⟨rfl,h,rfl⟩ | ⟨rfl,h,rfl⟩ | ⟨rfl,h,rfl⟩ | ⟨rfl,h,h'⟩
 ·refine⟨k,by omega,?_⟩
  unfold sOf
  rw[if_pos (by omega)]
 ·refine⟨8+k,by omega,?_⟩
  unfold sOf
  rw[if_neg (by omega),if_pos (by omega),show 8+k - 8=k by omega]
 ·omega
 ·refine⟨40+(k*32+l),by omega,?_⟩
  unfold sOf
  rw[if_neg (by omega),if_neg (by omega),show 40+(k*32+l) - 40=k*32+l by omega,show (k*32+l) / 32=k by omega,show (k*32+l)%32=l by omega]
theorem Tree.nodup {E V' X β}(h:Tree E V' X β){S:List Slot}(hs:∀ s∈S,sOk s)(hn:S.Nodup):(nzL (S.map (aT X V'))).Nodup:=by
 unfold nzL List.Nodup
 rw[List.pairwise_filter,List.pairwise_map]
 refine List.Pairwise.imp_of_mem ?_ hn
 intro s t hs1 ht1 hne h1 h2 e
 exact hne (h.inj s t (hs s hs1) (hs t ht1) (by simpa using h1) e)
theorem aen (f:Nat):(dSl f).Nodup:=by
 have m:∀ {g:Nat->Slot} {n:Nat},(∀ a b,g a=g b->a=b)->((List.range n).map g).Nodup:=fun {g n} hg=>by
  unfold List.Nodup
  rw[List.pairwise_map]
  exact List.nodup_range.imp fun hab e=>hab (hg _ _ e)
 unfold dSl
 rw[List.nodup_append,List.nodup_append]
 refine⟨⟨m fun a b e=>by simpa using e,m fun a b e=>by simpa using e,?_⟩,?_,?_⟩
 ·intro a ha b hb e
  obtain⟨j,_,rfl⟩:=List.mem_map.1 ha
  obtain⟨k,_,rfl⟩:=List.mem_map.1 hb
  simp at e
 ·unfold List.Nodup
  rw[List.pairwise_flatMap]
  refine⟨fun k _=>m fun a b e=>by simpa using e,List.nodup_range.imp ?_⟩
  intro a b hab x hx y hy e
  obtain⟨j,_,rfl⟩:=List.mem_map.1 hx
  obtain⟨k,_,rfl⟩:=List.mem_map.1 hy
  simp at e
  exact hab e.1
 ·intro a ha b hb e
  obtain⟨k,_,hb⟩:=List.mem_flatMap.1 hb
  obtain⟨l,_,rfl⟩:=List.mem_map.1 hb
  rcases List.mem_append.1 ha with ha | ha
  ·obtain⟨j,_,rfl⟩:=List.mem_map.1 ha
   simp at e
  ·obtain⟨j,_,rfl⟩:=List.mem_map.1 ha
   simp at e
theorem vk (f:Nat):(pSl f).Nodup:=by
 unfold pSl
 rw[List.nodup_cons,List.nodup_cons]
 refine⟨by simp,by simp,?_⟩
 unfold List.Nodup
 rw[List.pairwise_map]
 exact List.nodup_range.imp fun hab e=>hab (by simpa using e)
structure Led (V':Nat->List Int) (X:Nat->Nat->Int) (A:Nat->List Nat):Prop where
 lt:∀ f,f<2->∀ n∈A f,n<1064
 nd:∀ f,f<2->(A f).Nodup
 no:∀ f,f<2->∀ n∈A f,aT X V' (sOf f n)≠0
 al:∀ f,f<2->∀ n,n<1064->aT X V' (sOf f n)≠0->n∈A f
def hav (V':Nat->List Int) (X:Nat->Nat->Int) (A:Nat->List Nat) (f:Nat):List Int:=(A f).map (fun n=>aT X V' (sOf f n))
theorem ad2:Led aV (fun _=>x1) (fun _=>[]) :=
 ⟨fun _ _ _ h=>by simp at h,fun _ _=>List.nodup_nil,fun _ _ _ h=>by simp at h,fun f hf n hn h=>absurd (jC (iW hf hn).1) h⟩
def aUp (A:Nat->List Nat) (f n:Nat):Nat->List Nat:=fun f'=>if f'=f then A f++[n] else A f'
theorem Led.same {V' V1:Nat->List Int}{X X1:Nat->Nat->Int}{A}(h:Led V' X A){f n:Nat}(hf:f<2)(hn:n<1064){b e:Int}{q:Bool}(hR:MkR X V' X1 V1 (sOf f n) b e q)(hq:e=10\/q=false):Led V1 X1 A/\∀ f',f'<2->hav V1 X1 A f'=hav V' X A f':=by
 have key:∀ f' n',f'<2->n'<1064->aT X1 V1 (sOf f' n')=aT X V' (sOf f' n'):=fun f' n' hf' hn'=>by
  obtain⟨s1,s2⟩:=iW hf' hn'
  by_cases e1:sOf f' n'=sOf f n
  ·rw[e1]
   rcases hR.o with ⟨x1,x2,x3,x4⟩ | x
   ·rcases hq with y | y
    ·omega
    ·exact hR.k _ (iW hf hn).1 fun z=>by rw[y] at x4;exact absurd (x4.2 z) (by simp)
   ·exact hR.z x
  ·exact hR.d _ s1 s2 e1
 refine⟨⟨h.lt,h.nd,fun f' hf' n' hn'=>by rw[key f' n' hf' (h.lt f' hf' n' hn')];exact h.no f' hf' n' hn',fun f' hf' n' hn' hx=>h.al f' hf' n' hn' (by rw[← key f' n' hf' hn'];exact hx)⟩,fun f' hf'=>?_⟩
 unfold hav
 exact List.map_congr_left fun n' hn'=>key f' n' hf' (h.lt f' hf' n' hn')
theorem Led.made {V' V1:Nat->List Int}{X X1:Nat->Nat->Int}{A}(h:Led V' X A){f n:Nat}(hf:f<2)(hn:n<1064){b:Int}(hR:MkR X V' X1 V1 (sOf f n) b 0 true):Led V1 X1 (aUp A f n)/\hav V1 X1 (aUp A f n) f=hav V' X A f++[b]/\∀ f',f'<2->f'≠f->hav V1 X1 (aUp A f n) f'=hav V' X A f':=by
 have hv:b≠0/\aT X1 V1 (sOf f n)=b/\aT X V' (sOf f n)=0:=by
  rcases hR.o with ⟨x1,x2,x3,x4⟩ | x
  ·exact⟨x2,x3,x4.1 rfl⟩
  ·omega
 have key:∀ f' n',f'<2->n'<1064->sOf f' n'≠sOf f n->aT X1 V1 (sOf f' n')=aT X V' (sOf f' n'):=fun f' n' hf' hn' e1=>hR.d _ (iW hf' hn').1 (iW hf' hn').2 e1
 have hnew:n ∉ A f:=fun hm=>h.no f hf n hm hv.2.2
 have hkeep:∀ f',f'<2->∀ n'∈A f',sOf f' n'≠sOf f n:=fun f' hf' n' hm e1=>by
  obtain⟨rfl,rfl⟩:=xZ (h.lt f' hf' n' hm) hn e1
  exact hnew hm
 have up:aUp A f n f=A f++[n]:=by unfold aUp;rw[if_pos rfl]
 have un:∀ f',f'≠f->aUp A f n f'=A f':=fun f' hne=>by unfold aUp;rw[if_neg hne]
 have mem:∀ f' n',n'∈aUp A f n f'↔n'∈A f'\/f'=f/\n'=n:=fun f' n'=>by
  by_cases e1:f'=f
  ·subst e1;rw[up];simp
  ·rw[un f' e1];simp[e1]
 refine⟨⟨fun f' hf' n' hm=>?_,fun f' hf'=>?_,fun f' hf' n' hm=>?_,fun f' hf' n' hn' hx=>?_⟩,?_,fun f' hf' hne=>?_⟩
 ·rcases(mem f' n').1 hm with x | ⟨_,rfl⟩
  ·exact h.lt f' hf' n' x
  ·exact hn
 ·by_cases e1:f'=f
  ·subst e1
   rw[up,List.nodup_append]
   refine⟨h.nd f' hf',by simp,fun a ha b hb e2=>?_⟩
   rw[List.mem_singleton] at hb
   rw[e2,hb] at ha
   exact hnew ha
  ·rw[un f' e1];exact h.nd f' hf'
 ·rcases(mem f' n').1 hm with x | ⟨rfl,rfl⟩
  ·rw[key f' n' hf' (h.lt f' hf' n' x) (hkeep f' hf' n' x)];exact h.no f' hf' n' x
  ·rw[hv.2.1];exact hv.1
 ·rw[mem]
  by_cases e1:sOf f' n'=sOf f n
  ·exact .inr (xZ hn' hn e1)
  ·exact .inl (h.al f' hf' n' hn' (by rw[← key f' n' hf' hn' e1];exact hx))
 ·unfold hav
  rw[up,List.map_append,List.map_cons,List.map_nil,hv.2.1]
  congr 1
  exact List.map_congr_left fun n' hm=>key f n' hf (h.lt f hf n' hm) (hkeep f hf n' hm)
 ·unfold hav
  rw[un f' hne]
  exact List.map_congr_left fun n' hm=>key f' n' hf' (h.lt f' hf' n' hm) (hkeep f' hf' n' hm)
def aSl (A:Nat->List Nat) (f:Nat):List Slot:=(A f).map (sOf f)
theorem Led.adL {V' X A}(h:Led V' X A){f:Nat}(hf:f<2):nzL ((aSl A f).map (aT X V'))=hav V' X A f:=by
 unfold aSl hav nzL
 rw[List.map_map,List.filter_eq_self.2]
 ·rfl
 ·intro b hb
  obtain⟨n,hn,rfl⟩:=List.mem_map.1 hb
  simpa using h.no f hf n hn
theorem Led.aa6 {V' X A}(h:Led V' X A){f:Nat}(hf:f<2):(∀ s∈aSl A f,sOk s/\dS s/\s.2.1=f)/\(aSl A f).Nodup:=by
 refine⟨fun s hs=>?_,?_⟩
 ·obtain⟨n,hn,rfl⟩:=List.mem_map.1 hs
  exact⟨(iW hf (h.lt f hf n hn)).1,(iW hf (h.lt f hf n hn)).2,zW f n⟩
 ·unfold aSl List.Nodup
  rw[List.pairwise_map]
  refine List.Pairwise.imp_of_mem ?_ (h.nd f hf)
  intro a b ha hb hne e
  exact hne (xZ (h.lt f hf a ha) (h.lt f hf b hb) e).2
theorem Led.count {E:Nat->Bool}{V' X}{β:Nat->Bool}{A}(h:Led V' X A)(ht:Tree E V' X β){f:Nat}(hf:f<2):(nzL (sW V' (X f)).1).length=(A f).length:=by
 rw[(afp X V' f).1]
 have n1:=ht.nodup (fun s hs=>((yK hf).1 hs).1) (aen f)
 have n2:(hav V' X A f).Nodup:=by
  rw[← h.adL hf]
  exact ht.nodup (fun s hs=>((h.aa6 hf).1 s hs).1) (h.aa6 hf).2
 have p:(nzL ((dSl f).map (aT X V'))).Perm (hav V' X A f):=by
  rw[List.perm_ext_iff_of_nodup n1 n2]
  intro b
  rw[adu,List.mem_map]
  unfold hav
  rw[List.mem_map]
  constructor
  ·rintro ⟨⟨s,hs,rfl⟩,hb⟩
   obtain⟨o1,o2,o3⟩:=(yK hf).1 hs
   obtain⟨n,hn,e⟩:=ah9 o1 o2
   rw[o3] at e
   refine⟨n,h.al f hf n hn (by rw[← e];exact hb),by rw[← e]⟩
  ·rintro ⟨n,hn,rfl⟩
   have o:=iW hf (h.lt f hf n hn)
   exact⟨⟨sOf f n,(yK hf).2 ⟨o.1,o.2,zW f n⟩,rfl⟩,h.no f hf n hn⟩
 rw[p.length_eq]
 unfold hav
 rw[List.length_map]
theorem Led.once {E:Nat->Bool}{V' X}{β:Nat->Bool}{A}(h:Led V' X A)(ht:Tree E V' X β):(hav V' X A 0++hav V' X A 1++(sW V' (X 0)).2++(sW V' (X 1)).2).Nodup:=by
 rw[(afp X V' 0).2,(afp X V' 1).2,← h.adL (f:=0) (by omega),← h.adL (f:=1) (by omega),← dM,← dM,← dM,← List.map_append,← List.map_append,← List.map_append]
 obtain⟨a1,a2⟩:=h.aa6 (f:=0) (by omega)
 obtain⟨b1,b2⟩:=h.aa6 (f:=1) (by omega)
 have p0:∀ s∈pSl 0,sOk s/\¬ dS s/\s.2.1=0:=fun s hs=>(yI (by omega)).1 hs
 have p1:∀ s∈pSl 1,sOk s/\¬ dS s/\s.2.1=1:=fun s hs=>(yI (by omega)).1 hs
 refine ht.nodup ?_ ?_
 ·intro s hs
  simp only[List.mem_append] at hs
  rcases hs with ((x | x) | x) | x
  ·exact(a1 s x).1
  ·exact(b1 s x).1
  ·exact(p0 s x).1
  ·exact(p1 s x).1
 ·rw[List.nodup_append,List.nodup_append,List.nodup_append]
  refine⟨⟨⟨a2,b2,?_⟩,vk 0,?_⟩,vk 1,?_⟩
  ·rintro s hs t ht rfl
   have:=(a1 s hs).2.2
   have:=(b1 s ht).2.2
   omega
  ·rintro s hs t ht rfl
   rcases List.mem_append.1 hs with x | x
   ·exact(p0 s ht).2.1 (a1 s x).2.1
   ·exact(p0 s ht).2.1 (b1 s x).2.1
  ·rintro s hs t ht rfl
   rcases List.mem_append.1 hs with x | x
   ·rcases List.mem_append.1 x with x | x
    ·exact(p1 s ht).2.1 (a1 s x).2.1
    ·exact(p1 s ht).2.1 (b1 s x).2.1
   ·have:=(p0 s x).2.2
    have:=(p1 s ht).2.2
    omega
def usd (l:List Int):List Int:=(List.range 90).map (fun b=>((l.count ((b:Nat):Int):Nat):Int))
theorem nH (l:List Int):(usd l).length=90:=by simp[usd]
theorem qo (l:List Int){b:Nat}(hb:b<90):(usd l)[b]?=some ((l.count ((b:Nat):Int):Nat):Int):=by
 unfold usd
 rw[List.getElem?_map,List.getElem?_range hb]
 rfl
theorem ahv:usd []=List.replicate 90 0:=by decide
theorem aeY {l m:List Int}(h:l.Perm m):usd l=usd m:=by
 unfold usd
 exact List.map_congr_left fun b _=>by rw[h.count_eq]
theorem acu (l:List Int){b:Nat}(hb:b<90):(usd l).set b (((l.count ((b:Nat):Int):Nat):Int)+1)=usd (l++[((b:Nat):Int)]):=by
 apply List.ext_getElem?
 intro j
 by_cases hj:j<90
 ·rw[qo _ hj,List.count_append]
  by_cases e:b=j
  ·subst e
   rw[List.getElem?_set_self (by rw[nH];exact hb)]
   simp
  ·rw[List.getElem?_set_ne e,qo _ hj]
   have:¬ ((b:Nat):Int)=((j:Nat):Int):=by omega
   simp[this]
 ·rw[List.getElem?_eq_none (by rw[List.length_set,nH];omega),List.getElem?_eq_none (by rw[nH];omega)]
theorem aeZ {l:List Int}(h:l.Nodup){b:Nat}(hb:b<90):∃ n:Int,(usd l)[b]?=some n/\0<=n/\n<=1:=by
 refine⟨_,qo l hb,by omega,?_⟩
 have:=List.nodup_iff_count.1 h ((b:Nat):Int)
 omega
theorem zX {V':Nat->List Int}{p:Nat->Int}{nm:Nat}{st:List Int×List Int}(h:st.1.length<=nm):∀ k,(sF (s32 V') p 32 nm k st).1.length<=nm+k*32/\(sF (s32 V') p 32 nm k st).2.length<=st.2.length+k
 | 0=>⟨by show st.1.length<=_;omega,by show st.2.length<=_;omega⟩
 | k+1=>by
  obtain⟨i1,i2⟩:=zX (V':=V') (p:=p) h k
  obtain⟨j1,j2⟩:=rU (V':=V') (b:=p k) (nm:=nm+k*32) (st:=sF (s32 V') p 32 nm k st) i1
  unfold sF
  omega
theorem acM (V':Nat->List Int)(X:Nat->Int):(sW V' X).1.length<=1064/\(sW V' X).2.length<=34:=by
 obtain⟨a1,a2⟩:=iy (X:=X) (st:=([],[])) rfl 8
 obtain⟨b1,b2⟩:=rU (V':=V') (b:=X 11) (st:=iC X 8 ([],[])) a1
 rw[a2] at b2
 unfold sW uS
 split
 ·simp only[List.length_nil] at b2
  omega
 ·obtain⟨c1,c2⟩:=zX (V':=V') (p:=gV V' (X 12)) (nm:=40) (st:=((s32 V' (iC X 8 ([],[])) (X 11) 8).1,(s32 V' (iC X 8 ([],[])) (X 11) 8).2++[X 12])) b1 32
  simp only[List.length_append,List.length_cons,List.length_nil] at c2 b2
  omega
theorem Ir.off {B ks R da dl dc ds}(h:Ir B ks da dl dc ds R){x:Nat×Obj}(hx:x∈R):∀ y∈ks,y.1≠x.1:=by
 obtain⟨h1,h2,h3,h4⟩:=h
 rcases h4 with ⟨e1,e2,e3,e4⟩ | ⟨q',cur,e1,e2,e3,e4,e5,e6⟩
 ·rw[e4] at hx;simp at hx
 ·rw[e3,List.mem_singleton] at hx
  rw[hx]
  exact e6
def sv (t:Option Addr×Nat×Nat):Value:=.slice t.1 t.2.1 t.2.2
def uO (U:List Int):Obj:=.cells (U.map (Value.int .i64)).toArray 3 (0,0)
def kR (hv av ug:Nat) (s:Nat->Option Addr×Nat×Nat) (U:List Int) (rest:List (Nat×Obj)):List (Nat×Obj):=(hv,.cells #[sv (s 0),sv (s 1)] 36)::(av,.cells #[sv (s 2),sv (s 3)] 36)::(ug,uO U)::rest
def upN {α:Type} (f:Nat->α) (k:Nat) (x:α):Nat->α:=fun j=>if j=k then x else f j
def RR (R:Nat->List (Nat×Obj)) (K:List (Nat×Obj)):List (Nat×Obj):=R 0++(R 1++(R 2++(R 3++K)))
theorem four {k:Nat}(h:k<4):k=0\/k=1\/k=2\/k=3:=by omega
theorem aB {R:Nat->List (Nat×Obj)}{K:List (Nat×Obj)}{x:Nat×Obj}:x∈RR R K↔(∃ j,j<4/\x∈R j)\/x∈K:=by
 unfold RR
 simp only[List.mem_append]
 constructor
 ·rintro (h | h | h | h | h)
  ·exact .inl ⟨0,by omega,h⟩
  ·exact .inl ⟨1,by omega,h⟩
  ·exact .inl ⟨2,by omega,h⟩
  ·exact .inl ⟨3,by omega,h⟩
  ·exact .inr h
 ·rintro (⟨j,hj,h⟩ | h)
  ·rcases four hj with rfl | rfl | rfl | rfl
   ·exact .inl h
   ·exact .inr (.inl h)
   ·exact .inr (.inr (.inl h))
   ·exact .inr (.inr (.inr (.inl h)))
  ·exact .inr (.inr (.inr (.inr h)))
theorem ahe {hv av ug:Nat}{s s':Nat->Option Addr×Nat×Nat}{U U':List Int}{rest:List (Nat×Obj)}{y:Nat×Obj}(h:y∈kR hv av ug s U rest):∃ y'∈kR hv av ug s' U' rest,y'.1=y.1:=by
 unfold kR at h ⊢
 simp only[List.mem_cons] at h
 rcases h with e | e | e | e
 ·exact⟨_,List.mem_cons_self ..,by rw[e]⟩
 ·exact⟨_,List.mem_cons_of_mem _ (List.mem_cons_self ..),by rw[e]⟩
 ·exact⟨_,List.mem_cons_of_mem _ (List.mem_cons_of_mem _ (List.mem_cons_self ..)),by rw[e]⟩
 ·exact⟨y,by simp[e],rfl⟩
structure LgS (B hv av ug:Nat) (rest:List (Nat×Obj)) (ls:Nat->List Int) (U:List Int) (s:Nat->Option Addr×Nat×Nat) (R:Nat->List (Nat×Obj)):Prop where
 ir:∀ k,k<4->Ir B (kR hv av ug s U rest) (s k).1 (s k).2.1 (s k).2.2 (ls k) (R k)
 sp:∀ j k,j<4->k<4->j≠k->∀ x∈R j,∀ y∈R k,x.1≠y.1
 ha:hv≠av
 hu:hv≠ug
 au:av≠ug
 re:∀ y∈rest,y.1≠hv/\y.1≠av/\y.1≠ug
 b1:B<=hv
 b2:B<=av
 b3:B<=ug
 ul:U.length=90
def LG (w:World) (g o hv av ug:Nat) (rest:List (Nat×Obj)) (E:Nat->Bool) (V':Nat->List Int) (ls:Nat->List Int) (U:List Int) (u:World):Prop :=
 ∃ s R,LgS w.heap.size hv av ug rest ls U s R/\Lp w aP aG E g o (RR R (kR hv av ug s U rest)) 1 aV (fun _=>false) V' (fun _=>false) u
theorem LG.bel {w g o hv av ug rest E V' ls U u}(h:LG w g o hv av ug rest E V' ls U u):Below w.heap.size w u:=by
 obtain⟨s,R,hs,L⟩:=h
 exact L.bel
theorem LG.later {w g o hv av ug rest E V' ls U}{u u':World}(h:LG w g o hv av ug rest E V' ls U u)(hb:Below u.heap.size u u'):LG w g o hv av ug rest E V' ls U u':=by
 obtain⟨s,R,hs,L⟩:=h
 exact⟨s,R,hs,L.later hb⟩
theorem LG.row {w g o hv av ug rest E V' ls U u}(h:LG w g o hv av ug rest E V' ls U u){x:Nat×Obj}(hx:x∈rest):u.heap[x.1]?=some x.2:=by
 obtain⟨s,R,hs,L⟩:=h
 exact L.row (aB.2 (.inr (by simp[kR,hx])))
theorem LG.congr {w g o hv av ug rest E}{V' ls ls':Nat->List Int}{U u}(h:LG w g o hv av ug rest E V' ls U u)(he:∀ k,k<4->ls' k=ls k):LG w g o hv av ug rest E V' ls' U u:=by
 obtain⟨s,R,hs,L⟩:=h
 exact⟨s,R,⟨fun k hk=>by rw[he k hk];exact hs.ir k hk,hs.sp,hs.ha,hs.hu,hs.au,hs.re,hs.b1,hs.b2,hs.b3,hs.ul⟩,L⟩
theorem LG.over {w g o hv av ug rest E V' ls U u}(h:LG w g o hv av ug rest E V' ls U u) :
  ∃ rows,Lp w aP aG E g o rows 1 aV (fun _=>false) V' (fun _=>false) u/\(∀ x∈rest,x∈rows)/\(∀ E1 V1 u1,Lp w aP aG E1 g o rows 1 aV (fun _=>false) V1 (fun _=>false) u1->LG w g o hv av ug rest E1 V1 ls U u1)/\(∀ N E1 V1 u1,Lp w aP aG E1 g o (N++rows) 1 aV (fun _=>false) V1 (fun _=>false) u1->(∀ x∈N,∀ y∈rows,y.1≠x.1)->LG w g o hv av ug (N++rest) E1 V1 ls U u1):=by
 obtain⟨s,R,hs,L⟩:=h
 refine⟨_,L,fun x hx=>aB.2 (.inr (by simp[kR,hx])),fun E1 V1 u1 L1=>⟨s,R,hs,L1⟩,fun N E1 V1 u1 L1 hN=>⟨s,R,⟨fun k hk=>(hs.ir k hk).sub fun q ob hm y hy=>?_,hs.sp,hs.ha,hs.hu,hs.au,fun y hy=>?_,hs.b1,hs.b2,hs.b3,hs.ul⟩,L1.sub fun x hx=>?_⟩⟩
 ·have hk1:y∈kR hv av ug s U rest\/y∈N:=by
   simp only[kR,List.mem_cons,List.mem_append] at hy ⊢
   rcases hy with e | e | e | e | e
   ·exact .inl (.inl e)
   ·exact .inl (.inr (.inl e))
   ·exact .inl (.inr (.inr (.inl e)))
   ·exact .inr e
   ·exact .inl (.inr (.inr (.inr e)))
  rcases hk1 with e | e
  ·exact(hs.ir k hk).off hm y e
  ·exact fun e2=>hN y e _ (aB.2 (.inl ⟨k,hk,hm⟩)) e2.symm
 ·rcases List.mem_append.1 hy with e | e
  ·have f:∀ x∈kR hv av ug s U rest,x.1≠y.1:=fun x hx=>hN y e x (aB.2 (.inr hx))
   refine⟨fun e2=>f (hv,.cells #[sv (s 0),sv (s 1)] 36) (by simp[kR]) e2.symm,fun e2=>f (av,.cells #[sv (s 2),sv (s 3)] 36) (by simp[kR]) e2.symm,fun e2=>f (ug,uO U) (by simp[kR]) e2.symm⟩
  ·exact hs.re y e
 ·rcases aB.1 hx with ⟨j,hj,e⟩ | e
  ·exact List.mem_append_right _ (aB.2 (.inl ⟨j,hj,e⟩))
  ·simp only[kR,List.mem_cons,List.mem_append] at e
   rcases e with e | e | e | e | e
   ·exact List.mem_append_right _ (aB.2 (.inr (by simp[kR,e])))
   ·exact List.mem_append_right _ (aB.2 (.inr (by simp[kR,e])))
   ·exact List.mem_append_right _ (aB.2 (.inr (by simp[kR,e])))
   ·exact List.mem_append_left _ e
   ·exact List.mem_append_right _ (aB.2 (.inr (by simp[kR,e])))
theorem LG.sub {w g o hv av ug}{rest rest':List (Nat×Obj)}{E V' ls U u}(h:LG w g o hv av ug rest E V' ls U u)(hr:∀ x∈rest',x∈rest):LG w g o hv av ug rest' E V' ls U u:=by
 obtain⟨s,R,hs,L⟩:=h
 have hk:∀ {y},y∈kR hv av ug s U rest'->y∈kR hv av ug s U rest:=fun {y} hy=>by
  simp only[kR,List.mem_cons] at hy ⊢
  rcases hy with e | e | e | e
  ·exact .inl e
  ·exact .inr (.inl e)
  ·exact .inr (.inr (.inl e))
  ·exact .inr (.inr (.inr (hr y e)))
 refine⟨s,R,⟨fun k hk2=>(hs.ir k hk2).sub fun q ob hm y hy=>(hs.ir k hk2).off hm y (hk hy),hs.sp,hs.ha,hs.hu,hs.au,fun y hy=>hs.re y (hr y hy),hs.b1,hs.b2,hs.b3,hs.ul⟩,L.sub fun x hx=>?_⟩
 rcases aB.1 hx with ⟨j,hj,e⟩ | e
 ·exact aB.2 (.inl ⟨j,hj,e⟩)
 ·exact aB.2 (.inr (hk e))
theorem Lp.akD {w P G E g o}{rows:List (Nat×Obj)}{i V F V' K u}{q:Nat}{cs:Array Value}{ty:TypeId}(h:Lp w P G E g o ((q,.cells cs ty)::rows) i V F V' K u)(hB:w.heap.size<=q)(h0:0<w.heap.size)(hn:∀ x∈rows,x.1≠q)(j:Nat)(v:Value):Lp w P G E g o ((q,.cells (cs.setIfInBounds j v) ty)::rows) i V F V' K (u.setCell ⟨q,j,none⟩ v):=by
 have hB1:Bl u q cs ty:=h.row (x:=(q,.cells cs ty)) (by simp)
 exact h.swap hB h0 hn (u':=u.setCell ⟨q,j,none⟩ v) (fun q hq=>Below.heap_setCell _ _ _ _ hq) ((Below.refl _ _).setCell (p:=⟨q,j,none⟩) hB _) (hB1.set j v)
theorem LG.inc {w g o hv av ug rest E V' ls U u}(h:LG w g o hv av ug rest E V' ls U u)(h0:0<w.heap.size){b:Nat}(hb:b<90) :
  u.cell? ⟨ug,b,none⟩=some (.int .i64 (U[b]?.getD 0))/\u.frozen? ⟨ug,b,none⟩=false/\∀ z,Hid (LG w g o hv av ug rest E V' ls (U.set b z) (u.setCell ⟨ug,b,none⟩ (.int .i64 z))):=by
 obtain⟨s,R,hs,L⟩:=h
 have hB1:Bl u ug (U.map (Value.int .i64)).toArray 3:=L.row (x:=(ug,uO U)) (aB.2 (.inr (by simp[kR])))
 have hl:=hs.ul
 refine⟨hB1.cell b _ ?_,hB1.free b,fun z=>?_⟩
 ·rw[List.getElem?_toArray,List.getElem?_map,List.getElem?_eq_getElem (by omega)]
  rfl
 ·have L1:Lp w aP aG E g o ((ug,uO U)::RR R ((hv,.cells #[sv (s 0),sv (s 1)] 36)::(av,.cells #[sv (s 2),sv (s 3)] 36)::rest)) 1 aV (fun _=>false) V' (fun _=>false) u:=L.sub fun x hx=>by
   rcases List.mem_cons.1 hx with e | e
   ·exact aB.2 (.inr (by simp[kR,e]))
   ·rcases aB.1 e with e | e
    ·exact aB.2 (.inl e)
    ·refine aB.2 (.inr ?_)
     simp only[kR,List.mem_cons] at e ⊢
     rcases e with e | e | e
     ·exact .inl e
     ·exact .inr (.inl e)
     ·exact .inr (.inr (.inr e))
  have L2:=L1.akD hs.b3 h0 (fun x hx=>by
   rcases aB.1 hx with ⟨j,hj,e⟩ | e
   ·exact fun e2=>(hs.ir j hj).off e (ug,uO U) (by simp[kR]) e2.symm
   ·simp only[List.mem_cons] at e
    rcases e with e | e | e
    ·rw[e];exact hs.hu
    ·rw[e];exact hs.au
    ·exact(hs.re x e).2.2) b (.int .i64 z)
  have eU:(.cells ((U.map (Value.int .i64)).toArray.setIfInBounds b (.int .i64 z)) 3 (0,0):Obj)=uO (U.set b z):=by
   unfold uO
   rw[List.setIfInBounds_toArray,List.map_set]
  rw[eU] at L2
  refine⟨s,R,⟨fun k hk=>(hs.ir k hk).sub fun q ob hm y hy=>?_,hs.sp,hs.ha,hs.hu,hs.au,hs.re,hs.b1,hs.b2,hs.b3,by rw[List.length_set];exact hl⟩,L2.sub fun x hx=>?_⟩
  ·obtain⟨y',hy',e⟩:=ahe (s':=s) (U':=U) hy
   rw[← e]
   exact(hs.ir k hk).off hm y' hy'
  ·rcases aB.1 hx with e | e
   ·exact List.mem_cons_of_mem _ (aB.2 (.inl e))
   ·simp only[kR,List.mem_cons] at e
    rcases e with e | e | e | e
    ·exact List.mem_cons_of_mem _ (aB.2 (.inr (by simp[e])))
    ·exact List.mem_cons_of_mem _ (aB.2 (.inr (by simp[e])))
    ·rw[e];exact List.mem_cons_self ..
    ·exact List.mem_cons_of_mem _ (aB.2 (.inr (by simp[e])))
def blk4 (hv av k:Nat):Nat:=if k<2 then hv else av
theorem LG.list {w g o hv av ug rest E V' ls U u}(h:LG w g o hv av ug rest E V' ls U u){k:Nat}(hk:k<4):∃ da dc,u.cell? ⟨blk4 hv av k,k%2,none⟩=some (.slice da (ls k).length dc)/\iR w.heap.size u da (ls k).length dc (ls k):=by
 obtain⟨s,R,hs,L⟩:=h
 have i1:=hs.ir k hk
 have hn:(s k).2.1=(ls k).length:=i1.1.symm
 have o1:=i1.own (fun x hx=>L.row (aB.2 (.inl ⟨k,hk,hx⟩)))
 rw[hn] at o1
 refine⟨(s k).1,(s k).2.2,?_,o1⟩
 have hB1:Bl u hv #[sv (s 0),sv (s 1)] 36:=L.row (x:=(hv,.cells #[sv (s 0),sv (s 1)] 36)) (aB.2 (.inr (by simp[kR])))
 have hB2:Bl u av #[sv (s 2),sv (s 3)] 36:=L.row (x:=(av,.cells #[sv (s 2),sv (s 3)] 36)) (aB.2 (.inr (by simp[kR])))
 rw[← hn]
 rcases four hk with rfl | rfl | rfl | rfl
 ·exact hB1.cell 0 _ rfl
 ·exact hB1.cell 1 _ rfl
 ·exact hB2.cell 0 _ rfl
 ·exact hB2.cell 1 _ rfl
theorem Lp.agP {w}{g o hv av ug:Nat}{rest:List (Nat×Obj)}{E V'}{U:List Int}{u}{s:Nat->Option Addr×Nat×Nat}{R:Nat->List (Nat×Obj)}(L:Lp w aP aG E g o (RR R (kR hv av ug s U rest)) 1 aV (fun _=>false) V' (fun _=>false) u)(h0:0<w.heap.size)(hR:∀ j,j<4->∀ x∈R j,x.1≠hv/\x.1≠av)(ha:hv≠av)(hu:hv≠ug)(au:av≠ug)(re:∀ y∈rest,y.1≠hv/\y.1≠av/\y.1≠ug)(b1:w.heap.size<=hv)(b2:w.heap.size<=av){k:Nat}(hk:k<4)(t:Option Addr×Nat×Nat) :
  u.cell? ⟨blk4 hv av k,k%2,none⟩=some (sv (s k))/\u.frozen? ⟨blk4 hv av k,k%2,none⟩=false/\Lp w aP aG E g o (RR R (kR hv av ug (upN s k t) U rest)) 1 aV (fun _=>false) V' (fun _=>false) (u.setCell ⟨blk4 hv av k,k%2,none⟩ (sv t)):=by
 have hB1:Bl u hv #[sv (s 0),sv (s 1)] 36:=L.row (x:=(hv,.cells #[sv (s 0),sv (s 1)] 36)) (aB.2 (.inr (by simp[kR])))
 have hB2:Bl u av #[sv (s 2),sv (s 3)] 36:=L.row (x:=(av,.cells #[sv (s 2),sv (s 3)] 36)) (aB.2 (.inr (by simp[kR])))
 have c1:∀ (j:Nat) (s':Nat->Option Addr×Nat×Nat),(#[sv (s 0),sv (s 1)]:Array Value).setIfInBounds j (sv t)=#[sv (s' 0),sv (s' 1)]->s' 2=s 2->s' 3=s 3->Lp w aP aG E g o (RR R (kR hv av ug s' U rest)) 1 aV (fun _=>false) V' (fun _=>false) (u.setCell ⟨hv,j,none⟩ (sv t)):=fun j s' e1 e2 e3=>by
  have L1:Lp w aP aG E g o ((hv,.cells #[sv (s 0),sv (s 1)] 36)::RR R ((av,.cells #[sv (s 2),sv (s 3)] 36)::(ug,uO U)::rest)) 1 aV (fun _=>false) V' (fun _=>false) u:=L.sub fun x hx=>by
   rcases List.mem_cons.1 hx with e | e
   ·exact aB.2 (.inr (by simp[kR,e]))
   ·rcases aB.1 e with e | e
    ·exact aB.2 (.inl e)
    ·exact aB.2 (.inr (List.mem_cons_of_mem _ e))
  have L2:=L1.akD b1 h0 (fun x hx=>by
   rcases aB.1 hx with ⟨j,hj,e⟩ | e
   ·exact(hR j hj x e).1
   ·simp only[List.mem_cons] at e
    rcases e with e | e | e
    ·rw[e];exact ha.symm
    ·rw[e];exact hu.symm
    ·exact(re x e).1) j (sv t)
  rw[e1] at L2
  refine L2.sub fun x hx=>?_
  rcases aB.1 hx with e | e
  ·exact List.mem_cons_of_mem _ (aB.2 (.inl e))
  ·simp only[kR,List.mem_cons] at e
   rcases e with e | e | e | e
   ·rw[e];exact List.mem_cons_self ..
   ·rw[e2,e3] at e
    exact List.mem_cons_of_mem _ (aB.2 (.inr (by simp[e])))
   ·exact List.mem_cons_of_mem _ (aB.2 (.inr (by simp[e])))
   ·exact List.mem_cons_of_mem _ (aB.2 (.inr (by simp[e])))
 have c2:∀ (j:Nat) (s':Nat->Option Addr×Nat×Nat),(#[sv (s 2),sv (s 3)]:Array Value).setIfInBounds j (sv t)=#[sv (s' 2),sv (s' 3)]->s' 0=s 0->s' 1=s 1->Lp w aP aG E g o (RR R (kR hv av ug s' U rest)) 1 aV (fun _=>false) V' (fun _=>false) (u.setCell ⟨av,j,none⟩ (sv t)):=fun j s' e1 e2 e3=>by
  have L1:Lp w aP aG E g o ((av,.cells #[sv (s 2),sv (s 3)] 36)::RR R ((hv,.cells #[sv (s 0),sv (s 1)] 36)::(ug,uO U)::rest)) 1 aV (fun _=>false) V' (fun _=>false) u:=L.sub fun x hx=>by
   rcases List.mem_cons.1 hx with e | e
   ·exact aB.2 (.inr (by simp[kR,e]))
   ·rcases aB.1 e with e | e
    ·exact aB.2 (.inl e)
    ·refine aB.2 (.inr ?_)
     simp only[kR,List.mem_cons] at e ⊢
     rcases e with e | e | e
     ·exact .inl e
     ·exact .inr (.inr (.inl e))
     ·exact .inr (.inr (.inr e))
  have L2:=L1.akD b2 h0 (fun x hx=>by
   rcases aB.1 hx with ⟨j,hj,e⟩ | e
   ·exact(hR j hj x e).2
   ·simp only[List.mem_cons] at e
    rcases e with e | e | e
    ·rw[e];exact ha
    ·rw[e];exact au.symm
    ·exact(re x e).2.1) j (sv t)
  rw[e1] at L2
  refine L2.sub fun x hx=>?_
  rcases aB.1 hx with e | e
  ·exact List.mem_cons_of_mem _ (aB.2 (.inl e))
  ·simp only[kR,List.mem_cons] at e
   rcases e with e | e | e | e
   ·rw[e2,e3] at e
    exact List.mem_cons_of_mem _ (aB.2 (.inr (by simp[e])))
   ·rw[e];exact List.mem_cons_self ..
   ·exact List.mem_cons_of_mem _ (aB.2 (.inr (by simp[e])))
   ·exact List.mem_cons_of_mem _ (aB.2 (.inr (by simp[e])))
 rcases four hk with rfl | rfl | rfl | rfl
 ·exact⟨hB1.cell 0 _ rfl,hB1.free 0,c1 0 (upN s 0 t) rfl rfl rfl⟩
 ·exact⟨hB1.cell 1 _ rfl,hB1.free 1,c1 1 (upN s 1 t) rfl rfl rfl⟩
 ·exact⟨hB2.cell 0 _ rfl,hB2.free 0,c2 0 (upN s 2 t) rfl rfl rfl⟩
 ·exact⟨hB2.cell 1 _ rfl,hB2.free 1,c2 1 (upN s 3 t) rfl rfl rfl⟩
theorem LG.app {w g o hv av ug rest E V' ls U u}(h:LG w g o hv av ug rest E V' ls U u)(h0:0<w.heap.size){k:Nat}(hk:k<4)(hl:(ls k).length<=10000)(z:Int) :
  ∃ da dc a' c' u',u.cell? ⟨blk4 hv av k,k%2,none⟩=some (.slice da (ls k).length dc)/\Hid (∀ ty,(Builtin.append_ #[22,22] ty #[.slice da (ls k).length dc,.slice (some ⟨u.heap.size,0,none⟩) 1 1]).run Tryz.prog (u.alloc (zI z))=.ok (.slice a' ((ls k).length+1) c') u')/\u'.cell? ⟨blk4 hv av k,k%2,none⟩=some (.slice da (ls k).length dc)/\u'.frozen? ⟨blk4 hv av k,k%2,none⟩=false/\Hid (LG w g o hv av ug rest E V' (upN ls k (ls k++[z])) U (u'.setCell ⟨blk4 hv av k,k%2,none⟩ (.slice a' ((ls k).length+1) c'))):=by
 have hcell:=h.list hk
 obtain⟨s,R,hs,L⟩:=h
 have i1:=hs.ir k hk
 have hn:(s k).2.1=(ls k).length:=i1.1.symm
 have hb:Below u.heap.size u (u.alloc (zI z)):=(Below.refl _ _).alloc (Nat.le_refl _) _
 have L0:=L.later hb
 have B0:=Bl.new u #[.int .i64 z] 3
 have hsz:=L0.bel.size
 have c0:u.cell? ⟨blk4 hv av k,k%2,none⟩=some (sv (s k)):=(L.agP h0 (fun j hj x hx=>⟨fun e=>(hs.ir j hj).off hx (hv,.cells #[sv (s 0),sv (s 1)] 36) (by simp[kR]) e.symm,fun e=>(hs.ir j hj).off hx (av,.cells #[sv (s 2),sv (s 3)] 36) (by simp[kR]) e.symm⟩) hs.ha hs.hu hs.au hs.re hs.b1 hs.b2 hk (none,0,0)).1
 have hi:=i1.own (fun x hx=>L0.row (aB.2 (.inl ⟨k,hk,hx⟩)))
 obtain⟨a',c',u',r1,o1,k1,b1,q1⟩:=iY w.heap.size _ 0 (s k).1 (s k).2.1 (s k).2.2 (ls k) hi hsz u.heap.size z (B0.cell 0 _ rfl) (by omega)
 have L1:Lp w aP aG E g o (R k++RR (upN R k []) (kR hv av ug s U rest)) 1 aV (fun _=>false) V' (fun _=>false) (u.alloc (zI z)):=L0.sub fun x hx=>by
  rcases List.mem_append.1 hx with e | e
  ·exact aB.2 (.inl ⟨k,hk,e⟩)
  ·rcases aB.1 e with ⟨j,hj,e⟩ | e
   ·unfold upN at e
    split at e
    ·simp at e
    ·exact aB.2 (.inl ⟨j,hj,e⟩)
   ·exact aB.2 (.inr e)
 have i2:Ir w.heap.size (RR (upN R k []) (kR hv av ug s U rest)) (s k).1 (s k).2.1 (s k).2.2 (ls k) (R k):=i1.sub fun q ob hm y hy=>by
  rcases aB.1 hy with ⟨j,hj,e⟩ | e
  ·unfold upN at e
   split at e
   ·simp at e
   ·rename_i hne
    exact hs.sp j k hj hk hne y e _ hm
  ·exact i1.off hm y e
 obtain⟨R',L2,i3,_⟩:=L1.grow i2 h0 o1 k1 b1 (by
  rcases q1 with ⟨f1,f2,_⟩ | ⟨g',f1,hg,_⟩
  ·exact .inl ⟨f1,f2⟩
  ·exact .inr ⟨g',f1,hg⟩)
 have L3:Lp w aP aG E g o (RR (upN R k R') (kR hv av ug s U rest)) 1 aV (fun _=>false) V' (fun _=>false) u':=L2.sub fun x hx=>by
  rcases aB.1 hx with ⟨j,hj,e⟩ | e
  ·unfold upN at e
   split at e
   ·exact List.mem_append_left _ e
   ·rename_i hne
    exact List.mem_append_right _ (aB.2 (.inl ⟨j,hj,by unfold upN;rw[if_neg hne];exact e⟩))
  ·exact List.mem_append_right _ (aB.2 (.inr e))
 have kk:∀ {y},y∈kR hv av ug s U rest->∀ j,j<4->∀ x∈upN R k R' j,y.1≠x.1:=fun {y} hy j hj x hx=>by
  unfold upN at hx
  split at hx
  ·exact i3.off hx y (aB.2 (.inr hy))
  ·exact(hs.ir j hj).off hx y hy
 obtain⟨y1,y2,y3⟩:=L3.agP h0 (fun j hj x hx=>⟨fun e=>kk (y:=(hv,.cells #[sv (s 0),sv (s 1)] 36)) (by simp[kR]) j hj x hx e.symm,fun e=>kk (y:=(av,.cells #[sv (s 2),sv (s 3)] 36)) (by simp[kR]) j hj x hx e.symm⟩) hs.ha hs.hu hs.au hs.re hs.b1 hs.b2 hk (a',(s k).2.1+1,c')
 have hss:sv (s k)=.slice (s k).1 (ls k).length (s k).2.2:=by unfold sv;rw[hn]
 rw[hss] at y1 c0
 refine⟨(s k).1,(s k).2.2,a',c',u',c0,fun ty=>?_,y1,y2,upN s k (a',(s k).2.1+1,c'),upN R k R',⟨fun j hj=>?_,fun i j hi hj hne x hx y hy=>?_,hs.ha,hs.hu,hs.au,hs.re,hs.b1,hs.b2,hs.b3,hs.ul⟩,?_⟩
 ·have hty:(Builtin.append_ #[22,22] ty #[.slice (s k).1 (ls k).length (s k).2.2,.slice (some ⟨u.heap.size,0,none⟩) 1 1])=(Builtin.append_ #[22,22] 0 #[.slice (s k).1 (ls k).length (s k).2.2,.slice (some ⟨u.heap.size,0,none⟩) 1 1]):=rfl
  rw[hty,← hn]
  exact r1
 ·have hks:∀ {y},y∈kR hv av ug (upN s k (a',(s k).2.1+1,c')) U rest->∀ x∈upN R k R' j,y.1≠x.1:=fun {y} hy x hx=>by
   obtain⟨y',hy',e⟩:=ahe (s':=s) (U':=U) hy
   rw[← e]
   exact kk hy' j hj x hx
  by_cases e:j=k
  ·subst e
   have e1:upN s j (a',(s j).2.1+1,c') j=(a',(s j).2.1+1,c'):=by unfold upN;rw[if_pos rfl]
   have e2:upN R j R' j=R':=by unfold upN;rw[if_pos rfl]
   have e3:upN ls j (ls j++[z]) j=ls j++[z]:=by unfold upN;rw[if_pos rfl]
   rw[e2] at hks
   rw[e2,e3]
   conv=>arg 3;rw[e1]
   conv=>arg 4;rw[e1]
   conv=>arg 5;rw[e1]
   exact i3.sub fun q ob hm y hy=>hks hy _ hm
  ·have e1:upN s k (a',(s k).2.1+1,c') j=s j:=by unfold upN;rw[if_neg e]
   have e2:upN R k R' j=R j:=by unfold upN;rw[if_neg e]
   have e3:upN ls k (ls k++[z]) j=ls j:=by unfold upN;rw[if_neg e]
   rw[e2] at hks
   rw[e2,e3]
   conv=>arg 3;rw[e1]
   conv=>arg 4;rw[e1]
   conv=>arg 5;rw[e1]
   exact(hs.ir j hj).sub fun q ob hm y hy=>hks hy _ hm
 ·have key:∀ j,j<4->j≠k->∀ x∈R',∀ y∈R j,y.1≠x.1:=fun j hj hne x hx y hy=>i3.off hx y (aB.2 (.inl ⟨j,hj,by unfold upN;rw[if_neg hne];exact hy⟩))
  unfold upN at hx hy
  split at hx
  ·rename_i e
   rw[if_neg (by omega)] at hy
   exact fun e2=>key j hj (by omega) x hx y hy e2.symm
  ·split at hy
   ·rename_i e1 e
    exact key i hi (by omega) y hy x hx
   ·exact hs.sp i j hi hj hne x hx y hy
 ·have e4:sv (a',(s k).2.1+1,c')=.slice a' ((ls k).length+1) c':=by unfold sv;rw[hn]
  rw[← e4]
  exact y3
def aan (V':Nat->List Int) (X:Nat->Nat->Int) (A:Nat->List Nat):Nat->List Int:=fun k=>if k<2 then hav V' X A k else (A (k - 2)).map (fun n:Nat=>(n:Int))
def plO:Obj:=.cells (Pc aP) 25 (0,0)
def rst (tb a g mp:Nat):List (Nat×Obj):=[(tb,tbO a aP),(a,alO g aP),(mp,plO)]
def A1 (w:World) (g o tb a mp hv av ug n:Nat) (u:World):Prop:=∃ E V' X β A,Fst E V' X β/\Led V' X A/\(∀ f,f<2->(A f).length<=n)/\LG w g o hv av ug (rst tb a g mp) E V' (aan V' X A) (usd (hav V' X A 0++hav V' X A 1)) u
theorem afQ {V':Nat->List Int}{X:Nat->Nat->Int}{A:Nat->List Nat}{n:Nat}(h:∀ f,f<2->(A f).length<=n){k:Nat}(hk:k<4):(aan V' X A k).length<=n:=by
 unfold aan hav
 split
 ·rw[List.length_map];exact h k (by omega)
 ·rw[List.length_map];exact h (k - 2) (by omega)
theorem A1.bel {w g o tb a mp hv av ug n u}(h:A1 w g o tb a mp hv av ug n u):Below w.heap.size w u:=by
 obtain⟨E,V',X,β,A,hF,hL,hn,G⟩:=h
 exact G.bel
theorem A1.more {w}{g o tb a mp hv av ug n m:Nat}{u}(h:A1 w g o tb a mp hv av ug n u)(hm:n<=m):A1 w g o tb a mp hv av ug m u:=by
 obtain⟨E,V',X,β,A,hF,hL,hn,G⟩:=h
 exact⟨E,V',X,β,A,hF,hL,fun f hf=>Nat.le_trans (hn f hf) hm,G⟩
theorem A1.plan {w g o tb a mp hv av ug n u}(h:A1 w g o tb a mp hv av ug n u):Bl u mp (Pc aP) 25:=by
 obtain⟨E,V',X,β,A,hF,hL,hn,G⟩:=h
 exact G.row (x:=(mp,plO)) (by simp[rst])
theorem afa:(.cells (madeCells #[.int .i64 0] 90) 3 (0,0):Obj)=uO (usd []):=by
 rw[← Array.toArray_toList (xs:=madeCells #[.int .i64 0] 90),toList_madeCells_one,ahv]
 rfl
theorem agL {w u}{g o tb a mp hv av ug:Nat}(L:Lp w aP aG aE g o ((ug,.cells (madeCells #[.int .i64 0] 90) 3)::(av,.cells #[.slice none 0 0,.slice none 0 0] 36)::(hv,.cells #[.slice none 0 0,.slice none 0 0] 36)::rst tb a g mp) 1 aV (fun _=>false) aV (fun _=>false) u)(ha:hv≠av)(hu:hv≠ug)(au:av≠ug)(re:∀ y∈rst tb a g mp,y.1≠hv/\y.1≠av/\y.1≠ug)(b1:w.heap.size<=hv)(b2:w.heap.size<=av)(b3:w.heap.size<=ug):A1 w g o tb a mp hv av ug 0 u:=by
 rw[afa] at L
 have e0:∀ k,aan aV (fun _=>x1) (fun _=>[]) k=[]:=fun k=>by unfold aan hav;split<;>rfl
 refine⟨_,_,_,_,(fun _=>[]),adT,ad2,fun f hf=>Nat.le_refl _,(fun _=>(none,0,0)),(fun _=>[]),⟨fun k hk=>?_,fun j k hj hk hne x hx=>by simp at hx,ha,hu,au,re,b1,b2,b3,nH _⟩,L.sub fun x hx=>?_⟩
 ·rw[e0]
  exact Ir.nil _ _
 ·rcases aB.1 hx with ⟨j,hj,e⟩ | e
  ·simp at e
  ·simp only[kR,List.mem_cons] at e ⊢
   rcases e with e | e | e | e
   ·exact .inr (.inr (.inl e))
   ·exact .inr (.inl e)
   ·exact .inl e
   ·exact .inr (.inr (.inr e))
theorem agN (l:List Int)(j:Nat):0<=(usd l)[j]?.getD 0/\(usd l)[j]?.getD 0<=(l.length:Int):=by
 by_cases hj:j<90
 ·rw[qo l hj,Option.getD_some]
  have:=List.count_le_length (a:=((j:Nat):Int)) (l:=l)
  omega
 ·rw[List.getElem?_eq_none (by rw[nH];omega),Option.getD_none]
  omega
def A2 (w:World) (g o tb a mp hv av ug n f:Nat) (z:Int) (b:Nat) (u:World):Prop:=∃ E V' ls U,(∀ k,k<4->(ls k).length<=n)/\(∀ j:Nat,0<=U[j]?.getD 0/\U[j]?.getD 0<=2*(n:Int))/\LG w g o hv av ug (rst tb a g mp) E V' ls U u/\∀ v,LG w g o hv av ug (rst tb a g mp) E V' (upN (upN ls f (ls f++[(b:Int)])) (2+f) (ls (2+f)++[z])) (U.set b (U[b]?.getD 0+1)) v->A1 w g o tb a mp hv av ug (n+1) v
theorem A2.plan {w g o tb a mp hv av ug n f z b u}(h:A2 w g o tb a mp hv av ug n f z b u):Bl u mp (Pc aP) 25:=by
 obtain⟨E,V',ls,U,hn,hU,G,K⟩:=h
 exact G.row (x:=(mp,plO)) (by simp[rst])
theorem jW (f:Nat):((2+f:Nat):Int)=2+(f:Int):=by omega
theorem aiB {w g o tb a mp hv av ug n u}(h:A1 w g o tb a mp hv av ug n u)(h0:0<w.heap.size){f:Nat}(hf:f<2)(z:Int) :
  Hid (Calls Tryz.prog 13 #[.pointer (some ⟨tb,0,none⟩),.pointer (some ⟨o,0,none⟩),.int .i64 (2+(f:Int)),.int .i64 z] u fun r u1=>r=.returned (.tuple #[.int .i64 0,.int .i64 2])/\Hid (Calls Tryz.prog 14 #[.pointer (some ⟨tb,0,none⟩),.pointer (some ⟨o,0,none⟩),.int .i64 (2+(f:Int)),.int .i64 z] u1 fun r u2=>r=.returned (.tuple #[.int .i64 0,.bool false,.int .i64 2])/\Hid (A1 w g o tb a mp hv av ug n u2)))
  \/ (∃ was:Int,Hid (Calls Tryz.prog 13 #[.pointer (some ⟨tb,0,none⟩),.pointer (some ⟨o,0,none⟩),.int .i64 (2+(f:Int)),.int .i64 z] u fun r u1=>r=.returned (.tuple #[.int .i64 was,.int .i64 0])/\Hid (Calls Tryz.prog 14 #[.pointer (some ⟨tb,0,none⟩),.pointer (some ⟨o,0,none⟩),.int .i64 (2+(f:Int)),.int .i64 z] u1 fun r u2=>r=.returned (.tuple #[.int .i64 0,.bool false,.int .i64 10])/\Hid (A1 w g o tb a mp hv av ug n u2))))
  \/ (∃ b:Nat,37<=b/\b<90/\Hid (Calls Tryz.prog 13 #[.pointer (some ⟨tb,0,none⟩),.pointer (some ⟨o,0,none⟩),.int .i64 (2+(f:Int)),.int .i64 z] u fun r u1=>r=.returned (.tuple #[.int .i64 (b:Int),.int .i64 0])/\Hid (Calls Tryz.prog 14 #[.pointer (some ⟨tb,0,none⟩),.pointer (some ⟨o,0,none⟩),.int .i64 (2+(f:Int)),.int .i64 z] u1 fun r u2=>r=.returned (.tuple #[.int .i64 (b:Int),.bool false,.int .i64 0])/\Hid (A1 w g o tb a mp hv av ug n u2))))
  \/ (∃ b:Nat,37<=b/\b<90/\Hid (Calls Tryz.prog 13 #[.pointer (some ⟨tb,0,none⟩),.pointer (some ⟨o,0,none⟩),.int .i64 (2+(f:Int)),.int .i64 z] u fun r u1=>r=.returned (.tuple #[.int .i64 0,.int .i64 0])/\Hid (Calls Tryz.prog 14 #[.pointer (some ⟨tb,0,none⟩),.pointer (some ⟨o,0,none⟩),.int .i64 (2+(f:Int)),.int .i64 z] u1 fun r u2=>r=.returned (.tuple #[.int .i64 (b:Int),.bool true,.int .i64 0])/\Hid (A2 w g o tb a mp hv av ug n f z b u2)))):=by
 obtain⟨E,V',X,β,A,hF,hL,hn,G⟩:=h
 obtain⟨rows,L,hr,back,_⟩:=G.over
 have ht:(tb,tbO a aP)∈rows:=hr _ (by simp[rst])
 have ha:(a,alO g aP)∈rows:=hr _ (by simp[rst])
 by_cases hz:z<0\/1064<=z
 ·refine .inl ((aaM (a:=a) (X:=X) (β:=β) L ht hz).mono ?_)
  rintro r u1 ⟨rfl,Y⟩
  refine⟨rfl,(aaL (a:=a) (X:=X) (β:=β) (ah Y) ht hz).mono ?_⟩
  rintro r u2 ⟨rfl,Y2⟩
  exact⟨rfl,E,V',X,β,A,hF,hL,hn,back _ _ _ (ah Y2)⟩
 refine .inr ?_
 obtain⟨m,rfl⟩:∃ m:Nat,z=(m:Int):=⟨z.toNat,by omega⟩
 have hm:m<1064:=by omega
 have cf:=agO (a:=a) L hF ht h0 hf hm
 rw[jW] at cf
 obtain⟨so1,so2⟩:=iW hf hm
 have MK:∀ u1,Lp w aP aG E g o rows 1 aV (fun _=>false) V' (fun _=>false) u1->_:=fun u1 L1=>ajc (a:=a) L1 hF ht ha h0 hf hm
 obtain⟨b,e,q,E1,V1,X1,β1,HF,hF1,hR⟩:=adY (g:=g) (o:=o) (a:=a) (tb:=tb) h0 hF hf hm
 by_cases he:e=0
 ·subst he
  have cm:∀ u1,Lp w aP aG E g o rows 1 aV (fun _=>false) V' (fun _=>false) u1->_:=fun u1 L1=>qZ L1 h0 rfl (HF rows ht ha)
  rw[jW] at cm
  rcases hR.o with ⟨_,hb0,hb1,hq⟩ | x
  ·obtain⟨r1,r2,_⟩:=hF1.t.rng _ so1 (by rw[hb1];exact hb0)
   rw[hb1] at r1 r2
   obtain⟨bn,rfl⟩:∃ bn:Nat,b=(bn:Int):=⟨b.toNat,by omega⟩
   cases q with
   | false =>
    have hne:aT X V' (sOf f m)≠0:=fun e=>by simp[e] at hq
    have hsame:aT X V' (sOf f m)=(bn:Int):=by rw[← hR.k _ so1 hne];exact hb1
    rw[hsame] at cf
    obtain⟨hL1,hH⟩:=hL.same hf hm hR (.inr rfl)
    refine .inr (.inl ⟨bn,by omega,by omega,cf.mono ?_⟩)
    rintro r u1 ⟨rfl,Y⟩
    refine⟨rfl,(cm _ (ah Y)).mono ?_⟩
    rintro r u2 ⟨rfl,Y2⟩
    refine⟨rfl,E1,V1,X1,β1,A,hF1,hL1,hn,?_⟩
    have G2:=back _ _ _ (ah Y2)
    rw[hH 0 (by omega),hH 1 (by omega)]
    exact G2.congr fun k hk=>by
     unfold aan
     split
     ·exact hH k (by omega)
     ·rfl
   | true =>
    have hz0:aT X V' (sOf f m)=0:=hq.1 rfl
    rw[hz0] at cf
    obtain⟨hL1,hH1,hH2⟩:=hL.made hf hm hR
    refine .inr (.inr ⟨bn,by omega,by omega,cf.mono ?_⟩)
    rintro r u1 ⟨rfl,Y⟩
    refine⟨rfl,(cm _ (ah Y)).mono ?_⟩
    rintro r u2 ⟨rfl,Y2⟩
    refine⟨rfl,E1,V1,aan V' X A,usd (hav V' X A 0++hav V' X A 1),fun k hk=>afQ hn hk,fun j=>?_,back _ _ _ (ah Y2),fun v G3=>?_⟩
    ·obtain⟨u1,u2⟩:=agN (hav V' X A 0++hav V' X A 1) j
     have y0:=hn 0 (by omega)
     have y1:=hn 1 (by omega)
     have y2:(hav V' X A 0++hav V' X A 1).length=(A 0).length+(A 1).length:=by unfold hav;rw[List.length_append,List.length_map,List.length_map]
     rw[y2] at u2
     exact⟨u1,by omega⟩
    refine⟨E1,V1,X1,β1,aUp A f m,hF1,hL1,fun f' hf'=>?_,?_⟩
    ·unfold aUp
     split
     ·rw[List.length_append]
      have:=hn f hf
      simp only[List.length_cons,List.length_nil]
      omega
     ·have:=hn f' hf'
      omega
    ·have eU:(usd (hav V' X A 0++hav V' X A 1)).set bn ((usd (hav V' X A 0++hav V' X A 1))[bn]?.getD 0+1)=usd (hav V1 X1 (aUp A f m) 0++hav V1 X1 (aUp A f m) 1):=by
      rw[qo _ (by omega),Option.getD_some,acu _ (by omega)]
      apply aeY
      rcases(show f=0\/f=1 by omega) with rfl | rfl
      ·rw[hH1,hH2 1 (by omega) (by omega),List.append_assoc,List.append_assoc]
       exact List.Perm.append_left _ List.perm_append_comm
      ·rw[hH1,hH2 0 (by omega) (by omega),List.append_assoc]
     rw[eU] at G3
     refine G3.congr fun k hk=>?_
     unfold upN aan
     by_cases k2:k<2
     ·rw[if_pos k2,if_neg (by omega)]
      by_cases kf:k=f
      ·subst kf
       rw[if_pos rfl,if_pos k2]
       exact hH1
      ·rw[if_neg kf,if_pos k2]
       exact hH2 k (by omega) kf
     ·rw[if_neg k2]
      by_cases kf:k=2+f
      ·subst kf
       rw[if_pos rfl,if_neg (by omega),show 2+f - 2=f by omega]
       unfold aUp
       rw[if_pos rfl,List.map_append]
       rfl
      ·rw[if_neg kf,if_neg (by omega),if_neg k2]
       unfold aUp
       rw[if_neg (by omega)]
  ·omega
 ·have h10:e=10:=by
   rcases hR.o with x | x
   ·exact absurd x.1 he
   ·exact x
  subst h10
  have cm:∀ u1,Lp w aP aG E g o rows 1 aV (fun _=>false) V' (fun _=>false) u1->_:=fun u1 L1=>uF L1 h0 he (HF rows ht ha)
  rw[jW] at cm
  obtain⟨hL1,hH⟩:=hL.same hf hm hR (.inl rfl)
  refine .inl ⟨aT X V' (sOf f m),cf.mono ?_⟩
  rintro r u1 ⟨rfl,Y⟩
  refine⟨rfl,(cm _ (ah Y)).mono ?_⟩
  rintro r u2 ⟨rfl,Y2⟩
  refine⟨rfl,E1,V1,X1,β1,A,hF1,hL1,hn,?_⟩
  have G2:=back _ _ _ (ah Y2)
  rw[hH 0 (by omega),hH 1 (by omega)]
  exact G2.congr fun k hk=>by
   unfold aan
   split
   ·exact hH k (by omega)
   ·rfl
def A2b (w:World) (g o tb a mp hv av ug n f:Nat) (z:Int) (b:Nat) (u:World):Prop:=∃ E V' ls U,(∀ k,k<4->k≠f->(ls k).length<=n)/\(∀ j:Nat,0<=U[j]?.getD 0/\U[j]?.getD 0<=2*(n:Int))/\LG w g o hv av ug (rst tb a g mp) E V' ls U u/\∀ v,LG w g o hv av ug (rst tb a g mp) E V' (upN ls (2+f) (ls (2+f)++[z])) (U.set b (U[b]?.getD 0+1)) v->A1 w g o tb a mp hv av ug (n+1) v
def A2c (w:World) (g o tb a mp hv av ug n:Nat) (b:Nat) (u:World):Prop:=∃ E V' ls U,(∀ j:Nat,0<=U[j]?.getD 0/\U[j]?.getD 0<=2*(n:Int))/\LG w g o hv av ug (rst tb a g mp) E V' ls U u/\∀ v,LG w g o hv av ug (rst tb a g mp) E V' ls (U.set b (U[b]?.getD 0+1)) v->A1 w g o tb a mp hv av ug (n+1) v
theorem aa4 (hv av:Nat){f:Nat}(hf:f<2):blk4 hv av f=hv/\f%2=f/\blk4 hv av (2+f)=av/\(2+f)%2=f:=by
 unfold blk4
 rw[if_pos hf,if_neg (by omega)]
 exact⟨rfl,by omega,rfl,by omega⟩
theorem agK {w g o tb a mp hv av ug n f z b u}(h:A2 w g o tb a mp hv av ug n f z b u)(h0:0<w.heap.size)(hf:f<2)(hn:n<=20):∃ da n1 dc a' c' u3,u.cell? ⟨hv,f,none⟩=some (.slice da n1 dc)/\n1<=20/\Hid (∀ ty,(Builtin.append_ #[22,22] ty #[.slice da n1 dc,.slice (some ⟨u.heap.size,0,none⟩) 1 1]).run Tryz.prog (u.alloc (zI (b:Int)))=.ok (.slice a' (n1+1) c') u3)/\u3.cell? ⟨hv,f,none⟩=some (.slice da n1 dc)/\u3.frozen? ⟨hv,f,none⟩=false/\Hid (A2b w g o tb a mp hv av ug n f z b (u3.setCell ⟨hv,f,none⟩ (.slice a' (n1+1) c'))):=by
 obtain⟨E,V',ls,U,hl,hU,G,K⟩:=h
 obtain⟨da,dc,a',c',u3,y1,r1,y2,y3,z1⟩:=G.app h0 (k:=f) (by omega) (by have:=hl f (by omega);omega) (b:Int)
 obtain⟨e1,e2,_,_⟩:=aa4 hv av hf
 rw[e1,e2] at y1 y2 y3 z1
 have e3:upN ls f (ls f++[(b:Int)]) (2+f)=ls (2+f):=by unfold upN;rw[if_neg (by omega)]
 refine⟨da,_,dc,a',c',u3,y1,by have:=hl f (by omega);omega,r1,y2,y3,E,V',_,U,fun k hk hne=>?_,hU,ah z1,fun v hv=>K v ?_⟩
 ·unfold upN
  rw[if_neg hne]
  exact hl k hk
 ·rw[e3] at hv
  exact hv
theorem aeF {w g o tb a mp hv av ug n f z b u}(h:A2b w g o tb a mp hv av ug n f z b u)(h0:0<w.heap.size)(hf:f<2)(hn:n<=20):∃ da n1 dc a' c' u3,u.cell? ⟨av,f,none⟩=some (.slice da n1 dc)/\n1<=20/\Hid (∀ ty,(Builtin.append_ #[22,22] ty #[.slice da n1 dc,.slice (some ⟨u.heap.size,0,none⟩) 1 1]).run Tryz.prog (u.alloc (zI z))=.ok (.slice a' (n1+1) c') u3)/\u3.cell? ⟨av,f,none⟩=some (.slice da n1 dc)/\u3.frozen? ⟨av,f,none⟩=false/\Hid (A2c w g o tb a mp hv av ug n b (u3.setCell ⟨av,f,none⟩ (.slice a' (n1+1) c'))):=by
 obtain⟨E,V',ls,U,hl,hU,G,K⟩:=h
 obtain⟨da,dc,a',c',u3,y1,r1,y2,y3,z1⟩:=G.app h0 (k:=2+f) (by omega) (by have:=hl (2+f) (by omega) (by omega);omega) z
 obtain⟨_,_,e1,e2⟩:=aa4 hv av hf
 rw[e1,e2] at y1 y2 y3 z1
 exact⟨da,_,dc,a',c',u3,y1,by have:=hl (2+f) (by omega) (by omega);omega,r1,y2,y3,E,V',_,U,hU,ah z1,K⟩
theorem agJ {w g o tb a mp hv av ug n b u}(h:A2c w g o tb a mp hv av ug n b u)(h0:0<w.heap.size)(hb:b<90)(hn:n<=20):∃ z:Int,u.cell? ⟨ug,b,none⟩=some (.int .i64 z)/\u.frozen? ⟨ug,b,none⟩=false/\0<=z/\z<=1000/\Hid (A1 w g o tb a mp hv av ug (n+1) (u.setCell ⟨ug,b,none⟩ (.int .i64 (z+1)))):=by
 obtain⟨E,V',ls,U,hU,G,K⟩:=h
 obtain⟨c1,c2,c3⟩:=G.inc h0 hb
 have:=hU b
 exact⟨_,c1,c2,by omega,by omega,K _ (ah (c3 _))⟩
def A3 (w:World) (g o hv av ug:Nat) (E:Nat->Bool) (V':Nat->List Int) (X:Nat->Nat->Int) (A:Nat->List Nat) (rest:List (Nat×Obj)) (ps:List Int) (u:World):Prop:=LG w g o hv av ug rest E V' (aan V' X A) (usd (hav V' X A 0++hav V' X A 1++ps)) u
def psI (V':Nat->List Int) (X:Nat->Nat->Int) (i:Nat):List Int:=if i=0 then [] else if i=1 then (sW V' (X 0)).2 else (sW V' (X 0)).2++(sW V' (X 1)).2
theorem af7 (V':Nat->List Int)(X:Nat->Nat->Int){i:Nat}(hi:i<2):psI V' X i++(sW V' (X i)).2=psI V' X (i+1):=by
 rcases(show i=0\/i=1 by omega) with rfl | rfl<;>rfl
theorem ahH (V':Nat->List Int)(X:Nat->Nat->Int){i:Nat}(hi:i<2):(psI V' X i).length<=34:=by
 rcases(show i=0\/i=1 by omega) with rfl | rfl
 ·exact Nat.zero_le _
 ·exact(acM V' (X 0)).2
theorem agI {w g o tb a mp hv av ug n u}(h:A1 w g o tb a mp hv av ug n u):∃ E V' X β A,Fst E V' X β/\Led V' X A/\(∀ f,f<2->(A f).length<=n)/\Hid (A3 w g o hv av ug E V' X A (rst tb a g mp) (psI V' X 0) u):=by
 obtain⟨E,V',X,β,A,hF,hL,hn,G⟩:=h
 refine⟨E,V',X,β,A,hF,hL,hn,?_⟩
 show LG _ _ _ _ _ _ _ _ _ _ (usd (hav V' X A 0++hav V' X A 1++[])) u
 rw[List.append_nil]
 exact G
theorem ad1 {V':Nat->List Int}{X:Nat->Nat->Int}{A:Nat->List Nat}{f:Nat}(hf:f<2):aan V' X A f=hav V' X A f:=by
 unfold aan
 rw[if_pos hf]
theorem ahW {V':Nat->List Int}{X:Nat->Nat->Int}{A:Nat->List Nat}{f:Nat}(hf:f<2):aan V' X A (2+f)=(A f).map (fun n:Nat=>(n:Int)):=by
 unfold aan
 rw[if_neg (by omega),show 2+f - 2=f by omega]
theorem aeD {w g o hv av ug E V' X A rest ps u}(h:A3 w g o hv av ug E V' X A rest ps u){f:Nat}(hf:f<2):∃ da dc,u.cell? ⟨hv,f,none⟩=some (.slice da (A f).length dc)/\∀ (k m:Nat),(A f)[k]?=some m->∃ q,da=some ⟨q,0,none⟩/\u.cell? ⟨q,k,none⟩=some (.int .i64 (aT X V' (sOf f m))):=by
 obtain⟨da,dc,c1,o1⟩:=h.list (k:=f) (by omega)
 obtain⟨e1,e2,_,_⟩:=aa4 hv av hf
 rw[e1,e2] at c1
 rw[ad1 hf] at c1 o1
 have hl:(hav V' X A f).length=(A f).length:=by unfold hav;rw[List.length_map]
 rw[hl] at c1 o1
 refine⟨da,dc,c1,fun k m hm=>?_⟩
 have hk:=(List.getElem?_eq_some_iff.1 hm).1
 obtain⟨q,e,_,c2,_⟩:=o1.cell hk
 refine⟨q,e,c2.trans ?_⟩
 unfold hav
 rw[List.getElem?_map,hm]
 rfl
theorem ake {w g o hv av ug E V' X A rest ps u}(h:A3 w g o hv av ug E V' X A rest ps u){f:Nat}(hf:f<2):∃ da dc,u.cell? ⟨av,f,none⟩=some (.slice da (A f).length dc)/\∀ (k m:Nat),(A f)[k]?=some m->∃ q,da=some ⟨q,0,none⟩/\u.cell? ⟨q,k,none⟩=some (.int .i64 (m:Int)):=by
 obtain⟨da,dc,c1,o1⟩:=h.list (k:=2+f) (by omega)
 obtain⟨_,_,e1,e2⟩:=aa4 hv av hf
 rw[e1,e2] at c1
 rw[ahW hf,List.length_map] at c1 o1
 refine⟨da,dc,c1,fun k m hm=>?_⟩
 have hk:=(List.getElem?_eq_some_iff.1 hm).1
 obtain⟨q,e,_,c2,_⟩:=o1.cell hk
 refine⟨q,e,c2.trans ?_⟩
 rw[List.getElem?_map,hm]
 rfl
theorem akd {w}{g o tb a mp hv av ug:Nat}{E V' X}{β:Nat->Bool}{A ps u}(h:A3 w g o hv av ug E V' X A (rst tb a g mp) ps u)(hF:Fst E V' X β)(hL:Led V' X A)(h0:0<w.heap.size){f:Nat}(hf:f<2){k:Nat}(hk:k<(A f).length) :
  ∃ (dc q:Nat) (m b:Int),u.cell? ⟨av,f,none⟩=some (.slice (some ⟨q,0,none⟩) (A f).length dc)/\u.cell? ⟨q,k,none⟩=some (.int .i64 m)/\Hid (Calls Tryz.prog 13 #[.pointer (some ⟨tb,0,none⟩),.pointer (some ⟨o,0,none⟩),.int .i64 (2+(f:Int)),.int .i64 m] u fun r u1=>r=.returned (.tuple #[.int .i64 b,.int .i64 0])/\Hid (∃ (dc q:Nat),u1.cell? ⟨hv,f,none⟩=some (.slice (some ⟨q,0,none⟩) (A f).length dc)/\u1.cell? ⟨q,k,none⟩=some (.int .i64 b)/\Hid (A3 w g o hv av ug E V' X A (rst tb a g mp) ps u1))):=by
 have hm:(A f)[k]?=some (A f)[k]:=List.getElem?_eq_getElem hk
 generalize (A f)[k]=m at hm
 have hlt:=hL.lt f hf m (List.mem_of_getElem? hm)
 obtain⟨da,dc,c1,c2⟩:=ake h hf
 obtain⟨q,rfl,c3⟩:=c2 k m hm
 refine⟨dc,q,(m:Int),aT X V' (sOf f m),c1,c3,?_⟩
 obtain⟨rows,L,hr,back,_⟩:=LG.over h
 have ht:(tb,tbO a aP)∈rows:=hr _ (by simp[rst])
 have cf:=agO (a:=a) L hF ht h0 hf hlt
 rw[jW] at cf
 refine cf.mono ?_
 rintro r u1 ⟨rfl,Y⟩
 have G1:A3 w g o hv av ug E V' X A (rst tb a g mp) ps u1:=back _ _ _ (ah Y)
 obtain⟨da',dc',d1,d2⟩:=aeD G1 hf
 obtain⟨q',rfl,d3⟩:=d2 k m hm
 exact⟨rfl,dc',q',d1,d3,G1⟩
theorem aeE {w}{g o tb a mp hv av ug:Nat}{E V' X}{β:Nat->Bool}{A ps u}(h:A3 w g o hv av ug E V' X A (rst tb a g mp) ps u)(hF:Fst E V' X β)(h0:0<w.heap.size){f:Nat}(hf:f<2) :
  Calls Tryz.prog 15 #[.pointer (some ⟨tb,0,none⟩),.pointer (some ⟨o,0,none⟩),.int .i64 (2+(f:Int))] u fun r u1=>∃ da dc pa pc rest',r=.returned (.tuple #[.slice da (sW V' (X f)).1.length dc,.slice pa (sW V' (X f)).2.length pc,.int .i64 0])/\Hid (A3 w g o hv av ug E V' X A rest' ps u1)/\Hid (∀ x∈rst tb a g mp,x∈rest')/\Hid (∀ ps' v,A3 w g o hv av ug E V' X A rest' ps' v->iR w.heap.size v da (sW V' (X f)).1.length dc (sW V' (X f)).1/\iR w.heap.size v pa (sW V' (X f)).2.length pc (sW V' (X f)).2):=by
 obtain⟨rows,L,hr,_,more⟩:=LG.over h
 have ht:(tb,tbO a aP)∈rows:=hr _ (by simp[rst])
 have cb:=afg (a:=a) L hF ht h0 hf
 rw[jW] at cb
 refine cb.mono ?_
 rintro r u1 ⟨da,dc,pa,pc,rfl,Y⟩
 obtain⟨Rd,Rp,i1,i2,L1⟩:=ah Y
 have G1:A3 w g o hv av ug E V' X A ((Rd++Rp)++rst tb a g mp) ps u1:=more (Rd++Rp) _ _ _ (by rw[List.append_assoc];exact L1) (fun x hx y hy=>by
  rcases List.mem_append.1 hx with e | e
  ·exact i1.off e y (List.mem_append_right _ hy)
  ·exact i2.off e y (List.mem_append_right _ hy))
 refine⟨da,dc,pa,pc,_,rfl,G1,fun x hx=>List.mem_append_right _ hx,fun ps' v G2=>⟨i1.own fun x hx=>LG.row G2 (by simp[hx]),i2.own fun x hx=>LG.row G2 (by simp[hx])⟩⟩
theorem ahP (l:List Int){k:Nat}(hk:k<l.length):(nzL (l.take (k+1))).length=(nzL (l.take k)).length+(if l[k]?.getD 0=0 then 0 else 1):=by
 rw[List.take_add_one,dM,List.length_append,List.getElem?_eq_getElem hk,Option.getD_some]
 congr 1
 unfold nzL
 by_cases e:l[k]=0
 ·rw[if_pos e];simp[e]
 ·rw[if_neg e];simp[e]
theorem ajg {E V' X β}(h:Tree E V' X β){f:Nat}(hf:f<2){p:Int}(hp:p∈(sW V' (X f)).2):37<=p/\p<90:=by
 rw[(afp X V' f).2,adu,List.mem_map] at hp
 obtain⟨⟨s,hs,rfl⟩,hb⟩:=hp
 obtain⟨o1,_,_⟩:=(yI hf).1 hs
 obtain⟨r1,r2,_⟩:=h.rng s o1 hb
 exact⟨r1,r2⟩
theorem aho {w:World}{g o hv av ug n:Nat}{E:Nat->Bool}{V':Nat->List Int}{X:Nat->Nat->Int}{β:Nat->Bool}{A:Nat->List Nat}{rest:List (Nat×Obj)}{u:World}{f k:Nat}(hf:f<2)(h:A3 w g o hv av ug E V' X A rest (psI V' X f++(sW V' (X f)).2.take k) u)(hF:Fst E V' X β)(hn:∀ f,f<2->(A f).length<=20)(h0:0<w.heap.size){pa:Option Addr}{pc:Nat}(hO:iR w.heap.size u pa (sW V' (X f)).2.length pc (sW V' (X f)).2)(hk:k<(sW V' (X f)).2.length) :
  ∃ (q p:Nat) (z:Int),pa=some ⟨q,0,none⟩/\u.cell? ⟨q,k,none⟩=some (.int .i64 (p:Int))/\37<=p/\p<90/\u.cell? ⟨ug,p,none⟩=some (.int .i64 z)/\u.frozen? ⟨ug,p,none⟩=false/\0<=z/\z<=1000/\Hid (A3 w g o hv av ug E V' X A rest (psI V' X f++(sW V' (X f)).2.take (k+1)) (u.setCell ⟨ug,p,none⟩ (.int .i64 (z+1)))):=by
 obtain⟨q,e,_,c1,_⟩:=hO.cell hk
 have hm:(sW V' (X f)).2[k]?.getD 0∈(sW V' (X f)).2:=by
  rw[List.getElem?_eq_getElem hk,Option.getD_some]
  exact List.getElem_mem hk
 obtain⟨r1,r2⟩:=ajg hF.t hf hm
 obtain⟨p,hp⟩:∃ p:Nat,(sW V' (X f)).2[k]?.getD 0=(p:Int):=⟨((sW V' (X f)).2[k]?.getD 0).toNat,by omega⟩
 rw[hp] at c1
 obtain⟨c2,c3,c4⟩:=LG.inc h h0 (b:=p) (by omega)
 obtain⟨z1,z2⟩:=agN (hav V' X A 0++hav V' X A 1++(psI V' X f++(sW V' (X f)).2.take k)) p
 have zl:(hav V' X A 0++hav V' X A 1++(psI V' X f++(sW V' (X f)).2.take k)).length<=1000:=by
  have y0:=hn 0 (by omega)
  have y1:=hn 1 (by omega)
  have y2:=ahH V' X hf
  have y3:=(acM V' (X f)).2
  unfold hav
  simp only[List.length_append,List.length_map,List.length_take]
  omega
 refine⟨q,p,_,e,c1,by omega,by omega,c2,c3,z1,by omega,?_⟩
 have c5:=ah (c4 ((usd (hav V' X A 0++hav V' X A 1++(psI V' X f++(sW V' (X f)).2.take k)))[p]?.getD 0+1))
 have eU:(usd (hav V' X A 0++hav V' X A 1++(psI V' X f++(sW V' (X f)).2.take k))).set p ((usd (hav V' X A 0++hav V' X A 1++(psI V' X f++(sW V' (X f)).2.take k)))[p]?.getD 0+1)=usd (hav V' X A 0++hav V' X A 1++(psI V' X f++(sW V' (X f)).2.take (k+1))):=by
  rw[qo _ (by omega),Option.getD_some,acu _ (by omega)]
  congr 1
  rw[List.take_add_one,List.getElem?_eq_getElem hk]
  rw[List.getElem?_eq_getElem hk,Option.getD_some] at hp
  rw[hp]
  simp only[List.append_assoc,Option.toList_some]
 rw[eU] at c5
 exact c5
theorem aiA {w g o hv av ug E V' X}{β:Nat->Bool}{A rest u}(h:A3 w g o hv av ug E V' X A rest (psI V' X 2) u)(hF:Fst E V' X β)(hL:Led V' X A)(h0:0<w.heap.size){b:Nat}(hb:b<90):∃ z:Int,u.cell? ⟨ug,b,none⟩=some (.int .i64 z)/\z<=1:=by
 obtain⟨c2,_,_⟩:=LG.inc h h0 hb
 refine⟨_,c2,?_⟩
 have:=hL.once hF.t
 rw[List.append_assoc] at this
 obtain⟨n,e,_,n1⟩:=aeZ (l:=hav V' X A 0++hav V' X A 1++psI V' X 2) this hb
 rw[e,Option.getD_some]
 exact n1
end Go.Proofs.YtbofhdfhhbgdgaaGreatDoor
