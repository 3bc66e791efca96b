/- Joined: IFnd, ISw, IKpA, IKpB, IKpC. -/
import Derived.Test.YtbofhdfhhbgdgaaGreatDoorIkJ49
import Derived.Test.YtbofhdfhhbgdgaaGreatDoorIkJ41
import Derived.Test.YtbofhdfhhbgdgaaGreatDoorIkJ48
import Derived.Test.YtbofhdfhhbgdgaaGreatDoorIkJ1
/- Find, Make and Blocks at every number of the two files. -/
namespace Go.Proofs.YtbofhdfhhbgdgaaGreatDoor
set_option maxRecDepth 100000
set_option maxHeartbeats 8000000
open Go.RowKit Go.Shelf Go.Maps
set_option linter.unusedVariables false
theorem acn {n:Int}(hn:n<0\/1064<=n)(v:World):Calls Tryz.prog 102 #[Pv aP,.int .i64 n] v fun r w'=>(∃ a n c,r=.returned (.tuple #[.slice a n c,.int .i64 2]))/\Below v.heap.size v w':=by
 by_cases h:n<0
 ·refine(aco aP n v aPG.chk h).mono ?_
  rintro r w1 ⟨⟨a,n,c,e,_⟩,b⟩
  exact⟨⟨a,n,c,e⟩,b⟩
 ·refine(aa5 aP n v aPG.chk h (by rw[aek];omega)).mono ?_
  rintro r w1 ⟨⟨a,n,c,e,_⟩,b⟩
  exact⟨⟨a,n,c,e⟩,b⟩
theorem aa3 {w}{g o a tb:Nat}{rows u E V'}{X:Nat->Nat->Int}{β:Nat->Bool}(L:Lp w aP aG E g o rows 1 aV (fun _=>false) V' (fun _=>false) u)(ht:(tb,tbO a aP)∈rows){j n:Int}(hn:n<0\/1064<=n) :
  Calls Tryz.prog 14 #[.pointer (some ⟨tb,0,none⟩),.pointer (some ⟨o,0,none⟩),.int .i64 j,.int .i64 n] u fun r u'=>r=.returned (.tuple #[.int .i64 0,.bool false,.int .i64 2])/\Hid (Lp w aP aG E g o rows 1 aV (fun _=>false) V' (fun _=>false) u'):=by
 refine(wR u (some ⟨o,0,none⟩) j n (L.row ht) (fun v=>acn hn v)).mono ?_
 rintro r u' ⟨rfl,b⟩
 exact⟨rfl,L.later b⟩
theorem ait {w}{g o a tb:Nat}{rows u E V'}{X:Nat->Nat->Int}{β:Nat->Bool}(L:Lp w aP aG E g o rows 1 aV (fun _=>false) V' (fun _=>false) u)(h:Fst E V' X β)(ht:(tb,tbO a aP)∈rows)(ha:(a,alO g aP)∈rows)(h0:0<w.heap.size){f n:Nat}(hf:f<2)(hn:n<1064) :
  ∃ b e q E1 V1 X1 β1,Calls Tryz.prog 14 #[.pointer (some ⟨tb,0,none⟩),.pointer (some ⟨o,0,none⟩),.int .i64 ((2+f:Nat):Int),.int .i64 (n:Int)] u (fun r u'=>r=.returned (.tuple #[.int .i64 b,.bool q,.int .i64 e])/\Hid (Lp w aP aG E1 g o rows 1 aV (fun _=>false) V1 (fun _=>false) u'))/\Fst E1 V1 X1 β1/\MkR X V' X1 V1 (sOf f n) b e q/\(e=10->b=0/\q=false):=by
 obtain⟨b,e,q,E1,V1,X1,β1,HF,hF,hR⟩:=ahE (g:=g) (o:=o) (a:=a) (tb:=tb) h0 h hf hn
 by_cases he:e=0
 ·subst he
  exact⟨b,0,q,E1,V1,X1,β1,zB L h0 rfl (HF rows ht ha),hF,hR,fun x=>absurd x (by omega)⟩
 ·refine⟨0,e,false,E1,V1,X1,β1,abX L h0 he (HF rows ht ha),hF,⟨?_,hR.d,hR.k,hR.z⟩,fun _=>⟨rfl,rfl⟩⟩
  rcases hR.o with x | x
  ·exact absurd x.1 he
  ·exact .inr x
theorem Fst.ahe {E V' X β}(h:Fst E V' X β){s:Slot}(hs:sOk s)(s0:s.1≠0):okP E (bU X V' (fP s)):=by
 by_cases hz:bU X V' (fP s)=0
 ·exact .inl hz
 ·obtain⟨po,pn,pk,pi⟩:=iE hs s0
  obtain⟨g1,g2,g3⟩:=h.t.rng _ po hz
  exact .inr ⟨(bU X V' (fP s)).toNat,by omega,by omega,h.t.pe s hs po s0 hz⟩
theorem aeC {w}{g o a tb:Nat}{rows u E V'}{X:Nat->Nat->Int}{β:Nat->Bool}(L:Lp w aP aG E g o rows 1 aV (fun _=>false) V' (fun _=>false) u)(h:Fst E V' X β)(ht:(tb,tbO a aP)∈rows)(h0:0<w.heap.size){f:Nat}(hf:f<2) :
  Calls Tryz.prog 15 #[.pointer (some ⟨tb,0,none⟩),.pointer (some ⟨o,0,none⟩),.int .i64 ((2+f:Nat):Int)] u fun e u'=>∃ da dc pa pc,e=.returned (.tuple #[.slice da (sW V' (X f)).1.length dc,.slice pa (sW V' (X f)).2.length pc,.int .i64 0])/\Hid (ajx w aP aG E g o rows 1 aV (fun _=>false) V' (fun _=>false) (sW V' (X f)).1 (sW V' (X f)).2 da dc pa pc u'):=by
 obtain⟨p1,p2,p3⟩:=ajV hf
 have hfit:fAt f+32<=aG.blk:=by show 32*f+32<=64;omega
 obtain⟨hi,hX⟩:=h.ino hf
 have k1:sOk (1,f,0,0):=⟨hf,.inr (.inl ⟨rfl,by show 0<32;omega,rfl⟩)⟩
 have k2:∀ k,k<32->sOk (2,f,k,0):=fun k hk=>⟨hf,.inr (.inr (.inl ⟨rfl,hk,rfl⟩))⟩
 have k3:∀ k,k<32->sOk (3,f,k,0):=fun k hk=>⟨hf,.inr (.inr (.inr ⟨rfl,hk,by show 0<32;omega⟩))⟩
 refine aa0 (a:=a) (bk:=35) (at0:=fAt f) L (X f) _ ht h0 p1 p2 p3 hfit h.e35 hi hX rfl (by rw[iw];decide) (h.ahe k1 (by simp)) (h.ahe (k2 0 (by omega)) (by simp)) ?_
 intro hx k hk
 have:=h.ahe (k3 k hk) (by simp)
 rw[show fP (3,f,k,0)=(2,f,k,0) from rfl,mZ (k2 k hk) (by simp)] at this
 unfold aeD at this
 rw[if_neg (show bU X V' (fP (2,f,k,0))≠0 from hx)] at this
 exact this
theorem lH {s}(hs:sOk s):bU (fun _=>x1) aV s=0:=by
 have h1:∀ k,3<=k->x1 k=0:=fun k hk=>by
  unfold x1
  rw[if_neg (by omega),if_neg (by omega)]
 obtain⟨q,f,k,l⟩:=s
 obtain⟨h2,h3⟩:=hs
 simp only at h2 h3
 rcases h3 with ⟨rfl,h,rfl⟩ | ⟨rfl,h,rfl⟩ | ⟨rfl,h,rfl⟩ | ⟨rfl,h,h'⟩
 ·exact h1 _ (ku (s:=k) (by omega)).2
 ·rfl
 ·rfl
 ·rfl
theorem ad8:Fst aE aV (fun _=>x1) (fun j=>decide (j<37)):=by
 refine⟨⟨fun s hs h=>absurd (lH hs) h,fun s t hs ht h=>absurd (lH hs) h,fun s hs hp s0 h=>absurd (lH hp) h⟩,fun j hj=>?_,rfl,fun f hf=>nI,rfl,rfl,rfl,fun b hb=>?_,?_⟩
 ·exact tH 64 37 (by omega) j
 ·unfold aV
  by_cases e1:b=35
  ·rw[if_pos e1];unfold tbZ;rw[List.length_append,gq]
  ·rw[if_neg e1]
   by_cases e2:b=33
   ·rw[if_pos e2];exact gy _ _
   ·rw[if_neg e2]
    by_cases e3:b=32
    ·rw[if_pos e3];exact gy _ _
    ·rw[if_neg e3];exact ag4 0
 ·exact jy 64 (upTo 37)
def IK (w:World) (g o tb a:Nat) (rows:List (Nat×Obj)) (u:World):Prop :=
 ∃ E V' X β,Fst E V' X β/\Lp w aP aG E g o ((tb,tbO a aP)::(a,alO g aP)::rows) 1 aV (fun _=>false) V' (fun _=>false) u
theorem af2 {w u}{g o tb a:Nat}{rows:List (Nat×Obj)}(L:Lp w aP aG aE g o ((tb,tbO a aP)::(a,alO g aP)::rows) 1 aV (fun _=>false) aV (fun _=>false) u):IK w g o tb a rows u :=
 ⟨_,_,_,_,ad8,L⟩
theorem ah3 {w u g o tb a rows}(h:IK w g o tb a rows u)(h0:0<w.heap.size){f:Nat}(hf:f<2)(n:Int) :
  Calls Tryz.prog 14 #[.pointer (some ⟨tb,0,none⟩),.pointer (some ⟨o,0,none⟩),.int .i64 ((2+f:Nat):Int),.int .i64 n] u fun r u'=>∃ b q e,r=.returned (.tuple #[.int .i64 b,.bool q,.int .i64 e])/\Hid (IK w g o tb a rows u'):=by
 obtain⟨E,V',X,β,hF,L⟩:=h
 by_cases hn:n<0\/1064<=n
 ·refine(aa3 (a:=a) (X:=X) (β:=β) L (List.mem_cons_self ..) hn).mono ?_
  rintro r u' ⟨rfl,Y⟩
  exact⟨_,_,_,rfl,E,V',X,β,hF,ah Y⟩
 ·obtain⟨m,rfl⟩:∃ m:Nat,n=(m:Int):=⟨n.toNat,by omega⟩
  obtain⟨b,e,q,E1,V1,X1,β1,hC,hF1,_,_⟩:=ait (a:=a) L hF (List.mem_cons_self ..) (List.mem_cons_of_mem _ (List.mem_cons_self ..)) h0 hf (n:=m) (by omega)
  refine hC.mono ?_
  rintro r u' ⟨rfl,Y⟩
  exact⟨_,_,_,rfl,E1,V1,X1,β1,hF1,ah Y⟩
theorem IK.bel {w u g o tb a rows}(h:IK w g o tb a rows u):Below w.heap.size w u:=by
 obtain⟨E,V',X,β,hF,L⟩:=h
 exact L.bel
def IB (w:World) (g o tb a:Nat) (rows:List (Nat×Obj)) (D Q:List Int) (u:World):Prop :=
 ∃ E V' X β,Fst E V' X β/\D=(sW V' (X 0)).1/\Q=(sW V' (X 0)).2/\(tb,tbO a aP)∈rows/\Lp w aP aG E g o rows 1 aV (fun _=>false) V' (fun _=>false) u
theorem IK.ib {w u g o tb a rows}(h:IK w g o tb a rows u):∃ D Q,IB w g o tb a ((tb,tbO a aP)::(a,alO g aP)::rows) D Q u:=by
 obtain⟨E,V',X,β,hF,L⟩:=h
 exact⟨_,_,E,V',X,β,hF,rfl,rfl,by simp,L⟩
theorem oJ {w u g o tb a rows D Q}(h:IB w g o tb a rows D Q u)(h0:0<w.heap.size) :
  Calls Tryz.prog 15 #[.pointer (some ⟨tb,0,none⟩),.pointer (some ⟨o,0,none⟩),.int .i64 2] u fun e u'=>∃ da dc pa pc Rd Rp,e=.returned (.tuple #[.slice da D.length dc,.slice pa Q.length pc,.int .i64 0])/\Hid (Ir w.heap.size (Rp++rows) da D.length dc D Rd)/\Hid (Ir w.heap.size (Rd++rows) pa Q.length pc Q Rp)/\Hid (IB w g o tb a (Rd++(Rp++rows)) D Q u'):=by
 obtain⟨E,V',X,β,hF,rfl,rfl,ht,L⟩:=h
 refine(aeC (a:=a) L hF ht h0 (f:=0) (by omega)).mono ?_
 rintro e u' ⟨da,dc,pa,pc,rfl,Y⟩
 obtain⟨Rd,Rp,i1,i2,l⟩:=ah Y
 exact⟨da,dc,pa,pc,Rd,Rp,rfl,i1,i2,E,V',X,β,hF,rfl,rfl,by simp[ht],l⟩
theorem IB.later {w u u':World}{g o tb a rows D Q}(h:IB w g o tb a rows D Q u)(b:Below u.heap.size u u'):IB w g o tb a rows D Q u':=by
 obtain⟨E,V',X,β,hF,e1,e2,ht,L⟩:=h
 exact⟨E,V',X,β,hF,e1,e2,ht,L.later b⟩
theorem IB.bel {w u g o tb a rows D Q}(h:IB w g o tb a rows D Q u):Below w.heap.size w u:=by
 obtain⟨E,V',X,β,hF,e1,e2,ht,L⟩:=h
 exact L.bel
theorem IB.row {w u g o tb a rows D Q}(h:IB w g o tb a rows D Q u){x:Nat×Obj}(hx:x∈rows):u.heap[x.1]?=some x.2:=by
 obtain⟨E,V',X,β,hF,e1,e2,ht,L⟩:=h
 exact L.row hx
theorem Lp.only {w P G E g o}{rows rows':List (Nat×Obj)}{i V F V' K}{u u':World}{T:Nat->Prop}(h:Lp w P G E g o rows i V F V' K u)(hr:∀ x∈rows',x∈rows/\¬ T x.1)(hT:∀ k,T k->∃ x∈rows,x.1=k)(h0:0<w.heap.size)(bb:Below w.heap.size u u')(kept:∀ k,k<u.heap.size->¬ T k->u'.heap[k]?=u.heap[k]?):Lp w P G E g o rows' i V F V' K u':=by
 obtain⟨E0,cg,lg,dg,X,C,L,D,S,N,h,r⟩:=h
 refine⟨E0,cg,lg,dg,X,C,L,D,S,N,?_,r⟩
 have hST:∀ k,S k->¬ T k:=fun k hk ht=>by
  obtain⟨x,hx,e⟩:=hT k ht
  exact(h.hl.ro x hx).2 (e ▸ hk)
 have hlt:∀ k,S k->k<u.heap.size:=fun k hk=>h.hl.gv.lt hk
 obtain⟨Sg,Sc,Sl,Sd,m,mk,ml,az⟩:=h.hl.gv
 refine⟨⟨(az.iL (fun q hq=>kept q (hlt q hq) (hST q hq)) (bb.block 0 h0) bb.size).gv,h.hl.ge,h.hl.bel.trans bb,h.hl.sz,fun x hx=>?_⟩,h.gs,h.sq,h.vl,h.fl,h.vb,h.eb,h.eu,h.ed⟩
 obtain⟨h1,h2⟩:=hr x hx
 obtain⟨h3,h4⟩:=h.hl.ro x h1
 exact⟨(kept x.1 (Array.getElem?_eq_some_iff.1 h3).1 h2).trans h3,h4⟩
theorem vw {ts:List FA.pO}{B Lb k:Nat}(h:FA.TI (FA.gK B Lb ts) k):∃ t∈ts,t.1=some ⟨k,0,none⟩:=by
 obtain⟨p,hp,hA⟩:=h
 have hp':p<ts.length:=hp
 have:(FA.dR ts p).1=some ⟨k,0,none⟩:=hA
 rw[FA.ig hp'] at this
 exact⟨_,List.getElem_mem hp',this⟩
theorem af4 {w u g o tb a}{rows rows':List (Nat×Obj)}{D Q}(h:IB w g o tb a rows D Q u)(h0:0<w.heap.size)(is:List FA.pO)(his:∀ t∈is,(∃ xs,dD w.heap.size u t.1 t.2.1 t.2.2 xs)/\t.2.1<=10000/\∀ k,t.1=some ⟨k,0,none⟩->(∃ x∈rows,x.1=k)/\∀ x∈rows',x.1≠k)(hr:∀ x∈rows',x∈rows)(ht:(tb,tbO a aP)∈rows')(N:Nat)(hN:is.length=N)(hN6:N<=64)(hp:is.Pairwise FA.aar)(Lb:Nat)(hLb:Lb=u.heap.size) :
  Calls Tryz.prog 23 #[.slice (some ⟨Lb,0,none⟩) N N] (u.alloc (.cells (is.map gJ).toArray 22)) fun e w1=>e=.returned (.bool true)/\Hid (IB w g o tb a rows' D Q w1):=by
 subst hLb
 have hb:=(Below.refl u.heap.size u).alloc (Nat.le_refl _) (.cells (is.map gJ).toArray 22)
 have hnew:(u.alloc (.cells (is.map gJ).toArray 22)).heap[u.heap.size]?=some (.cells (is.map gJ).toArray 22):=World.alloc_heap_new _ _
 have h1:=h.later hb
 have hsz:=h.bel.size
 have i1:∀ t∈is,∃ xs,dD w.heap.size (u.alloc (.cells (is.map gJ).toArray 22)) t.1 t.2.1 t.2.2 xs:=fun t ht=>by
  obtain⟨⟨xs,o1⟩,_⟩:=his t ht
  exact⟨xs,o1.kept (fun k e=>hb.block k (o1.lt e).1)⟩
 generalize u.alloc (.cells (is.map gJ).toArray 22)=v at *
 refine(FA.yL w.heap.size u.heap.size N is v hN hN6 (fun t ht=>?_) hsz hp hnew i1).mono ?_
 ·obtain⟨_,h2,_⟩:=his t ht
  omega
 ·rintro e w1 ⟨rfl,z1,z2⟩
  obtain⟨E,V',X,β,hF,e1,e2,_,L⟩:=h1
  refine⟨rfl,E,V',X,β,hF,e1,e2,ht,L.only (T:=FA.TI (FA.gK w.heap.size u.heap.size is)) (fun x hx=>⟨hr x hx,fun hT=>?_⟩) (fun k hT=>?_) h0 z1 z2⟩
  ·obtain⟨t,ht,e⟩:=vw hT
   exact((his t ht).2.2 _ e).2 x hx rfl
  ·obtain⟨t,ht,e⟩:=vw hT
   exact((his t ht).2.2 _ e).1
theorem zH {V':Nat->List Int}{p:Nat->Int}{nm:Nat}{st:List Int×List Int}(h:st.1.length<=nm):∀ k,(sF (s32 V') p 32 nm k st).1.length<=nm+k*32/\(sF (s32 V') p 32 nm k st).2.length<=st.2.length+k
 | 0=>⟨by show st.1.length<=_;omega,by show st.2.length<=_;omega⟩
 | k+1=>by
  obtain⟨i1,i2⟩:=zH (V':=V') (p:=p) h k
  obtain⟨j1,j2⟩:=rH (V':=V') (b:=p k) (nm:=nm+k*32) (st:=sF (s32 V') p 32 nm k st) i1
  unfold sF
  omega
theorem aix (V':Nat->List Int)(X:Nat->Int):(sW V' X).1.length<=1064/\(sW V' X).2.length<=34:=by
 obtain⟨a1,a2⟩:=iF (X:=X) (st:=([],[])) rfl 8
 obtain⟨b1,b2⟩:=rH (V':=V') (b:=X 11) (st:=jM X 8 ([],[])) a1
 rw[a2] at b2
 unfold sW ac7
 split
 ·simp only[List.length_nil] at b2
  omega
 ·obtain⟨c1,c2⟩:=zH (V':=V') (p:=iY V' (X 12)) (nm:=40) (st:=((s32 V' (jM X 8 ([],[])) (X 11) 8).1,(s32 V' (jM X 8 ([],[])) (X 11) 8).2++[X 12])) b1 32
  simp only[List.length_append,List.length_cons,List.length_nil] at c2 b2
  omega
theorem Ir.aside {B}{k1 k2 R1 R2:List (Nat×Obj)}{a1 a2:Option Addr}{n1 c1 n2 c2:Nat}{d1 d2:List Int}(h1:Ir B k1 a1 n1 c1 d1 R1)(h2:Ir B k2 a2 n2 c2 d2 R2)(hs:∀ y∈R1,y∈k2):FA.aar (a1,n1,c1) (a2,n2,c2):=fun q e e2=>by
 obtain⟨⟨ob,hm⟩,_⟩:=h1.key e
 exact(h2.key e2).2 _ (hs _ hm) rfl
theorem Ir.off {B ks R da dl dc ds}(h:Ir B ks da dl dc ds R){x:Nat×Obj}(hx:x∈R):∀ y∈ks,y.1≠x.1:=by
 obtain⟨h1,h2,h3,h4⟩:=h
 rcases h4 with ⟨e1,e2,e3,e4⟩ | ⟨q',cur,e1,e2,e3,e4,e5,e6⟩
 ·rw[e4] at hx;simp at hx
 ·rw[e3,List.mem_singleton] at hx
  rw[hx]
  exact e6
theorem IB.list {w u u':World}{g o tb a rows D Q}(h:IB w g o tb a rows D Q u){xa:Option Addr}{n c:Nat}{xs:List Int}(ho:dD u.heap.size u' xa n c xs)(hb:Below u.heap.size u u'):∃ R,Ir w.heap.size rows xa n c xs R/\IB w g o tb a (R++rows) D Q u':=by
 obtain⟨E,V',X,β,hF,e1,e2,ht,L⟩:=h
 obtain⟨j1,j2,j3,j4⟩:=ho
 rcases j4 with ⟨f1,f2,f3⟩ | ⟨q,cur,f1,f2,f3,f4,f5⟩
 ·exact⟨[],⟨j1,j2,j3,.inl ⟨f1,f2,f3,rfl⟩⟩,E,V',X,β,hF,e1,e2,ht,L.later hb⟩
 ·refine⟨[(q,.cells cur 3)],⟨j1,j2,j3,.inr ⟨q,cur,f1,Nat.le_trans L.bel.size f2,rfl,f4,f5,fun y hy e=>?_⟩⟩,E,V',X,β,hF,e1,e2,List.mem_cons_of_mem _ ht,L.push hb f2 f3⟩
  have:=L.lt hy
  omega
theorem ah2 {w u g o tb a rows}(h:IK w g o tb a rows u)(h0:0<w.heap.size):∃ nD nQ:Nat,nD<=1064/\nQ<=34 /\
  Hid (Calls Tryz.prog 15 #[.pointer (some ⟨tb,0,none⟩),.pointer (some ⟨o,0,none⟩),.int .i64 2] u fun e u1=>∃ a1 c1 b1 d1,e=.returned (.tuple #[.slice a1 nD c1,.slice b1 nQ d1,.int .i64 0]) /\
   Hid (Calls Tryz.prog 15 #[.pointer (some ⟨tb,0,none⟩),.pointer (some ⟨o,0,none⟩),.int .i64 2] u1 fun e u2=>∃ a2 c2 b2 d2,e=.returned (.tuple #[.slice a2 nD c2,.slice b2 nQ d2,.int .i64 0]) /\
    Hid (∃ xa xc u3,(∀ ty,(Builtin.append_ #[22,22] ty #[.slice (some ⟨u2.heap.size,0,none⟩) 0 0,.slice a1 nD c1]).run Tryz.prog (u2.alloc (.cells #[] 3))=.ok (.slice xa nD xc) u3) /\
     Hid (Calls Tryz.prog 22 #[.slice a1 nD c1,.slice a2 nD c2] u3 fun e u4=>e=.returned (.bool true) /\
      Hid (Calls Tryz.prog 22 #[.slice b1 nQ d1,.slice b2 nQ d2] u4 fun e u5=>e=.returned (.bool true) /\
       Hid (∀ L,L=u5.heap.size->Calls Tryz.prog 23 #[.slice (some ⟨L,0,none⟩) 4 4] (u5.alloc (.cells #[.slice a1 nD c1,.slice b1 nQ d1,.slice a2 nD c2,.slice b2 nQ d2] 22)) fun e u6=>e=.returned (.bool true) /\
        Hid (Calls Tryz.prog 15 #[.pointer (some ⟨tb,0,none⟩),.pointer (some ⟨o,0,none⟩),.int .i64 2] u6 fun e u7=>∃ a5 c5 b5 d5,e=.returned (.tuple #[.slice a5 nD c5,.slice b5 nQ d5,.int .i64 0]) /\
         Hid (Calls Tryz.prog 22 #[.slice a5 nD c5,.slice xa nD xc] u7 fun e u8=>e=.returned (.bool true)/\Hid (Below w.heap.size w u8))))))))):=by
 obtain⟨D,Q,hB⟩:=h.ib
 have hl:D.length<=1064/\Q.length<=34:=by
  obtain⟨E,V',X,β,hF,e1,e2,ht,L⟩:=hB
  rw[e1,e2]
  exact aix V' (X 0)
 refine⟨D.length,Q.length,hl.1,hl.2,(oJ hB h0).mono ?_⟩
 have ht:(tb,tbO a aP)∈(tb,tbO a aP)::(a,alO g aP)::rows:=List.mem_cons_self ..
 generalize (tb,tbO a aP)::(a,alO g aP)::rows=r0 at *
 rintro e u1 ⟨a1,c1,b1,d1,Ra,Rb,rfl,I1,I2,B1⟩
 refine⟨a1,c1,b1,d1,rfl,(oJ (ah B1) h0).mono ?_⟩
 rintro e u2 ⟨a2,c2,b2,d2,Rc,Rd,rfl,I3,I4,B2⟩
 refine⟨a2,c2,b2,d2,rfl,?_⟩
 have i1:=ah I1
 have i2:=ah I2
 have i3:=ah I3
 have i4:=ah I4
 have o1:dD w.heap.size u2 a1 D.length c1 D:=i1.own (fun x hx=>(ah B2).row (by simp[hx]))
 obtain⟨xa,xc,u3,r3,o3,b3⟩:=vZ (c:=c1) (eH o1) (by omega)
 obtain⟨Rx,i5,B3⟩:=(ah B2).list o3 b3
 refine⟨xa,xc,u3,r3,?_⟩
 have OW:∀ v,IB w g o tb a (Rx++(Rc++(Rd++(Ra++(Rb++r0))))) D Q v->dD w.heap.size v a1 D.length c1 D/\dD w.heap.size v b1 Q.length d1 Q/\dD w.heap.size v a2 D.length c2 D/\dD w.heap.size v b2 Q.length d2 Q/\dD w.heap.size v xa D.length xc D:=fun v hv =>
  ⟨i1.own (fun x hx=>hv.row (by simp[hx])),i2.own (fun x hx=>hv.row (by simp[hx])),i3.own (fun x hx=>hv.row (by simp[hx])),i4.own (fun x hx=>hv.row (by simp[hx])),i5.own (fun x hx=>hv.row (by simp[hx]))⟩
 refine(jk a1 a2 D.length c1 c2 D u3 (eH (OW _ B3).1) (eH (OW _ B3).2.2.1) (by omega)).mono ?_
 rintro e u4 ⟨rfl,m,rfl⟩
 have B4:=B3.later (below_drewN (Below.refl _ _) m)
 generalize u3.drewN m=u4 at *
 refine⟨rfl,?_⟩
 refine(jk b1 b2 Q.length d1 d2 Q u4 (eH (OW _ B4).2.1) (eH (OW _ B4).2.2.2.1) (by omega)).mono ?_
 rintro e u5 ⟨rfl,m2,rfl⟩
 have B5:=B4.later (below_drewN (Below.refl _ _) m2)
 generalize u4.drewN m2=u5 at *
 refine⟨rfl,fun L hL=>?_⟩
 obtain⟨q1,q2,q3,q4,q5⟩:=OW _ B5
 have key:∀ {ad:Option Addr} {n c:Nat} {ds:List Int} {R ks:List (Nat×Obj)},Ir w.heap.size ks ad n c ds R->(∀ x∈R,x∈Rc++(Rd++(Ra++(Rb++r0))))->(∀ x∈r0,x∈ks)->∀ k,ad=some ⟨k,0,none⟩->(∃ x∈Rx++(Rc++(Rd++(Ra++(Rb++r0)))),x.1=k)/\∀ x∈Rx++r0,x.1≠k:=by
  intro ad n c ds R ks hi hR hk k e
  obtain⟨⟨ob,hm⟩,hy⟩:=hi.key e
  refine⟨⟨_,List.mem_append_right _ (hR _ hm),rfl⟩,fun x hx=>?_⟩
  rcases List.mem_append.1 hx with hx | hx
  ·exact fun e2=>i5.off hx _ (hR _ hm) e2.symm
  ·exact hy x (hk x hx)
 refine(af4 (rows':=Rx++r0) B5 h0 [(a1,D.length,c1),(b1,Q.length,d1),(a2,D.length,c2),(b2,Q.length,d2)] (fun t ht=>?_) (fun x hx=>?_) (List.mem_append_right _ ht) 4 rfl (by omega) ?_ L hL).mono ?_
 ·simp only[List.mem_cons,List.not_mem_nil,or_false] at ht
  rcases ht with rfl | rfl | rfl | rfl
  ·exact⟨⟨_,q1⟩,by show D.length<=_;omega,key i1 (fun x hx=>by simp[hx]) (fun x hx=>by simp[hx])⟩
  ·exact⟨⟨_,q2⟩,by show Q.length<=_;omega,key i2 (fun x hx=>by simp[hx]) (fun x hx=>by simp[hx])⟩
  ·exact⟨⟨_,q3⟩,by show D.length<=_;omega,key i3 (fun x hx=>by simp[hx]) (fun x hx=>by simp[hx])⟩
  ·exact⟨⟨_,q4⟩,by show Q.length<=_;omega,key i4 (fun x hx=>by simp[hx]) (fun x hx=>by simp[hx])⟩
 ·rcases List.mem_append.1 hx with hx | hx<;>simp[hx]
 ·refine .cons ?_ (.cons ?_ (.cons ?_ (.cons (by simp) .nil)))
  ·intro t ht
   simp only[List.mem_cons,List.not_mem_nil,or_false] at ht
   rcases ht with rfl | rfl | rfl
   ·exact i1.aside i2 (fun y hy=>by simp[hy])
   ·exact i1.aside i3 (fun y hy=>by simp[hy])
   ·exact i1.aside i4 (fun y hy=>by simp[hy])
  ·intro t ht
   simp only[List.mem_cons,List.not_mem_nil,or_false] at ht
   rcases ht with rfl | rfl
   ·exact i2.aside i3 (fun y hy=>by simp[hy])
   ·exact i2.aside i4 (fun y hy=>by simp[hy])
  ·intro t ht
   simp only[List.mem_cons,List.not_mem_nil,or_false] at ht
   rcases ht with rfl
   exact i3.aside i4 (fun y hy=>by simp[hy])
 ·rintro e u6 ⟨rfl,B6⟩
  refine⟨rfl,(oJ (ah B6) h0).mono ?_⟩
  rintro e u7 ⟨a5,c5,b5,d5,Re,Rf,rfl,I6,I7,B7⟩
  refine⟨a5,c5,b5,d5,rfl,?_⟩
  have s1:dD w.heap.size u7 a5 D.length c5 D:=(ah I6).own (fun x hx=>(ah B7).row (by simp[hx]))
  have s2:dD w.heap.size u7 xa D.length xc D:=i5.own (fun x hx=>(ah B7).row (by simp[hx]))
  refine(jk a5 xa D.length c5 xc D u7 (eH s1) (eH s2) (by omega)).mono ?_
  rintro e u8 ⟨rfl,m3,rfl⟩
  exact⟨rfl,((ah B7).later (below_drewN (Below.refl _ _) m3)).bel⟩
end Go.Proofs.YtbofhdfhhbgdgaaGreatDoor
