/- Joined: IMkA, IFolX. -/
import Derived.Test.YtbofhdfhhbgdgaaGreatDoorIaISt
import Derived.Test.YtbofhdfhhbgdgaaGreatDoorIaJ41
import Derived.Test.YtbofhdfhhbgdgaaGreatDoorIaIWakes
/- Make at every number of the two files. -/
namespace Go.Proofs.YtbofhdfhhbgdgaaGreatDoor
set_option maxRecDepth 100000
set_option maxHeartbeats 8000000
open Go.RowKit Go.Shelf Go.Maps
set_option linter.unusedVariables false
structure wR (X:Nat->Nat->Int) (V':Nat->List Int) (X1:Nat->Nat->Int) (V1:Nat->List Int) (t:Slot) (b e:Int) (q:Bool):Prop where
 o:e=0/\b≠0/\aT X1 V1 t=b/\(q=true↔aT X V' t=0)\/e=10/\b=0/\∀ s,sOk s->aT X1 V1 s=aT X V' s
 s:∀ s,sOk s->s≠t->aT X1 V1 s=aT X V' s
 k:aT X V' t≠0->aT X1 V1 t=aT X V' t
theorem abE {E V' X β}(h:Fst E V' X β):Ab aP aG E 33 37 6 :=
 ⟨aA.p7,aA.p11,aA.p2,h.e33,h.e32,aA.dn,aA.n8,aA.i8,aA.b4,aA.ne⟩
theorem Fst.free {E V' X β}(h:Fst E V' X β):fG (V' 33) (fun _=>false) 37 aG.n=aG.n\/∃ nb,fG (V' 33) (fun _=>false) 37 aG.n=nb/\nb<aG.n/\37<=nb/\nb<90/\β nb=false:=by
 obtain⟨g1,g2,g3⟩:=tq (V' 33) (fun _=>false) (f:=37) (t:=aG.n) (by decide)
 by_cases e:fG (V' 33) (fun _=>false) 37 aG.n=aG.n
 ·exact .inl e
 ·refine .inr ⟨_,rfl,by omega,g1,by have:aG.n=90:=rfl;omega,?_⟩
  rw[← h.bo _ (by have:aG.n=90:=rfl;omega)]
  exact(g3 e).1
theorem akm {f:Nat}(hf:f<2):gU aP ((2+f:Nat):Int)=0/\jE aP ((2+f:Nat):Int)=((35:Nat):Int)/\jF aP ((2+f:Nat):Int)=((fAt f:Nat):Int):=by
 have:f=0\/f=1:=by omega
 rcases this with rfl | rfl
 ·exact abg
 ·exact akn
theorem Fst.ino {E V' X β}(h:Fst E V' X β){f:Nat}(hf:f<2):iQ (((V' 35).drop (fAt f)).take 32)/\Iv (bG (((V' 35).drop (fAt f)).take 32))=Iv (X f):=by
 rw[h.v35]
 have:f=0\/f=1:=by omega
 rcases this with rfl | rfl
 ·rw[show fAt 0=0 from rfl,rG];exact⟨aaq (h.gd 0 (by omega)),aap (h.gd 0 (by omega))⟩
 ·rw[show fAt 1=32 from rfl,ah4];exact⟨aaq (h.gd 1 (by omega)),aap (h.gd 1 (by omega))⟩
theorem xw {w:World}{g o a tb:Nat}(h0:0<w.heap.size){E:Nat->Bool}{V':Nat->List Int}{X:Nat->Nat->Int}{β:Nat->Bool}(h:Fst E V' X β){f p:Nat}(hf:f<2)(hp:p<10) :
  ∃ b e q E1 V1 X1 β1,(∀ aC fg tg og q1,(tb,tbO a aP)∈aC->(a,alO g aP)∈aC->(tg,zC tb 29)∈aC->(og,zC o 32)∈aC->w.heap.size<=fg->aeG w aP aG g o 1 aV (fun _=>false) (fun _=>false) aC fg tg og tb ((2+f:Nat):Int) (pof p) (decide (p<8)) (X f) q1 E V' b e (X1 f) q E1 V1)/\Fst E1 V1 X1 β1/\wR X V' X1 V1 (0,f,p,0) b e q:=by
 obtain⟨p1,p2,p3⟩:=akm hf
 have hfit:fAt f+32<=aG.blk:=by show 32*f+32<=64;omega
 have hk:=(fO (s:=p) (by omega)).1
 have hto:sOk (0,f,p,0):=⟨hf,.inl ⟨rfl,hp,rfl⟩⟩
 by_cases hx:X f (pof p)=0
 ·rcases h.free with hn | ⟨nb,hn,hlt,n1,n2,hβ⟩
  ·refine⟨0,10,true,E,V',X,β,fun aC fg tg og q1 ht ha rt ro hwf=>acr (a:=a) (bk:=35) (at0:=fAt f) ht ha rt ro hwf h0 p1 p2 p3 hfit h.e35 hk (abE h) hx hn,h,⟨.inr ⟨rfl,rfl,fun _ _=>rfl⟩,fun _ _ _=>rfl,fun _=>rfl⟩⟩
  ·have hg:=oJ (h.gd f hf) (k:=pof p) ⟨(fO (s:=p) (by omega)).2,hk⟩ (n:=(nb:Int)) (by omega)
   by_cases h8:p<8
   ·obtain⟨i1,i2⟩:=h.first hf hp hx ⟨n1,n2⟩ hβ (.inl ⟨h8,rfl,rfl⟩)
    refine⟨(nb:Int),0,true,E,_,xUp X f (bU (X f) (pof p) (nb:Int)),_,fun aC fg tg og q1 ht ha rt ro hwf=>?_,i1,⟨.inl ⟨rfl,by omega,by rw[i2 _ hto,if_pos rfl],by simp[xA,hx]⟩,fun s hs hne=>by rw[i2 s hs,if_neg hne],fun x=>absurd hx x⟩⟩
    rw[decide_eq_true h8,show xUp X f (bU (X f) (pof p) (nb:Int)) f=bU (X f) (pof p) (nb:Int) by unfold xUp;rw[if_pos rfl]]
    exact acp (a:=a) (bk:=35) (at0:=fAt f) ht ha rt ro hwf h0 p1 p2 p3 hfit h.e35 hk (abE h) hx hn hlt hg
   ·obtain⟨i1,i2⟩:=h.first hf hp hx ⟨n1,n2⟩ hβ (.inr ⟨by omega,rfl,rfl⟩)
    refine⟨(nb:Int),0,true,_,_,xUp X f (bU (X f) (pof p) (nb:Int)),_,fun aC fg tg og q1 ht ha rt ro hwf=>?_,i1,⟨.inl ⟨rfl,by omega,by rw[i2 _ hto,if_pos rfl],by simp[xA,hx]⟩,fun s hs hne=>by rw[i2 s hs,if_neg hne],fun x=>absurd hx x⟩⟩
    rw[decide_eq_false h8,show xUp X f (bU (X f) (pof p) (nb:Int)) f=bU (X f) (pof p) (nb:Int) by unfold xUp;rw[if_pos rfl]]
    exact aco (a:=a) (bk:=35) (at0:=fAt f) ht ha rt ro hwf h0 p1 p2 p3 hfit h.e35 hk (abE h) hx hn hlt n1 hg
 ·exact⟨X f (pof p),0,false,E,V',X,β,fun aC fg tg og q1 ht ha rt ro hwf=>aeV (a:=a) (bk:=35) (at0:=fAt f) ht ha rt ro hwf h0 p1 p2 p3 hfit h.e35 hk hx,h,⟨.inl ⟨rfl,hx,rfl,by simp[xA,hx]⟩,fun _ _ _=>rfl,fun _=>rfl⟩⟩
theorem zD {w:World}{g o a tb:Nat}(h0:0<w.heap.size){E:Nat->Bool}{V':Nat->List Int}{X:Nat->Nat->Int}{β:Nat->Bool}(h:Fst E V' X β){s:Slot}(hs:sOk s)(s0:s.1≠0)(hb0:aT X V' (dW s)≠0) :
  ∃ b e q E1 V1 β1,(∀ aC fg tg og q1,(tb,tbO a aP)∈aC->(a,alO g aP)∈aC->(tg,zC tb 29)∈aC->(og,zC o 32)∈aC->w.heap.size<=fg->aeP w aP aG g o 1 aV (fun _=>false) (fun _=>false) aC fg tg og tb (aT X V' (dW s)) ((sIx s:Nat):Int) (decide (s.1≠2)) q1 E V' b e q E1 V1)/\Fst E1 V1 X β1/\wR X V' X V1 s b e q:=by
 obtain⟨po,pn,pk,pi⟩:=gJ hs s0
 obtain⟨g1,g2,g3⟩:=h.t.rng _ po hb0
 have hE:=h.t.pe s hs po s0 hb0
 obtain⟨bn,hbn⟩:∃ bn:Nat,aT X V' (dW s)=(bn:Int):=⟨_,(Int.toNat_of_nonneg (by omega)).symm⟩
 have hv:aT X V' s=ak (V' bn) (((sIx s:Nat):Int)*2) 2:=by
  rw[jD hs s0,hbn]
  unfold mQ gV
  rw[if_neg (by omega),Int.toNat_natCast]
 rw[hbn] at hE g1 ⊢
 rw[Int.toNat_natCast] at hE
 have hsx:2*sIx s+2<=aG.blk:=by show 2*sIx s+2<=64;omega
 by_cases hx:aT X V' s=0
 ·have hx':=hx
  rw[hv] at hx'
  rcases h.free with hn | ⟨nb,hn,hlt,n1,n2,hβ⟩
  ·exact⟨0,10,true,E,V',β,fun aC fg tg og q1 ht ha rt ro hwf=>aef (a:=a) ht ha rt ro hwf h0 hE hsx (abE h) hx' hn,h,⟨.inr ⟨rfl,rfl,fun _ _=>rfl⟩,fun _ _ _=>rfl,fun _=>rfl⟩⟩
  ·by_cases h2:s.1=2
   ·obtain⟨i1,i2⟩:=h.enter hs s0 hbn (by omega) hx ⟨n1,n2⟩ hβ (.inr ⟨h2,rfl,rfl⟩)
    refine⟨(nb:Int),0,true,_,_,_,fun aC fg tg og q1 ht ha rt ro hwf=>?_,i1,⟨.inl ⟨rfl,by omega,by rw[i2 _ hs,if_pos rfl],by simp[hx]⟩,fun r hr hne=>by rw[i2 r hr,if_neg hne],fun x=>absurd hx x⟩⟩
    rw[decide_eq_false (by simp[h2])]
    exact aed (a:=a) ht ha rt ro hwf h0 hE hsx (abE h) hx' hn hlt n1
   ·obtain⟨i1,i2⟩:=h.enter hs s0 hbn (by omega) hx ⟨n1,n2⟩ hβ (.inl ⟨h2,rfl,rfl⟩)
    refine⟨(nb:Int),0,true,_,_,_,fun aC fg tg og q1 ht ha rt ro hwf=>?_,i1,⟨.inl ⟨rfl,by omega,by rw[i2 _ hs,if_pos rfl],by simp[hx]⟩,fun r hr hne=>by rw[i2 r hr,if_neg hne],fun x=>absurd hx x⟩⟩
    rw[decide_eq_true h2]
    exact aee (a:=a) ht ha rt ro hwf h0 hE hsx (abE h) hx' hn hlt
 ·have hx':=hx
  rw[hv] at hx'
  refine⟨aT X V' s,0,false,E,V',β,fun aC fg tg og q1 ht ha rt ro hwf=>?_,h,⟨.inl ⟨rfl,hx,rfl,by simp[hx]⟩,fun _ _ _=>rfl,fun _=>rfl⟩⟩
  rw[hv]
  exact agw (a:=a) ht ha rt ro hwf h0 hE hsx hx'
def sOf (f n:Nat):Slot:=if n<8 then (0,f,n,0) else if n<40 then (1,f,n - 8,0) else (3,f,(n - 40) / 32,(n - 40)%32)
def dS (s:Slot):Prop:=s.1=1\/s.1=3\/s.1=0/\s.2.2.1<8
theorem iW {f n:Nat}(hf:f<2)(hn:n<1064):sOk (sOf f n)/\dS (sOf f n):=by
 unfold sOf
 by_cases h8:n<8
 ·rw[if_pos h8]
  exact⟨⟨hf,.inl ⟨rfl,by show n<10;omega,rfl⟩⟩,.inr (.inr ⟨rfl,h8⟩)⟩
 ·rw[if_neg h8]
  by_cases h40:n<40
  ·rw[if_pos h40]
   exact⟨⟨hf,.inr (.inl ⟨rfl,by show n - 8<32;omega,rfl⟩)⟩,.inl rfl⟩
  ·rw[if_neg h40]
   exact⟨⟨hf,.inr (.inr (.inr ⟨rfl,by show (n - 40) / 32<32;omega,by show (n - 40)%32<32;omega⟩))⟩,.inr (.inl rfl)⟩
structure MkR (X:Nat->Nat->Int) (V':Nat->List Int) (X1:Nat->Nat->Int) (V1:Nat->List Int) (t:Slot) (b e:Int) (q:Bool):Prop where
 o:e=0/\b≠0/\aT X1 V1 t=b/\(q=true↔aT X V' t=0)\/e=10
 d:∀ s,sOk s->dS s->s≠t->aT X1 V1 s=aT X V' s
 k:∀ s,sOk s->aT X V' s≠0->aT X1 V1 s=aT X V' s
 z:e=10->aT X1 V1 t=aT X V' t
theorem wR.ak2 {X X1 V' V1 t b e q}(h:wR X V' X1 V1 t b e q)(ht:sOk t):MkR X V' X1 V1 t b e q:=by
 refine⟨?_,fun s hs _ hne=>h.s s hs hne,fun s hs h0=>?_,fun e10=>?_⟩
 ·rcases h.o with x | x
  ·exact .inl x
  ·exact .inr x.1
 ·by_cases e:s=t
  ·rw[e] at h0 ⊢;exact h.k h0
  ·exact h.s s hs e
 ·rcases h.o with x | x
  ·omega
  ·exact x.2.2 t ht
theorem wR.then {X X1 X2:Nat->Nat->Int}{V' V1 V2:Nat->List Int}{t r:Slot}{b e b2 e2:Int}{q q2:Bool}(h:wR X V' X1 V1 t b e q)(h2:MkR X1 V1 X2 V2 r b2 e2 q2)(ht:sOk t)(hr:sOk r)(htd:¬ dS t)(hrd:dS r):MkR X V' X2 V2 r b2 e2 q2:=by
 have hrt:r≠t:=fun e=>htd (e ▸ hrd)
 refine⟨?_,fun s hs hd hne=>?_,fun s hs h0=>?_,fun e10=>?_⟩
 ·rcases h2.o with ⟨x1,x2,x3,x4⟩ | x
  ·exact .inl ⟨x1,x2,x3,by rw[x4,h.s r hr hrt]⟩
  ·exact .inr x
 ·rw[h2.d s hs hd hne,h.s s hs (fun e=>htd (e ▸ hd))]
 ·have h1:aT X1 V1 s=aT X V' s:=by
   by_cases e:s=t
   ·rw[e] at h0 ⊢;exact h.k h0
   ·exact h.s s hs e
  rw[h2.k s hs (by rw[h1];exact h0),h1]
 ·rw[h2.z e10,h.s r hr hrt]
theorem wR.stop {X X1 V' V1}{t r:Slot}{b e q}(h:wR X V' X1 V1 t b e q)(he:e≠0)(ht:sOk t)(hr:sOk r)(htd:¬ dS t)(hrd:dS r):MkR X V' X1 V1 r 0 e q:=by
 have hrt:r≠t:=fun e=>htd (e ▸ hrd)
 have e10:e=10:=by
  rcases h.o with x | x
  ·exact absurd x.1 he
  ·exact x.1
 refine⟨.inr e10,fun s hs hd hne=>h.s s hs (fun e=>htd (e ▸ hd)),fun s hs h0=>?_,fun _=>h.s r hr hrt⟩
 by_cases e:s=t
 ·rw[e] at h0 ⊢;exact h.k h0
 ·exact h.s s hs e
theorem adY {w:World}{g o a tb:Nat}(h0:0<w.heap.size){E:Nat->Bool}{V':Nat->List Int}{X:Nat->Nat->Int}{β:Nat->Bool}(h:Fst E V' X β){f n:Nat}(hf:f<2)(hn:n<1064) :
  ∃ b e q E1 V1 X1 β1,(∀ rows,(tb,tbO a aP)∈rows->(a,alO g aP)∈rows->akv w aP aG g o 1 aV (fun _=>false) (fun _=>false) rows tb ((2+f:Nat):Int) (n:Int) E V' b e q E1 V1)/\Fst E1 V1 X1 β1/\MkR X V' X1 V1 (sOf f n) b e q:=by
 obtain⟨p1,p2,p3⟩:=akm hf
 have hfit:fAt f+32<=aG.blk:=by show 32*f+32<=64;omega
 obtain⟨hi,hX⟩:=h.ino hf
 have hm:¬ mfb aP<=(n:Int):=by rw[aa7];omega
 have hneg:¬ (n:Int)<0:=by omega
 obtain⟨so1,so2⟩:=iW hf hn
 by_cases h8:n<8
 ·obtain⟨b,e,q,E1,V1,X1,β1,hV,hF,hR⟩:=xw (g:=g) (o:=o) (a:=a) (tb:=tb) h0 h hf (p:=n) (by omega)
  have es:sOf f n=(0,f,n,0):=by unfold sOf;rw[if_pos h8]
  refine⟨b,e,q,E1,V1,X1,β1,fun rows ht ha v fg tg og jI hsub rt ro hwf hfg hv=>?_,hF,by rw[es];exact hR.ak2 (es ▸ so1)⟩
  have hV1:=hV jI fg tg og false (hsub _ ht) (hsub _ ha) rt ro hwf
  rw[decide_eq_true h8] at hV1
  exact aaw (a:=a) (bk:=35) (at0:=fAt f) (s0:=n) hv (hsub _ ht) h0 hwf hfg p1 p2 p3 hfit h.e35 hi hX (by omega) (fun v=>nM aP (n:Int) 32 v aPG.chk hneg hm ai8 (by omega)) hV1
 ·by_cases h40:n<40
  ·have es:sOf f n=(1,f,n - 8,0):=by unfold sOf;rw[if_neg h8,if_pos h40]
   rw[es] at so1 so2 ⊢
   have hS:∀ v,Calls Tryz.prog 102 #[Pv aP,.int .i64 (n:Int)] v fun r w'=>(∃ k,r=.returned (.tuple #[.slice (some ⟨k,0,none⟩) 2 2,.int .i64 0])/\v.heap.size<=k/\w'.heap[k]?=some (.cells #[.int .i64 ((8:Nat):Int),.int .i64 ((n:Int) - 8)] 3))/\Below v.heap.size v w':=fun v=>uK aP (n:Int) 32 v aPG.chk hneg hm ai8 (by omega) (by omega)
   obtain⟨b,e,q,E1,V1,X1,β1,hV,hF,hR⟩:=xw (g:=g) (o:=o) (a:=a) (tb:=tb) h0 h hf (p:=8) (by omega)
   have t1:sOk (0,f,8,0):=⟨hf,.inl ⟨rfl,by show 8<10;omega,rfl⟩⟩
   have d1:¬ dS (0,f,8,0):=by rintro (x | x | x)<;>simp at x
   by_cases he:e=0
   ·rcases hR.o with ⟨_,hb0,hbv,_⟩ | x
    ·obtain⟨b2,e2,q2,E2,V2,β2,hE,hF2,hR2⟩:=zD (g:=g) (o:=o) (a:=a) (tb:=tb) h0 hF so1 (by simp) (by rw[show dW (1,f,n - 8,0)=(0,f,8,0) from rfl,hbv];exact hb0)
     rw[show dW (1,f,n - 8,0)=(0,f,8,0) from rfl,hbv,show sIx (1,f,n - 8,0)=n - 8 from rfl] at hE
     refine⟨b2,e2,q2,E2,V2,X1,β2,fun rows ht ha v fg tg og jI hsub rt ro hwf hfg hv=>?_,hF2,hR.then (hR2.ak2 so1) t1 so1 d1 so2⟩
     have hV1:=hV jI fg tg og false (hsub _ ht) (hsub _ ha) rt ro hwf
     have hE1:=hE jI fg tg og q (hsub _ ht) (hsub _ ha) rt ro hwf
     rw[show ((n - 8:Nat):Int)=(n:Int) - 8 by omega] at hE1
     exact agl (a:=a) (bk:=35) (at0:=fAt f) (s0:=8) hv (hsub _ ht) h0 hwf hfg p1 p2 p3 hfit h.e35 hi hX (by omega) hS hV1 hE1 ⟨he,hb0⟩
    ·omega
   ·refine⟨0,e,q,E1,V1,X1,β1,fun rows ht ha v fg tg og jI hsub rt ro hwf hfg hv=>?_,hF,hR.stop he t1 so1 d1 so2⟩
    have hV1:=hV jI fg tg og false (hsub _ ht) (hsub _ ha) rt ro hwf
    exact qj (a:=a) (bk:=35) (at0:=fAt f) (s0:=8) hv (hsub _ ht) h0 hwf hfg p1 p2 p3 hfit h.e35 hi hX (by omega) hS hV1 he
  ·have es:sOf f n=(3,f,(n - 40) / 32,(n - 40)%32):=by unfold sOf;rw[if_neg h8,if_neg h40]
   rw[es] at so1 so2 ⊢
   have hS:∀ v,Calls Tryz.prog 102 #[Pv aP,.int .i64 (n:Int)] v fun r w'=>(∃ k,r=.returned (.tuple #[.slice (some ⟨k,0,none⟩) 3 3,.int .i64 0])/\v.heap.size<=k/\w'.heap[k]?=some (.cells #[.int .i64 ((9:Nat):Int),.int .i64 (((n:Int) - 8 - 32) / 32),.int .i64 (((n:Int) - 8 - 32)%32)] 3))/\Below v.heap.size v w':=fun v=>nK aP (n:Int) 32 v aPG.chk hneg hm ai8 (by omega) (by omega)
   obtain⟨b,e,q,E1,V1,X1,β1,hV,hF,hR⟩:=xw (g:=g) (o:=o) (a:=a) (tb:=tb) h0 h hf (p:=9) (by omega)
   have t1:sOk (0,f,9,0):=⟨hf,.inl ⟨rfl,by show 9<10;omega,rfl⟩⟩
   have d1:¬ dS (0,f,9,0):=by rintro (x | x | x)<;>simp at x
   have t2:sOk (2,f,(n - 40) / 32,0):=⟨hf,.inr (.inr (.inl ⟨rfl,by show (n - 40) / 32<32;omega,rfl⟩))⟩
   have d2:¬ dS (2,f,(n - 40) / 32,0):=by rintro (x | x | x)<;>simp at x
   by_cases he:e=0
   ·rcases hR.o with ⟨_,hb0,hbv,_⟩ | x
    ·obtain⟨b2,e2,q2,E2,V2,β2,hE,hF2,hR2⟩:=zD (g:=g) (o:=o) (a:=a) (tb:=tb) h0 hF t2 (by simp) (by rw[show dW (2,f,(n - 40) / 32,0)=(0,f,9,0) from rfl,hbv];exact hb0)
     rw[show dW (2,f,(n - 40) / 32,0)=(0,f,9,0) from rfl,hbv,show sIx (2,f,(n - 40) / 32,0)=(n - 40) / 32 from rfl] at hE
     by_cases he2:e2=0
     ·rcases hR2.o with ⟨_,hb2,alP,_⟩ | x
      ·obtain⟨b3,e3,q3,E3,V3,β3,hE3,hF3,hR3⟩:=zD (g:=g) (o:=o) (a:=a) (tb:=tb) h0 hF2 so1 (by simp) (by rw[show dW (3,f,(n - 40) / 32,(n - 40)%32)=(2,f,(n - 40) / 32,0) from rfl,alP];exact hb2)
       rw[show dW (3,f,(n - 40) / 32,(n - 40)%32)=(2,f,(n - 40) / 32,0) from rfl,alP,show sIx (3,f,(n - 40) / 32,(n - 40)%32)=(n - 40)%32 from rfl] at hE3
       refine⟨b3,e3,q3,E3,V3,X1,β3,fun rows ht ha v fg tg og jI hsub rt ro hwf hfg hv=>?_,hF3,hR.then (hR2.then (hR3.ak2 so1) t2 so1 d2 so2) t1 so1 d1 so2⟩
       have hV1:=hV jI fg tg og false (hsub _ ht) (hsub _ ha) rt ro hwf
       have hE1:=hE jI fg tg og q (hsub _ ht) (hsub _ ha) rt ro hwf
       have hE2:=hE3 jI fg tg og q2 (hsub _ ht) (hsub _ ha) rt ro hwf
       rw[show (((n - 40) / 32:Nat):Int)=((n:Int) - 8 - 32) / 32 by omega] at hE1
       rw[show (((n - 40)%32:Nat):Int)=((n:Int) - 8 - 32)%32 by omega] at hE2
       exact abG (a:=a) (bk:=35) (at0:=fAt f) (s0:=9) hv (hsub _ ht) h0 hwf hfg p1 p2 p3 hfit h.e35 hi hX (by omega) hS hV1 hE1 hE2 ⟨he,hb0⟩ ⟨he2,hb2⟩
      ·omega
     ·refine⟨0,e2,q2,E2,V2,X1,β2,fun rows ht ha v fg tg og jI hsub rt ro hwf hfg hv=>?_,hF2,hR.then (hR2.stop he2 t2 so1 d2 so2) t1 so1 d1 so2⟩
      have hV1:=hV jI fg tg og false (hsub _ ht) (hsub _ ha) rt ro hwf
      have hE1:=hE jI fg tg og q (hsub _ ht) (hsub _ ha) rt ro hwf
      rw[show (((n - 40) / 32:Nat):Int)=((n:Int) - 8 - 32) / 32 by omega] at hE1
      exact mG (a:=a) (bk:=35) (at0:=fAt f) (s0:=9) hv (hsub _ ht) h0 hwf hfg p1 p2 p3 hfit h.e35 hi hX (by omega) hS hV1 hE1 ⟨he,hb0⟩ he2
    ·omega
   ·refine⟨0,e,q,E1,V1,X1,β1,fun rows ht ha v fg tg og jI hsub rt ro hwf hfg hv=>?_,hF,hR.stop he t1 so1 d1 so2⟩
    have hV1:=hV jI fg tg og false (hsub _ ht) (hsub _ ha) rt ro hwf
    exact mJ (a:=a) (bk:=35) (at0:=fAt f) (s0:=9) hv (hsub _ ht) h0 hwf hfg p1 p2 p3 hfit h.e35 hi hX (by omega) hS hV1 he
end Go.Proofs.YtbofhdfhhbgdgaaGreatDoor
