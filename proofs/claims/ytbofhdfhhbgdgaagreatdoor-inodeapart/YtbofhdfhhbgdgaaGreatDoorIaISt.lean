/- A step of Make on the two files: what it leaves is sound again. -/
import Derived.Test.YtbofhdfhhbgdgaaGreatDoorIaJ44
import Derived.Test.YtbofhdfhhbgdgaaGreatDoorIaJ42
namespace Go.Proofs.YtbofhdfhhbgdgaaGreatDoor
set_option maxRecDepth 100000
set_option maxHeartbeats 8000000
open Go.RowKit Go.Shelf
set_option linter.unusedVariables false
theorem oJ {X}(h:bP X){k:Nat}(hk:3<=k/\k<13){n:Int}(hn:0<=n/\n<65536):bP (bU X k n):=by
 obtain⟨h1,h2,h3⟩:=h
 have u:∀ j,bU X k n j=X j\/bU X k n j=n:=fun j=>by
  unfold bU
  split
  ·exact .inr rfl
  ·exact .inl rfl
 have u0:bU X k n 0=X 0:=by unfold bU;rw[if_neg (by omega)]
 have u2:bU X k n 2=X 2:=by unfold bU;rw[if_neg (by omega)]
 unfold adE at h3
 simp only[Bool.and_eq_true] at h3
 obtain⟨⟨f1,f2⟩,f3⟩:=h3
 rw[bT] at f2 f3
 have w:∀ j,(0<=X j/\X j<256 ^ 2)->0<=bU X k n j/\bU X k n j<256 ^ 2:=fun j hj=>by
  rcases u j with e | e
  ·rw[e];exact hj
  ·rw[e];omega
 refine⟨by rw[u0];exact h1,by rw[u0];exact h2,?_⟩
 unfold adE
 simp only[Bool.and_eq_true]
 refine⟨⟨by rw[u2];exact f1,?_⟩,?_⟩
 ·rw[bT]
  intro v hv
  simp only[List.mem_cons,List.not_mem_nil,or_false] at hv
  rcases hv with rfl | rfl | rfl
  ·exact w 1 (f2 _ (by simp))
  ·exact w 11 (f2 _ (by simp))
  ·exact w 12 (f2 _ (by simp))
 ·rw[bT]
  intro v hv
  simp only[iJ,List.mem_cons,List.not_mem_nil,or_false] at hv
  rcases hv with rfl | rfl | rfl | rfl | rfl | rfl | rfl | rfl
  ·exact w 3 (f3 _ (by simp[iJ]))
  ·exact w 4 (f3 _ (by simp[iJ]))
  ·exact w 5 (f3 _ (by simp[iJ]))
  ·exact w 6 (f3 _ (by simp[iJ]))
  ·exact w 7 (f3 _ (by simp[iJ]))
  ·exact w 8 (f3 _ (by simp[iJ]))
  ·exact w 9 (f3 _ (by simp[iJ]))
  ·exact w 10 (f3 _ (by simp[iJ]))
structure Fst (E:Nat->Bool) (V':Nat->List Int) (X:Nat->Nat->Int) (β:Nat->Bool):Prop where
 t:Tree E V' X β
 bo:∀ j,j<512->dD (V' 33) j=β j
 v35:V' 35=tbZ (X 0) (X 1)
 gd:∀ f,f<2->bP (X f)
 e32:E 32=true
 e33:E 33=true
 e35:E 35=true
 le:∀ b,E b=true->(V' b).length=64
 ale:∀ z∈V' 33,0<=z/\z<=255
def aaD (V':Nat->List Int) (nb:Nat):Nat->List Int:=fun j=>if j=33 then setB (V' 33) nb true else V' j
def fAt (f:Nat):Nat:=32*f
def aht (V':Nat->List Int) (nb f:Nat) (Y:Nat->Int):Nat->List Int:=fun q=>if q=35 then put (aaD V' nb 35) (fAt f) (bW 32 (dG Y)) else aaD V' nb q
def ahu (V':Nat->List Int) (nb bn sn:Nat):Nat->List Int:=fun q=>if q=bn then ptZ (aaD V' nb bn) sn (nb:Int) else aaD V' nb q
def vNew (V':Nat->List Int) (nb:Nat):Nat->List Int:=fun q=>if q=nb then List.replicate 64 0 else V' q
def eNew (E:Nat->Bool) (nb:Nat):Nat->Bool:=fun j=>if j=nb then true else E j
def xUp (X:Nat->Nat->Int) (f:Nat) (Y:Nat->Int):Nat->Nat->Int:=fun f'=>if f'=f then Y else X f'
def bUp (β:Nat->Bool) (nb:Nat):Nat->Bool:=fun j=>if j=nb then true else β j
theorem jw {V':Nat->List Int}{nb q:Nat}(h:q≠33):aaD V' nb q=V' q:=by unfold aaD;rw[if_neg h]
theorem ahI {p q:Nat}(hp:p<10)(hq:q<10)(h:pof p=pof q):p=q:=by
 unfold pof at h
 split at h<;>split at h<;>(try split at h)<;>(try split at h)<;>omega
theorem Fst.rest {E V' X β}(h:Fst E V' X β){nb:Nat}(hnb:37<=nb/\nb<90):(∀ j,j<512->dD (aaD V' nb 33) j=bUp β nb j)/\(aaD V' nb 33).length=64/\∀ z∈aaD V' nb 33,0<=z/\z<=255:=by
 have hl:=h.le 33 h.e33
 have e:aaD V' nb 33=setB (V' 33) nb true:=by unfold aaD;rw[if_pos rfl]
 rw[e]
 refine⟨fun j hj=>?_,?_,?_⟩
 ·unfold bUp
  by_cases ej:j=nb
  ·rw[if_pos ej,ej]
   exact jm h.ale nb (by omega) true
  ·rw[if_neg ej,iP h.ale nb j (by omega) ej]
   exact h.bo j hj
 ·rw[iw];exact hl
 ·exact nN h.ale nb true
theorem xA (X:Nat->Nat->Int)(V':Nat->List Int)(f p:Nat):aT X V' (0,f,p,0)=X f (pof p):=rfl
theorem Fst.first {E V' X β}(h:Fst E V' X β){f p nb:Nat}(hf:f<2)(hp:p<10)(h0:X f (pof p)=0)(hnb:37<=nb/\nb<90)(hβ:β nb=false){E2:Nat->Bool}{V2:Nat->List Int}(h2:p<8/\E2=E/\V2=aht V' nb f (bU (X f) (pof p) (nb:Int))\/8<=p/\E2=eNew E nb/\V2=vNew (aht V' nb f (bU (X f) (pof p) (nb:Int))) nb) :
  Fst E2 V2 (xUp X f (bU (X f) (pof p) (nb:Int))) (bUp β nb)/\∀ s,sOk s->aT (xUp X f (bU (X f) (pof p) (nb:Int))) V2 s=if s=(0,f,p,0) then (nb:Int) else aT X V' s:=by
 obtain⟨r1,r2,r3⟩:=h.rest hnb
 have hV:∀ q,q≠nb->V2 q=aht V' nb f (bU (X f) (pof p) (nb:Int)) q:=fun q hq=>by
  rcases h2 with ⟨_,_,e⟩ | ⟨_,_,e⟩
  ·rw[e]
  ·rw[e];unfold vNew;rw[if_neg hq]
 have hE:∀ j,E j=true->E2 j=true:=fun j hj=>by
  rcases h2 with ⟨_,e,_⟩ | ⟨_,e,_⟩
  ·rw[e];exact hj
  ·rw[e];unfold eNew;split
   ·rfl
   ·exact hj
 have far:∀ q,q≠nb->q≠35->q≠33->V2 q=V' q:=fun q a b c=>by
  rw[hV q a];unfold aht;rw[if_neg b,jw c]
 have hval:∀ s,sOk s->aT (xUp X f (bU (X f) (pof p) (nb:Int))) V2 s=if s=(0,f,p,0) then (nb:Int) else aT X V' s:=by
  refine h.t.turn (t:=(0,f,p,0)) ⟨hf,.inl ⟨rfl,hp,rfl⟩⟩ h0 hnb hβ (fun f' p' hf' hp'=>?_) (fun b b1 b2 b3 _=>far b b3 (by omega) (by omega)) (fun x=>absurd rfl x) (fun x=>?_)
  ·rw[xA,xA]
   unfold xUp
   by_cases ef:f'=f
   ·subst ef
    rw[if_pos rfl]
    unfold bU
    by_cases ep:p'=p
    ·subst ep;simp
    ·rw[if_neg (fun e=>ep (ahI hp' hp e)),if_neg (by simp[ep])]
   ·rw[if_neg ef,if_neg (by simp[ef])]
  ·rcases h2 with ⟨e,_,_⟩ | ⟨_,_,e⟩
   ·rcases x with x | ⟨_,x⟩
    ·simp at x
    ·simp only at x;omega
   ·rw[e];unfold vNew;rw[if_pos rfl]
 have v33:V2 33=aaD V' nb 33:=by rw[hV 33 (by omega)];unfold aht;rw[if_neg (by omega)]
 have v35:V2 35=tbZ (xUp X f (bU (X f) (pof p) (nb:Int)) 0) (xUp X f (bU (X f) (pof p) (nb:Int)) 1):=by
  rw[hV 35 (by omega)]
  unfold aht
  rw[if_pos rfl,jw (by omega),h.v35]
  unfold fAt xUp
  have:f=0\/f=1:=by omega
  rcases this with rfl | rfl
  ·rw[if_pos rfl,if_neg (by omega)];exact ah5 _ _ _
  ·rw[if_neg (by omega),if_pos rfl];exact aiZ _ _ _
 refine⟨⟨h.t.step (t:=(0,f,p,0)) ⟨hf,.inl ⟨rfl,hp,rfl⟩⟩ hnb hβ hval (fun j=>rfl) hE (fun x=>?_),fun j hj=>by rw[v33];exact r1 j hj,v35,fun f' hf'=>?_,hE _ h.e32,hE _ h.e33,hE _ h.e35,fun b hb=>?_,fun z hz=>by rw[v33] at hz;exact r3 z hz⟩,hval⟩
 ·rcases h2 with ⟨e,_,_⟩ | ⟨_,e,_⟩
  ·rcases x with x | ⟨_,x⟩
   ·simp at x
   ·simp only at x;omega
  ·rw[e];unfold eNew;rw[if_pos rfl]
 ·unfold xUp
  split
  ·have:3<=pof p/\pof p<13:=by unfold pof;split;omega;split<;>omega
   exact oJ (h.gd f hf) this (by omega)
  ·exact h.gd f' hf'
 ·by_cases eb:b=nb
  ·rcases h2 with ⟨_,e1,e2⟩ | ⟨_,e1,e2⟩
   ·rw[e1] at hb
    by_cases c33:b=33
    ·omega
    ·rw[e2];unfold aht;rw[if_neg (by omega),jw c33];exact h.le b hb
   ·rw[e2];unfold vNew;rw[if_pos eb];simp
  ·have hb':E b=true:=by
    rcases h2 with ⟨_,e1,_⟩ | ⟨_,e1,_⟩
    ·rw[e1] at hb;exact hb
    ·rw[e1] at hb;unfold eNew at hb;rw[if_neg eb] at hb;exact hb
   by_cases c35:b=35
   ·rw[c35,v35];exact ah3 _ _
   ·by_cases c33:b=33
    ·rw[c33,v33];exact r2
    ·rw[far b eb c35 c33];exact h.le b hb'
theorem Fst.enter {E V' X β}(h:Fst E V' X β){s:Slot}{bn nb:Nat}(hs:sOk s)(s0:s.1≠0)(hbn:aT X V' (dW s)=(bn:Int))(bn0:bn≠0)(h0:aT X V' s=0)(hnb:37<=nb/\nb<90)(hβ:β nb=false){E2:Nat->Bool}{V2:Nat->List Int}(h2:s.1≠2/\E2=E/\V2=ahu V' nb bn (sIx s)\/s.1=2/\E2=eNew E nb/\V2=vNew (ahu V' nb bn (sIx s)) nb) :
  Fst E2 V2 X (bUp β nb)/\∀ r,sOk r->aT X V2 r=if r=s then (nb:Int) else aT X V' r:=by
 obtain⟨r1,r2,r3⟩:=h.rest hnb
 obtain⟨po,pn,pk,pi⟩:=gJ hs s0
 obtain⟨g1,g2,g3⟩:=h.t.rng _ po (by rw[hbn];omega)
 have hEb:=h.t.pe s hs po s0 (by rw[hbn];omega)
 rw[hbn] at g1 g2 g3 hEb
 rw[Int.toNat_natCast] at g3 hEb
 have bne:bn≠nb:=fun e=>by rw[e,hβ] at g3;cases g3
 have hV:∀ q,q≠nb->V2 q=ahu V' nb bn (sIx s) q:=fun q hq=>by
  rcases h2 with ⟨_,_,e⟩ | ⟨_,_,e⟩
  ·rw[e]
  ·rw[e];unfold vNew;rw[if_neg hq]
 have hE:∀ j,E j=true->E2 j=true:=fun j hj=>by
  rcases h2 with ⟨_,e,_⟩ | ⟨_,e,_⟩
  ·rw[e];exact hj
  ·rw[e];unfold eNew;split
   ·rfl
   ·exact hj
 have far:∀ q,q≠nb->q≠bn->q≠33->V2 q=V' q:=fun q a b c=>by
  rw[hV q a];unfold ahu;rw[if_neg b,jw c]
 have vbn:V2 bn=ptZ (V' bn) (sIx s) (nb:Int):=by
  rw[hV bn bne];unfold ahu;rw[if_pos rfl,jw (by omega)]
 have hval:∀ r,sOk r->aT X V2 r=if r=s then (nb:Int) else aT X V' r:=by
  refine h.t.turn (t:=s) hs h0 hnb hβ (fun f' p' hf' hp'=>?_) (fun b b1 b2 b3 b4=>far b b3 (fun e=>b4 s0 (by rw[hbn,e])) (by omega)) (fun _=>⟨by rw[hbn];omega,by rw[hbn,Int.toNat_natCast];exact h.le bn hEb,by rw[hbn,Int.toNat_natCast];exact vbn⟩) (fun x=>?_)
  ·rw[xA,xA,if_neg (fun e=>s0 (by rw[← e]))]
  ·rcases h2 with ⟨e,_,_⟩ | ⟨_,_,e⟩
   ·rcases x with x | ⟨x,_⟩
    ·exact absurd x e
    ·exact absurd x s0
   ·rw[e];unfold vNew;rw[if_pos rfl]
 have v33:V2 33=aaD V' nb 33:=by rw[hV 33 (by omega)];unfold ahu;rw[if_neg (by omega)]
 have v35:V2 35=tbZ (X 0) (X 1):=by rw[far 35 (by omega) (by omega) (by omega)];exact h.v35
 refine⟨⟨h.t.step (t:=s) hs hnb hβ hval (fun j=>rfl) hE (fun x=>?_),fun j hj=>by rw[v33];exact r1 j hj,v35,h.gd,hE _ h.e32,hE _ h.e33,hE _ h.e35,fun b hb=>?_,fun z hz=>by rw[v33] at hz;exact r3 z hz⟩,hval⟩
 ·rcases h2 with ⟨e,_,_⟩ | ⟨_,e,_⟩
  ·rcases x with x | ⟨x,_⟩
   ·exact absurd x e
   ·exact absurd x s0
  ·rw[e];unfold eNew;rw[if_pos rfl]
 ·by_cases eb:b=nb
  ·rcases h2 with ⟨_,e1,e2⟩ | ⟨_,e1,e2⟩
   ·rw[e1] at hb
    rw[e2];unfold ahu;rw[if_neg (by rw[eb];exact bne.symm),jw (by omega)];exact h.le b hb
   ·rw[e2];unfold vNew;rw[if_pos eb];simp
  ·have hb':E b=true:=by
    rcases h2 with ⟨_,e1,_⟩ | ⟨_,e1,_⟩
    ·rw[e1] at hb;exact hb
    ·rw[e1] at hb;unfold eNew at hb;rw[if_neg eb] at hb;exact hb
   by_cases c:b=bn
   ·rw[c,vbn]
    unfold ptZ
    rw[gY _ _ _ (by rw[length_digits,h.le bn hEb];omega)]
    exact h.le bn hEb
   ·by_cases c33:b=33
    ·rw[c33,v33];exact r2
    ·rw[far b eb c c33];exact h.le b hb'
end Go.Proofs.YtbofhdfhhbgdgaaGreatDoor
