/- Joined: WWake, OMathA, OMathB, OMathC, AMath, OFew, IHold. -/
import Derived.Test.YtlpgfigbpjpdhaaGreatDoorFnJ32
import Derived.Test.YtlpgfigbpjpdhaaGreatDoorFnCOpenH
import Derived.Test.YtlpgfigbpjpdhaaGreatDoorFnJ34
import Derived.Test.YtlpgfigbpjpdhaaGreatDoorFnJ24
import Derived.Test.YtlpgfigbpjpdhaaGreatDoorFnJ8
import Derived.Test.YtlpgfigbpjpdhaaGreatDoorFnJ28
/- The contract of wakes; devices that live. -/
namespace Go.Proofs.YtlpgfigbpjpdhaaGreatDoor
set_option maxRecDepth 100000
set_option maxHeartbeats 8000000
open Go.RowKit Go.Shelf Go.Maps
set_option linter.unusedVariables false
def Dev.Live (D:Dev):Prop:=D.f=-1/\D.dead=false
def V2 (g1 g2:Nat):List Wr:=[⟨20,some ⟨g1,0,none⟩,64,64,fl 1⟩,⟨21,some ⟨g2,0,none⟩,64,64,fl 2⟩]
end Go.Proofs.YtlpgfigbpjpdhaaGreatDoor
/- A log and a cache on a device that lives. -/
namespace Go.Proofs.YtlpgfigbpjpdhaaGreatDoor
set_option maxRecDepth 100000
set_option maxHeartbeats 8000000
open Go.RowKit Go.Shelf
set_option linter.unusedVariables false
structure Su (G:Geo) (L:Lg) (D:Dev):Prop where
 live:D.Live
 ld:L.dead=false
 n:D.n=G.n
 inv:∃ Ps,Inv G D.rd L Ps
 q:∀ b z,L.Q b=some z->G.ib<=b/\b<G.n
theorem Su.turn {G:Geo}(hG:G.Ok){L:Lg}{D D':Dev}(h:Su G L D)(hl:D'.Live)(hn:D'.n=D.n)(hr:∀ j,j<G.ib->D'.rd j=D.rd j):Su G L D':=by
 obtain⟨Ps,hI⟩:=h.inv
 have:=hG.ibn
 exact⟨hl,h.ld,hn.trans h.n,⟨Ps,hI.congr hG (hr 1 (by omega)) (fun i _=>hr _ (hG.ring _).2.1)⟩,h.q⟩
theorem aix (C:Cac){D:Dev}(h:D.ali)(b:Nat){j:Nat}(hj:j≠b):(C.wbD D b).rd j=D.rd j:=by
 rw[agO C h b j,if_neg hj]
theorem aiC (C:Cac){D:Dev}(h:D.ali){m:Nat}(hp:∀ b l,C.L b=some l->m<=b){j:Nat}(hj:j<m):(C.rmD D).rd j=D.rd j:=by
 unfold Cac.rmD
 by_cases hl:(C.those D.n bT).length<C.cap
 ·rw[if_pos hl]
 ·rw[if_neg hl]
  by_cases h0:C.those D.n aK=[]
  ·rw[if_pos h0]
  ·rw[if_neg h0]
   obtain⟨v1,l,v2,v3⟩:=uX h0
   have:=hp _ _ v2
   exact aix C.next h _ (by omega)
def uy (X:Grp) (C:Cac) (L:Lg) (D:Dev) (b:Nat):List Int:=match X.Q b with | some z=>z | none=>match L.Q b with | some z=>z | none=>C.val D b
structure Gs (G:Geo) (E:Nat->Bool) (X:Grp) (C:Cac) (L:Lg) (D:Dev):Prop where
 su:Su G L D
 cl:C.cln D
 hm:cnt (C.wants bT) D.n<=C.cap
 c1:1<=C.cap
 pn:∀ b l,C.L b=some l->l.p=0/\G.ib<=b
 xq:∀ b z,X.Q b=some z->G.ib<=b/\E b=true
 lq:∀ b z,L.Q b=some z->E b=true
 ne:G.uses (bD G X.Q).length<=G.lg
theorem Gs.ali {G E X C L D}(h:Gs G E X C L D):D.ali:=h.su.live
theorem Gs.room {G E X C L D}(h:Gs G E X C L D)(b:Nat):C.L b≠none\/cnt (C.wants bT) D.n<C.cap\/C.those D.n aK≠[]:=by
 by_cases hl:cnt (C.wants bT) D.n<C.cap
 ·exact .inr (.inl hl)
 ·refine .inr (.inr (fun e=>?_))
  have h1:=h.hm
  have h2:=h.c1
  have h3:=(sV C D.n aK).1 e
  have h4:cnt (C.wants bT) D.n<=cnt (C.wants aK) D.n:=cnt_mono (fun j hj hw=>by
   unfold Cac.wants at hw ⊢
   cases hl:C.L j with
   | none=>rw[hl] at hw;cases hw
   | some l =>
    have:=(h.pn j l hl).1
    simp[aK,this])
  omega
theorem Gs.read {G:Geo}(hG:G.Ok){E:Nat->Bool}{X:Grp}{C:Cac}{L:Lg}{D:Dev}(h:Gs G E X C L D){b:Nat}(hb:G.ib<=b)(hb2:b<G.n) :
  grE X C L D b=0/\grZ X C L D b=uy X C L D b/\Gs G E X (grC X C L D b) L (grD X C L D b)/\∀ j,j<G.n->uy X (grC X C L D b) L (grD X C L D b) j=uy X C L D j:=by
 unfold grE grZ grC grD
 cases hx:X.Q b with
 | some z=>exact⟨rfl,by simp[uy,hx],h,fun _ _=>rfl⟩
 | none =>
  cases hl:L.Q b with
  | some z=>exact⟨rfl,by simp[uy,hx,hl],h,fun _ _=>rfl⟩
  | none =>
   simp only
   have hn:=h.su.n
   obtain⟨g1,g2,g3,g4,g5,g6,g7,g8,g9,g10⟩:=afL C h.ali h.cl (b:=b) (by omega) h.hm (h.room b)
   have am2:∀ j,j<G.ib->(C.gtD D b).rd j=D.rd j:=fun j hj=>by
    unfold Cac.gtD
    cases C.L b with
    | some l=>rfl
    | none=>exact aiC C h.ali (fun b l e=>(h.pn b l e).2) hj
   refine⟨g1,by simp[uy,hx,hl];exact g6,⟨h.su.turn hG g2 g3.1 am2,g5,by rw[g3.1,g4];exact g10,by rw[g4];exact h.c1,fun j l e=>?_,h.xq,h.lq,h.ne⟩,fun j hj=>?_⟩
   ·rcases g8 j with x | x | ⟨x,l2,x2,x3,_⟩
    ·rw[x] at e;exact h.pn j l e
    ·rw[x.1] at e;cases e
    ·rw[x,x2] at e
     cases e
     exact⟨x3,by omega⟩
   ·unfold uy
    rw[g7 j (by omega)]
theorem jR (N:Nat->Option Nt):∀ (s:List Nat) (Q:Nat->Option (List Int)) (j:Nat),mY N s Q j=if j∈s then some (ntZ N j) else Q j
 | [],Q,j=>by simp[mY]
 | b::s,Q,j=>by
  unfold mY
  rw[jR N s _ j]
  by_cases e1:j∈s
  ·simp[e1]
  ·by_cases e2:j=b
   ·subst e2;simp[e1]
   ·simp[e1,e2]
theorem eG {p:Nat->Bool}{n j:Nat}:j∈aO p n↔j<n/\p j=true:=by simp[aO]
theorem acZ (G:Geo)(N:Nat->Option Nt)(Q:Nat->Option (List Int)):(bD G (mY N (aO (isK N 1) G.n) Q)).length=(bD G Q).length+(aO (isM N Q) G.n).length:=by
 have hp:=agk (fun b=>(mY N (aO (isK N 1) G.n) Q b).isSome) (fun b=>(Q b).isSome) G.n
 have e1:cnt (fun j=>(mY N (aO (isK N 1) G.n) Q j).isSome&&(Q j).isSome) G.n=(bD G Q).length:=by
  refine jA (fun j hj=>?_)
  rw[jR]
  cases hq:Q j with
  | none=>simp
  | some z=>by_cases e:j∈aO (isK N 1) G.n<;>simp[e]
 have e2:cnt (fun j=>(mY N (aO (isK N 1) G.n) Q j).isSome&&!(Q j).isSome) G.n=(aO (isM N Q) G.n).length:=by
  refine jA (fun j hj=>?_)
  rw[jR]
  unfold isM
  cases hq:Q j with
  | some z=>simp
  | none =>
   by_cases e:isK N 1 j=true
   ·have:j∈aO (isK N 1) G.n:=eG.2 ⟨hj,e⟩
    simp[this,e]
   ·have:¬ j∈aO (isK N 1) G.n:=fun h=>e (eG.1 h).2
    simp[this,e]
 have e3:(bD G (mY N (aO (isK N 1) G.n) Q)).length=cnt (fun b=>(mY N (aO (isK N 1) G.n) Q b).isSome) G.n:=rfl
 omega
structure Nf (G:Geo) (E:Nat->Bool) (N:Nat->Option Nt):Prop where
 k:∀ b t,N b=some t->G.ib<=b/\b<G.n/\(t.k=1/\E b=true\/t.k=3/\E b=false)
theorem Geo.jg (G:Geo){a b:Nat}(h:a<=b):G.uses a<=G.uses b:=by
 unfold Geo.uses Geo.parts
 have:(a+G.most - 1) / G.most<=(b+G.most - 1) / G.most:=Nat.div_le_div_right (by omega)
 omega
theorem adQ:∀ (s:List Nat) (F:Nat->Bool) (j:Nat),adR s F j=(F j||decide (j∈s))
 | [],F,j=>by simp[adR]
 | b::s,F,j=>by
  unfold adR
  rw[adQ s _ j]
  by_cases e:j=b
  ·simp[e]
  ·simp[e]
theorem uD:∀ (s:List Nat) (Q:Nat->Option (List Int)) (j:Nat),zF s Q j=if j∈s then none else Q j
 | [],Q,j=>by simp[zF]
 | b::s,Q,j=>by
  unfold zF
  rw[uD s _ j]
  by_cases e1:j∈s
  ·simp[e1]
  ·by_cases e2:j=b
   ·simp[e2]
   ·simp[e1,e2]
theorem adS:∀ (s:List Nat) (C:Cac),(∀ b l,C.L b=some l->l.p=0)->(uF s C).cap=C.cap/\∀ j,(uF s C).L j=if j∈s then none else C.L j
 | [],C,h=>⟨rfl,fun j=>by simp[uF]⟩
 | b::s,C,h=>by
  have e:∀ j,(C.dr b).L j=if j=b then none else C.L j:=fun j=>by
   unfold Cac.dr
   cases hl:C.L b with
   | none =>
    by_cases ej:j=b
    ·simp[ej,hl]
    ·simp[ej]
   | some l =>
    have:=h b l hl
    simp only
    rw[if_neg (by omega)]
    rfl
  have ec:(C.dr b).cap=C.cap:=by
   unfold Cac.dr
   cases hl:C.L b with
   | none=>rfl
   | some l=>simp only;split<;>rfl
  obtain⟨i1,i2⟩:=adS s (C.dr b) (fun c l hl=>by
   rw[e c] at hl
   by_cases ec:c=b
   ·rw[if_pos ec] at hl;cases hl
   ·rw[if_neg ec] at hl;exact h c l hl)
  refine⟨by unfold uF;rw[i1,ec],fun j=>?_⟩
  unfold uF
  rw[i2 j,e j]
  by_cases e1:j∈s
  ·simp[e1]
  ·by_cases e2:j=b
   ·simp[e2]
   ·simp[e1,e2]
theorem Gs.fre {G E X C L D}{N:Nat->Option Nt}(h:Gs G E X C L D)(hN:Nf G E N)(hE:G.uses (aO E G.n).length<=G.lg) :
  ∃ X' C',aeC G X N C L D=(0,X',C',L,D)/\X'.N=none/\X'.o=X.o/\Gs G E X' C' L D/\(∀ j,E j=true->j<G.n->uy X' C' L D j=(match N j with | some t=>t.z | none=>uy X C L D j))/\∀ j,j<G.n->X'.F j=(X.F j||isK N 3 j):=by
 have k2:aO (isK N 2) G.n=[]:=by
  unfold aO
  refine List.filter_eq_nil_iff.2 (fun b _ hb=>?_)
  obtain⟨t,e,k⟩:=jI hb
  have:=(hN.k b t e).2.2
  omega
 have own:∀ j,isK N 1 j=true->E j=true:=fun j hj=>by
  obtain⟨t,e,k⟩:=jI hj
  rcases(hN.k j t e).2.2 with x | x
  ·exact x.2
  ·omega
 have fr:∀ j,isK N 3 j=true->E j=false:=fun j hj=>by
  obtain⟨t,e,k⟩:=jI hj
  rcases(hN.k j t e).2.2 with x | x
  ·omega
  ·exact x.2
 have c1:(aO (isK N 1) G.n).length<=(aO E G.n).length:=cnt_mono (fun j _ hj=>own j hj)
 have c2:(bD G (mY N (aO (isK N 1) G.n) X.Q)).length<=(aO E G.n).length:=by
  refine cnt_mono (p:=fun b=>(mY N (aO (isK N 1) G.n) X.Q b).isSome) (fun j _ hj=>?_)
  rw[jR] at hj
  by_cases hm:j∈aO (isK N 1) G.n
  ·exact own j (eG.1 hm).2
  ·rw[if_neg hm] at hj
   obtain⟨z,hz⟩:=Option.isSome_iff_exists.1 hj
   exact(h.xq j z hz).2
 have c3:=c2
 rw[acZ] at c3
 have u1:=G.jg c1
 have u2:=G.jg c2
 have u3:=G.jg c3
 have en:Go.Proofs.YtlpgfigbpjpdhaaGreatDoor.enR G X N C L D=(0,X,C,L,D):=by
  unfold Go.Proofs.YtlpgfigbpjpdhaaGreatDoor.enR
  rw[if_neg (by omega)]
 unfold aeC
 rw[if_neg (by omega),en,if_neg (by simp)]
 unfold enT
 simp only
 rw[k2]
 obtain⟨f1,f2⟩:=adS (aO (isK N 3) G.n) C (fun b l e=>(h.pn b l e).1)
 rw[if_neg (by simp[ahk])]
 refine⟨_,_,rfl,rfl,rfl,⟨h.su,fun b l hb e d=>?_,?_,?_,fun b l e=>?_,fun b z e=>?_,h.lq,?_⟩,fun j hj hj2=>?_,fun j hj=>?_⟩
 ·have e:(uF (aO (isK N 3) G.n) C).L b=some l:=e
  rw[f2 b] at e
  by_cases hm:b∈aO (isK N 3) G.n
  ·rw[if_pos hm] at e;cases e
  ·rw[if_neg hm] at e;exact h.cl b l hb e d
 ·show cnt ((uF (aO (isK N 3) G.n) C).wants bT) D.n<=(uF (aO (isK N 3) G.n) C).cap
  rw[f1]
  refine Nat.le_trans (cnt_mono (fun j _ hj=>?_)) h.hm
  unfold Cac.wants at hj ⊢
  rw[f2 j] at hj
  by_cases hm:j∈aO (isK N 3) G.n
  ·rw[if_pos hm] at hj;cases hj
  ·rw[if_neg hm] at hj;exact hj
 ·show 1<=(uF (aO (isK N 3) G.n) C).cap
  rw[f1]
  exact h.c1
 ·have e:(uF (aO (isK N 3) G.n) C).L b=some l:=e
  rw[f2 b] at e
  by_cases hm:b∈aO (isK N 3) G.n
  ·rw[if_pos hm] at e;cases e
  ·rw[if_neg hm] at e;exact h.pn b l e
 ·have e:zF (aO (isK N 3) G.n) (mY N (aO (isK N 1) G.n) X.Q) b=some z:=e
  rw[uD] at e
  by_cases hm:b∈aO (isK N 3) G.n
  ·rw[if_pos hm] at e;cases e
  ·rw[if_neg hm,jR] at e
   by_cases h1:b∈aO (isK N 1) G.n
   ·obtain⟨t,et,kt⟩:=jI (eG.1 h1).2
    exact⟨(hN.k b t et).1,own b (eG.1 h1).2⟩
   ·rw[if_neg h1] at e
    exact h.xq b z e
 ·show G.uses (bD G (zF (aO (isK N 3) G.n) (mY N (aO (isK N 1) G.n) X.Q))).length<=G.lg
  have c4:(bD G (zF (aO (isK N 3) G.n) (mY N (aO (isK N 1) G.n) X.Q))).length<=(bD G (mY N (aO (isK N 1) G.n) X.Q)).length:=by
   refine cnt_mono (p:=fun b=>(zF (aO (isK N 3) G.n) (mY N (aO (isK N 1) G.n) X.Q) b).isSome) (q:=fun b=>(mY N (aO (isK N 1) G.n) X.Q b).isSome) (fun j _ hj=>?_)
   rw[uD] at hj
   by_cases hm:j∈aO (isK N 3) G.n
   ·rw[if_pos hm] at hj;cases hj
   ·rw[if_neg hm] at hj;exact hj
  have:=G.jg c4
  omega
 ·have n3:¬ j∈aO (isK N 3) G.n:=fun hm=>by
   have:=fr j (eG.1 hm).2
   rw[hj] at this
   cases this
  show uy ⟨zF (aO (isK N 3) G.n) (mY N (aO (isK N 1) G.n) X.Q),_,none,_⟩ (uF (aO (isK N 3) G.n) C) L D j=_
  unfold uy
  simp only
  rw[uD,if_neg n3,jR]
  have ev:(uF (aO (isK N 3) G.n) C).val D j=C.val D j:=by
   unfold Cac.val
   rw[f2 j,if_neg n3]
  rw[ev]
  cases hN':N j with
  | none =>
   have m1:¬ j∈aO (isK N 1) G.n:=fun hm=>by
    have:=(eG.1 hm).2
    unfold isK at this
    rw[hN'] at this
    cases this
   rw[if_neg m1]
  | some t =>
   have hz:ntZ N j=t.z:=by unfold ntZ;rw[hN']
   have m1:j∈aO (isK N 1) G.n:=eG.2 ⟨hj2,by
    unfold isK
    rw[hN']
    rcases(hN.k j t hN').2.2 with x | x
    ·simp[x.1]
    ·rw[hj] at x;cases x.2⟩
   rw[if_pos m1,hz]
 ·show adR (aO (isK N 3) G.n) X.F j=_
  rw[adQ]
  congr 1
  by_cases hk:isK N 3 j=true
  ·rw[hk];simp[eG,hj,hk]
  ·simp at hk
   rw[hk]
   simp[eG,hk]
end Go.Proofs.YtlpgfigbpjpdhaaGreatDoor
/- End of an operation whose blocks, and the group's, fit into the log together. -/
namespace Go.Proofs.YtlpgfigbpjpdhaaGreatDoor
set_option maxRecDepth 100000
set_option maxHeartbeats 8000000
open Go.RowKit Go.Shelf Go.Maps
set_option linter.unusedVariables false
theorem Gs.few {G E X C L D}{N:Nat->Option Nt}(h:Gs G E X C L D)(hN:Nf G E N)(hE:G.uses (aO E G.n).length<=G.lg):¬ G.lg<G.uses ((bD G X.Q).length+(aO (isM N X.Q) G.n).length):=by
 have own:∀ j,isK N 1 j=true->E j=true:=fun j hj=>by
  obtain⟨t,e,k⟩:=jI hj
  rcases(hN.k j t e).2.2 with x | x
  ·exact x.2
  ·omega
 have c2:(bD G (mY N (aO (isK N 1) G.n) X.Q)).length<=(aO E G.n).length:=by
  refine cnt_mono (p:=fun b=>(mY N (aO (isK N 1) G.n) X.Q b).isSome) (fun j _ hj=>?_)
  rw[jR] at hj
  by_cases hm:j∈aO (isK N 1) G.n
  ·exact own j (eG.1 hm).2
  ·rw[if_neg hm] at hj
   obtain⟨z,hz⟩:=Option.isSome_iff_exists.1 hj
   exact(h.xq j z hz).2
 rw[acZ] at c2
 have:=G.jg c2
 omega
theorem aft {u S g cg lg dg P G X C L D}(h:Gv u S g cg lg dg P G X C L D){N:Nat->Option Nt}(eN:X.N=some N)(few:¬ G.lg<G.uses ((bD G X.Q).length+(aO (isM N X.Q) G.n).length)) :
  Calls Tryz.prog 30 #[.pointer (some ⟨X.o,0,none⟩)] u fun e w'=>e=.returned (.int .i64 (aeC G X N C L D).1)/\Hid (∃ S',Gv w' S' g cg lg dg P G (aeC G X N C L D).2.1 (aeC G X N C L D).2.2.1 (aeC G X N C L D).2.2.2.1 (aeC G X N C L D).2.2.2.2/\Nx S u S' w'/\Over w' S' g X.o):=by
 obtain⟨R,hR⟩:∃ R,R=aeC G X N C L D:=⟨_,rfl⟩
 rw[← hR]
 have K0:Hid (Calls Tryz.prog 51 #[.pointer (some ⟨X.o,0,none⟩)] u fun e w'=>e=.returned (.int .i64 0)/\u=w'):=by
  obtain⟨_,_,hg,_⟩:=h.gr
  exact bZ hg eN
 obtain⟨o0,KS⟩:=agh h eN
 have hn:G.n<=4096:=by obtain⟨_,_,hg,_⟩:=h.gr;exact hg.pg.ok.n2
 have hl1:=nU (isK N 1) G.n
 have hl2:=nU (isK N 2) G.n
 have hl3:=nU (isK N 3) G.n
 have hlm:=nU (isM N X.Q) G.n
 have hlp:=kL G X.Q
 have hls:(bD G X.Q).length+(aO (isM N X.Q) G.n).length<=4096:=by
  have:=aa4 (fun b=>(X.Q b).isSome) (isM N X.Q) (List.range G.n) (fun x hx=>by
   obtain⟨h1,h2⟩:=hx
   unfold isM at h2
   cases e:X.Q x<;>simp[e] at h1 h2)
  rw[List.length_range] at this
  unfold bD aO
  omega
 have KL:Hid (∀ a6 w,(∃ S',EnV u S g cg lg dg P G X C L D u.heap.size a6 (nN (isK N 1) G.n) w S')->G.lg<G.uses (aO (isK N 1) G.n).length->EnS u S g cg lg dg P G X.o R 5 w):=fun a6 w ⟨S',hV⟩ hlt=>by
  have:R=(5,{ X with N:=none },C,L,D):=by rw[hR];unfold aeC;rw[if_pos hlt]
  rw[this]
  exact⟨rfl,X,S',rfl,⟨N,eN⟩,rfl,hV.gv,hV.nx⟩
 have KA:Hid (∀ a6 w,(∃ S',EnV u S g cg lg dg P G X C L D u.heap.size a6 (nN (isK N 1) G.n) w S')->∃ lb,Hid (∀ v,Below w.heap.size w v->Hid (Below w.heap.size w v)/\v.cell? ⟨u.heap.size,0,none⟩=some (.pointer (some ⟨g,0,none⟩))/\v.cell? ⟨g,6,none⟩=some (.int .i64 (G.lg:Int))/\v.cell? ⟨g,16,none⟩=some (.map (some lb))/\∀ ty,(Builtin.len_ #[119] ty #[.map (some lb)]).run Tryz.prog v=.ok (.int .i64 ((bD G X.Q).length:Int)) v) /\
   Hid (∀ (n:Nat) v,n<=4096->Below w.heap.size w v->Calls Tryz.prog 71 #[.pointer (some ⟨g,0,none⟩),.int .i64 (n:Int)] v fun e w'=>e=.returned (.int .i64 (G.uses n:Int))/\Hid (Below w.heap.size w w'))/\Hid (∀ v,Below w.heap.size w v->∃ S',EnV u S g cg lg dg P G X C L D u.heap.size a6 (nN (isK N 1) G.n) v S')):=fun a6 w ⟨S',hV⟩=>by
  obtain⟨lb,k1,k2⟩:=hV.ask
  exact⟨lb,k1,k2,fun v hv=>⟨S',hV.below hv⟩⟩
 have KM0:Hid (∀ a6 w,(∃ S',EnV u S g cg lg dg P G X C L D u.heap.size a6 (nN (isK N 1) G.n) w S')->¬ G.lg<G.uses (aO (isK N 1) G.n).length->¬ G.lg<G.uses ((bD G X.Q).length+(aO (isM N X.Q) G.n).length)->EnM u S g cg lg dg P G X.o N R u.heap.size a6 w):=fun a6 w ⟨S',hV⟩ h1 h2=>by
  refine⟨X,C,L,D,S',hV,eN,rfl,?_⟩
  have e1:enR G X N C L D=(0,X,C,L,D):=by unfold enR;rw[if_neg h2]
  rw[hR]
  unfold aeC
  rw[if_neg h1,e1,if_neg (by simp)]
 have KM1:Hid (∀ a6 w,(∃ S',EnV u S g cg lg dg P G X C L D u.heap.size a6 (nN (isK N 1) G.n) w S')->¬ G.lg<G.uses (aO (isK N 1) G.n).length->G.lg<G.uses ((bD G X.Q).length+(aO (isM N X.Q) G.n).length)->w.cell? ⟨u.heap.size,0,none⟩=some (.pointer (some ⟨g,0,none⟩))/\Hid (Calls Tryz.prog 72 #[.pointer (some ⟨g,0,none⟩)] w fun e w'=>∃ e2,e=.returned (.int .i64 e2)/\(e2=0->Hid (EnM u S g cg lg dg P G X.o N R u.heap.size a6 w'))/\(e2≠0->Hid (EnS u S g cg lg dg P G X.o R e2 w')))):=fun a6 w ⟨S',hV⟩ h1 h2=>absurd h2 few
 have KD:Hid (∀ a6 w,EnM u S g cg lg dg P G X.o N R u.heap.size a6 w->_):=fun a6 w hM=>hM.data
 have KD1:Hid (∀ a6 a3 k w,EnD u S g cg lg dg P G X.o N R u.heap.size a6 a3 k w->k<(aO (isK N 2) G.n).length->_):=fun a6 a3 k w hD hk=>hD.step hk
 have KD2:Hid (∀ a6 a3 w,EnD u S g cg lg dg P G X.o N R u.heap.size a6 a3 (aO (isK N 2) G.n).length w->EnO u S g cg lg dg P G X.o N R u.heap.size a6 0 w):=fun a6 a3 w hD=>hD.done
 have KO1:Hid (∀ a6 k w,EnO u S g cg lg dg P G X.o N R u.heap.size a6 k w->k<(aO (isK N 1) G.n).length->_):=fun a6 k w hD hk=>hD.step hk
 have KO2:Hid (∀ a6 w,EnO u S g cg lg dg P G X.o N R u.heap.size a6 (aO (isK N 1) G.n).length w->_):=fun a6 w hD=>hD.done
 have KG1:Hid (∀ a6 a4 k w,EnG u S g cg lg dg P G X.o N R u.heap.size a6 a4 k w->k<(aO (isK N 3) G.n).length->_):=fun a6 a4 k w hD hk=>hD.step hk
 have KG2:Hid (∀ a6 a4 w,EnG u S g cg lg dg P G X.o N R u.heap.size a6 a4 (aO (isK N 3) G.n).length w->EnS u S g cg lg dg P G X.o R 0 w):=fun a6 a4 w hD=>hD.done
 have KE:Hid (∀ eE w',EnS u S g cg lg dg P G X.o R eE w'->eE=R.1/\Hid (Calls Tryz.prog 52 #[.pointer (some ⟨X.o,0,none⟩)] w' fun e w2=>e=.returned (.tuple #[])/\Hid (∃ S',Gv w2 S' g cg lg dg P G R.2.1 R.2.2.1 R.2.2.2.1 R.2.2.2.2/\Nx S u S' w2/\Over w2 S' g X.o))):=fun eE w' ⟨e1,X',S',ho,⟨N',hN'⟩,hX,gv,nx⟩=>by
  refine⟨e1,?_⟩
  rw[← ho]
  refine(close_any gv hN').mono ?_
  rintro e w2 ⟨rfl,Y⟩
  obtain⟨S2,g2,n2,o2⟩:=ah Y
  rw[hX]
  exact⟨rfl,S2,g2,nx.trans n2,o2⟩
 have hfd:=afU
 have hmf:∀ (fn:Fn) (first cap:Array Value) (w:World),(Instr.makeFunc fn first cap).run Tryz.prog w=.ok (.func fn first cap) w:=fun _ _ _ _=>rfl
 clear h hR eN few
 generalize X.o=o at *
 generalize hn1:(aO (isK N 1) G.n).length=n1 at *
 generalize hn2:(aO (isK N 2) G.n).length=n2 at *
 generalize hn3:(aO (isK N 3) G.n).length=n3 at *
 generalize hnm:(aO (isM N X.Q) G.n).length=nm at *
 generalize hnp:(bD G X.Q).length=np at *
 clear hn1 hn2 hn3 hnm hnp
 go_enter Tryz.func30,Tryz.ntmps30
 go_wp2
 refine uV 0 (EnJ u S g cg lg dg P G o R) (fun _ _=>0) rfl ?_ ?_
 ·intro a' w' hJ
  clear K0 KS KL KA KM0 KM1 KD KD1 KD2 KO1 KO2 KG1 KG2 o0 hmf
  obtain⟨eE,hS,f,rfl⟩:=hJ
  obtain⟨e1,KC⟩:=ah KE _ _ hS
  have E1:=hide e1
  clear KE hS e1
  go_wp2_with fail
  go_at_call 52
  refine(ah KC).mono ?_
  rintro e w2 ⟨rfl,Z⟩
  clear KC
  go_wp2_with fail
  simp only[Exit.jump]
  go_ret
  exact⟨by rw[← ah E1];rfl,Z⟩
 ·intro N0
  have N1:=hide N0
  clear N0 KE
  go_wp2_with fail
  go_at_call 51
  refine(ah K0).mono ?_
  rintro e w' ⟨rfl,rfl⟩
  clear K0
  go_wp2_with fail
  go_at_call 68
  refine(ah KS).mono ?_
  rintro e w2 ⟨a6,c6,rfl,KS2⟩
  clear KS
  go_wp2_with fail
  go_at_call 68
  refine(ah KS2).mono ?_
  rintro e w3 ⟨a7,c7,rfl,Y3⟩
  obtain⟨lb,B0,KU,KG⟩:=ah KA a6 w3 (ah Y3)
  have KL1:Hid (∀ v,Below w3.heap.size w3 v->G.lg<G.uses n1->EnS u S g cg lg dg P G o R 5 v):=fun v hv hlt=>ah KL a6 v (ah KG v hv) hlt
  have KN0:Hid (∀ v,Below w3.heap.size w3 v->¬ G.lg<G.uses n1->¬ G.lg<G.uses (np+nm)->EnM u S g cg lg dg P G o N R u.heap.size a6 v):=fun v hv h1 h2=>ah KM0 a6 v (ah KG v hv) h1 h2
  have KN1:Hid (∀ v,Below w3.heap.size w3 v->¬ G.lg<G.uses n1->G.lg<G.uses (np+nm)->_):=fun v hv h1 h2=>ah KM1 a6 v (ah KG v hv) h1 h2
  have KU1:Hid (∀ v,Below w3.heap.size w3 v->Calls Tryz.prog 71 #[.pointer (some ⟨g,0,none⟩),.int .i64 (n1:Int)] v fun e w'=>e=.returned (.int .i64 (G.uses n1:Int))/\Hid (Below w3.heap.size w3 w')):=fun v hv=>ah KU n1 v (by omega) hv
  have KU2:Hid (∀ v,Below w3.heap.size w3 v->Calls Tryz.prog 71 #[.pointer (some ⟨g,0,none⟩),.int .i64 ((np:Int)+(nm:Int))] v fun e w'=>e=.returned (.int .i64 (G.uses (np+nm):Int))/\Hid (Below w3.heap.size w3 w')):=fun v hv=>by
   have:=ah KU (np+nm) v hls hv
   rw[Int.natCast_add] at this
   exact this
  have hw:IntKind.i64.wrap ((np:Int)+(nm:Int))=(np:Int)+(nm:Int):=by rw[IntKind.wrap_i64];omega
  have BB:Hid (∀ v,Below w3.heap.size w3 v->Below w3.heap.size w3 v.drew):=fun v hv=>hv.drew
  have B1:Hid (Below w3.heap.size w3 w3.drew):=(Below.refl _ w3).drew
  have HN1:Hid (n1<=4096):=by show n1<=4096;omega
  have HN2:Hid (n2<=4096):=by show n2<=4096;omega
  have HN3:Hid (n3<=4096):=by show n3<=4096;omega
  clear KS2 Y3 KL KA KM0 KM1 KU KG o0 hl1 hl2 hl3 hlm hlp hls hn hmf
  generalize u.heap.size=bx at *
  generalize G.uses n1=s1 at *
  generalize G.uses (np+nm)=s2 at *
  generalize G.lg=glg at *
  go_upto_region 7 with fail
  go_cut [37] (fun c wx=>c=.bool (decide (glg<s1))/\Hid (Below w3.heap.size w3 wx))
  case first=>as_aux_lemma =>
   clear KL1 KN0 KN1 KU2 KD KD1 KD2 KO1 KO2 KG1 KG2 N1 BB hw
   go_region_held3 (fun v=>Hid (Below w3.heap.size w3 v)/\v.cell? ⟨bx,0,none⟩=some (.pointer (some ⟨g,0,none⟩))/\v.cell? ⟨g,6,none⟩=some (.int .i64 (glg:Int))/\v.cell? ⟨g,16,none⟩=some (.map (some lb))/\∀ ty,(Builtin.len_ #[119] ty #[.map (some lb)]).run Tryz.prog v=.ok (.int .i64 (np:Int)) v)
    (with_reducible (first | exact ah B0 _ (ah B1) | exact ah B0 _ (ah JU)))
    ((go_at_call 71;refine(ah KU1 _ (ah (‹Hid (Below w3.heap.size w3 _)/\_›).1)).mono ?_;rintro e w4 ⟨rfl,JU⟩))
   all_goals
    go_wp2_with fail
    go_meet
    exact⟨rfl,JU⟩
  case rest =>
   obtain⟨rfl,B2⟩:=hcut
   rename_i wx
   clear KU1 B1
   by_cases h1:glg<s1
   ·have d1:decide (glg<s1)=true:=by simpa using h1
    rw[d1]
    have Z:=hide (ah KL1 _ (ah B2) h1)
    clear KL1 KN0 KN1 KU2 KD KD1 KD2 KO1 KO2 KG1 KG2 BB B0 B2 h1 d1
    go_wp2_with fail
    go_step3
    exact⟨rfl,EnJ.mk (ah Z)⟩
   ·have d1:decide (glg<s1)=false:=by simpa using h1
    rw[d1]
    have H1:=hide h1
    have B3:=hide (ah BB _ (ah B2))
    clear KL1 BB d1 h1
    go_upto_region 9 with fail
    go_cut [53] (fun c wy=>c=.bool (decide (glg<s2))/\Hid (Below w3.heap.size w3 wy))
    case first=>as_aux_lemma =>
     clear KN0 KN1 KD KD1 KD2 KO1 KO2 KG1 KG2 N1 H1 B2
     go_region_held3 (fun v=>Hid (Below w3.heap.size w3 v)/\v.cell? ⟨bx,0,none⟩=some (.pointer (some ⟨g,0,none⟩))/\v.cell? ⟨g,6,none⟩=some (.int .i64 (glg:Int))/\v.cell? ⟨g,16,none⟩=some (.map (some lb))/\∀ ty,(Builtin.len_ #[119] ty #[.map (some lb)]).run Tryz.prog v=.ok (.int .i64 (np:Int)) v)
      (with_reducible (first | exact ah B0 _ (ah B3) | exact ah B0 _ (ah JU)))
      ((go_at_call 71;refine(ah KU2 _ (ah (‹Hid (Below w3.heap.size w3 _)/\_›).1)).mono ?_;rintro e w4 ⟨rfl,JU⟩))
     all_goals
      go_wp2_with fail
      go_meet
      exact⟨rfl,JU⟩
    case rest =>
     obtain⟨rfl,B4⟩:=hcut
     rename_i wy
     clear KU2 B0 B2 B3 hw
     go_upto_if 53 with fail
     go_cut [5] (fun c wz=>c=.int .i64 0/\Hid (EnM u S g cg lg dg P G o N R bx a6 wz))
     case first =>
      clear KD KD1 KD2 KO1 KO2 KG1 KG2
      by_cases h2:glg<s2
      ·have d2:decide (glg<s2)=true:=by simpa using h2
       rw[d2]
       obtain⟨x0,KC⟩:=ah KN1 _ (ah B4) (ah H1) h2
       clear KN0 KN1 H1 B4 h2 d2
       go_wp2_with fail
       go_at_call 72
       refine(ah KC).mono ?_
       rintro e w5 ⟨e2,rfl,Z0,Z7⟩
       clear KC x0
       by_cases h3:e2=0
       ·subst h3
        have Z:=Z0 rfl
        clear Z0 Z7 N1
        go_wp2_with fail
        go_meet
        exact⟨rfl,Z⟩
       ·have d3:(e2 != 0)=true:=by simpa using h3
        have Z:=hide (ah (Z7 h3))
        clear Z0 Z7 N1 h3
        go_wp2_with fail
        go_step3
        exact⟨rfl,EnJ.mk (ah Z)⟩
      ·have d2:decide (glg<s2)=false:=by simpa using h2
       rw[d2]
       have Z:=hide (ah KN0 _ (ah B4) (ah H1) h2)
       clear KN0 KN1 H1 B4 h2 d2 N1
       go_wp2_with fail
       go_meet
       exact⟨rfl,ah Z⟩
     case rest =>
      obtain⟨rfl,Y5⟩:=hcut
      rename_i wz
      clear KN0 KN1 H1 B4
      have KD0:=hide (ah KD a6 _ (ah Y5))
      clear KD Y5
      go_wp2_with fail
      go_at_call 68
      refine(ah KD0).mono ?_
      rintro e w6 ⟨a3,c3,rfl,Y6⟩
      clear KD0
      have KP1:Hid (∀ k w,EnD u S g cg lg dg P G o N R bx a6 a3 k w->k<n2->_):=fun k w hD hk=>ah KD1 a6 a3 k w hD hk
      have KP2:Hid (∀ w,EnD u S g cg lg dg P G o N R bx a6 a3 n2 w->EnO u S g cg lg dg P G o N R bx a6 0 w):=fun w hD=>ah KD2 a6 a3 w hD
      clear KD1 KD2
      go_wp2_with fail
      go_loopw [5,61] (fun c i wr=>c=.int .i64 0/\∃ k:Nat,k<=n2/\i=.int .i64 (k:Int)/\Hid (EnD u S g cg lg dg P G o N R bx a6 a3 k wr)) (fun _ i _=>n2 - (intOf i).toNat)
      case atStart=>exact⟨rfl,0,Nat.zero_le _,rfl,Y6⟩
      case round =>
       obtain⟨rfl,k,hk,rfl,hJ⟩:=hrel
       have hn2:=ah HN2
       clear Y6
       by_cases hlt:k<n2
       ·obtain⟨kb,off,b,ea,x1,x2,x3,nb,r1,r2,x4,lk,KP⟩:=ah KP1 k wr (ah hJ) hlt
        clear KP1 KP2 KO1 KO2 KG1 KG2 hJ N1
        subst ea
        generalize (b:Int)=bi at *
        go_upto_region 15 with fail
        go_region_with (go_at_call 74;refine(ah KP).mono ?_;rintro e w7 ⟨e2,rfl,Z0,Z7⟩)
        all_goals
         clear KP x1 x2 x3 x4 lk
         by_cases h3:e2=0
         ·subst h3
          have Z:=Z0 rfl
          clear Z0 Z7
          go_wp2_with fail
          go_roundw
          case rel=>exact⟨rfl,k+1,by omega,by go_num,Z⟩
          case measure=>simp[intOf];omega
         ·have d3:(e2 != 0)=true:=by simpa using h3
          have Z:=hide (ah (Z7 h3))
          clear Z0 Z7 h3
          go_wp2_with fail
          go_step3
          exact⟨rfl,EnJ.mk (ah Z)⟩
       ·have ek:k=n2:=by omega
        rw[ek] at hJ
        have Y7:=hide (ah KP2 wr (ah hJ))
        clear KP1 KP2 hJ hn2 HN2
        go_wp2_with fail
        go_loopw [83] (fun i wr=>∃ k:Nat,k<=n1/\i=.int .i64 (k:Int)/\Hid (EnO u S g cg lg dg P G o N R bx a6 k wr)) (fun i _=>n1 - (intOf i).toNat)
        case atStart=>exact⟨0,Nat.zero_le _,rfl,Y7⟩
        case round =>
         obtain⟨k2,hk2,rfl,hJ⟩:=hrel
         have hn1:=ah HN1
         clear Y7
         by_cases hlt:k2<n1
         ·obtain⟨kb,off,b,ea,x1,x2,lb2,nb,r1,r2,x3,x4,lk,w8,rr,Z⟩:=ah KO1 a6 k2 _ (ah hJ) hlt
          clear KO1 KO2 KG1 KG2 hJ N1
          subst ea
          generalize (b:Int)=bi at *
          go_upto_region 21 with fail
          go_region
          clear x1 x2 x3 x4 lk rr
          go_wp2_with fail
          go_roundw
          case rel=>exact⟨k2+1,by omega,by go_num,Z⟩
          case measure=>simp[intOf];omega
         ·have ek2:k2=n1:=by omega
          rw[ek2] at hJ
          have KO:=hide (ah KO2 a6 _ (ah hJ))
          clear KO1 KO2 hJ hn1 HN1
          go_wp2_with fail
          go_at_call 68
          refine(ah KO).mono ?_
          rintro e w9 ⟨a4,c4,rfl,Y9⟩
          clear KO
          go_wp2_with fail
          go_loopw [103] (fun i wr=>∃ k:Nat,k<=n3/\i=.int .i64 (k:Int)/\Hid (EnG u S g cg lg dg P G o N R bx a6 a4 k wr)) (fun i _=>n3 - (intOf i).toNat)
          case atStart=>exact⟨0,Nat.zero_le _,rfl,Y9⟩
          case round =>
           obtain⟨k3,hk3,rfl,hJ⟩:=hrel
           have hn3:=ah HN3
           clear Y9
           by_cases hlt:k3<n3
           ·obtain⟨kb,off,b,ea,x1,x2,KF⟩:=ah KG1 a6 a4 k3 _ (ah hJ) hlt
            clear KG1 KG2 hJ N1
            subst ea
            generalize (b:Int)=bi at *
            go_wp2_with fail
            go_at_call 76
            refine(ah KF).mono ?_
            rintro e w10 ⟨rfl,Z⟩
            clear KF x1 x2
            go_wp2_with fail
            go_roundw
            case rel=>exact⟨k3+1,by omega,by go_num,Z⟩
            case measure=>simp[intOf];omega
           ·have ek3:k3=n3:=by omega
            rw[ek3] at hJ
            have Z:=hide (ah KG2 a6 a4 _ (ah hJ))
            clear KG1 KG2 hJ
            go_wp2_with fail
            go_step3
            rename_i hK
            refine hK _ _ ?_
            exact ah N1 _ _ (EnJ.mk (ah Z))
structure HL (B:Nat) (w:World) (P:Nat->Int) (G:Geo) (g cg lg dg:Nat) (X:Grp) (C:Cac) (L:Lg) (D:Dev) (rows:List (Nat×Obj)) (u:World) (S:Nat->Prop):Prop where
 gv:Gv u S g cg lg dg P G X C L D
 ge:∀ k,S k->B<=k
 bel:Below B w u
 sz:B<=w.heap.size
 ro:∀ x∈rows,u.heap[x.1]?=some x.2/\¬ S x.1
theorem HL.next {B w P G g cg lg dg}{X X':Grp}{C C':Cac}{L L':Lg}{D D':Dev}{rows}{u u':World}{S S':Nat->Prop}(h:HL B w P G g cg lg dg X C L D rows u S)(hg:Gv u' S' g cg lg dg P G X' C' L' D')(hx:Nx S u S' u'):HL B w P G g cg lg dg X' C' L' D' rows u' S' :=
 ⟨hg,hx.base h.ge (Nat.le_trans h.sz h.bel.size),h.bel.trans (hx.below h.ge (Nat.le_trans h.sz h.bel.size)),h.sz,fun x hm=>by
  obtain⟨h1,h2⟩:=h.ro x hm
  obtain⟨k1,k2,_⟩:=hx.keep (Array.getElem?_eq_some_iff.1 h1).1 h2
  exact⟨k1.trans h1,k2⟩⟩
structure Lst (w:World) (P:Nat->Int) (G:Geo) (E:Nat->Bool) (g:Nat) (rows:List (Nat×Obj)) (i:Nat) (V:Nat->List Int) (F:Nat->Bool) (cg lg dg:Nat) (X:Grp) (C:Cac) (L:Lg) (D:Dev) (u:World) (S:Nat->Prop):Prop where
 hl:HL w.heap.size w P G g cg lg dg X C L D rows u S
 gs:Gs G E X C L D
 sq:L.h.seq<=i
 vl:∀ j,E j=true->j<G.n->uy X C L D j=V j
 fl:∀ j,j<G.n->X.F j=F j
 vb:∀ j,E j=true->(V j).length=G.blk/\∀ z∈V j,0<=z/\z<=255
 eb:∀ j,E j=true->G.ib<=j/\j<G.n
 eu:G.uses (aO E G.n).length<=G.lg
 ed:∀ j,E j=true->(j:Int)<P 11
def Lo (w:World) (P:Nat->Int) (G:Geo) (E:Nat->Bool) (g:Nat) (rows:List (Nat×Obj)) (i:Nat) (V:Nat->List Int) (F:Nat->Bool) (u:World):Prop:=∃ cg lg dg X C L D S,Lst w P G E g rows i V F cg lg dg X C L D u S/\X.N=none
def Lv0 (w:World) (P:Nat->Int) (G:Geo) (E:Nat->Bool) (g o:Nat) (rows:List (Nat×Obj)) (i:Nat) (V:Nat->List Int) (F:Nat->Bool) (u:World):Prop:=∃ cg lg dg X C L D S,Lst w P G E g rows i V F cg lg dg X C L D u S/\X.N=none/\Over u S g o
structure Ns (G:Geo) (P:Nat->Int) (E0 E:Nat->Bool) (N:Nat->Option Nt) (V:Nat->List Int) (F:Nat->Bool) (V':Nat->List Int) (K:Nat->Bool):Prop where
 k:∀ b t,N b=some t->G.ib<=b/\b<G.n/\((t.k=1\/t.k=2/\P 11<=(b:Int))/\E b=true/\t.z=V' b\/t.k=3/\E b=false/\P 11<=(b:Int))
 nn:∀ b,E0 b=true->N b=none->V' b=V b
 wn:∀ b,E b=true->E0 b=false->N b≠none
 kk:∀ b,b<G.n->K b=(F b||isK N 3 b)
 vb:∀ j,E j=true->(V' j).length=G.blk/\∀ z∈V' j,0<=z/\z<=255
 sub:∀ b,E0 b=true->E b=true
 da:∀ b,E b=true->E0 b=false->P 11<=(b:Int)/\b<G.n
def Lp (w:World) (P:Nat->Int) (G:Geo) (E:Nat->Bool) (g o:Nat) (rows:List (Nat×Obj)) (i:Nat) (V:Nat->List Int) (F:Nat->Bool) (V':Nat->List Int) (K:Nat->Bool) (u:World):Prop:=∃ E0 cg lg dg X C L D S N,Lst w P G E0 g rows i V F cg lg dg X C L D u S/\X.N=some N/\X.o=o/\Ns G P E0 E N V F V' K
theorem Lst.next {w P G E g rows}{i i':Nat}{V}{F F':Nat->Bool}{cg lg dg}{X X':Grp}{C C':Cac}{L L':Lg}{D D':Dev}{u u':World}{S S':Nat->Prop}(h:Lst w P G E g rows i V F cg lg dg X C L D u S)(hg:Gv u' S' g cg lg dg P G X' C' L' D')(hx:Nx S u S' u')(hs:Gs G E X' C' L' D')(hq:L'.h.seq<=i')(hv:∀ j,E j=true->j<G.n->uy X' C' L' D' j=uy X C L D j)(hf:∀ j,j<G.n->X'.F j=F' j):Lst w P G E g rows i' V F' cg lg dg X' C' L' D' u' S' :=
 ⟨h.hl.next hg hx,hs,hq,fun j h1 h2=>(hv j h1 h2).trans (h.vl j h1 h2),hf,h.vb,h.eb,h.eu,h.ed⟩
theorem Lst.later {w P G E g rows i V F cg lg dg X C L D}{u u':World}{S}(h:Lst w P G E g rows i V F cg lg dg X C L D u S)(hb:Below u.heap.size u u'):Lst w P G E g rows i V F cg lg dg X C L D u' S :=
 h.next (h.hl.gv.below hb) ((Nx.refl S u).below' hb) h.gs h.sq (fun _ _ _=>rfl) h.fl
theorem Lst.sub {w P G E g}{rows rows':List (Nat×Obj)}{i V F cg lg dg X C L D u S}(h:Lst w P G E g rows i V F cg lg dg X C L D u S)(hr:∀ x∈rows',x∈rows):Lst w P G E g rows' i V F cg lg dg X C L D u S :=
 ⟨⟨h.hl.gv,h.hl.ge,h.hl.bel,h.hl.sz,fun x hx=>h.hl.ro x (hr x hx)⟩,h.gs,h.sq,h.vl,h.fl,h.vb,h.eb,h.eu,h.ed⟩
theorem Lst.add {w P G E g rows i V F cg lg dg X C L D u S}(h:Lst w P G E g rows i V F cg lg dg X C L D u S){k:Nat}{o:Obj}(h1:u.heap[k]?=some o)(h2:¬ S k):Lst w P G E g ((k,o)::rows) i V F cg lg dg X C L D u S :=
 ⟨⟨h.hl.gv,h.hl.ge,h.hl.bel,h.hl.sz,fun x hm=>by
  rcases List.mem_cons.1 hm with e | e
  ·subst e;exact⟨h1,h2⟩
  ·exact h.hl.ro x e⟩,h.gs,h.sq,h.vl,h.fl,h.vb,h.eb,h.eu,h.ed⟩
theorem Lst.push {w P G E g rows i V F cg lg dg X C L D}{u u':World}{S}(h:Lst w P G E g rows i V F cg lg dg X C L D u S)(hb:Below u.heap.size u u'){k:Nat}(hk:u.heap.size<=k){o:Obj}(ho:u'.heap[k]?=some o):Lst w P G E g ((k,o)::rows) i V F cg lg dg X C L D u' S :=
 (h.later hb).add ho (fun hs=>by have:=h.hl.gv.lt hs;omega)
theorem Lst.set {w P G E g}{rows:List (Nat×Obj)}{i V F cg lg dg X C L D u S}{k:Nat}{ob ob':Obj}(h:Lst w P G E g ((k,ob)::rows) i V F cg lg dg X C L D u S)(hk:w.heap.size<=k)(h0:0<w.heap.size)(hn:∀ x∈rows,x.1≠k)(j:Nat)(v:Value)(ho:(u.setCell ⟨k,j,none⟩ v).heap[k]?=some ob'):Lst w P G E g ((k,ob')::rows) i V F cg lg dg X C L D (u.setCell ⟨k,j,none⟩ v) S:=by
 have kept:∀ q,q≠k->(u.setCell ⟨k,j,none⟩ v).heap[q]?=u.heap[q]?:=fun q hq=>Below.heap_setCell _ _ _ _ hq
 have hS:=(h.hl.ro (k,ob) (by simp)).2
 obtain⟨Sg,Sc,Sl,Sd,m,mk,ml,az⟩:=h.hl.gv
 have bb:Below w.heap.size u (u.setCell ⟨k,j,none⟩ v):=(Below.refl _ _).setCell (p:=⟨k,j,none⟩) hk _
 refine⟨⟨(az.jw (fun q hq=>kept q (fun e=>hS (by rw[← e];exact hq))) (kept 0 (by omega)) bb.size).gv,h.hl.ge,h.hl.bel.trans bb,h.hl.sz,fun x hx=>?_⟩,h.gs,h.sq,h.vl,h.fl,h.vb,h.eb,h.eu,h.ed⟩
 rcases List.mem_cons.1 hx with e | e
 ·subst e;exact⟨ho,hS⟩
 ·have:=h.hl.ro x (List.mem_cons_of_mem _ e)
  exact⟨(kept x.1 (hn x e)).trans this.1,this.2⟩
theorem Lp.later {w P G E g o rows i V F V' K}{u u':World}(h:Lp w P G E g o rows i V F V' K u)(hb:Below u.heap.size u u'):Lp w P G E g o rows i V F V' K u':=by
 obtain⟨E0,cg,lg,dg,X,C,L,D,S,N,h,r⟩:=h
 exact⟨E0,cg,lg,dg,X,C,L,D,S,N,h.later hb,r⟩
theorem Lp.sub {w P G E g o}{rows rows':List (Nat×Obj)}{i V F V' K u}(h:Lp w P G E g o rows i V F V' K u)(hr:∀ x∈rows',x∈rows):Lp w P G E g o rows' i V F V' K u:=by
 obtain⟨E0,cg,lg,dg,X,C,L,D,S,N,h,r⟩:=h
 exact⟨E0,cg,lg,dg,X,C,L,D,S,N,h.sub hr,r⟩
theorem Lp.pop {w P G E g o}{rows:List (Nat×Obj)}{i V F V' K u}{x:Nat×Obj}(h:Lp w P G E g o (x::rows) i V F V' K u):Lp w P G E g o rows i V F V' K u:=h.sub (fun y hy=>List.mem_cons_of_mem _ hy)
theorem Lp.push {w P G E g o rows i V F V' K}{u u':World}{k:Nat}{ob:Obj}(h:Lp w P G E g o rows i V F V' K u)(hb:Below u.heap.size u u')(hk:u.heap.size<=k)(ho:u'.heap[k]?=some ob):Lp w P G E g o ((k,ob)::rows) i V F V' K u':=by
 obtain⟨E0,cg,lg,dg,X,C,L,D,S,N,h,r⟩:=h
 exact⟨E0,cg,lg,dg,X,C,L,D,S,N,h.push hb hk ho,r⟩
theorem Lp.new {w P G E g o rows i V F V' K u}(h:Lp w P G E g o rows i V F V' K u)(ob:Obj):Lp w P G E g o ((u.heap.size,ob)::rows) i V F V' K (u.alloc ob) :=
 h.push ((Below.refl _ _).alloc (Nat.le_refl _) _) (Nat.le_refl _) (World.alloc_heap_new u ob)
theorem Lp.set {w P G E g o}{rows:List (Nat×Obj)}{i V F V' K u}{k:Nat}{ob ob':Obj}(h:Lp w P G E g o ((k,ob)::rows) i V F V' K u)(hk:w.heap.size<=k)(h0:0<w.heap.size)(hn:∀ x∈rows,x.1≠k)(j:Nat)(v:Value)(ho:(u.setCell ⟨k,j,none⟩ v).heap[k]?=some ob'):Lp w P G E g o ((k,ob')::rows) i V F V' K (u.setCell ⟨k,j,none⟩ v):=by
 obtain⟨E0,cg,lg,dg,X,C,L,D,S,N,h,r⟩:=h
 exact⟨E0,cg,lg,dg,X,C,L,D,S,N,h.set hk h0 hn j v ho,r⟩
theorem Lp.row {w P G E g o rows i V F V' K u}(h:Lp w P G E g o rows i V F V' K u){x:Nat×Obj}(hx:x∈rows):u.heap[x.1]?=some x.2:=by
 obtain⟨E0,cg,lg,dg,X,C,L,D,S,N,h,r⟩:=h
 exact(h.hl.ro x hx).1
theorem Lp.lt {w P G E g o rows i V F V' K u}(h:Lp w P G E g o rows i V F V' K u){x:Nat×Obj}(hx:x∈rows):x.1<u.heap.size:=(Array.getElem?_eq_some_iff.1 (h.row hx)).1
theorem Lp.bel {w P G E g o rows i V F V' K u}(h:Lp w P G E g o rows i V F V' K u):Below w.heap.size w u:=by
 obtain⟨E0,cg,lg,dg,X,C,L,D,S,N,h,r⟩:=h
 exact h.hl.bel
theorem Lp.ok {w P G E g o rows i V F V' K u}(h:Lp w P G E g o rows i V F V' K u):PG P G:=by
 obtain⟨E0,cg,lg,dg,X,C,L,D,S,N,h,r⟩:=h
 obtain⟨_,_,_,_,_,_,_,a⟩:=h.hl.gv
 exact a.gr.pg
theorem Lp.vb {w P G E g o rows i V F V' K u}(h:Lp w P G E g o rows i V F V' K u){j:Nat}(hj:E j=true):(V' j).length=G.blk/\∀ z∈V' j,0<=z/\z<=255:=by
 obtain⟨E0,cg,lg,dg,X,C,L,D,S,N,h,_,_,r⟩:=h
 exact r.vb j hj
theorem Lo.sub {w P G E g}{rows rows':List (Nat×Obj)}{i V F u}(h:Lo w P G E g rows i V F u)(hr:∀ x∈rows',x∈rows):Lo w P G E g rows' i V F u:=by
 obtain⟨cg,lg,dg,X,C,L,D,S,h,r⟩:=h
 exact⟨cg,lg,dg,X,C,L,D,S,h.sub hr,r⟩
theorem Lo.push {w P G E g rows i V F}{u u':World}{k:Nat}{ob:Obj}(h:Lo w P G E g rows i V F u)(hb:Below u.heap.size u u')(hk:u.heap.size<=k)(ho:u'.heap[k]?=some ob):Lo w P G E g ((k,ob)::rows) i V F u':=by
 obtain⟨cg,lg,dg,X,C,L,D,S,h,r⟩:=h
 exact⟨cg,lg,dg,X,C,L,D,S,h.push hb hk ho,r⟩
theorem Lo.row {w P G E g rows i V F u}(h:Lo w P G E g rows i V F u){x:Nat×Obj}(hx:x∈rows):u.heap[x.1]?=some x.2:=by
 obtain⟨cg,lg,dg,X,C,L,D,S,h,r⟩:=h
 exact(h.hl.ro x hx).1
theorem Lo.bel {w P G E g rows i V F u}(h:Lo w P G E g rows i V F u):Below w.heap.size w u:=by
 obtain⟨cg,lg,dg,X,C,L,D,S,h,r⟩:=h
 exact h.hl.bel
theorem Lv0.lo {w P G E g o rows i V F u}(h:Lv0 w P G E g o rows i V F u):Lo w P G E g rows i V F u:=by
 obtain⟨cg,lg,dg,X,C,L,D,S,h,r,_⟩:=h
 exact⟨cg,lg,dg,X,C,L,D,S,h,r⟩
theorem Lv0.later {w P G E g o rows i V F}{u u':World}(h:Lv0 w P G E g o rows i V F u)(hb:Below u.heap.size u u'):Lv0 w P G E g o rows i V F u':=by
 obtain⟨cg,lg,dg,X,C,L,D,S,h,r,ov⟩:=h
 exact⟨cg,lg,dg,X,C,L,D,S,h.later hb,r,ov.nx ((Nx.refl S u).below' hb)⟩
theorem Gs.same {G E}{X X':Grp}{C L D}(h:Gs G E X C L D)(e:X'.Q=X.Q):Gs G E X' C L D :=
 ⟨h.su,h.cl,h.hm,h.c1,h.pn,by rw[e];exact h.xq,h.lq,by rw[e];exact h.ne⟩
theorem jy {X X':Grp}{C:Cac}{L:Lg}{D:Dev}(e:X'.Q=X.Q)(j:Nat):uy X' C L D j=uy X C L D j:=by
 unfold uy
 rw[e]
theorem adH {w P G E g rows i V F u}(h:Lo w P G E g rows i V F u) :
  Calls Tryz.prog 27 #[.pointer (some ⟨g,0,none⟩)] u fun e u1=>∃ o,e=.returned (.tuple #[.pointer (some ⟨o,0,none⟩),.int .i64 0])/\Hid (Lp w P G E g o rows i V F V F u1):=by
 obtain⟨cg,lg,dg,X,C,L,D,S,h,eN⟩:=h
 refine(agq h.hl.gv eN).mono ?_
 rintro e u1 ⟨o,rfl,Y⟩
 obtain⟨S',g1,x1,_⟩:=ah Y
 refine⟨o,rfl,E,cg,lg,dg,_,C,L,D,S',_,h.next g1 x1 (h.gs.same rfl) h.sq (fun j _ _=>jy rfl j) h.fl,rfl,rfl,⟨fun b t e=>(by cases e),fun b _ _=>rfl,fun b h1 h2=>(by rw[h1] at h2;cases h2),fun b hb=>?_,h.vb,fun b hb=>hb,fun b h1 h2=>(by rw[h1] at h2;cases h2)⟩⟩
 simp[isK]
theorem Ns.same {G P E0 E N V F V' K}(h:Ns G P E0 E N V F V' K)(hE:∀ j:Nat,P 11<=(j:Int)->E j=false):E0=E:=by
 funext b
 cases e:E b with
 | true =>
  cases e0:E0 b with
  | true=>rfl
  | false=>have:=hE b (h.da b e e0).1;rw[e] at this;cases this
 | false =>
  cases e0:E0 b with
  | true=>have:=h.sub b e0;rw[e] at this;cases this
  | false=>rfl
theorem ahI {w P G E g o rows i V F V' K u}(h:Lp w P G E g o rows i V F V' K u)(hE:∀ j:Nat,P 11<=(j:Int)->E j=false) :
  Calls Tryz.prog 13 #[.pointer (some ⟨o,0,none⟩)] u fun e u1=>e=.returned (.int .i64 0)/\Hid (Lv0 w P G E g o rows i V F u1):=by
 obtain⟨E0,cg,lg,dg,X,C,L,D,S,N,h,eN,eo,ns⟩:=h
 obtain rfl:E=E0:=(ns.same hE).symm
 subst eo
 refine(abp h.hl.gv eN).mono ?_
 rintro e u1 ⟨rfl,Y⟩
 obtain⟨S',g1,x1,ov⟩:=ah Y
 exact⟨rfl,cg,lg,dg,_,C,L,D,S',h.next g1 x1 (h.gs.same rfl) h.sq (fun j _ _=>jy rfl j) h.fl,rfl,ov⟩
theorem ak0 {w P G E g o rows i V F V' K u}(h:Lp w P G E g o rows i V F V' K u)(hE:∀ j:Nat,P 11<=(j:Int)->E j=false) :
  Calls Tryz.prog 30 #[.pointer (some ⟨o,0,none⟩)] u fun e u1=>e=.returned (.int .i64 0)/\Hid (Lv0 w P G E g o rows i V' K u1):=by
 obtain⟨E0,cg,lg,dg,X,C,L,D,S,N,h,eN,eo,ns⟩:=h
 obtain rfl:E=E0:=(ns.same hE).symm
 subst eo
 have nf:Nf G E N:=⟨fun b t e=>by
  obtain⟨h1,h2,h3⟩:=ns.k b t e
  exact⟨h1,h2,by rcases h3 with x | x;exact .inl ⟨x.1.resolve_right (fun q=>by have:=hE b q.2;rw[x.2.1] at this;cases this),x.2.1⟩;exact .inr ⟨x.1,x.2.1⟩⟩⟩
 obtain⟨X',C',e1,e2,e3,g2,v2,f2⟩:=h.gs.fre nf h.eu
 have:=aft h.hl.gv eN (h.gs.few nf h.eu)
 rw[e1] at this
 refine this.mono ?_
 rintro e u1 ⟨rfl,Y⟩
 obtain⟨S',g1,x1,ov⟩:=ah Y
 refine⟨rfl,cg,lg,dg,X',C',L,D,S',⟨h.hl.next g1 x1,g2,h.sq,fun j hj hj2=>?_,fun j hj=>?_,ns.vb,h.eb,h.eu,h.ed⟩,e2,ov⟩
 ·rw[v2 j hj hj2]
  cases hN:N j with
  | none =>
   simp only
   rw[h.vl j hj hj2,ns.nn j hj hN]
  | some t =>
   rcases(ns.k j t hN).2.2 with x | x
   ·exact x.2.2
   ·rw[hj] at x;cases x.2.1
 ·rw[f2 j hj,ns.kk j hj,h.fl j hj]
def Dr (c n:Nat) (zs:List Int) (ob:Obj):Prop:=∃ cur:Array Value,ob=.cells cur 5 (0,0)/\cur.size=c/\zs.length=n/\n<=c/\c<=maxLen/\cur.toList.take n=zs.map (Value.int .u8)
theorem Dr.own {c n zs ob}(h:Dr c n zs ob){u:World}{k:Nat}(hk:u.heap[k]?=some ob):Own k u (some ⟨k,0,none⟩) n c zs:=by
 obtain⟨cur,rfl,h1,h2,h3,h4,h5⟩:=h
 exact⟨h2,h3,h4,.inr ⟨k,cur,rfl,Nat.le_refl _,hk,h1,h5⟩⟩
theorem Dr.has {c n zs ob}(h:Dr c n zs ob){u:World}{k:Nat}(hk:u.heap[k]?=some ob):Has u (some ⟨k,0,none⟩) n zs:=(h.own hk).has
theorem rM {w P G E g o rows i V F V' K u}(h:Lp w P G E g o rows i V F V' K u){b:Nat}(hb:E b=true) :
  Calls Tryz.prog 85 #[.pointer (some ⟨o,0,none⟩),.int .i64 (b:Int)] u fun e u1=>∃ k c,e=.returned (.tuple #[.slice (some ⟨k,0,none⟩) G.blk c,.int .i64 0])/\Hid (∃ ob,Dr c G.blk (V' b) ob/\u.heap.size<=k/\Lp w P G E g o ((k,ob)::rows) i V F V' K u1):=by
 obtain⟨E0,cg,lg,dg,X,C,L,D,S,N,h,eN,eo,ns⟩:=h
 subst eo
 have hG:G.Ok:=by obtain⟨_,_,_,_,_,_,_,a⟩:=h.hl.gv;exact a.gr.pg.ok
 obtain⟨b1,b2⟩:G.ib<=b/\b<G.n:=by
  cases e0:E0 b with
  | true=>exact h.eb b e0
  | false =>
   cases hN:N b with
   | none=>exact absurd hN (ns.wn b hb e0)
   | some t=>exact⟨(ns.k b t hN).1,(ns.k b t hN).2.1⟩
 have hbk:=hG.blk
 have fin:∀ {a:Option Addr} {c:Nat} {z:List Int} {u1:World} {S':Nat->Prop} {C':Cac} {D':Dev},z=V' b->Own u.heap.size u1 a G.blk c z->Gv u1 S' g cg lg dg P G X C' L D'->Nx S u S' u1->(∀ k,a=some ⟨k,0,none⟩->¬ S' k)->Gs G E0 X C' L D'->(∀ j,j<G.n->uy X C' L D' j=uy X C L D j)->∃ k c1,(Ending.returned (.tuple #[.slice a G.blk c,.int .i64 0]))=.returned (.tuple #[.slice (some ⟨k,0,none⟩) G.blk c1,.int .i64 0])/\Hid (∃ ob,Dr c1 G.blk (V' b) ob/\u.heap.size<=k/\Lp w P G E g X.o ((k,ob)::rows) i V F V' K u1):=by
  intro a c z u1 S' C' D' hz ow g1 x1 n1 s1 v1
  subst hz
  obtain⟨h1,h2,h3,h4⟩:=ow
  rcases h4 with ⟨_,h4,_⟩ | ⟨k,cur,rfl,hk,hh,hc,ht⟩
  ·omega
  ·exact⟨k,c,rfl,_,⟨cur,rfl,hc,h1,h2,h3,ht⟩,hk,E0,cg,lg,dg,X,C',L,D',S',N,(h.next g1 x1 s1 h.sq (fun j _ hj=>v1 j hj) h.fl).add hh (n1 k rfl),eN,rfl,ns⟩
 cases hN:N b with
 | none =>
  have hb0:E0 b=true:=by
   cases e0:E0 b with
   | true=>rfl
   | false=>exact absurd hN (ns.wn b hb e0)
  obtain⟨r1,r2,r3,r4⟩:=h.gs.read hG b1 b2
  refine(yR h.hl.gv eN b2 (fun t e=>by rw[hN] at e;cases e) r1).mono ?_
  rintro e u1 ⟨a,c,rfl,Y⟩
  obtain⟨S',ow,g1,x1,n1⟩:=ah Y
  exact fin (by rw[r2,h.vl b hb0 b2,ns.nn b hb0 hN]) ow g1 x1 n1 r3 r4
 | some t =>
  rcases(ns.k b t hN).2.2 with ⟨k1,k2,k3⟩ | ⟨_,k2,_⟩
  ·refine(abn h.hl.gv eN b2 hN (k1.imp id And.left)).mono ?_
   rintro e u1 ⟨a,c,rfl,Y⟩
   obtain⟨S',ow,g1,x1,n1⟩:=ah Y
   exact fin k3 ow g1 x1 n1 h.gs (fun _ _=>rfl)
  ·rw[hb] at k2;cases k2
theorem afK {w P G E g o rows i V F V' K u}(h:Lp w P G E g o rows i V F V' K u){b:Nat}(hb:E b=true\/P 11<=(b:Int)/\b<G.n/\K b=false)(a:Option Addr)(cap:Nat)(zs:List Int)(hr:Row u.heap.size u a G.blk cap zs) :
  Calls Tryz.prog 67 #[.pointer (some ⟨o,0,none⟩),.int .i64 (b:Int),.slice a G.blk cap] u fun e u1=>e=.returned (.int .i64 0)/\Hid (Lp w P G (fun j=>if j=b then true else E j) g o rows i V F (fun j=>if j=b then zs else V' j) K u1):=by
 obtain⟨E0,cg,lg,dg,X,C,L,D,S,N,h,eN,eo,ns⟩:=h
 subst eo
 have hda:(G.ib:Int)<=P 11:=by obtain⟨_,_,_,_,_,_,_,a⟩:=h.hl.gv;exact a.gr.da.1
 obtain⟨b1,b2⟩:G.ib<=b/\b<G.n:=by
  rcases hb with hb | ⟨x1,x2,_⟩
  ·cases e0:E0 b with
   | true=>exact h.eb b e0
   | false =>
    cases hN:N b with
    | none=>exact absurd hN (ns.wn b hb e0)
    | some t=>exact⟨(ns.k b t hN).1,(ns.k b t hN).2.1⟩
  ·exact⟨by omega,x2⟩
 have n3:isK N 3 b=false:=by
  rcases hb with hb | ⟨_,_,x3⟩
  ·unfold isK
   cases hN:N b with
   | none=>rfl
   | some t =>
    rcases(ns.k b t hN).2.2 with x | x
    ·rcases x.1 with q | ⟨q,_⟩<;>simp[q]
    ·rw[hb] at x;cases x.2.1
  ·rw[ns.kk b b2] at x3
   cases e3:isK N 3 b with
   | false=>rfl
   | true=>rw[e3] at x3;simp at x3
 have e0:notE G (b:Int) ((G.ib:Nat):Int) G.blk=0:=by
  have:uT G.n (b:Int) ((G.ib:Nat):Int)=0:=by
   unfold uT
   rw[if_neg (by omega)]
  unfold notE
  rw[if_pos this,if_pos rfl]
 have:=abl h.hl.gv eN (b:Int) a G.blk cap zs hr
 rw[e0,if_pos rfl] at this
 refine this.mono ?_
 rintro e u1 ⟨rfl,Y⟩
 obtain⟨S',g1,x1⟩:=ah Y
 rw[show (b:Int).toNat=b by simp] at g1
 refine⟨rfl,E0,cg,lg,dg,_,C,L,D,S',_,h.next g1 x1 (h.gs.same rfl) h.sq (fun j _ _=>jy rfl j) h.fl,rfl,rfl,⟨fun c t e=>?_,fun c hc e=>?_,fun c h1 h2 e=>?_,fun c hc=>?_,fun j hj=>?_,fun c hc=>?_,fun c h1 h2=>?_⟩⟩
 ·unfold gq at e
  by_cases ec:c=b
  ·rw[if_pos ec] at e
   cases e
   subst ec
   exact⟨b1,b2,.inl ⟨.inl rfl,by simp,by simp⟩⟩
  ·rw[if_neg ec] at e
   simp only[if_neg ec]
   exact ns.k c t e
 ·unfold gq at e
  by_cases ec:c=b
  ·rw[if_pos ec] at e;cases e
  ·rw[if_neg ec] at e
   simp only[if_neg ec]
   exact ns.nn c hc e
 ·unfold gq at e
  by_cases ec:c=b
  ·rw[if_pos ec] at e;cases e
  ·rw[if_neg ec] at e
   rw[if_neg ec] at h1
   exact ns.wn c h1 h2 e
 ·rw[ns.kk c hc]
  congr 1
  unfold isK gq
  by_cases ec:c=b
  ·subst ec
   simp only[if_true]
   unfold isK at n3
   rw[n3]
   rfl
  ·simp only[if_neg ec]
 ·by_cases ec:j=b
  ·simp only[if_pos ec]
   exact⟨hr.1,hr.2.2.2.1⟩
  ·simp only[if_neg ec]
   rw[if_neg ec] at hj
   exact ns.vb j hj
 ·by_cases ec:c=b
  ·simp[ec]
  ·simp only[if_neg ec]
   exact ns.sub c hc
 ·by_cases ec:c=b
  ·subst ec
   rcases hb with hb | ⟨x1,x2,_⟩
   ·exact ns.da c hb h2
   ·exact⟨x1,x2⟩
  ·rw[if_neg ec] at h1
   exact ns.da c h1 h2
theorem ahH {w P G E g o rows i V F V' K u}(h:Lp w P G E g o rows i V F V' K u){b:Nat}(am4:P 11<=(b:Int))(hb:E b=true\/P 11<=(b:Int)/\b<G.n/\K b=false)(a:Option Addr)(cap:Nat)(zs:List Int)(hr:Row u.heap.size u a G.blk cap zs) :
  Calls Tryz.prog 97 #[.pointer (some ⟨o,0,none⟩),.int .i64 (b:Int),.slice a G.blk cap] u fun e u1=>e=.returned (.int .i64 0)/\Hid (Lp w P G (fun j=>if j=b then true else E j) g o rows i V F (fun j=>if j=b then zs else V' j) K u1):=by
 obtain⟨E0,cg,lg,dg,X,C,L,D,S,N,h,eN,eo,ns⟩:=h
 subst eo
 have hda:(G.ib:Int)<=P 11:=by obtain⟨_,_,_,_,_,_,_,a⟩:=h.hl.gv;exact a.gr.da.1
 obtain⟨b1,b2⟩:G.ib<=b/\b<G.n:=by
  rcases hb with hb | ⟨x1,x2,_⟩
  ·cases e0:E0 b with
   | true=>exact h.eb b e0
   | false =>
    cases hN:N b with
    | none=>exact absurd hN (ns.wn b hb e0)
    | some t=>exact⟨(ns.k b t hN).1,(ns.k b t hN).2.1⟩
  ·exact⟨by omega,x2⟩
 have n3:isK N 3 b=false:=by
  rcases hb with hb | ⟨_,_,x3⟩
  ·unfold isK
   cases hN:N b with
   | none=>rfl
   | some t =>
    rcases(ns.k b t hN).2.2 with x | x
    ·rcases x.1 with q | ⟨q,_⟩<;>simp[q]
    ·rw[hb] at x;cases x.2.1
  ·rw[ns.kk b b2] at x3
   cases e3:isK N 3 b with
   | false=>rfl
   | true=>rw[e3] at x3;simp at x3
 have e0:notE G (b:Int) (P 11) G.blk=0:=by
  have:uT G.n (b:Int) (P 11)=0:=by
   unfold uT
   rw[if_neg (by omega)]
  unfold notE
  rw[if_pos this,if_pos rfl]
 have:=adf h.hl.gv eN (b:Int) a G.blk cap zs hr
 rw[e0,if_pos rfl] at this
 refine this.mono ?_
 rintro e u1 ⟨rfl,Y⟩
 obtain⟨S',g1,x1⟩:=ah Y
 rw[show (b:Int).toNat=b by simp] at g1
 refine⟨rfl,E0,cg,lg,dg,_,C,L,D,S',_,h.next g1 x1 (h.gs.same rfl) h.sq (fun j _ _=>jy rfl j) h.fl,rfl,rfl,⟨fun c t e=>?_,fun c hc e=>?_,fun c h1 h2 e=>?_,fun c hc=>?_,fun j hj=>?_,fun c hc=>?_,fun c h1 h2=>?_⟩⟩
 ·unfold gq at e
  by_cases ec:c=b
  ·rw[if_pos ec] at e
   cases e
   subst ec
   exact⟨b1,b2,.inl ⟨.inr ⟨rfl,am4⟩,by simp,by simp⟩⟩
  ·rw[if_neg ec] at e
   simp only[if_neg ec]
   exact ns.k c t e
 ·unfold gq at e
  by_cases ec:c=b
  ·rw[if_pos ec] at e;cases e
  ·rw[if_neg ec] at e
   simp only[if_neg ec]
   exact ns.nn c hc e
 ·unfold gq at e
  by_cases ec:c=b
  ·rw[if_pos ec] at e;cases e
  ·rw[if_neg ec] at e
   rw[if_neg ec] at h1
   exact ns.wn c h1 h2 e
 ·rw[ns.kk c hc]
  congr 1
  unfold isK gq
  by_cases ec:c=b
  ·subst ec
   simp only[if_true]
   unfold isK at n3
   rw[n3]
   rfl
  ·simp only[if_neg ec]
 ·by_cases ec:j=b
  ·simp only[if_pos ec]
   exact⟨hr.1,hr.2.2.2.1⟩
  ·simp only[if_neg ec]
   rw[if_neg ec] at hj
   exact ns.vb j hj
 ·by_cases ec:c=b
  ·simp[ec]
  ·simp only[if_neg ec]
   exact ns.sub c hc
 ·by_cases ec:c=b
  ·subst ec
   rcases hb with hb | ⟨x1,x2,_⟩
   ·exact ns.da c hb h2
   ·exact⟨x1,x2⟩
  ·rw[if_neg ec] at h1
   exact ns.da c h1 h2
theorem aeY {E:Nat->Bool}{b:Nat}{v:Bool}(hb:E b=v):(fun j=>if j=b then v else E j)=E:=by
 funext j
 by_cases e:j=b
 ·simp[e,hb]
 ·simp[e]
theorem adG {w P G E g o rows i V F V' K u}(h:Lp w P G E g o rows i V F V' K u){b:Nat}(hb:E b=true)(a:Option Addr)(cap:Nat)(zs:List Int)(hr:Row u.heap.size u a G.blk cap zs) :
  Calls Tryz.prog 67 #[.pointer (some ⟨o,0,none⟩),.int .i64 (b:Int),.slice a G.blk cap] u fun e u1=>e=.returned (.int .i64 0)/\Hid (Lp w P G E g o rows i V F (fun j=>if j=b then zs else V' j) K u1):=by
 have:=afK h (.inl hb) a cap zs hr
 rwa [aeY hb] at this
theorem ajq {w P G E g o rows i V F V' K u}(h:Lp w P G E g o rows i V F V' K u){b:Nat}(hb:P 11<=(b:Int))(hn:b<G.n) :
  Calls Tryz.prog 245 #[.pointer (some ⟨g,0,none⟩),.int .i64 (b:Int)] u fun e u1=>e=.returned (.bool (K b))/\Hid (Lp w P G E g o rows i V F V' K u1):=by
 obtain⟨E0,cg,lg,dg,X,C,L,D,S,N,h,eN,eo,ns⟩:=h
 subst eo
 have hq:L.Q b=none:=by
  cases e:L.Q b with
  | none=>rfl
  | some z=>have:=h.ed b (h.gs.lq b z e);omega
 have:=ad1 h.hl.gv eN hn hq
 rw[h.fl b hn,← ns.kk b hn] at this
 refine this.mono ?_
 rintro e u1 ⟨rfl,Y⟩
 obtain⟨S',g1,x1⟩:=ah Y
 exact⟨rfl,E0,cg,lg,dg,X,C,L,D,S',N,h.next g1 x1 h.gs h.sq (fun _ _ _=>rfl) h.fl,eN,rfl,ns⟩
end Go.Proofs.YtlpgfigbpjpdhaaGreatDoor
