/- What a cache holds while its device lives. -/
import Derived.Test.YtefdkpbmeoakgaaGreatDoorDnKNew
import Derived.Test.YtefdkpbmeoakgaaGreatDoorDnJ16
import Derived.Test.YtefdkpbmeoakgaaGreatDoorDnJ19
import Derived.Test.YtefdkpbmeoakgaaGreatDoorDnJ2
namespace Go.Proofs.YtefdkpbmeoakgaaGreatDoor
set_option maxRecDepth 100000
set_option maxHeartbeats 8000000
open Go.RowKit Go.Shelf
set_option linter.unusedVariables false
def cnt (p:Nat->Bool) (n:Nat):Nat:=((List.range n).filter p).length
theorem nR (p:Nat->Bool)(n:Nat):cnt p (n+1)=cnt p n+(if p n=true then 1 else 0):=by
 unfold cnt
 rw[List.range_succ,List.filter_append,List.length_append]
 congr 1
 cases h:p n<;>simp[h]
theorem qw {p q:Nat->Bool}{n:Nat}(h:∀ j,j<n->p j=q j):cnt p n=cnt q n:=by
 unfold cnt
 rw[List.filter_congr (fun j hj=>h j (by simpa using hj))]
theorem aaf (p:Nat->Bool)(b:Nat)(x:Bool):∀ n,b<n->cnt (fun j=>if j=b then x else p j) n+(if p b=true then 1 else 0)=cnt p n+(if x=true then 1 else 0)
 | 0,h=>by omega
 | n+1,h=>by
  rw[nR,nR]
  by_cases e:b=n
  ·subst e
   have:cnt (fun j=>if j=b then x else p j) b=cnt p b:=qw (fun j hj=>by rw[if_neg (by omega)])
   rw[this,if_pos rfl]
   omega
  ·have:=aaf p b x n (by omega)
   rw[if_neg (show ¬ n=b by omega)]
   omega
theorem cnt_mono {p q:Nat->Bool}{n:Nat}(h:∀ j,j<n->p j=true->q j=true):cnt p n<=cnt q n:=by
 induction n with
 | zero=>simp[cnt]
 | succ n ih =>
  rw[nR,nR]
  have h1:=ih (fun j hj=>h j (by omega))
  have h2:=h n (by omega)
  by_cases hp:p n=true
  ·rw[if_pos hp,if_pos (h2 hp)];omega
  ·rw[if_neg hp];omega
theorem ac9 (C:Cac)(n:Nat)(f:Ln->Bool):(C.those n f).length=cnt (C.wants f) n:=rfl
theorem tq (C:Cac)(n:Nat)(f:Ln->Bool):C.those n f=[]↔cnt (C.wants f) n=0:=by
 rw[← ac9]
 exact List.length_eq_zero_iff.symm
def Dev.ali (D:Dev):Prop:=D.f=-1/\D.dead=false
theorem ajM {D:Dev}(h:D.ali):D.wE=0:=by
 unfold Dev.wE
 rw[if_neg]
 obtain⟨h1,h2⟩:=h
 rintro (h | h)
 ·omega
 ·rw[h2] at h;cases h
theorem agP {D:Dev}(h:D.ali)(i:Nat)(zs:List Int):(D.wD i zs).ali/\(∀ j,(D.wD i zs).rd j=if j=i then zs else D.rd j):=by
 have hn:¬ (D.f=0\/D.dead=true):=by
  obtain⟨h1,h2⟩:=h
  rintro (h | h)
  ·omega
  ·rw[h2] at h;cases h
 unfold Dev.wD
 rw[if_neg hn]
 obtain⟨h1,h2⟩:=h
 split
 ·refine⟨⟨?_,h2⟩,fun j=>?_⟩
  ·show (if 0<D.f then D.f - 1 else D.f)=-1
   rw[if_neg (by omega)];exact h1
  ·unfold Dev.rd Dev.add Dev.eU
   by_cases e:j=i
   ·simp[e]
   ·simp[e]
 ·refine⟨⟨?_,h2⟩,fun j=>?_⟩
  ·show (if 0<D.f then D.f - 1 else D.f)=-1
   rw[if_neg (by omega)];exact h1
  ·unfold Dev.rd Dev.add Dev.shift Dev.eU
   by_cases e:j=i
   ·simp[e]
   ·simp[e]
def Cac.val (C:Cac) (D:Dev) (b:Nat):List Int:=match C.L b with | some l=>l.z | none=>D.rd b
def Cac.cln (C:Cac) (D:Dev):Prop:=∀ b l,b<D.n->C.L b=some l->l.d=false->D.rd b=l.z
theorem akP (C:Cac){D:Dev}(h:D.ali)(b:Nat):C.wbE D b=0/\(C.wbD D b).ali/\(C.wbC D b).cap=C.cap/\(∀ j,(C.wbC D b).L j=if j=b then (C.L b).map (fun l=>{ l with d:=false }) else C.L j):=by
 have hw:=ajM h
 unfold Cac.wbE Cac.wbD Cac.wbC
 cases hl:C.L b with
 | none =>
  refine⟨rfl,h,rfl,fun j=>?_⟩
  by_cases e:j=b
  ·subst e;simp[hl]
  ·simp[e]
 | some l =>
  obtain⟨z,d,p⟩:=l
  cases d with
  | false =>
   refine⟨rfl,h,rfl,fun j=>?_⟩
   by_cases e:j=b
   ·subst e;simp[hl]
   ·simp[e]
  | true =>
   have hc:(true=true/\D.wE=0):=⟨rfl,hw⟩
   simp only[if_true,hw,and_self]
   refine⟨trivial,(agP h b z).1,rfl,fun j=>?_⟩
   unfold Cac.set
   by_cases e:j=b<;>simp[e]
theorem agU (C:Cac){D:Dev}(h:D.ali)(b j:Nat):(C.wbD D b).rd j=if j=b then (match C.L b with | some l=>if l.d=true then l.z else D.rd b | none=>D.rd b) else D.rd j:=by
 unfold Cac.wbD
 cases hl:C.L b with
 | none =>
  by_cases e:j=b
  ·rw[e];simp
  ·simp[e]
 | some l =>
  obtain⟨z,d,p⟩:=l
  cases d with
  | false =>
   by_cases e:j=b
   ·rw[e];simp
   ·simp[e]
  | true=>simp[(agP h b z).2]
theorem aiB (C:Cac){D:Dev}(h:D.ali)(hc:C.cln D){b:Nat}(hb:b<D.n):(∀ j,j<D.n->(C.wbC D b).val (C.wbD D b) j=C.val D j)/\(C.wbC D b).cln (C.wbD D b):=by
 obtain⟨_,_,_,hL⟩:=akP C h b
 constructor
 ·intro j hj
  unfold Cac.val
  rw[hL j,agU C h b j]
  by_cases e:j=b
  ·subst e
   cases hl:C.L j with
   | none=>simp
   | some l=>simp
  ·simp[e]
 ·intro j l hj hl hd
  rw[(aeO C D b).1] at hj
  rw[hL j] at hl
  rw[agU C h b j]
  by_cases e:j=b
  ·subst e
   rw[if_pos rfl] at hl ⊢
   cases hl':C.L j with
   | none=>rw[hl'] at hl;simp at hl
   | some l0 =>
    rw[hl'] at hl
    simp at hl
    subst hl
    simp only
    cases hd0:l0.d with
    | true=>simp
    | false=>simp;exact hc j l0 hj hl' hd0
  ·rw[if_neg e] at hl ⊢
   exact hc j l hj hl hd
theorem uV {C:Cac}{n:Nat}(h:C.those n aQ≠[]):C.vic n<n/\∃ l,C.L (C.vic n)=some l/\l.p=0:=by
 obtain⟨h1,h2⟩:=Cac.kW.1 (ac5 h)
 refine⟨h1,?_⟩
 unfold Cac.wants at h2
 cases hl:C.L (C.vic n) with
 | none=>rw[hl] at h2;cases h2
 | some l =>
  rw[hl] at h2
  exact⟨l,rfl,by simpa [aQ] using h2⟩
theorem afl (C:Cac){D:Dev}(h:D.ali)(hc:C.cln D)(hr:cnt (C.wants cZ) D.n<C.cap\/C.those D.n aQ≠[]) :
  C.rmE D=0/\(C.rmD D).ali/\(C.rmC D).cap=C.cap/\(C.rmC D).cln (C.rmD D)/\(∀ j,j<D.n->(C.rmC D).val (C.rmD D) j=C.val D j) /\
   (∀ j,(C.rmC D).L j=C.L j\/(C.rmC D).L j=none/\∃ l,C.L j=some l/\l.p=0) /\
   (cnt ((C.rmC D).wants cZ) D.n<C.cap\/C.cap<cnt (C.wants cZ) D.n):=by
 by_cases hl:(C.those D.n cZ).length<C.cap
 ·have e1:C.rmE D=0:=if_pos hl
  have e2:C.rmC D=C:=if_pos hl
  have e3:C.rmD D=D:=if_pos hl
  rw[e1,e2,e3]
  exact⟨rfl,h,rfl,hc,fun _ _=>rfl,fun _=>.inl rfl,.inl hl⟩
 ·have h0:C.those D.n aQ≠[]:=by
   rcases hr with hr | hr
   ·exact absurd hr hl
   ·exact hr
  have hn:C.next.those D.n aQ=C.those D.n aQ:=rfl
  obtain⟨v1,l,v2,v3⟩:=uV h0
  obtain⟨b1,b2,b3,b4⟩:=akP C.next h (C.vic D.n)
  have hcn:C.next.cln D:=hc
  obtain⟨c1,c2⟩:=aiB C.next h hcn (b:=C.vic D.n) v1
  have e1:C.rmE D=C.next.wbE D (C.vic D.n):=by unfold Cac.rmE;rw[if_neg hl,if_neg h0]
  have e2:C.rmC D=(C.next.wbC D (C.vic D.n)).del (C.vic D.n):=by unfold Cac.rmC;rw[if_neg hl,if_neg h0,if_pos b1]
  have e3:C.rmD D=C.next.wbD D (C.vic D.n):=by unfold Cac.rmD;rw[if_neg hl,if_neg h0]
  have hLv:(C.next.wbC D (C.vic D.n)).L (C.vic D.n)=some { l with d:=false }:=by
   rw[b4,if_pos rfl]
   show (C.L (C.vic D.n)).map _=_
   rw[v2];rfl
  have hL:∀ j,(C.rmC D).L j=if j=C.vic D.n then none else C.L j:=by
   intro j
   rw[e2]
   unfold Cac.del
   by_cases e:j=C.vic D.n
   ·simp[e]
   ·simp only[if_neg e]
    rw[b4,if_neg e];rfl
  refine⟨by rw[e1];exact b1,by rw[e3];exact b2,by rw[e2];exact b3,?_,?_,?_,?_⟩
  ·intro j l2 hj hl2 hd
   rw[hL] at hl2
   by_cases e:j=C.vic D.n
   ·simp[e] at hl2
   ·rw[if_neg e] at hl2
    rw[e3] at hj ⊢
    exact c2 j l2 hj (by rw[b4,if_neg e];exact hl2) hd
  ·intro j hj
   rw[← show C.next.val D j=C.val D j from rfl,← c1 j hj]
   unfold Cac.val
   rw[hL,e3]
   by_cases e:j=C.vic D.n
   ·rw[if_pos e,e,hLv]
    simp only
    exact c2 (C.vic D.n) { l with d:=false } (by rw[(aeO C.next D _).1];exact v1) hLv rfl
   ·rw[if_neg e,b4,if_neg e]
    rfl
  ·intro j
   rw[hL]
   by_cases e:j=C.vic D.n
   ·rw[if_pos e]
    exact .inr ⟨rfl,l,by rw[e];exact v2,v3⟩
   ·rw[if_neg e]
    exact .inl rfl
  ·have hw:∀ j,(C.rmC D).wants cZ j=if j=C.vic D.n then false else C.wants cZ j:=by
    intro j
    unfold Cac.wants
    rw[hL]
    by_cases e:j=C.vic D.n<;>simp[e]
   have hu:=aaf (C.wants cZ) (C.vic D.n) false D.n v1
   have hv:C.wants cZ (C.vic D.n)=true:=by unfold Cac.wants;rw[v2];rfl
   rw[hv,if_pos rfl,← qw (fun j _=>hw j)] at hu
   simp at hu
   omega
theorem afS (C:Cac){D:Dev}(h:D.ali)(hc:C.cln D){b:Nat}(hb:b<D.n)(hm:cnt (C.wants cZ) D.n<=C.cap)(hr:C.L b≠none\/cnt (C.wants cZ) D.n<C.cap\/C.those D.n aQ≠[]) :
  C.gtE D b=0/\(C.gtD D b).ali/\((C.gtD D b).n=D.n/\(C.gtD D b).blk=D.blk)/\(C.gtC D b).cap=C.cap/\(C.gtC D b).cln (C.gtD D b)/\C.gtZ D b=C.val D b/\(∀ j,j<D.n->(C.gtC D b).val (C.gtD D b) j=C.val D j) /\
   (∀ j,(C.gtC D b).L j=C.L j\/(C.gtC D b).L j=none/\(∃ l,C.L j=some l/\l.p=0)\/j=b/\∃ l,(C.gtC D b).L b=some l/\l.p=0/\l.d=false)/\(∃ l,(C.gtC D b).L b=some l)/\cnt ((C.gtC D b).wants cZ) D.n<=C.cap:=by
 unfold Cac.gtE Cac.gtD Cac.gtC Cac.gtZ
 cases hl:C.L b with
 | some l =>
  exact⟨rfl,h,⟨rfl,rfl⟩,rfl,hc,by simp[Cac.val,hl],fun _ _=>rfl,fun _=>.inl rfl,⟨l,hl⟩,hm⟩
 | none =>
  simp only
  have hr':cnt (C.wants cZ) D.n<C.cap\/C.those D.n aQ≠[]:=by
   rcases hr with hr | hr
   ·exact absurd hl hr
   ·exact hr
  obtain⟨r1,r2,r3,r4,r5,r6,r7⟩:=afl C h hc hr'
  have e0:C.ftE D=0:=by
   unfold Cac.ftE
   rw[if_neg (by simpa using r1),if_neg (by rw[r2.2];simp)]
  have e1:C.ftC D b=(C.rmC D).set b ⟨(C.rmD D).rd b,false,0⟩:=by unfold Cac.ftC;rw[if_pos e0]
  have hLb:(C.rmC D).L b=none:=by
   rcases r6 b with x | x
   ·rw[x];exact hl
   ·exact x.1
  have hL:∀ j,(C.ftC D b).L j=if j=b then some ⟨(C.rmD D).rd b,false,0⟩ else (C.rmC D).L j:=by
   intro j;rw[e1];rfl
  have hv:(C.rmD D).rd b=C.val D b:=by
   rw[← r5 b hb]
   unfold Cac.val
   rw[hLb]
  refine⟨e0,r2,afm C D,by rw[e1];exact r3,?_,hv,?_,?_,?_,?_⟩
  ·intro j l hj hlj hd
   rw[hL] at hlj
   by_cases e:j=b
   ·rw[if_pos e] at hlj
    cases hlj
    rw[e]
   ·rw[if_neg e] at hlj
    exact r4 j l hj hlj hd
  ·intro j hj
   rw[← r5 j hj]
   unfold Cac.val
   rw[hL]
   by_cases e:j=b
   ·rw[if_pos e,e,hLb]
   ·rw[if_neg e]
  ·intro j
   rw[hL]
   by_cases e:j=b
   ·exact .inr (.inr ⟨e,⟨(C.rmD D).rd b,false,0⟩,by rw[hL,if_pos rfl],rfl,rfl⟩)
   ·rw[if_neg e]
    rcases r6 j with x | x
    ·exact .inl x
    ·exact .inr (.inl x)
  ·exact⟨_,by rw[hL,if_pos rfl]⟩
  ·have hw:∀ j,(C.ftC D b).wants cZ j=if j=b then true else (C.rmC D).wants cZ j:=by
    intro j
    unfold Cac.wants
    rw[hL]
    by_cases e:j=b<;>simp[e,cZ]
   have hu:=aaf ((C.rmC D).wants cZ) b true D.n hb
   have hf:(C.rmC D).wants cZ b=false:=by unfold Cac.wants;rw[hLb]
   rw[hf,← qw (fun j _=>hw j)] at hu
   simp at hu
   omega
end Go.Proofs.YtefdkpbmeoakgaaGreatDoor
