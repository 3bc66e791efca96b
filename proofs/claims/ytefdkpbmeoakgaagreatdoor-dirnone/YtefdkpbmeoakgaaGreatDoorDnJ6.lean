/- Joined: GTwo, BFirst. -/
import Derived.Scope
import Derived.Test.YtefdkpbmeoakgaaGreatDoorDnJ2
import Derived.WalkMore
/- A scope with two labels: what holds at every jump to each, and measures that every pass lowers. Of no function of a program. -/
namespace Go.Proofs.YtefdkpbmeoakgaaGreatDoor
set_option maxRecDepth 100000
set_option maxHeartbeats 8000000
open Go
set_option linter.unusedVariables false
def qK (l0:Nat) (J0:Act->World->Prop) (l1:Nat) (J1:Act->World->Prop) (Q:Exit->Act->World->Prop):Exit->Act->World->Prop
 | .goto l,a,w=>(l=l0/\J0 a w)\/(l=l1/\J1 a w)
 | e,a,w=>Q e a w
theorem l9 {a:Act}{w:World}{Q:Exit->Act->World->Prop}{l0 l1:Nat}{J0 J1:Act->World->Prop}:qK l0 J0 l1 J1 Q .ret a w=Q .ret a w:=rfl
theorem rH {Q:Exit->Act->World->Prop}{l0 l1:Nat}{J0 J1 J0' J1':Act->World->Prop}(h0:∀ a w,J0 a w->J0' a w)(h1:∀ a w,J1 a w->J1' a w):∀ e a w,qK l0 J0 l1 J1 Q e a w->qK l0 J0' l1 J1' Q e a w:=by
 intro e a w h
 cases e with
 | goto l =>
  rcases h with ⟨e,h⟩ | ⟨e,h⟩
  ·exact .inl ⟨e,h0 _ _ h⟩
  ·exact .inr ⟨e,h1 _ _ h⟩
 | normal=>exact h
 | exit id=>exact h
 | ret=>exact h
 | panic ch=>exact h
 | outgrown=>exact h
theorem mV {P:Program}{a:Act}{w:World}{Q:Exit->Act->World->Prop}{c r0 r1:Code}(l0 l1:Nat)(J0 J1:Act->World->Prop)(μ0 μ1:Act->World->Nat)
  (hf0:findLabel c l0=some (.seq .skip r0)) (hf1:findLabel c l1=some (.seq .skip r1))
  (aje:∀ a w,J1 a w->r1.wp P (qK l0 (fun a' w'=>J0 a' w'/\μ0 a' w'<μ1 a w) l1 (fun a' w'=>J1 a' w'/\μ1 a' w'<μ1 a w) Q) a w)
  (akq:(∀ N a w,J1 a w->μ1 a w<=N->r1.wp P (qK l0 (fun a' w'=>J0 a' w'/\μ0 a' w'<N) l1 (fun a' w'=>J1 a' w'/\μ1 a' w'<N) Q) a w) ->
   ∀ a w,J0 a w->r0.wp P (qK l0 (fun a' w'=>J0 a' w'/\μ0 a' w'<μ0 a w) l1 (fun a' w'=>J1 a' w'/\μ1 a' w'<μ0 a w) Q) a w)
  (first:(∀ a w,J0 a w->r0.wp P (qK l0 J0 l1 J1 Q) a w)->c.wp P (qK l0 J0 l1 J1 Q) a w):(Code.scope c).wp P Q a w:=by
 have p1:∀ N a w,J1 a w->μ1 a w<=N->r1.wp P (qK l0 (fun a' w'=>J0 a' w'/\μ0 a' w'<N) l1 (fun a' w'=>J1 a' w'/\μ1 a' w'<N) Q) a w :=
  fun N a w h hN=>wp_mono (aje a w h) (rH (fun _ _ h=>⟨h.1,by omega⟩) (fun _ _ h=>⟨h.1,by omega⟩))
 have p0:=akq p1
 intro b k cs
 have hg0:gotoIn l0 (.inScope c::k)=some (.code (.seq .skip r0)::.inScope c::k):=by simp[gotoIn,hf0]
 have hg1:gotoIn l1 (.inScope c::k)=some (.code (.seq .skip r1)::.inScope c::k):=by simp[gotoIn,hf1]
 have key:∀ n a w,(J0 a w->μ0 a w=n->∃ e a' w',Q e a' w'/\Arrives P (lone (b.at a (.code (.seq .skip r0)::.inScope c::k)) cs w) b k cs e a' w') /\
   (J1 a w->μ1 a w=n->∃ e a' w',Q e a' w'/\Arrives P (lone (b.at a (.code (.seq .skip r1)::.inScope c::k)) cs w) b k cs e a' w'):=by
  intro n
  induction n using Nat.strongRecOn with
  | _ n ih =>
   have go:∀ a w (r:Code),r.wp P (qK l0 (fun a' w'=>J0 a' w'/\μ0 a' w'<n) l1 (fun a' w'=>J1 a' w'/\μ1 a' w'<n) Q) a w ->
     ∃ e a' w',Q e a' w'/\Arrives P (lone (b.at a (.code (.seq .skip r)::.inScope c::k)) cs w) b k cs e a' w':=by
    intro a w r hr
    obtain⟨e,a₁,w₁,hq,harr⟩:=(wp_seq (x:=.skip) (wp_skip hr):(Code.seq .skip r).wp P _ a w) b (.inScope c::k) cs
    cases e with
    | normal=>exact⟨.normal,a₁,w₁,hq,Steps.trans harr (.one step_inScope)⟩
    | exit id=>exact⟨.exit id,a₁,w₁,hq,fun k' hk=>harr k' (by simp[exitTo,hk])⟩
    | goto l' =>
     rcases hq with ⟨rfl,hJ,hlt⟩ | ⟨rfl,hJ,hlt⟩
     ·obtain⟨e₂,a₂,w₂,hq₂,harr₂⟩:=(ih _ hlt a₁ w₁).1 hJ rfl
      exact⟨e₂,a₂,w₂,hq₂,.of_steps (harr _ hg0) harr₂⟩
     ·obtain⟨e₂,a₂,w₂,hq₂,harr₂⟩:=(ih _ hlt a₁ w₁).2 hJ rfl
      exact⟨e₂,a₂,w₂,hq₂,.of_steps (harr _ hg1) harr₂⟩
    | ret=>exact⟨_,a₁,w₁,hq,harr⟩
    | panic ch=>exact⟨_,a₁,w₁,hq,harr⟩
    | outgrown=>exact⟨_,a₁,w₁,hq,harr⟩
   intro a w
   refine⟨fun hJ hn=>go a w r0 ?_,fun hJ hn=>go a w r1 ?_⟩
   ·subst hn;exact p0 a w hJ
   ·subst hn;exact aje a w hJ
 obtain⟨e,a₁,w₁,hq,harr⟩:=first (fun a w h=>wp_mono (p0 a w h) (rH (fun _ _ h=>h.1) (fun _ _ h=>h.1))) b (.inScope c::k) cs
 cases e with
 | normal=>exact⟨.normal,a₁,w₁,hq,.head step_scope (Steps.trans harr (.one step_inScope))⟩
 | exit id=>exact⟨.exit id,a₁,w₁,hq,fun k' hk=>.head step_scope (harr k' (by simp[exitTo,hk]))⟩
 | goto l' =>
  rcases hq with ⟨rfl,hJ⟩ | ⟨rfl,hJ⟩
  ·obtain⟨e₂,a₂,w₂,hq₂,harr₂⟩:=(key _ a₁ w₁).1 hJ rfl
   exact⟨e₂,a₂,w₂,hq₂,.of_steps (.head step_scope (harr _ hg0)) harr₂⟩
  ·obtain⟨e₂,a₂,w₂,hq₂,harr₂⟩:=(key _ a₁ w₁).2 hJ rfl
   exact⟨e₂,a₂,w₂,hq₂,.of_steps (.head step_scope (harr _ hg1)) harr₂⟩
 | ret=>exact⟨_,a₁,w₁,hq,.of_steps (.one step_scope) harr⟩
 | panic ch=>exact⟨_,a₁,w₁,hq,.of_steps (.one step_scope) harr⟩
 | outgrown=>exact⟨_,a₁,w₁,hq,.of_steps (.one step_scope) harr⟩
end Go.Proofs.YtefdkpbmeoakgaaGreatDoor
/- The contract of First: jumps over whole bytes, then over bits. -/
namespace Go.Proofs.YtefdkpbmeoakgaaGreatDoor
set_option maxRecDepth 100000
set_option maxHeartbeats 8000000
open Go.RowKit Go.Shelf
set_option linter.unusedVariables false
def fK (zs:List Int) (m n q:Nat):Prop:=∀ i,m<=i->i<8*q->i<n->dQ zs i=true
def zq (zs:List Int) (m n q:Nat):Nat:=zs8 (bJ zs q) (m - 8*q) (min (n - 8*q) 8)
theorem ajY (zs:List Int)(m n q:Nat):zq zs m n q<256:=ai8 _ _ _
theorem ahc {zs:List Int}(hb:∀ z∈zs,0<=z/\z<=255){m n q k:Nat}(h1:m<8*q+8)(hk:k<8):tb (zq zs m n q) k=(!dQ zs (8*q+k)&&decide (m<=8*q+k/\8*q+k<n)):=by
 unfold zq
 rw[aiH (fG hb q) (by omega) (by omega) hk,sK zs q k hk]
 congr 1
 apply decide_eq_decide.2
 omega
theorem fK.start (zs:List Int)(m n:Nat):fK zs m n (m / 8):=by intro i h1 h2;omega
theorem fK.next {zs:List Int}(hb:∀ z∈zs,0<=z/\z<=255){m n q:Nat}(h:fK zs m n q)(h1:m<8*q+8)(hz:zq zs m n q=0):fK zs m n (q+1):=by
 intro i hm hq hn
 by_cases hlt:i<8*q
 ·exact h i hm hlt hn
 ·obtain⟨k,rfl⟩:∃ k,i=8*q+k:=⟨i - 8*q,by omega⟩
  have:=ahc hb (n:=n) (k:=k) h1 (by omega)
  rw[hz,ahd] at this
  have hd:decide (m<=8*q+k/\8*q+k<n)=true:=by simp;omega
  rw[hd] at this
  simpa using this
theorem fK.none {zs m n q}(h:fK zs m n q)(hq:n<=8*q)(hmn:m<=n):jR zs m (n - m)=n - m :=
 adV zs m (n - m) (fun k hk=>h (m+k) (by omega) (by omega) (by omega))
theorem fK.found {zs:List Int}(hb:∀ z∈zs,0<=z/\z<=255){m n q j:Nat}(h:fK zs m n q)(h1:m<8*q+8)(hj:j<8)(hz:∀ k,k<j->tb (zq zs m n q) k=false)(ht:tb (zq zs m n q) j=true) :
  m<=8*q+j/\8*q+j<n/\jR zs m (n - m)=8*q+j - m:=by
 rw[ahc hb h1 hj] at ht
 simp at ht
 obtain⟨hbit,hm,hn⟩:=ht
 refine⟨hm,hn,aia zs m (n - m) (8*q+j - m) (by omega) (fun k hk=>?_) (by rw[show m+(8*q+j - m)=8*q+j by omega];exact hbit)⟩
 by_cases hlt:m+k<8*q
 ·exact h (m+k) (by omega) hlt (by omega)
 ·obtain⟨i,hi⟩:∃ i,m+k=8*q+i:=⟨m+k - 8*q,by omega⟩
  have:=hz i (by omega)
  rw[ahc hb h1 (by omega)] at this
  have hd:decide (m<=8*q+i/\8*q+i<n)=true:=by simp;omega
  rw[hd] at this
  rw[hi]
  simpa using this
theorem ahf {z j:Nat}(hz:z<256)(h0:z≠0)(hj:j<8)(h:∀ k,k<j->tb z k=false)(ht:tb z j=false):j+1<8:=by
 obtain⟨k,hk,hb⟩:=ahe hz h0
 by_cases h7:j+1<8
 ·exact h7
 ·exfalso
  have:k<j\/k=j:=by omega
  rcases this with hk' | rfl
  ·rw[h k hk'] at hb;cases hb
  ·rw[ht] at hb;cases hb
def J0 (b off len cap:Nat) (zs:List Int) (m n:Nat) (w:World) (a':Act) (w':World):Prop :=
 (∃ k,w'=w.drewN k)/\∃ q:Nat,m<8*q+8/\8*q<n+8/\fK zs m n q/\∃ u9 u10 u11 u12 u13 u14 u15 u16 u17 u18 u19 u20 u21 u22 u23 u24 u25 u26 u27 u28 u29 u30 u31 u32 u33 u34 u35 u36 u37 u38 u39 u40 u41 u42 u43 u44 u45:Value,a'={ tmps:=#[.slice (some ⟨b,off,none⟩) len cap,.int .i64 (m:Int),.int .i64 (n:Int),undef,undef,undef,.int .i64 0,.int .i64 0,.int .i64 (q:Int),u9,u10,u11,u12,u13,u14,u15,u16,u17,u18,u19,u20,u21,u22,u23,u24,u25,u26,u27,u28,u29,u30,u31,u32,u33,u34,u35,u36,u37,u38,u39,u40,u41,u42,u43,u44,u45],defers:=[] }
def J1 (b off len cap:Nat) (zs:List Int) (m n:Nat) (w:World) (a':Act) (w':World):Prop :=
 (∃ k,w'=w.drewN k)/\∃ q j:Nat,m<8*q+8/\8*q<n/\j<8/\fK zs m n q/\zq zs m n q≠0/\(∀ k,k<j->tb (zq zs m n q) k=false)/\∃ u11 u12 u13 u14 u15 u16 u17 u18 u19 u20 u21 u22 u23 u24 u25 u26 u27 u28 u29 u30 u31 u32 u33 u34 u35 u36 u37 u38 u39 u40 u41 u42 u43 u44 u45:Value,a'={ tmps:=#[.slice (some ⟨b,off,none⟩) len cap,.int .i64 (m:Int),.int .i64 (n:Int),undef,undef,undef,.int .i64 0,.int .i64 0,.int .i64 (q:Int),.int .u8 ((zq zs m n q:Nat):Int),.int .i64 ((8*q+j:Nat):Int),u11,u12,u13,u14,u15,u16,u17,u18,u19,u20,u21,u22,u23,u24,u25,u26,u27,u28,u29,u30,u31,u32,u33,u34,u35,u36,u37,u38,u39,u40,u41,u42,u43,u44,u45],defers:=[] }
theorem J0.mk {b off len cap:Nat}{zs:List Int}{m n:Nat}{w w':World}{qi:Int}{u9 u10 u11 u12 u13 u14 u15 u16 u17 u18 u19 u20 u21 u22 u23 u24 u25 u26 u27 u28 u29 u30 u31 u32 u33 u34 u35 u36 u37 u38 u39 u40 u41 u42 u43 u44 u45:Value}(hw:∃ k,w'=w.drewN k)(q:Nat)(hq:qi=(q:Int))(h1:m<8*q+8)(h2:8*q<n+8)(hA:fK zs m n q) :
  J0 b off len cap zs m n w { tmps:=#[.slice (some ⟨b,off,none⟩) len cap,.int .i64 (m:Int),.int .i64 (n:Int),undef,undef,undef,.int .i64 0,.int .i64 0,.int .i64 qi,u9,u10,u11,u12,u13,u14,u15,u16,u17,u18,u19,u20,u21,u22,u23,u24,u25,u26,u27,u28,u29,u30,u31,u32,u33,u34,u35,u36,u37,u38,u39,u40,u41,u42,u43,u44,u45],defers:=[] } w':=by
 subst hq
 exact⟨hw,q,h1,h2,hA,u9,u10,u11,u12,u13,u14,u15,u16,u17,u18,u19,u20,u21,u22,u23,u24,u25,u26,u27,u28,u29,u30,u31,u32,u33,u34,u35,u36,u37,u38,u39,u40,u41,u42,u43,u44,u45,rfl⟩
theorem J1.mk {b off len cap:Nat}{zs:List Int}{m n:Nat}{w w':World}{qi zi ii:Int}{u11 u12 u13 u14 u15 u16 u17 u18 u19 u20 u21 u22 u23 u24 u25 u26 u27 u28 u29 u30 u31 u32 u33 u34 u35 u36 u37 u38 u39 u40 u41 u42 u43 u44 u45:Value}(hw:∃ k,w'=w.drewN k)(q j:Nat)(hq:qi=(q:Int))(hz:zi=((zq zs m n q:Nat):Int))(hi:ii=((8*q+j:Nat):Int))(h1:m<8*q+8)(h2:8*q<n)(hj:j<8)
  (hA:fK zs m n q) (h0:zq zs m n q≠0) (hk:∀ k,k<j->tb (zq zs m n q) k=false) :
  J1 b off len cap zs m n w { tmps:=#[.slice (some ⟨b,off,none⟩) len cap,.int .i64 (m:Int),.int .i64 (n:Int),undef,undef,undef,.int .i64 0,.int .i64 0,.int .i64 qi,.int .u8 zi,.int .i64 ii,u11,u12,u13,u14,u15,u16,u17,u18,u19,u20,u21,u22,u23,u24,u25,u26,u27,u28,u29,u30,u31,u32,u33,u34,u35,u36,u37,u38,u39,u40,u41,u42,u43,u44,u45],defers:=[] } w':=by
 subst hq hz hi
 exact⟨hw,q,j,h1,h2,hj,hA,h0,hk,u11,u12,u13,u14,u15,u16,u17,u18,u19,u20,u21,u22,u23,u24,u25,u26,u27,u28,u29,u30,u31,u32,u33,u34,u35,u36,u37,u38,u39,u40,u41,u42,u43,u44,u45,rfl⟩
def mu0 (n:Nat) (a':Act) (_:World):Nat:=8+(n+8 - 8*(intOf (a'.tmps.getD 8 undef)).toNat)
def mu1 (a':Act) (_:World):Nat:=8*(intOf (a'.tmps.getD 8 undef)).toNat+8 - (intOf (a'.tmps.getD 10 undef)).toNat
theorem abS (b off len cap:Nat)(zs:List Int)(m n:Nat)(w:World)(hl:len<=140737488355328)(hmn:m<=n)(hn:n<=8*len)(HB:Hid (∀ z∈zs,0<=z/\z<=255))
  (HC:Hid (∀ j,j<len->w.cell? ⟨b,off+j,none⟩=some (.int .u8 (zs[j]?.getD 0)))) (hv:Hid (bfv len zs (m:Int) (n:Int)=(if jR zs m (n - m)<n - m then ((m+jR zs m (n - m):Nat):Int) else 0))) (he:Hid (bfe len zs (m:Int) (n:Int)=(if jR zs m (n - m)<n - m then 0 else 11)))
  (K:Hid (∀ w,Calls Tryz.prog 205 #[.slice (some ⟨b,off,none⟩) len cap,.int .i64 (m:Int),.int .i64 (n:Int)] w fun e w'=>e=.returned (.bool true)/\w=w')) :
  Calls Tryz.prog 251 #[.slice (some ⟨b,off,none⟩) len cap,.int .i64 (m:Int),.int .i64 (n:Int)] w fun e w'=>e=.returned (.tuple #[.int .i64 (bfv len zs m n),.int .i64 (bfe len zs m n)])/\∃ m,w'=w.drewN m:=by
 generalize bfv len zs (m:Int) (n:Int)=V at *
 generalize bfe len zs (m:Int) (n:Int)=E at *
 go_enter Tryz.func251,Tryz.ntmps251
 go_wp2
 refine mV 0 1 (J0 b off len cap zs m n w) (J1 b off len cap zs m n w) (mu0 n) mu1 rfl rfl ?_ ?_ ?_
 ·intro a' w' hJ
  obtain⟨hw,q,j,hq1,hq2,hj,hA,h0,hz,u11,u12,u13,u14,u15,u16,u17,u18,u19,u20,u21,u22,u23,u24,u25,u26,u27,u28,u29,u30,u31,u32,u33,u34,u35,u36,u37,u38,u39,u40,u41,u42,u43,u44,u45,rfl⟩:=hJ
  have HW:=hide hw
  have hlt:=ajY zs m n q
  have hp:=aax hj
  have M:Hid (∀ w,Calls Tryz.prog 122 #[.int .i64 ((8*q+j:Nat):Int)] w fun e w'=>e=.returned (.int .u8 ((2 ^ j:Nat):Int))/\w'=w):=fun w=>kY (8*q+j) w (by omega) _ (by rw[show (8*q+j)%8=j by omega])
  have hAn:=u8_and_nat _ _ hlt hp.2
  rw[ae0 hlt hj] at hAn
  cases ht:tb (zq zs m n q) j
  ·rw[ht] at hAn
   have hA':bits .and .u8 ((zq zs m n q:Nat):Int) ((2 ^ j:Nat):Int)=0:=by simpa using hAn
   have hj1:=ahf hlt h0 hj hz ht
   have HN:Hid (fK zs m n q/\zq zs m n q≠0/\∀ k,k<j+1->tb (zq zs m n q) k=false):=by
    refine⟨hA,h0,fun k hk=>?_⟩
    by_cases hkj:k=j
    ·subst hkj;exact ht
    ·exact hz k (by omega)
   have HZ:Hid (zq zs m n q=zq zs m n q):=rfl
   clear hA h0 hz hAn ht hw
   generalize hzq:zq zs m n q=z at *
   have HZq:=hide hzq
   clear hzq
   generalize 2 ^ j=p at *
   go_wp2_with (go_at_call 122;refine(ah M _).mono ?_;rintro e w' ⟨rfl,rfl⟩)
   go_step3
   refine .inr ⟨rfl,J1.mk HW.out q (j+1) rfl (by rw[HZq.out]) (by go_num) hq1 hq2 hj1 HN.out.1 (by rw[HZq.out];exact HN.out.2.1) (by rw[HZq.out];exact HN.out.2.2),by simp[mu1,intOf];omega⟩
  ·rw[ht] at hAn
   have hA':bits .and .u8 ((zq zs m n q:Nat):Int) ((2 ^ j:Nat):Int)=((2 ^ j:Nat):Int):=by simpa using hAn
   have HF:=hide (fK.found HB.out hA hq1 hj hz ht)
   have hp':¬ ((2 ^ j:Nat):Int)=0:=by omega
   clear hA h0 hz hAn ht hw
   generalize zq zs m n q=z at *
   generalize 2 ^ j=p at *
   go_wp2_with (go_at_call 122;refine(ah M _).mono ?_;rintro e w' ⟨rfl,rfl⟩)
   rw[l9]
   go_ret2
   refine⟨lX ?_ ?_,HW.out⟩
   ·rw[hv.out,HF.out.2.2,if_pos (by have:=HF.out;omega)];have:=HF.out;omega
   ·rw[he.out,HF.out.2.2,if_pos (by have:=HF.out;omega)]
 ·intro H1 a' w' hJ
  have N1:=hide H1
  obtain⟨hw,q,hq1,hq2,hA,u9,u10,u11,u12,u13,u14,u15,u16,u17,u18,u19,u20,u21,u22,u23,u24,u25,u26,u27,u28,u29,u30,u31,u32,u33,u34,u35,u36,u37,u38,u39,u40,u41,u42,u43,u44,u45,rfl⟩:=hJ
  have HW:=hide hw
  have HA:=hide hA
  clear H1 hw hA
  by_cases hlt:8*q<n
  ·have hlt':¬ (n:Int)<=8*(q:Int):=by omega
   have hck:w'.cell? ⟨b,off+q,none⟩=some (.int .u8 ((bJ zs q:Nat):Int)):=by
    obtain⟨k,rfl⟩:=HW.out
    rw[jG HB.out]
    exact HC.out q (by omega)
   have ahP:=fG HB.out q
   have P1:=hide (fun w=>ng q m n w hq1 hlt (by omega))
   have hPl:=ai3 (m - 8*q) (min (n - 8*q) 8)
   have hX:bits .xor .u8 255 ((bJ zs q:Nat):Int)=((255 ^^^ bJ zs q:Nat):Int):=u8_xor_nat 255 _ (by omega) ahP
   have hxl:255 ^^^ bJ zs q<256:=ab2 ⟨bJ zs q,ahP⟩
   have hAn:=u8_and_nat _ _ hxl hPl
   have hqq:(q:Int)<(len:Int):=by omega
   have hsg:IntKind.u8.signed=false:=rfl
   have hmx:IntKind.u8.max=255:=by decide
   have HZ:Hid ((255 ^^^ bJ zs q) &&& PM (m - 8*q) (min (n - 8*q) 8)=zq zs m n q):=rfl
   generalize (255 ^^^ bJ zs q) &&& PM (m - 8*q) (min (n - 8*q) 8)=z at *
   generalize 255 ^^^ bJ zs q=x' at *
   generalize PM (m - 8*q) (min (n - 8*q) 8)=y2 at *
   generalize bJ zs q=x at *
   by_cases h0:z=0
   ·have HN:Hid (fK zs m n (q+1)):=HA.out.next HB.out hq1 (by rw[← HZ.out,h0])
    subst h0
    go_wp2
    go_quiet ((go_at_call 207;exact Calls.quiet_of (ah P1 _)))
    go_wp2
    go_step3
    refine .inl ⟨rfl,J0.mk ?_ (q+1) (by go_num) (by omega) (by omega) HN.out,by simp[mu0,intOf];omega⟩
    obtain⟨k,rfl⟩:=HW.out
    exact⟨_,World.drewN_drewN _ _ _⟩
   ·have h0':¬ (z:Int)=0:=by omega
    go_wp2
    go_quiet ((go_at_call 207;exact Calls.quiet_of (ah P1 _)))
    go_wp2
    go_step3
    rename_i hK
    refine hK _ _ ?_
    refine ah N1 _ _ _ (J1.mk ?_ q 0 rfl (by rw[← HZ.out]) (by go_num) hq1 hlt (by omega) HA.out (by rw[← HZ.out];exact h0) (fun k hk=>by omega)) (by simp[mu0,mu1,intOf];omega)
    obtain⟨k,rfl⟩:=HW.out
    exact⟨_,World.drewN_drewN _ _ _⟩
  ·have hlt':(n:Int)<=8*(q:Int):=by omega
   have HG:=hide (HA.out.none (by omega) hmn)
   go_wp2
   rw[l9]
   go_ret2
   refine⟨lX ?_ ?_,HW.out⟩
   ·rw[hv.out,HG.out,if_neg (by omega)]
   ·rw[he.out,HG.out,if_neg (by omega)]
 ·intro H0
  have N0:=hide H0
  clear H0
  go_wp2_with (go_at_call 205;refine(ah K _).mono ?_;rintro e w' ⟨rfl,rfl⟩)
  go_step3
  rename_i hK
  refine hK _ _ ?_
  exact ah N0 _ _ (J0.mk ⟨0,rfl⟩ (m / 8) (by go_num) (by omega) (by omega) (fK.start zs m n))
theorem first_any (a:Option Addr)(len cap:Nat)(zs:List Int)(f t:Int)(w:World)(hh:Has w a len zs)(hby:∀ z∈zs,0<=z/\z<=255)(hl:len<=140737488355328) :
  Calls Tryz.prog 251 #[.slice a len cap,.int .i64 f,.int .i64 t] w fun e w'=>e=.returned (.tuple #[.int .i64 (bfv len zs f t),.int .i64 (bfe len zs f t)])/\∃ m,w'=w.drewN m:=by
 have K:=hide (fun w=>pW a len cap f t w hl)
 by_cases hin:inP len f t=true
 ·obtain⟨m,n,rfl,rfl,hmn,hn⟩:=adI hin
  have hv:=hide (ae1 zs hin)
  have he:=hide (ae2 zs hin)
  rw[hin] at K
  by_cases h0:len=0
  ·subst h0
   have hm0:m=0:=by omega
   have hn0:n=0:=by omega
   subst hm0 hn0
   have e1:bfv 0 zs ((0:Nat):Int) ((0:Nat):Int)=0:=hv.out
   have e2:bfe 0 zs ((0:Nat):Int) ((0:Nat):Int)=11:=he.out
   rw[e1,e2]
   clear hv he e1 e2 hh hby hin
   go_enter Tryz.func251,Tryz.ntmps251
   go_wp2
   go_step3
   go_wp2_with (go_at_call 205;refine(ah K _).mono ?_;rintro e w' ⟨rfl,rfl⟩)
   go_step3
   go_wp2
   rw[Exit.noGoto_ret]
   go_ret2
   exact⟨rfl,0,rfl⟩
  ·obtain⟨b,off,rfl,hc⟩:=hh.2 (by omega)
   exact abS b off len cap zs m n w hl hmn hn hby hc hv he K
 ·have hin':inP len f t=false:=by simpa using hin
  have hv:bfv len zs f t=0:=by rw[bfv,hin'];rfl
  have he:bfe len zs f t=2:=by rw[bfe,hin'];rfl
  rw[hv,he]
  rw[hin'] at K
  clear hh hby hin hin' hv he
  go_enter Tryz.func251,Tryz.ntmps251
  go_wp2
  go_step3
  go_wp2_with (go_at_call 205;refine(ah K _).mono ?_;rintro e w' ⟨rfl,rfl⟩)
  rw[Exit.noGoto_ret]
  go_ret2
  exact⟨rfl,0,rfl⟩
end Go.Proofs.YtefdkpbmeoakgaaGreatDoor
