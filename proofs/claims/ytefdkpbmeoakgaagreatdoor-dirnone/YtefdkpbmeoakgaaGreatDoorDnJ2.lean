/- Joined: BLeaf, AFreeM, BRead, GClone, GScope. -/
import Derived.Test.YtefdkpbmeoakgaaGreatDoorDnJ1
import Derived.Test.YtefdkpbmeoakgaaGreatDoorDnJ0
import Derived.BigRegion
import Derived.OwnWalk
import Derived.WalkMore
import Derived.ScopeJumps
/- The contracts of akV, ak2, mask. -/
namespace Go.Proofs.YtefdkpbmeoakgaaGreatDoor
set_option maxRecDepth 100000
set_option maxHeartbeats 8000000
open Go.RowKit Go.Shelf
set_option linter.unusedVariables false
def inB (len:Nat) (i:Int):Bool:=decide (0<=i)&&decide (i<8*(len:Int))
def inP (len:Nat) (f t:Int):Bool:=decide (0<=f)&&decide (f<=t)&&decide (t<=8*(len:Int))
theorem rO (a:Option Addr)(len cap:Nat)(i:Int)(w:World)(hl:len<=140737488355328) :
  Calls Tryz.prog 224 #[.slice a len cap,.int .i64 i] w fun e w'=>e=.returned (.bool (inB len i))/\w=w':=by
 by_cases h1:0<=i
 ·by_cases h2:i<8*(len:Int)
  ·have e:inB len i=true:=by simp[inB,h1,h2]
   rw[e]
   go_enter Tryz.func224,Tryz.ntmps224
   go_wp2
   go_ret
   exact⟨rfl,rfl⟩
  ·have e:inB len i=false:=by simp[inB,h2]
   rw[e]
   go_enter Tryz.func224,Tryz.ntmps224
   go_wp2
   go_ret
   exact⟨rfl,rfl⟩
 ·have e:inB len i=false:=by simp[inB,h1]
  rw[e]
  go_enter Tryz.func224,Tryz.ntmps224
  go_wp2
  go_ret
  exact⟨rfl,rfl⟩
theorem pW (a:Option Addr)(len cap:Nat)(f t:Int)(w:World)(hl:len<=140737488355328) :
  Calls Tryz.prog 205 #[.slice a len cap,.int .i64 f,.int .i64 t] w fun e w'=>e=.returned (.bool (inP len f t))/\w=w':=by
 by_cases h1:0<=f
 ·by_cases h2:f<=t
  ·by_cases h3:t<=8*(len:Int)
   ·have e:inP len f t=true:=by simp[inP,h1,h2,h3]
    rw[e]
    go_enter Tryz.func205,Tryz.ntmps205
    go_wp2
    go_ret
    exact⟨rfl,rfl⟩
   ·have e:inP len f t=false:=by simp[inP,h3]
    rw[e]
    go_enter Tryz.func205,Tryz.ntmps205
    go_wp2
    go_ret
    exact⟨rfl,rfl⟩
  ·have e:inP len f t=false:=by simp[inP,h2]
   rw[e]
   go_enter Tryz.func205,Tryz.ntmps205
   go_wp2
   go_ret
   exact⟨rfl,rfl⟩
 ·have e:inP len f t=false:=by simp[inP,h1]
  rw[e]
  go_enter Tryz.func205,Tryz.ntmps205
  go_wp2
  go_ret
  exact⟨rfl,rfl⟩
theorem afA (i:Nat)(w:World)(hi:i<9223372036854775808) :
  Calls Tryz.prog 122 #[.int .i64 (i:Int)] w fun e w'=>e=.returned (.int .u8 ((2 ^ (i%8):Nat):Int))/\w=w':=by
 go_enter Tryz.func122,Tryz.ntmps122
 go_wp2
 go_ret
 exact⟨dY (alW (Nat.mod_lt i (by omega))),rfl⟩
theorem aaq (n:Nat):((255 / 2 ^ n:Nat):Int)=255 / 2 ^ n:=by rw[Int.natCast_ediv,Int.natCast_pow];rfl
theorem aar (n:Nat):((255*2 ^ n%256:Nat):Int)=255*2 ^ n%256:=by rw[Int.natCast_emod,Int.natCast_mul,Int.natCast_pow];rfl
theorem uS (lo hi:Nat):bits .and .u8 ((255*2 ^ lo%256:Nat):Int) ((255 / 2 ^ (8 - hi):Nat):Int)=((PM lo hi:Nat):Int):=by
 rw[u8_and_nat _ _ (Nat.mod_lt _ (by omega)) (Nat.lt_of_le_of_lt (Nat.div_le_self _ _) (by omega))]
 rfl
theorem ng (q f t:Nat)(w:World)(h1:f<8*q+8)(h2:8*q<t)(h3:t<9223372036854775808) :
  Calls Tryz.prog 207 #[.int .i64 (q:Int),.int .i64 (f:Int),.int .i64 (t:Int)] w fun e w'=>e=.returned (.int .u8 ((PM (f - 8*q) (min (t - 8*q) 8):Nat):Int))/\∃ m,w'=w.drewN m:=by
 by_cases hf:(f:Int) - 8*(q:Int)<0<;>by_cases ht:(8:Int)<(t:Int) - 8*(q:Int)
 all_goals go_enter Tryz.func207,Tryz.ntmps207
 all_goals go_wp2
 all_goals go_quiet (fail)
 all_goals go_wp2
 all_goals go_ret
 all_goals refine⟨dY ?_,_,rfl⟩
 ·rw[show f - 8*q=0 by omega,show min (t - 8*q) 8=8 by omega]
  exact uS 0 8
 ·rw[show f - 8*q=0 by omega,show min (t - 8*q) 8=t - 8*q by omega,← uS,aaq]
  rfl
 ·rw[show min (t - 8*q) 8=8 by omega,← uS,aar]
  rfl
 ·rw[show min (t - 8*q) 8=t - 8*q by omega,← uS,aar,aaq]
theorem ajc {x:Nat}:pc x<=8:=by unfold pc;omega
theorem af2 (x:Nat)(w:World)(hx:x<256) :
  Calls Tryz.prog 206 #[.int .u8 (x:Int)] w fun e w'=>e=.returned (.int .i64 ((pc x:Nat):Int))/\w'=w:=by
 have hp:pc x<=8:=ajc
 generalize hP:pc x=p at *
 go_enter Tryz.func206,Tryz.ntmps206
 go_wp2
 go_loop [0,3] (fun x n=>∃ y k:Nat,x=.int .u8 (y:Int)/\n=.int .i64 (k:Int)/\y<256/\pc y+k=p) (fun x _=>(intOf x).toNat)
 case atStart=>exact⟨x,0,rfl,rfl,hx,by omega⟩
 case round =>
  obtain⟨y,k,rfl,rfl,hy,hk⟩:=hrel
  by_cases h0:y=0
  ·subst h0
   go_wp2
   go_ret
   refine⟨dY ?_,rfl⟩
   have:pc 0=0:=by decide
   omega
  ·have HP:=hide (ajd hy h0)
   have hA:bits .and .u8 (y:Int) ((y:Int) - 1)=((y &&& (y - 1):Nat):Int):=by
    rw[← u8_and_nat y (y - 1) hy (by omega)]
    congr 1
    omega
   have hlt:y &&& (y - 1)<256:=Nat.lt_of_le_of_lt Nat.and_le_left hy
   have h0':¬ (y:Int)=0:=by omega
   generalize y &&& (y - 1)=y' at *
   go_wp2
   exact⟨⟨y',k+1,rfl,by go_num,hlt,by have:=HP.out;omega⟩,by have:=HP.out;simp[intOf];omega⟩
def cand (zs:List Int) (Q:Nat->Bool) (i:Nat):Bool:=!dQ zs i&&!Q i
def NoC (p:Nat->Bool) (f j:Nat):Prop:=∀ q,f<=q->q<j->p q=false
theorem NoC.start (p:Nat->Bool)(f:Nat):NoC p f f:=fun q h1 h2=>by omega
theorem NoC.gap {zs:List Int}{Q:Nat->Bool}{f j n:Nat}(h:NoC (cand zs Q) f j){x:Nat}(hx:x<=j+jR zs j n):NoC (cand zs Q) f x:=fun q h1 h2=>by
 by_cases hq:q<j
 ·exact h q h1 hq
 ·have:=rQ zs j n (q - j) (by omega)
  rw[show j+(q - j)=q by omega] at this
  simp[cand,this]
theorem NoC.next {p f x}(h:NoC p f x)(hx:p x=false):NoC p f (x+1):=fun q h1 h2=>by
 by_cases e:q=x
 ·rw[e];exact hx
 ·exact h q h1 (by omega)
def skp (p:Nat->Bool) (f:Nat):Nat->Nat
 | 0=>f
 | n+1=>if p f=true then f else skp p (f+1) n
theorem acM {p:Nat->Bool}:∀ {n f x:Nat},f<=x->x<=f+n->NoC p f x->(x=f+n\/p x=true)->skp p f n=x
 | 0,f,x,h1,h2,h3,h4=>by simp[skp];omega
 | n+1,f,x,h1,h2,h3,h4=>by
  unfold skp
  by_cases e:f=x
  ·subst e
   rcases h4 with h4 | h4
   ·omega
   ·rw[if_pos h4]
  ·have hf:p f=false:=h3 f (Nat.le_refl _) (by omega)
   rw[hf,if_neg (by simp)]
   exact acM (by omega) (by omega) (fun q a b=>h3 q (by omega) b) (by rcases h4 with h4 | h4;exact .inl (by omega);exact .inr h4)
theorem ag1 (p:Nat->Bool):∀ (n f:Nat),f<=skp p f n/\skp p f n<=f+n/\NoC p f (skp p f n)/\(skp p f n<f+n->p (skp p f n)=true)
 | 0,f=>⟨Nat.le_refl _,by simp[skp],fun q h1 h2=>by simp[skp] at h2;omega,fun h=>by simp[skp] at h⟩
 | n+1,f=>by
  unfold skp
  by_cases e:p f=true
  ·rw[if_pos e]
   exact⟨Nat.le_refl _,by omega,fun q h1 h2=>by omega,fun _=>e⟩
  ·rw[if_neg e]
   obtain⟨h1,h2,h3,h4⟩:=ag1 p n (f+1)
   refine⟨by omega,by omega,fun q a b=>?_,fun h=>h4 (by omega)⟩
   by_cases eq:q=f
   ·rw[eq];simpa using e
   ·exact h3 q (by omega) b
theorem ahZ (zs:List Int)(Q:Nat->Bool)(j n:Nat){x:Nat}(hx:x<=j+jR zs j n):NoC (cand zs Q) j x:=(NoC.start _ j).gap hx
def bgv (len:Nat) (zs:List Int) (i:Int):Bool:=inB len i&&dQ zs i.toNat
def bge (len:Nat) (i:Int):Int:=if inB len i then 0 else 2
theorem kY (i:Nat)(w:World)(hi:i<9223372036854775808)(p:Nat)(hp:2 ^ (i%8)=p) :
  Calls Tryz.prog 122 #[.int .i64 (i:Int)] w fun e w'=>e=.returned (.int .u8 (p:Int))/\w'=w:=by
 subst hp
 exact(afA i w hi).mono fun _ _ ⟨h1,h2⟩=>⟨h1,h2.symm⟩
theorem aax {r:Nat}(h:r<8):0<2 ^ r/\2 ^ r<256:=by
 have h:∀ k:Fin 8,0<2 ^ k.val/\2 ^ k.val<256:=by decide +kernel
 exact h ⟨r,by assumption⟩
theorem ahO {len}{i:Int}(h:inB len i=true):∃ n:Nat,i=(n:Int)/\n<8*len:=by
 simp[inB] at h
 exact⟨i.toNat,by omega,by omega⟩
theorem adJ {len n:Nat}(h:n<8*len):inB len (n:Int)=true:=by simp[inB];omega
theorem adI {len}{f t:Int}(h:inP len f t=true):∃ m n:Nat,f=(m:Int)/\t=(n:Int)/\m<=n/\n<=8*len:=by
 simp[inP] at h
 exact⟨f.toNat,t.toNat,by omega,by omega,by omega,by omega⟩
theorem ajw {len m n:Nat}(h1:m<=n)(h2:n<=8*len):inP len (m:Int) (n:Int)=true:=by simp[inP];omega
theorem agq (a:Option Addr)(len cap:Nat)(zs:List Int)(i:Int)(w:World)(hh:Has w a len zs)(hby:∀ z∈zs,0<=z/\z<=255)(hl:len<=140737488355328) :
  Calls Tryz.prog 209 #[.slice a len cap,.int .i64 i] w fun e w'=>e=.returned (.tuple #[.bool (bgv len zs i),.int .i64 (bge len i)])/\∃ m,w'=w.drewN m:=by
 have K:=hide (fun w=>rO a len cap i w hl)
 by_cases hin:inB len i=true
 ·obtain⟨n,rfl,hn⟩:=ahO hin
  have hv:bgv len zs (n:Int)=dQ zs n:=by rw[bgv,hin,Int.toNat_natCast,Bool.true_and]
  have he:bge len (n:Int)=0:=by rw[bge,hin];rfl
  rw[hv,he]
  rw[hin] at K
  obtain⟨b,off,rfl,hc⟩:=hh.2 (by omega)
  have hck:=hc (n / 8) (by omega)
  have hlt:=fG hby (n / 8)
  rw[← jG hby] at hck
  have hr8:n%8<8:=Nat.mod_lt _ (by omega)
  obtain⟨hp0,hp1⟩:=aax hr8
  have hA:=u8_and_nat (bJ zs (n / 8)) (2 ^ (n%8)) hlt hp1
  rw[ae0 hlt hr8] at hA
  have M:Hid (∀ w,Calls Tryz.prog 122 #[.int .i64 (n:Int)] w fun e w'=>e=.returned (.int .u8 ((2 ^ (n%8):Nat):Int))/\w'=w):=fun w=>kY n w (by omega) _ rfl
  have HB:Hid (dQ zs n=tb (bJ zs (n / 8)) (n%8)):=rfl
  generalize dQ zs n=B at *
  generalize bJ zs (n / 8)=x at *
  generalize 2 ^ (n%8)=p at *
  clear hc hh hby hin hv he
  cases hB:tb x (n%8)
  ·rw[hB] at hA HB
   have hA':bits .and .u8 (x:Int) (p:Int)=0:=by simpa using hA
   clear hA hB
   go_enter Tryz.func209,Tryz.ntmps209
   go_wp2_with (go_at_call 224;refine(ah K _).mono ?_;rintro e w' ⟨rfl,rfl⟩)
   go_quiet ((go_at_call 122;exact Calls.quiet_of_same (ah M _)))
   go_wp2
   go_ret2
   exact⟨aat HB.out.symm rfl,_,rfl⟩
  ·rw[hB] at hA HB
   have hA':bits .and .u8 (x:Int) (p:Int)=(p:Int):=by simpa using hA
   have hp':¬ (p:Int)=0:=by omega
   clear hA hB
   go_enter Tryz.func209,Tryz.ntmps209
   go_wp2_with (go_at_call 224;refine(ah K _).mono ?_;rintro e w' ⟨rfl,rfl⟩)
   go_quiet ((go_at_call 122;exact Calls.quiet_of_same (ah M _)))
   go_wp2
   go_ret2
   exact⟨aat (by rw[HB.out];simpa using hp') rfl,_,rfl⟩
 ·have hin':inB len i=false:=by simpa using hin
  have hv:bgv len zs i=false:=by rw[bgv,hin'];rfl
  have he:bge len i=2:=by rw[bge,hin'];rfl
  rw[hv,he]
  rw[hin'] at K
  clear hh hby hin hin' hv he
  go_enter Tryz.func209,Tryz.ntmps209
  go_wp2_with (go_at_call 224;refine(ah K _).mono ?_;rintro e w' ⟨rfl,rfl⟩)
  go_ret2
  exact⟨rfl,0,rfl⟩
def bcv (len:Nat) (zs:List Int) (f t:Int):Int:=if inP len f t then ((sD zs f.toNat (t.toNat - f.toNat):Nat):Int) else 0
def bce (len:Nat) (f t:Int):Int:=if inP len f t then 0 else 2
def bfv (len:Nat) (zs:List Int) (f t:Int):Int:=if inP len f t then (if jR zs f.toNat (t.toNat - f.toNat)<t.toNat - f.toNat then ((f.toNat+jR zs f.toNat (t.toNat - f.toNat):Nat):Int) else 0) else 0
def bfe (len:Nat) (zs:List Int) (f t:Int):Int:=if inP len f t then (if jR zs f.toNat (t.toNat - f.toNat)<t.toNat - f.toNat then 0 else 11) else 2
theorem ae1 {len:Nat}(zs:List Int){m n:Nat}(h:inP len (m:Int) (n:Int)=true):bfv len zs (m:Int) (n:Int)=(if jR zs m (n - m)<n - m then ((m+jR zs m (n - m):Nat):Int) else 0):=by
 rw[bfv,if_pos h]
 rfl
theorem ae2 {len:Nat}(zs:List Int){m n:Nat}(h:inP len (m:Int) (n:Int)=true):bfe len zs (m:Int) (n:Int)=(if jR zs m (n - m)<n - m then 0 else 11):=by
 rw[bfe,if_pos h]
 rfl
theorem count_any (a:Option Addr)(len cap:Nat)(zs:List Int)(f t:Int)(w:World)(hh:Has w a len zs)(hby:∀ z∈zs,0<=z/\z<=255)(hl:len<=140737488355328) :
  Calls Tryz.prog 177 #[.slice a len cap,.int .i64 f,.int .i64 t] w fun e w'=>e=.returned (.tuple #[.int .i64 (bcv len zs f t),.int .i64 (bce len f t)])/\∃ m,w'=w.drewN m:=by
 have K:=hide (fun w=>pW a len cap f t w hl)
 by_cases hin:inP len f t=true
 ·obtain⟨m,n,rfl,rfl,hmn,hn⟩:=adI hin
  have hv:bcv len zs (m:Int) (n:Int)=((sD zs m (n - m):Nat):Int):=by rw[bcv,if_pos hin];rfl
  have he:bce len (m:Int) (n:Int)=0:=by rw[bce,hin];rfl
  rw[hv,he]
  rw[hin] at K
  have HH:=hide hh
  have HB:=hide hby
  clear hh hby hin hv he
  go_enter Tryz.func177,Tryz.ntmps177
  go_wp2_with (go_at_call 205;refine(ah K _).mono ?_;rintro e w' ⟨rfl,rfl⟩)
  clear K
  go_loopw [8,9] (fun c j wr=>∃ q:Nat,m<8*q+8/\8*q<n+8/\j=.int .i64 (q:Int)/\c=.int .i64 ((sD zs m (min (8*q) n - m):Nat):Int)/\Hid (∃ k,wr=w.drewN k)) (fun _ j _=>n+8 - 8*(intOf j).toNat)
  case atStart=>exact⟨m / 8,by omega,by omega,by simp,by rw[show min (8*(m / 8)) n - m=0 by omega];rfl,0,rfl⟩
  case round =>
   obtain⟨q,hq1,hq2,rfl,rfl,hw⟩:=hrel
   have hcl:=aiv zs m (min (8*q) n - m)
   by_cases hlt:8*q<n
   ·have HS:=hide (aeo zs HB.out m n q hq1 hlt hmn)
    obtain⟨b,off,rfl,hc⟩:=HH.out.2 (by omega)
    have hck:wr.cell? ⟨b,off+q,none⟩=some (.int .u8 ((bJ zs q:Nat):Int)):=by
     obtain⟨k,rfl⟩:=hw.out
     rw[jG HB.out]
     exact hc q (by omega)
    have ahP:=fG HB.out q
    have P1:=hide (fun w=>ng q m n w hq1 hlt (by omega))
    have hPl:=ai3 (m - 8*q) (min (n - 8*q) 8)
    have hA:=u8_and_nat _ _ ahP hPl
    have hxl:bJ zs q &&& PM (m - 8*q) (min (n - 8*q) 8)<256:=Nat.lt_of_le_of_lt Nat.and_le_right hPl
    have hpl:pc (bJ zs q &&& PM (m - 8*q) (min (n - 8*q) 8))<=8:=ajc
    have P2:=hide (fun w=>af2 _ w hxl)
    generalize bJ zs q &&& PM (m - 8*q) (min (n - 8*q) 8)=y at *
    generalize PM (m - 8*q) (min (n - 8*q) 8)=y2 at *
    generalize bJ zs q=x at *
    generalize pc y=y3 at *
    generalize sD zs m (min (8*q) n - m)=c0 at *
    have hqq:(q:Int)<(len:Int):=by omega
    have hlt':8*(q:Int)<(n:Int):=by omega
    clear hc hlt
    go_wp2
    go_quiet (first
     | (go_at_call 207;exact Calls.quiet_of (ah P1 _))
     | (go_at_call 206;exact Calls.quiet_of_same (ah P2 _)))
    go_wp2
    refine⟨⟨q+1,by omega,by omega,by go_num,agV (by rw[HS.out];omega),?_⟩,by simp[intOf];omega⟩
    obtain⟨k,rfl⟩:=hw.out
    exact⟨_,World.drewN_drewN _ _ _⟩
   ·have hlt':¬ 8*(q:Int)<(n:Int):=by omega
    have HE:Hid (sD zs m (min (8*q) n - m)=sD zs m (n - m)):=by show _=_;rw[show min (8*q) n=n by omega]
    generalize sD zs m (min (8*q) n - m)=c0 at *
    go_wp2
    go_ret2
    exact⟨lX (by rw[HE.out]) rfl,hw.out⟩
 ·have hin':inP len f t=false:=by simpa using hin
  have hv:bcv len zs f t=0:=by rw[bcv,hin'];rfl
  have he:bce len f t=2:=by rw[bce,hin'];rfl
  rw[hv,he]
  rw[hin'] at K
  clear hh hby hin hin' hv he
  go_enter Tryz.func177,Tryz.ntmps177
  go_wp2_with (go_at_call 205;refine(ah K _).mono ?_;rintro e w' ⟨rfl,rfl⟩)
  go_ret2
  exact⟨rfl,0,rfl⟩
theorem ado (w:World):Own w.heap.size (w.alloc (.cells #[] 5)) (some ⟨w.heap.size,0,none⟩) 0 0 [] :=
 ⟨rfl,Nat.le_refl _,by unfold maxLen;omega,.inr ⟨w.heap.size,#[],rfl,Nat.le_refl _,World.alloc_heap_new _ _,rfl,rfl⟩⟩
theorem Has.ajo {w w':World}{a len zs}(h:Has w a len zs)(hb:Below w.heap.size w w'):Has w' a len zs:=by
 refine⟨h.1,fun hp=>?_⟩
 obtain⟨b,off,e,hc⟩:=h.2 hp
 exact⟨b,off,e,fun j hj=>by rw[hb.cell (p:=⟨b,off+j,none⟩) (aO (hc j hj))];exact hc j hj⟩
theorem iO (x:Addr)(len cap:Nat)(zs:List Int)(w:World)(hr:Has w (some x) len zs)(hn:len<=140737488351232) :
  Calls Tryz.prog 125 #[.slice (some x) len cap] w fun e w'=>∃ a c,e=.returned (.slice a len c)/\Own w.heap.size w' a len c zs/\Below w.heap.size w w':=by
 have hb0:Below w.heap.size w (w.alloc (.cells #[] 5)):=(Below.refl _ w).alloc (Nat.le_refl _) _
 obtain⟨a1,c1,w1,r1,o1,_,b1⟩:=jg (ado w) hb0.size cap (hr.ajo hb0) (by omega)
 rw[Nat.zero_add] at r1 o1
 rw[List.nil_append] at o1
 have R:=hide r1
 have O:=hide o1
 have B:=hide (hb0.trans b1)
 clear r1 o1 b1 hb0 hr hn
 have q:∀ (w:World) (a:Option Addr) (n c n' c':Nat),(binOp .eql 71 (.slice a n c) (.slice none n' c')).run Tryz.prog w=.ok (.bool a.isNone) w:=fun w a n c n' c'=>Lib.run_eql_slice_nil w _ _ a n c n' c' Tryz.underlying71
 go_enter Tryz.func125,Tryz.ntmps125
 go_wp2_with (at_builtin;refine wpList_append_run 71 rfl _ _ rfl _ _ _ rfl rfl (ah R) ?_)
 go_ret
 exact⟨_,_,rfl,ah O,ah B⟩
def lenOf:Value->Nat | .slice _ n _=>n | _=>0
end Go.Proofs.YtefdkpbmeoakgaaGreatDoor
