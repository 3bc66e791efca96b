/- Joined: GBit, BMath, Sum, GFloat. -/
import Derived.Laws.BitsAllLaws
import Derived.Laws.FloatArith
import Derived.Laws.ComplexArith
/- Bits of bytes, and of lists of bytes: read, set, counted. Of no function of a program. -/
namespace Go.Proofs.YtbofhdfhhbgdgaaGreatDoor
set_option maxRecDepth 100000
set_option maxHeartbeats 8000000
set_option linter.unusedVariables false
def tb (n k:Nat):Bool:=n / 2 ^ k%2==1
def sb (n k:Nat) (on:Bool):Nat:=if on then (if tb n k then n else n+2 ^ k) else (if tb n k then n - 2 ^ k else n)
theorem zM:∀ n:Fin 256,∀ k:Fin 8,n.val &&& 2 ^ k.val=if tb n.val k.val then 2 ^ k.val else 0:=by decide +kernel
theorem abU:∀ n:Fin 256,∀ k:Fin 8,n.val ||| 2 ^ k.val=sb n.val k.val true:=by decide +kernel
theorem qm:∀ n:Fin 256,∀ k:Fin 8,n.val &&& (255 - 2 ^ k.val)=sb n.val k.val false:=by decide +kernel
theorem zK:∀ n:Fin 256,∀ k:Fin 8,n.val ^^^ 2 ^ k.val=sb n.val k.val (!tb n.val k.val):=by decide +kernel
theorem acK:∀ n:Fin 256,∀ k:Fin 8,sb n.val k.val true<256/\sb n.val k.val false<256:=by decide +kernel
theorem ac2:∀ n:Fin 256,∀ k:Fin 8,tb (sb n.val k.val true) k.val=true/\tb (sb n.val k.val false) k.val=false:=by decide +kernel
theorem uH:∀ n:Fin 256,∀ k:Fin 8,∀ m:Fin 8,m.val≠k.val->tb (sb n.val k.val true) m.val=tb n.val m.val/\tb (sb n.val k.val false) m.val=tb n.val m.val:=by decide +kernel
theorem nO:∀ n:Fin 256,∀ k:Fin 8,sb n.val k.val (tb n.val k.val)=n.val/\sb (sb n.val k.val true) k.val (tb n.val k.val)=n.val/\sb (sb n.val k.val false) k.val (tb n.val k.val)=n.val:=by decide +kernel
theorem xM:∀ k:Fin 8,tb 255 k.val=true:=by decide +kernel
theorem aaK:∀ n:Fin 256,n.val≠255->∃ k:Fin 8,tb n.val k.val=false:=by decide +kernel
theorem ae1 {n k:Nat}(hn:n<256)(hk:k<8):n &&& 2 ^ k=if tb n k then 2 ^ k else 0:=zM ⟨n,hn⟩ ⟨k,hk⟩
theorem ahl {n k:Nat}(hn:n<256)(hk:k<8):n ||| 2 ^ k=sb n k true:=abU ⟨n,hn⟩ ⟨k,hk⟩
theorem abV {n k:Nat}(hn:n<256)(hk:k<8):n &&& (255 - 2 ^ k)=sb n k false:=qm ⟨n,hn⟩ ⟨k,hk⟩
theorem alf {n k:Nat}(hn:n<256)(hk:k<8):n ^^^ 2 ^ k=sb n k (!tb n k):=zK ⟨n,hn⟩ ⟨k,hk⟩
theorem akA {n k:Nat}(hn:n<256)(hk:k<8)(on:Bool):sb n k on<256:=by
 have:=acK ⟨n,hn⟩ ⟨k,hk⟩
 cases on
 ·exact this.2
 ·exact this.1
theorem ak3 {n k:Nat}(hn:n<256)(hk:k<8)(on:Bool):tb (sb n k on) k=on:=by
 have:=ac2 ⟨n,hn⟩ ⟨k,hk⟩
 cases on
 ·exact this.2
 ·exact this.1
theorem aff {n k m:Nat}(hn:n<256)(hk:k<8)(hm:m<8)(h:m≠k)(on:Bool):tb (sb n k on) m=tb n m:=by
 have:=uH ⟨n,hn⟩ ⟨k,hk⟩ ⟨m,hm⟩ h
 cases on
 ·exact this.2
 ·exact this.1
theorem ak9 {n k:Nat}(hn:n<256)(hk:k<8):sb n k (tb n k)=n:=(nO ⟨n,hn⟩ ⟨k,hk⟩).1
theorem akB {n k:Nat}(hn:n<256)(hk:k<8)(on:Bool):sb (sb n k on) k (tb n k)=n:=by
 have:=(nO ⟨n,hn⟩ ⟨k,hk⟩).2
 cases on
 ·exact this.2
 ·exact this.1
theorem ak4 {k:Nat}(hk:k<8):tb 255 k=true:=xM ⟨k,hk⟩
theorem alF {n:Nat}(hn:n<256)(h:n≠255):∃ k,k<8/\tb n k=false:=by
 obtain⟨k,hk⟩:=aaK ⟨n,hn⟩ h
 exact⟨k.val,k.isLt,hk⟩
def cu (zs:List Int) (q:Nat):Nat:=(zs[q]?.getD 0).toNat
def dD (zs:List Int) (i:Nat):Bool:=tb (cu zs (i / 8)) (i%8)
def setB (zs:List Int) (i:Nat) (on:Bool):List Int:=zs.set (i / 8) ((sb (cu zs (i / 8)) (i%8) on:Nat):Int)
theorem gB {zs:List Int}(h:∀ z∈zs,0<=z/\z<=255)(q:Nat):cu zs q<256:=by
 unfold cu
 by_cases hq:q<zs.length
 ·rw[List.getElem?_eq_getElem hq]
  have:=h _ (List.getElem_mem hq)
  simp only[Option.getD_some]
  omega
 ·rw[List.getElem?_eq_none (by omega)];simp
theorem kZ {zs:List Int}(h:∀ z∈zs,0<=z/\z<=255)(q:Nat):((cu zs q:Nat):Int)=zs[q]?.getD 0:=by
 unfold cu
 by_cases hq:q<zs.length
 ·rw[List.getElem?_eq_getElem hq]
  have:=h _ (List.getElem_mem hq)
  simp only[Option.getD_some]
  omega
 ·rw[List.getElem?_eq_none (by omega)];simp
theorem iw (zs:List Int)(i:Nat)(on:Bool):(setB zs i on).length=zs.length:=by simp[setB]
theorem nN {zs:List Int}(h:∀ z∈zs,0<=z/\z<=255)(i:Nat)(on:Bool):∀ z∈setB zs i on,0<=z/\z<=255:=by
 intro z hz
 have hb:=akA (gB h (i / 8)) (Nat.mod_lt i (by omega)) on
 rcases List.mem_or_eq_of_mem_set hz with hz | rfl
 ·exact h z hz
 ·omega
theorem qQ {zs:List Int}(i:Nat)(hi:i<8*zs.length)(on:Bool)(q:Nat):cu (setB zs i on) q=if q=i / 8 then sb (cu zs (i / 8)) (i%8) on else cu zs q:=by
 unfold setB
 by_cases h:q=i / 8
 ·subst h
  simp only[if_true]
  unfold cu
  rw[List.getElem?_set_self (by omega)]
  simp
 ·rw[if_neg h]
  unfold cu
  rw[List.getElem?_set_ne (by omega)]
theorem jm {zs:List Int}(h:∀ z∈zs,0<=z/\z<=255)(i:Nat)(hi:i<8*zs.length)(on:Bool):dD (setB zs i on) i=on:=by
 unfold dD
 rw[qQ i hi,if_pos rfl]
 exact ak3 (gB h _) (Nat.mod_lt i (by omega)) on
theorem iP {zs:List Int}(h:∀ z∈zs,0<=z/\z<=255)(i j:Nat)(hi:i<8*zs.length)(hne:j≠i)(on:Bool):dD (setB zs i on) j=dD zs j:=by
 unfold dD
 rw[qQ i hi]
 by_cases hq:j / 8=i / 8
 ·rw[if_pos hq,hq]
  exact aff (gB h _) (Nat.mod_lt i (by omega)) (Nat.mod_lt j (by omega)) (by omega) on
 ·rw[if_neg hq]
def jK (zs:List Int) (f:Nat):Nat->Nat
 | 0=>0
 | n+1=>if dD zs f then 1+jK zs (f+1) n else 0
theorem zf (zs:List Int)(f n:Nat):jK zs f n<=n:=by
 induction n generalizing f with
 | zero=>simp[jK]
 | succ n ih=>simp only[jK];have:=ih (f+1);split<;>omega
theorem qL (zs:List Int)(f n k:Nat)(hk:k<jK zs f n):dD zs (f+k)=true:=by
 induction n generalizing f k with
 | zero=>simp[jK] at hk
 | succ n ih =>
  simp only[jK] at hk
  by_cases hb:dD zs f=true
  ·rw[if_pos hb] at hk
   by_cases h0:k=0
   ·subst h0;exact hb
   ·have:=ih (f+1) (k - 1) (by omega)
    rw[show f+1+(k - 1)=f+k by omega] at this
    exact this
  ·rw[if_neg hb] at hk;omega
theorem zh (zs:List Int)(f n:Nat)(h:jK zs f n<n):dD zs (f+jK zs f n)=false:=by
 induction n generalizing f with
 | zero=>omega
 | succ n ih =>
  simp only[jK] at h ⊢
  by_cases hb:dD zs f=true
  ·rw[if_pos hb] at h ⊢
   have:=ih (f+1) (by omega)
   rw[show f+(1+jK zs (f+1) n)=f+1+jK zs (f+1) n by omega]
   exact this
  ·rw[if_neg hb]
   simpa using hb
theorem aiw (zs:List Int)(f n g:Nat)(hg:g<n)(h1:∀ k,k<g->dD zs (f+k)=true)(h2:dD zs (f+g)=false):jK zs f n=g:=by
 have a:=zf zs f n
 by_cases hl:jK zs f n<g
 ·have:=zh zs f n (by omega)
  rw[h1 _ hl] at this
  cases this
 ·by_cases hgt:g<jK zs f n
  ·have:=qL zs f n g hgt
   rw[h2] at this
   cases this
  ·omega
theorem adS (zs:List Int)(f n:Nat)(h:∀ k,k<n->dD zs (f+k)=true):jK zs f n=n:=by
 by_cases hl:jK zs f n<n
 ·have:=zh zs f n hl
  rw[h _ hl] at this
  cases this
 ·have:=zf zs f n
  omega
def PM (lo hi:Nat):Nat:=(255*2 ^ lo%256) &&& (255 / 2 ^ (8 - hi))
def pc (x:Nat):Nat:=x%2+x / 2%2+x / 4%2+x / 8%2+x / 16%2+x / 32%2+x / 64%2+x / 128%2
def cb (x lo:Nat):Nat->Nat
 | 0=>0
 | n+1=>cb x lo n+if tb x (lo+n) then 1 else 0
theorem amO {k:Nat}(hk:k<8):(2:Int) ^ k%256=((2 ^ k:Nat):Int):=by
 have h:∀ k:Fin 8,(2:Int) ^ k.val%256=((2 ^ k.val:Nat):Int):=by decide +kernel
 exact h ⟨k,hk⟩
theorem xJ (n k:Nat):tb n k=n.testBit k:=by
 rw[Nat.testBit_eq_decide_div_mod_eq]
 unfold tb
 by_cases h:n / 2 ^ k%2=1<;>simp[h]
theorem aiY (m n k:Nat):tb (m &&& n) k=(tb m k&&tb n k):=by
 rw[xJ,xJ,xJ,Nat.testBit_and]
theorem akg (lo hi:Nat):PM lo hi<256:=by
 unfold PM
 exact Nat.lt_of_le_of_lt Nat.and_le_left (Nat.mod_lt _ (by omega))
theorem ac3:∀ lo:Fin 8,∀ hi:Fin 9,∀ k:Fin 8,tb (PM lo.val hi.val) k.val=decide (lo.val<=k.val/\k.val<hi.val):=by decide +kernel
theorem ak5 {lo hi k:Nat}(h1:lo<8)(h2:hi<=8)(hk:k<8):tb (PM lo hi) k=decide (lo<=k/\k<hi):=ac3 ⟨lo,h1⟩ ⟨hi,by omega⟩ ⟨k,hk⟩
theorem aaJ:∀ x:Fin 256,∀ k:Fin 8,tb (255 ^^^ x.val) k.val=!tb x.val k.val:=by decide +kernel
theorem abt:∀ x:Fin 256,255 ^^^ x.val<256:=by decide +kernel
theorem xK:∀ x:Fin 256,x.val≠0->∃ k:Fin 8,tb x.val k.val=true:=by decide +kernel
theorem ah0 (k:Nat):tb 0 k=false:=by simp[tb]
def zs8 (x lo hi:Nat):Nat:=(255 ^^^ x) &&& PM lo hi
theorem aiN (x lo hi:Nat):zs8 x lo hi<256:=Nat.lt_of_le_of_lt Nat.and_le_right (akg lo hi)
theorem aiX {x lo hi k:Nat}(hx:x<256)(h1:lo<8)(h2:hi<=8)(hk:k<8):tb (zs8 x lo hi) k=(!tb x k&&decide (lo<=k/\k<hi)):=by
 unfold zs8
 rw[aiY,ak5 h1 h2 hk]
 have:=aaJ ⟨x,hx⟩ ⟨k,hk⟩
 rw[this]
theorem ah1 {x:Nat}(hx:x<256)(h:x≠0):∃ k,k<8/\tb x k=true:=by
 obtain⟨k,hk⟩:=xK ⟨x,hx⟩ h
 exact⟨k.val,k.isLt,hk⟩
theorem abW (zs:List Int)(q k:Nat)(hk:k<8):dD zs (8*q+k)=tb (cu zs q) k:=by
 unfold dD
 rw[show (8*q+k) / 8=q by omega,show (8*q+k)%8=k by omega]
def st (c:Nat):Nat:=c / 2 ^^^ (if c%2=1 then 3988292384 else 0)
theorem acf (a b k:Nat):(a ^^^ b) / 2 ^ k=a / 2 ^ k ^^^ b / 2 ^ k:=by
 rw[← Nat.shiftRight_eq_div_pow,← Nat.shiftRight_eq_div_pow,← Nat.shiftRight_eq_div_pow,Nat.shiftRight_xor_distrib]
theorem ahr (a b:Nat):(a ^^^ b) / 2=a / 2 ^^^ b / 2:=acf a b 1
theorem wY (a b:Nat):(a ^^^ b) / 16=a / 16 ^^^ b / 16:=acf a b 4
theorem ace (a b k:Nat):(a ^^^ b)%2 ^ k=(a%2 ^ k) ^^^ (b%2 ^ k):=Nat.xor_mod_two_pow
theorem aeQ (a b c d:Nat):(a ^^^ b) ^^^ (c ^^^ d)=(a ^^^ c) ^^^ (b ^^^ d):=by
 rw[Nat.xor_assoc,← Nat.xor_assoc b c d,Nat.xor_comm b c,Nat.xor_assoc c b d,← Nat.xor_assoc]
theorem ajd (a b:Nat):st (a ^^^ b)=st a ^^^ st b:=by
 unfold st
 rw[ahr,aeQ]
 congr 1
 have h:=ace a b 1
 rw[Nat.pow_one] at h
 rcases Nat.mod_two_eq_zero_or_one a with ha | ha<;>rcases Nat.mod_two_eq_zero_or_one b with hb | hb<;>rw[h,ha,hb]<;>decide
theorem qG {a b:Nat}(ha:a<4294967296)(hb:b<4294967296):a ^^^ b<4294967296:=Nat.xor_lt_two_pow (n:=32) ha hb
theorem afi {c:Nat}(h:c<4294967296):st c<4294967296:=by
 unfold st
 refine qG (by omega) ?_
 split<;>omega
theorem rO (q:Nat):st (2*q)=q:=by
 unfold st
 rw[if_neg (by omega),Nat.xor_zero]
 omega
def st4 (c:Nat):Nat:=st (st (st (st c)))
theorem ah8 (a b:Nat):st4 (a ^^^ b)=st4 a ^^^ st4 b:=by simp only[st4,ajd]
theorem xP (q:Nat):st4 (16*q)=q:=by
 have h:16*q=2*(2*(2*(2*q))):=by omega
 rw[st4,h,rO,rO,rO,rO]
def tab (r:Nat):Nat:=([0,498536548,997073096,651767980,1994146192,1802195444,1303535960,1342533948,3988292384,4027552580,3604390888,3412177804,2607071920,2262029012,2685067896,3183342108][r]?).getD 0
theorem ac8 (r:Nat)(h:r<16):st4 r=tab r:=by
 have:∀ r:Fin 16,st4 r.1=tab r.1:=by decide +kernel
 exact this ⟨r,h⟩
theorem ajb (r:Nat):tab r<4294967296:=by
 by_cases h:r<16
 ·have:∀ r:Fin 16,tab r.1<4294967296:=by decide +kernel
  exact this ⟨r,h⟩
 ·rw[tab,List.getElem?_eq_none (by simp;omega)]
  decide
theorem xQ (q r:Nat)(h:r<16):16*q ^^^ r=16*q+r:=by
 have h1:=wY (16*q) r
 have h2:=ace (16*q) r 4
 have e1:16*q / 16=q:=by omega
 have e2:r / 16=0:=by omega
 have e3:16*q%2 ^ 4=0:=by omega
 have e4:r%2 ^ 4=r:=by omega
 rw[e1,e2,Nat.xor_zero] at h1
 rw[e3,e4,Nat.zero_xor] at h2
 omega
theorem afj (c:Nat):st4 c=c / 16 ^^^ tab (c%16):=by
 have h:c=16*(c / 16) ^^^ (c%16):=by rw[xQ _ _ (by omega)];omega
 have hr:c%16<16:=by omega
 have h2:=ah8 (16*(c / 16)) (c%16)
 rw[xP,ac8 _ hr] at h2
 rw[← h2,← h]
theorem ac9 {c:Nat}(h:c<4294967296):st4 c<4294967296:=afi (afi (afi (afi h)))
def upd (c x:Nat):Nat:=st4 (st4 (c ^^^ x))
theorem aiT {c x:Nat}(h:c<4294967296)(hx:x<256):upd c x<4294967296:=ac9 (ac9 (qG h (by omega)))
def fol (c:Nat) (zs:List Int):Nat:=zs.foldl (fun c z=>upd c z.toNat) c
def aeK (zs:List Int):Prop:=∀ z∈zs,0<=z/\z<=255
theorem agk (c:Nat)(z:Int)(zs:List Int):fol c (z::zs)=fol (upd c z.toNat) zs:=rfl
theorem abD (c:Nat)(xs ys:List Int):fol c (xs++ys)=fol (fol c xs) ys:=by simp[fol]
theorem ahh {zs}(hz:aeK zs):∀ {c:Nat},c<4294967296->fol c zs<4294967296:=by
 induction zs with
 | nil=>intro c h;exact h
 | cons z zs ih =>
  intro c h
  have h0:=hz z (by simp)
  rw[agk]
  exact ih (fun y hy=>hz y (by simp[hy])) (aiT h (by omega))
theorem agj (c:Nat)(zs:List Int)(k:Nat)(h:k<zs.length):fol c (zs.take (k+1))=upd (fol c (zs.take k)) (zs[k]?.getD 0).toNat:=by
 rw[List.take_succ_eq_append_getElem h,abD,List.getElem?_eq_getElem h]
 rfl
def agF (s:Nat) (zs:List Int):Nat:=fol (s ^^^ 4294967295) zs ^^^ 4294967295
def ac6 (zs:List Int):Nat:=fol 4294967295 zs ^^^ 4294967295
theorem aeA (zs:List Int):agF 0 zs=ac6 zs:=by rw[agF,Nat.zero_xor,ac6]
theorem ac5 {zs}(hz:aeK zs):ac6 zs<4294967296:=qG (ahh hz (by omega)) (by omega)
end Go.Proofs.YtbofhdfhhbgdgaaGreatDoor
/- Whole numbers as float64: each operation on whole numbers below 2^53 is exact. Plain mathematics over the words of the format, of no function of the program. -/
namespace Go.Proofs.YtbofhdfhhbgdgaaGreatDoor
set_option maxRecDepth 100000
set_option maxHeartbeats 8000000
open Ieee
set_option linter.unusedVariables false
def Rd (x:Nat) (n:Int):Prop:=∃ (s:Bool) (A k:Nat),double.read x=.number s (A*2 ^ k) (-(k:Int))/\n=signed s A 0
end Go.Proofs.YtbofhdfhhbgdgaaGreatDoor
