/- Joined: GBit, BMath, Sum, GFloat. -/
import Derived.Laws.BitsAllLaws
import Derived.Laws.FloatArith
import Derived.Laws.ComplexArith
/- Bits of bytes, and of lists of bytes: read, set, counted. Of no function of a program. -/
namespace Go.Proofs.YtlpgfigbpjpdhaaGreatDoor
set_option maxRecDepth 100000
set_option maxHeartbeats 8000000
set_option linter.unusedVariables false
def tb (n k:Nat):Bool:=n / 2 ^ k%2==1
def sb (n k:Nat) (on:Bool):Nat:=if on then (if tb n k then n else n+2 ^ k) else (if tb n k then n - 2 ^ k else n)
theorem aac:∀ n:Fin 256,∀ k:Fin 8,n.val &&& 2 ^ k.val=if tb n.val k.val then 2 ^ k.val else 0:=by decide +kernel
theorem abV:∀ n:Fin 256,∀ k:Fin 8,n.val ||| 2 ^ k.val=sb n.val k.val true:=by decide +kernel
theorem qN:∀ n:Fin 256,∀ k:Fin 8,n.val &&& (255 - 2 ^ k.val)=sb n.val k.val false:=by decide +kernel
theorem zZ:∀ n:Fin 256,∀ k:Fin 8,n.val ^^^ 2 ^ k.val=sb n.val k.val (!tb n.val k.val):=by decide +kernel
theorem acG:∀ n:Fin 256,∀ k:Fin 8,sb n.val k.val true<256/\sb n.val k.val false<256:=by decide +kernel
theorem ac0:∀ n:Fin 256,∀ k:Fin 8,tb (sb n.val k.val true) k.val=true/\tb (sb n.val k.val false) k.val=false:=by decide +kernel
theorem vG:∀ n:Fin 256,∀ k:Fin 8,∀ m:Fin 8,m.val≠k.val->tb (sb n.val k.val true) m.val=tb n.val m.val/\tb (sb n.val k.val false) m.val=tb n.val m.val:=by decide +kernel
theorem o9:∀ n:Fin 256,∀ k:Fin 8,sb n.val k.val (tb n.val k.val)=n.val/\sb (sb n.val k.val true) k.val (tb n.val k.val)=n.val/\sb (sb n.val k.val false) k.val (tb n.val k.val)=n.val:=by decide +kernel
theorem yh:∀ k:Fin 8,tb 255 k.val=true:=by decide +kernel
theorem aaO:∀ n:Fin 256,n.val≠255->∃ k:Fin 8,tb n.val k.val=false:=by decide +kernel
theorem aeu {n k:Nat}(hn:n<256)(hk:k<8):n &&& 2 ^ k=if tb n k then 2 ^ k else 0:=aac ⟨n,hn⟩ ⟨k,hk⟩
theorem agI {n k:Nat}(hn:n<256)(hk:k<8):n ||| 2 ^ k=sb n k true:=abV ⟨n,hn⟩ ⟨k,hk⟩
theorem abW {n k:Nat}(hn:n<256)(hk:k<8):n &&& (255 - 2 ^ k)=sb n k false:=qN ⟨n,hn⟩ ⟨k,hk⟩
theorem akB {n k:Nat}(hn:n<256)(hk:k<8):n ^^^ 2 ^ k=sb n k (!tb n k):=zZ ⟨n,hn⟩ ⟨k,hk⟩
theorem akh {n k:Nat}(hn:n<256)(hk:k<8)(on:Bool):sb n k on<256:=by
 have:=acG ⟨n,hn⟩ ⟨k,hk⟩
 cases on
 ·exact this.2
 ·exact this.1
theorem ajY {n k:Nat}(hn:n<256)(hk:k<8)(on:Bool):tb (sb n k on) k=on:=by
 have:=ac0 ⟨n,hn⟩ ⟨k,hk⟩
 cases on
 ·exact this.2
 ·exact this.1
theorem aeR {n k m:Nat}(hn:n<256)(hk:k<8)(hm:m<8)(h:m≠k)(on:Bool):tb (sb n k on) m=tb n m:=by
 have:=vG ⟨n,hn⟩ ⟨k,hk⟩ ⟨m,hm⟩ h
 cases on
 ·exact this.2
 ·exact this.1
theorem akg {n k:Nat}(hn:n<256)(hk:k<8):sb n k (tb n k)=n:=(o9 ⟨n,hn⟩ ⟨k,hk⟩).1
theorem aki {n k:Nat}(hn:n<256)(hk:k<8)(on:Bool):sb (sb n k on) k (tb n k)=n:=by
 have:=(o9 ⟨n,hn⟩ ⟨k,hk⟩).2
 cases on
 ·exact this.2
 ·exact this.1
theorem ajZ {k:Nat}(hk:k<8):tb 255 k=true:=yh ⟨k,hk⟩
theorem alb {n:Nat}(hn:n<256)(h:n≠255):∃ k,k<8/\tb n k=false:=by
 obtain⟨k,hk⟩:=aaO ⟨n,hn⟩ h
 exact⟨k.val,k.isLt,hk⟩
def bF (zs:List Int) (q:Nat):Nat:=(zs[q]?.getD 0).toNat
def dM (zs:List Int) (i:Nat):Bool:=tb (bF zs (i / 8)) (i%8)
def setB (zs:List Int) (i:Nat) (on:Bool):List Int:=zs.set (i / 8) ((sb (bF zs (i / 8)) (i%8) on:Nat):Int)
theorem fK {zs:List Int}(h:∀ z∈zs,0<=z/\z<=255)(q:Nat):bF zs q<256:=by
 unfold bF
 by_cases hq:q<zs.length
 ·rw[List.getElem?_eq_getElem hq]
  have:=h _ (List.getElem_mem hq)
  simp only[Option.getD_some]
  omega
 ·rw[List.getElem?_eq_none (by omega)];simp
theorem jC {zs:List Int}(h:∀ z∈zs,0<=z/\z<=255)(q:Nat):((bF zs q:Nat):Int)=zs[q]?.getD 0:=by
 unfold bF
 by_cases hq:q<zs.length
 ·rw[List.getElem?_eq_getElem hq]
  have:=h _ (List.getElem_mem hq)
  simp only[Option.getD_some]
  omega
 ·rw[List.getElem?_eq_none (by omega)];simp
theorem jO (zs:List Int)(i:Nat)(on:Bool):(setB zs i on).length=zs.length:=by simp[setB]
theorem vM {zs:List Int}(h:∀ z∈zs,0<=z/\z<=255)(i:Nat)(on:Bool):∀ z∈setB zs i on,0<=z/\z<=255:=by
 intro z hz
 have hb:=akh (fK h (i / 8)) (Nat.mod_lt i (by omega)) on
 rcases List.mem_or_eq_of_mem_set hz with hz | rfl
 ·exact h z hz
 ·omega
theorem sD {zs:List Int}(i:Nat)(hi:i<8*zs.length)(on:Bool)(q:Nat):bF (setB zs i on) q=if q=i / 8 then sb (bF zs (i / 8)) (i%8) on else bF zs q:=by
 unfold setB
 by_cases h:q=i / 8
 ·subst h
  simp only[if_true]
  unfold bF
  rw[List.getElem?_set_self (by omega)]
  simp
 ·rw[if_neg h]
  unfold bF
  rw[List.getElem?_set_ne (by omega)]
theorem qB {zs:List Int}(h:∀ z∈zs,0<=z/\z<=255)(i:Nat)(hi:i<8*zs.length)(on:Bool):dM (setB zs i on) i=on:=by
 unfold dM
 rw[sD i hi,if_pos rfl]
 exact ajY (fK h _) (Nat.mod_lt i (by omega)) on
theorem nO {zs:List Int}(h:∀ z∈zs,0<=z/\z<=255)(i j:Nat)(hi:i<8*zs.length)(hne:j≠i)(on:Bool):dM (setB zs i on) j=dM zs j:=by
 unfold dM
 rw[sD i hi]
 by_cases hq:j / 8=i / 8
 ·rw[if_pos hq,hq]
  exact aeR (fK h _) (Nat.mod_lt i (by omega)) (Nat.mod_lt j (by omega)) (by omega) on
 ·rw[if_neg hq]
def rY (zs:List Int) (f:Nat):Nat->Nat
 | 0=>0
 | n+1=>rY zs f n+if dM zs (f+n) then 1 else 0
theorem ahY (zs:List Int)(f n:Nat):rY zs f n<=n:=by
 induction n with
 | zero=>simp[rY]
 | succ n ih=>simp only[rY];split<;>omega
def jL (zs:List Int) (f:Nat):Nat->Nat
 | 0=>0
 | n+1=>if dM zs f then 1+jL zs (f+1) n else 0
theorem zy (zs:List Int)(f n:Nat):jL zs f n<=n:=by
 induction n generalizing f with
 | zero=>simp[jL]
 | succ n ih=>simp only[jL];have:=ih (f+1);split<;>omega
theorem rO (zs:List Int)(f n k:Nat)(hk:k<jL zs f n):dM zs (f+k)=true:=by
 induction n generalizing f k with
 | zero=>simp[jL] at hk
 | succ n ih =>
  simp only[jL] at hk
  by_cases hb:dM zs f=true
  ·rw[if_pos hb] at hk
   by_cases h0:k=0
   ·subst h0;exact hb
   ·have:=ih (f+1) (k - 1) (by omega)
    rw[show f+1+(k - 1)=f+k by omega] at this
    exact this
  ·rw[if_neg hb] at hk;omega
theorem zA (zs:List Int)(f n:Nat)(h:jL zs f n<n):dM zs (f+jL zs f n)=false:=by
 induction n generalizing f with
 | zero=>omega
 | succ n ih =>
  simp only[jL] at h ⊢
  by_cases hb:dM zs f=true
  ·rw[if_pos hb] at h ⊢
   have:=ih (f+1) (by omega)
   rw[show f+(1+jL zs (f+1) n)=f+1+jL zs (f+1) n by omega]
   exact this
  ·rw[if_neg hb]
   simpa using hb
theorem ahN (zs:List Int)(f n g:Nat)(hg:g<n)(h1:∀ k,k<g->dM zs (f+k)=true)(h2:dM zs (f+g)=false):jL zs f n=g:=by
 have a:=zy zs f n
 by_cases hl:jL zs f n<g
 ·have:=zA zs f n (by omega)
  rw[h1 _ hl] at this
  cases this
 ·by_cases hgt:g<jL zs f n
  ·have:=rO zs f n g hgt
   rw[h2] at this
   cases this
  ·omega
theorem adM (zs:List Int)(f n:Nat)(h:∀ k,k<n->dM zs (f+k)=true):jL zs f n=n:=by
 by_cases hl:jL zs f n<n
 ·have:=zA zs f n hl
  rw[h _ hl] at this
  cases this
 ·have:=zy zs f n
  omega
def PM (lo hi:Nat):Nat:=(255*2 ^ lo%256) &&& (255 / 2 ^ (8 - hi))
def pc (x:Nat):Nat:=x%2+x / 2%2+x / 4%2+x / 8%2+x / 16%2+x / 32%2+x / 64%2+x / 128%2
def cb (x lo:Nat):Nat->Nat
 | 0=>0
 | n+1=>cb x lo n+if tb x (lo+n) then 1 else 0
theorem amk {k:Nat}(hk:k<8):(2:Int) ^ k%256=((2 ^ k:Nat):Int):=by
 have h:∀ k:Fin 8,(2:Int) ^ k.val%256=((2 ^ k.val:Nat):Int):=by decide +kernel
 exact h ⟨k,hk⟩
theorem yc (n k:Nat):tb n k=n.testBit k:=by
 rw[Nat.testBit_eq_decide_div_mod_eq]
 unfold tb
 by_cases h:n / 2 ^ k%2=1<;>simp[h]
theorem ai5 (m n k:Nat):tb (m &&& n) k=(tb m k&&tb n k):=by
 rw[yc,yc,yc,Nat.testBit_and]
theorem ail (lo hi:Nat):PM lo hi<256:=by
 unfold PM
 exact Nat.lt_of_le_of_lt Nat.and_le_left (Nat.mod_lt _ (by omega))
theorem ac1:∀ lo:Fin 8,∀ hi:Fin 9,∀ k:Fin 8,tb (PM lo.val hi.val) k.val=decide (lo.val<=k.val/\k.val<hi.val):=by decide +kernel
theorem akb {lo hi k:Nat}(h1:lo<8)(h2:hi<=8)(hk:k<8):tb (PM lo hi) k=decide (lo<=k/\k<hi):=ac1 ⟨lo,h1⟩ ⟨hi,by omega⟩ ⟨k,hk⟩
theorem abh:∀ x:Fin 256,x.val≠0->pc (x.val &&& (x.val - 1))+1=pc x.val/\x.val &&& (x.val - 1)<x.val:=by decide +kernel
theorem aiQ {x:Nat}(h:x<256)(h0:x≠0):pc (x &&& (x - 1))+1=pc x/\x &&& (x - 1)<x:=abh ⟨x,h⟩ h0
theorem acW:∀ lo:Fin 8,∀ hi:Fin 9,lo.val<=hi.val->∀ x:Fin 256,pc (x.val &&& PM lo.val hi.val)=cb x.val lo.val (hi.val - lo.val):=by decide +kernel
theorem akm {x lo hi:Nat}(hx:x<256)(h1:lo<8)(h2:hi<=8)(h:lo<=hi):pc (x &&& PM lo hi)=cb x lo (hi - lo):=acW ⟨lo,h1⟩ ⟨hi,by omega⟩ h ⟨x,hx⟩
theorem aaN:∀ x:Fin 256,∀ k:Fin 8,tb (255 ^^^ x.val) k.val=!tb x.val k.val:=by decide +kernel
theorem abt:∀ x:Fin 256,255 ^^^ x.val<256:=by decide +kernel
theorem yg:∀ x:Fin 256,x.val≠0->∃ k:Fin 8,tb x.val k.val=true:=by decide +kernel
theorem agV (k:Nat):tb 0 k=false:=by simp[tb]
def zs8 (x lo hi:Nat):Nat:=(255 ^^^ x) &&& PM lo hi
theorem ait (x lo hi:Nat):zs8 x lo hi<256:=Nat.lt_of_le_of_lt Nat.and_le_right (ail lo hi)
theorem ai4 {x lo hi k:Nat}(hx:x<256)(h1:lo<8)(h2:hi<=8)(hk:k<8):tb (zs8 x lo hi) k=(!tb x k&&decide (lo<=k/\k<hi)):=by
 unfold zs8
 rw[ai5,akb h1 h2 hk]
 have:=aaN ⟨x,hx⟩ ⟨k,hk⟩
 rw[this]
theorem agW {x:Nat}(hx:x<256)(h:x≠0):∃ k,k<8/\tb x k=true:=by
 obtain⟨k,hk⟩:=yg ⟨x,hx⟩ h
 exact⟨k.val,k.isLt,hk⟩
theorem sG (zs:List Int)(q k:Nat)(hk:k<8):dM zs (8*q+k)=tb (bF zs q) k:=by
 unfold dM
 rw[show (8*q+k) / 8=q by omega,show (8*q+k)%8=k by omega]
theorem agl (zs:List Int)(f m n:Nat):rY zs f (m+n)=rY zs f m+rY zs (f+m) n:=by
 induction n with
 | zero=>rfl
 | succ n ih =>
  rw[← Nat.add_assoc]
  simp only[rY]
  rw[ih,Nat.add_assoc f m n]
  omega
theorem aei (zs:List Int)(q lo n:Nat)(h:lo+n<=8):rY zs (8*q+lo) n=cb (bF zs q) lo n:=by
 induction n with
 | zero=>rfl
 | succ n ih =>
  simp only[rY,cb]
  rw[ih (by omega),Nat.add_assoc (8*q) lo n,sG zs q (lo+n) (by omega)]
theorem aeh (zs:List Int)(hb:∀ z∈zs,0<=z/\z<=255)(f t q:Nat)(h1:f<8*q+8)(h2:8*q<t)(h3:f<=t) :
  rY zs f (min (8*(q+1)) t - f)=rY zs f (min (8*q) t - f)+pc (bF zs q &&& PM (f - 8*q) (min (t - 8*q) 8)):=by
 by_cases hlt:f - 8*q<=min (t - 8*q) 8
 ·rw[akm (fK hb q) (by omega) (by omega) hlt]
  rw[← aei zs q (f - 8*q) _ (by omega)]
  by_cases hc:f<=8*q
  ·rw[show min (8*(q+1)) t - f=(min (8*q) t - f)+(min (t - 8*q) 8 - (f - 8*q)) by omega,agl]
   rw[show f+(min (8*q) t - f)=8*q+(f - 8*q) by omega]
  ·rw[show min (8*q) t - f=0 by omega,show 8*q+(f - 8*q)=f by omega,show min (t - 8*q) 8 - (f - 8*q)=min (8*(q+1)) t - f by omega]
   simp[rY]
 ·omega
def st (c:Nat):Nat:=c / 2 ^^^ (if c%2=1 then 3988292384 else 0)
theorem acg (a b k:Nat):(a ^^^ b) / 2 ^ k=a / 2 ^ k ^^^ b / 2 ^ k:=by
 rw[← Nat.shiftRight_eq_div_pow,← Nat.shiftRight_eq_div_pow,← Nat.shiftRight_eq_div_pow,Nat.shiftRight_xor_distrib]
theorem agM (a b:Nat):(a ^^^ b) / 2=a / 2 ^^^ b / 2:=acg a b 1
theorem xQ (a b:Nat):(a ^^^ b) / 16=a / 16 ^^^ b / 16:=acg a b 4
theorem acf (a b k:Nat):(a ^^^ b)%2 ^ k=(a%2 ^ k) ^^^ (b%2 ^ k):=Nat.xor_mod_two_pow
theorem aeE (a b c d:Nat):(a ^^^ b) ^^^ (c ^^^ d)=(a ^^^ c) ^^^ (b ^^^ d):=by
 rw[Nat.xor_assoc,← Nat.xor_assoc b c d,Nat.xor_comm b c,Nat.xor_assoc c b d,← Nat.xor_assoc]
theorem ai9 (a b:Nat):st (a ^^^ b)=st a ^^^ st b:=by
 unfold st
 rw[agM,aeE]
 congr 1
 have h:=acf a b 1
 rw[Nat.pow_one] at h
 rcases Nat.mod_two_eq_zero_or_one a with ha | ha<;>rcases Nat.mod_two_eq_zero_or_one b with hb | hb<;>rw[h,ha,hb]<;>decide
theorem qZ {a b:Nat}(ha:a<4294967296)(hb:b<4294967296):a ^^^ b<4294967296:=Nat.xor_lt_two_pow (n:=32) ha hb
theorem aeT {c:Nat}(h:c<4294967296):st c<4294967296:=by
 unfold st
 refine qZ (by omega) ?_
 split<;>omega
theorem tq (q:Nat):st (2*q)=q:=by
 unfold st
 rw[if_neg (by omega),Nat.xor_zero]
 omega
def st4 (c:Nat):Nat:=st (st (st (st c)))
theorem ahc (a b:Nat):st4 (a ^^^ b)=st4 a ^^^ st4 b:=by simp only[st4,ai9]
theorem yt (q:Nat):st4 (16*q)=q:=by
 have h:16*q=2*(2*(2*(2*q))):=by omega
 rw[st4,h,tq,tq,tq,tq]
def tab (r:Nat):Nat:=([0,498536548,997073096,651767980,1994146192,1802195444,1303535960,1342533948,3988292384,4027552580,3604390888,3412177804,2607071920,2262029012,2685067896,3183342108][r]?).getD 0
theorem ac5 (r:Nat)(h:r<16):st4 r=tab r:=by
 have:∀ r:Fin 16,st4 r.1=tab r.1:=by decide +kernel
 exact this ⟨r,h⟩
theorem ai7 (r:Nat):tab r<4294967296:=by
 by_cases h:r<16
 ·have:∀ r:Fin 16,tab r.1<4294967296:=by decide +kernel
  exact this ⟨r,h⟩
 ·rw[tab,List.getElem?_eq_none (by simp;omega)]
  decide
theorem yu (q r:Nat)(h:r<16):16*q ^^^ r=16*q+r:=by
 have h1:=xQ (16*q) r
 have h2:=acf (16*q) r 4
 have e1:16*q / 16=q:=by omega
 have e2:r / 16=0:=by omega
 have e3:16*q%2 ^ 4=0:=by omega
 have e4:r%2 ^ 4=r:=by omega
 rw[e1,e2,Nat.xor_zero] at h1
 rw[e3,e4,Nat.zero_xor] at h2
 omega
theorem aeU (c:Nat):st4 c=c / 16 ^^^ tab (c%16):=by
 have h:c=16*(c / 16) ^^^ (c%16):=by rw[yu _ _ (by omega)];omega
 have hr:c%16<16:=by omega
 have h2:=ahc (16*(c / 16)) (c%16)
 rw[yt,ac5 _ hr] at h2
 rw[← h2,← h]
theorem ac6 {c:Nat}(h:c<4294967296):st4 c<4294967296:=aeT (aeT (aeT (aeT h)))
def upd (c x:Nat):Nat:=st4 (st4 (c ^^^ x))
theorem aiy {c x:Nat}(h:c<4294967296)(hx:x<256):upd c x<4294967296:=ac6 (ac6 (qZ h (by omega)))
def fol (c:Nat) (zs:List Int):Nat:=zs.foldl (fun c z=>upd c z.toNat) c
def ae9 (zs:List Int):Prop:=∀ z∈zs,0<=z/\z<=255
theorem afQ (c:Nat)(z:Int)(zs:List Int):fol c (z::zs)=fol (upd c z.toNat) zs:=rfl
theorem abJ (c:Nat)(xs ys:List Int):fol c (xs++ys)=fol (fol c xs) ys:=by simp[fol]
theorem agG {zs}(hz:ae9 zs):∀ {c:Nat},c<4294967296->fol c zs<4294967296:=by
 induction zs with
 | nil=>intro c h;exact h
 | cons z zs ih =>
  intro c h
  have h0:=hz z (by simp)
  rw[afQ]
  exact ih (fun y hy=>hz y (by simp[hy])) (aiy h (by omega))
theorem afP (c:Nat)(zs:List Int)(k:Nat)(h:k<zs.length):fol c (zs.take (k+1))=upd (fol c (zs.take k)) (zs[k]?.getD 0).toNat:=by
 rw[List.take_succ_eq_append_getElem h,abJ,List.getElem?_eq_getElem h]
 rfl
def agw (s:Nat) (zs:List Int):Nat:=fol (s ^^^ 4294967295) zs ^^^ 4294967295
def ac4 (zs:List Int):Nat:=fol 4294967295 zs ^^^ 4294967295
theorem ae3 (zs:List Int):agw 0 zs=ac4 zs:=by rw[agw,Nat.zero_xor,ac4]
theorem ac3 {zs}(hz:ae9 zs):ac4 zs<4294967296:=qZ (agG hz (by omega)) (by omega)
end Go.Proofs.YtlpgfigbpjpdhaaGreatDoor
/- Whole numbers as float64: each operation on whole numbers below 2^53 is exact. Plain mathematics over the words of the format, of no function of the program. -/
namespace Go.Proofs.YtlpgfigbpjpdhaaGreatDoor
set_option maxRecDepth 100000
set_option maxHeartbeats 8000000
open Ieee
set_option linter.unusedVariables false
def Rd (x:Nat) (n:Int):Prop:=∃ (s:Bool) (A k:Nat),double.read x=.number s (A*2 ^ k) (-(k:Int))/\n=signed s A 0
end Go.Proofs.YtlpgfigbpjpdhaaGreatDoor
