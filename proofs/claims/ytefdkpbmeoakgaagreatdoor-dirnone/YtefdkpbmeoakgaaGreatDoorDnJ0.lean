/- Joined: GBit, BMath, Sum, GFloat. -/
import Derived.Laws.BitsAllLaws
import Derived.Laws.FloatArith
import Derived.Laws.ComplexArith
/- Bits of bytes, and of lists of bytes: read, set, counted. Of no function of a program. -/
namespace Go.Proofs.YtefdkpbmeoakgaaGreatDoor
set_option maxRecDepth 100000
set_option maxHeartbeats 8000000
set_option linter.unusedVariables false
def tb (n k:Nat):Bool:=n / 2 ^ k%2==1
def sb (n k:Nat) (on:Bool):Nat:=if on then (if tb n k then n else n+2 ^ k) else (if tb n k then n - 2 ^ k else n)
theorem aam:∀ n:Fin 256,∀ k:Fin 8,n.val &&& 2 ^ k.val=if tb n.val k.val then 2 ^ k.val else 0:=by decide +kernel
theorem aco:∀ n:Fin 256,∀ k:Fin 8,n.val ||| 2 ^ k.val=sb n.val k.val true:=by decide +kernel
theorem qM:∀ n:Fin 256,∀ k:Fin 8,n.val &&& (255 - 2 ^ k.val)=sb n.val k.val false:=by decide +kernel
theorem aal:∀ n:Fin 256,∀ k:Fin 8,n.val ^^^ 2 ^ k.val=sb n.val k.val (!tb n.val k.val):=by decide +kernel
theorem acS:∀ n:Fin 256,∀ k:Fin 8,sb n.val k.val true<256/\sb n.val k.val false<256:=by decide +kernel
theorem acD:∀ n:Fin 256,∀ k:Fin 8,tb (sb n.val k.val true) k.val=true/\tb (sb n.val k.val false) k.val=false:=by decide +kernel
theorem vF:∀ n:Fin 256,∀ k:Fin 8,∀ m:Fin 8,m.val≠k.val->tb (sb n.val k.val true) m.val=tb n.val m.val/\tb (sb n.val k.val false) m.val=tb n.val m.val:=by decide +kernel
theorem ou:∀ n:Fin 256,∀ k:Fin 8,sb n.val k.val (tb n.val k.val)=n.val/\sb (sb n.val k.val true) k.val (tb n.val k.val)=n.val/\sb (sb n.val k.val false) k.val (tb n.val k.val)=n.val:=by decide +kernel
theorem yE:∀ k:Fin 8,tb 255 k.val=true:=by decide +kernel
theorem aaX:∀ n:Fin 256,n.val≠255->∃ k:Fin 8,tb n.val k.val=false:=by decide +kernel
theorem ae0 {n k:Nat}(hn:n<256)(hk:k<8):n &&& 2 ^ k=if tb n k then 2 ^ k else 0:=aam ⟨n,hn⟩ ⟨k,hk⟩
theorem agO {n k:Nat}(hn:n<256)(hk:k<8):n ||| 2 ^ k=sb n k true:=aco ⟨n,hn⟩ ⟨k,hk⟩
theorem acp {n k:Nat}(hn:n<256)(hk:k<8):n &&& (255 - 2 ^ k)=sb n k false:=qM ⟨n,hn⟩ ⟨k,hk⟩
theorem akE {n k:Nat}(hn:n<256)(hk:k<8):n ^^^ 2 ^ k=sb n k (!tb n k):=aal ⟨n,hn⟩ ⟨k,hk⟩
theorem akl {n k:Nat}(hn:n<256)(hk:k<8)(on:Bool):sb n k on<256:=by
 have:=acS ⟨n,hn⟩ ⟨k,hk⟩
 cases on
 ·exact this.2
 ·exact this.1
theorem ake {n k:Nat}(hn:n<256)(hk:k<8)(on:Bool):tb (sb n k on) k=on:=by
 have:=acD ⟨n,hn⟩ ⟨k,hk⟩
 cases on
 ·exact this.2
 ·exact this.1
theorem aeY {n k m:Nat}(hn:n<256)(hk:k<8)(hm:m<8)(h:m≠k)(on:Bool):tb (sb n k on) m=tb n m:=by
 have:=vF ⟨n,hn⟩ ⟨k,hk⟩ ⟨m,hm⟩ h
 cases on
 ·exact this.2
 ·exact this.1
theorem akk {n k:Nat}(hn:n<256)(hk:k<8):sb n k (tb n k)=n:=(ou ⟨n,hn⟩ ⟨k,hk⟩).1
theorem akm {n k:Nat}(hn:n<256)(hk:k<8)(on:Bool):sb (sb n k on) k (tb n k)=n:=by
 have:=(ou ⟨n,hn⟩ ⟨k,hk⟩).2
 cases on
 ·exact this.2
 ·exact this.1
theorem akf {k:Nat}(hk:k<8):tb 255 k=true:=yE ⟨k,hk⟩
theorem akQ {n:Nat}(hn:n<256)(h:n≠255):∃ k,k<8/\tb n k=false:=by
 obtain⟨k,hk⟩:=aaX ⟨n,hn⟩ h
 exact⟨k.val,k.isLt,hk⟩
def bJ (zs:List Int) (q:Nat):Nat:=(zs[q]?.getD 0).toNat
def dQ (zs:List Int) (i:Nat):Bool:=tb (bJ zs (i / 8)) (i%8)
def setB (zs:List Int) (i:Nat) (on:Bool):List Int:=zs.set (i / 8) ((sb (bJ zs (i / 8)) (i%8) on:Nat):Int)
theorem fG {zs:List Int}(h:∀ z∈zs,0<=z/\z<=255)(q:Nat):bJ zs q<256:=by
 unfold bJ
 by_cases hq:q<zs.length
 ·rw[List.getElem?_eq_getElem hq]
  have:=h _ (List.getElem_mem hq)
  simp only[Option.getD_some]
  omega
 ·rw[List.getElem?_eq_none (by omega)];simp
theorem jG {zs:List Int}(h:∀ z∈zs,0<=z/\z<=255)(q:Nat):((bJ zs q:Nat):Int)=zs[q]?.getD 0:=by
 unfold bJ
 by_cases hq:q<zs.length
 ·rw[List.getElem?_eq_getElem hq]
  have:=h _ (List.getElem_mem hq)
  simp only[Option.getD_some]
  omega
 ·rw[List.getElem?_eq_none (by omega)];simp
theorem jU (zs:List Int)(i:Nat)(on:Bool):(setB zs i on).length=zs.length:=by simp[setB]
theorem vK {zs:List Int}(h:∀ z∈zs,0<=z/\z<=255)(i:Nat)(on:Bool):∀ z∈setB zs i on,0<=z/\z<=255:=by
 intro z hz
 have hb:=akl (fG h (i / 8)) (Nat.mod_lt i (by omega)) on
 rcases List.mem_or_eq_of_mem_set hz with hz | rfl
 ·exact h z hz
 ·omega
theorem sH {zs:List Int}(i:Nat)(hi:i<8*zs.length)(on:Bool)(q:Nat):bJ (setB zs i on) q=if q=i / 8 then sb (bJ zs (i / 8)) (i%8) on else bJ zs q:=by
 unfold setB
 by_cases h:q=i / 8
 ·subst h
  simp only[if_true]
  unfold bJ
  rw[List.getElem?_set_self (by omega)]
  simp
 ·rw[if_neg h]
  unfold bJ
  rw[List.getElem?_set_ne (by omega)]
theorem qA {zs:List Int}(h:∀ z∈zs,0<=z/\z<=255)(i:Nat)(hi:i<8*zs.length)(on:Bool):dQ (setB zs i on) i=on:=by
 unfold dQ
 rw[sH i hi,if_pos rfl]
 exact ake (fG h _) (Nat.mod_lt i (by omega)) on
theorem nM {zs:List Int}(h:∀ z∈zs,0<=z/\z<=255)(i j:Nat)(hi:i<8*zs.length)(hne:j≠i)(on:Bool):dQ (setB zs i on) j=dQ zs j:=by
 unfold dQ
 rw[sH i hi]
 by_cases hq:j / 8=i / 8
 ·rw[if_pos hq,hq]
  exact aeY (fG h _) (Nat.mod_lt i (by omega)) (Nat.mod_lt j (by omega)) (by omega) on
 ·rw[if_neg hq]
def sD (zs:List Int) (f:Nat):Nat->Nat
 | 0=>0
 | n+1=>sD zs f n+if dQ zs (f+n) then 1 else 0
theorem aiv (zs:List Int)(f n:Nat):sD zs f n<=n:=by
 induction n with
 | zero=>simp[sD]
 | succ n ih=>simp only[sD];split<;>omega
def jR (zs:List Int) (f:Nat):Nat->Nat
 | 0=>0
 | n+1=>if dQ zs f then 1+jR zs (f+1) n else 0
theorem zN (zs:List Int)(f n:Nat):jR zs f n<=n:=by
 induction n generalizing f with
 | zero=>simp[jR]
 | succ n ih=>simp only[jR];have:=ih (f+1);split<;>omega
theorem rQ (zs:List Int)(f n k:Nat)(hk:k<jR zs f n):dQ zs (f+k)=true:=by
 induction n generalizing f k with
 | zero=>simp[jR] at hk
 | succ n ih =>
  simp only[jR] at hk
  by_cases hb:dQ zs f=true
  ·rw[if_pos hb] at hk
   by_cases h0:k=0
   ·subst h0;exact hb
   ·have:=ih (f+1) (k - 1) (by omega)
    rw[show f+1+(k - 1)=f+k by omega] at this
    exact this
  ·rw[if_neg hb] at hk;omega
theorem zO (zs:List Int)(f n:Nat)(h:jR zs f n<n):dQ zs (f+jR zs f n)=false:=by
 induction n generalizing f with
 | zero=>omega
 | succ n ih =>
  simp only[jR] at h ⊢
  by_cases hb:dQ zs f=true
  ·rw[if_pos hb] at h ⊢
   have:=ih (f+1) (by omega)
   rw[show f+(1+jR zs (f+1) n)=f+1+jR zs (f+1) n by omega]
   exact this
  ·rw[if_neg hb]
   simpa using hb
theorem aia (zs:List Int)(f n g:Nat)(hg:g<n)(h1:∀ k,k<g->dQ zs (f+k)=true)(h2:dQ zs (f+g)=false):jR zs f n=g:=by
 have a:=zN zs f n
 by_cases hl:jR zs f n<g
 ·have:=zO zs f n (by omega)
  rw[h1 _ hl] at this
  cases this
 ·by_cases hgt:g<jR zs f n
  ·have:=rQ zs f n g hgt
   rw[h2] at this
   cases this
  ·omega
theorem adV (zs:List Int)(f n:Nat)(h:∀ k,k<n->dQ zs (f+k)=true):jR zs f n=n:=by
 by_cases hl:jR zs f n<n
 ·have:=zO zs f n hl
  rw[h _ hl] at this
  cases this
 ·have:=zN zs f n
  omega
def PM (lo hi:Nat):Nat:=(255*2 ^ lo%256) &&& (255 / 2 ^ (8 - hi))
def pc (x:Nat):Nat:=x%2+x / 2%2+x / 4%2+x / 8%2+x / 16%2+x / 32%2+x / 64%2+x / 128%2
def cb (x lo:Nat):Nat->Nat
 | 0=>0
 | n+1=>cb x lo n+if tb x (lo+n) then 1 else 0
theorem alW {k:Nat}(hk:k<8):(2:Int) ^ k%256=((2 ^ k:Nat):Int):=by
 have h:∀ k:Fin 8,(2:Int) ^ k.val%256=((2 ^ k.val:Nat):Int):=by decide +kernel
 exact h ⟨k,hk⟩
theorem yC (n k:Nat):tb n k=n.testBit k:=by
 rw[Nat.testBit_eq_decide_div_mod_eq]
 unfold tb
 by_cases h:n / 2 ^ k%2=1<;>simp[h]
theorem aiI (m n k:Nat):tb (m &&& n) k=(tb m k&&tb n k):=by
 rw[yC,yC,yC,Nat.testBit_and]
theorem ai3 (lo hi:Nat):PM lo hi<256:=by
 unfold PM
 exact Nat.lt_of_le_of_lt Nat.and_le_left (Nat.mod_lt _ (by omega))
theorem acE:∀ lo:Fin 8,∀ hi:Fin 9,∀ k:Fin 8,tb (PM lo.val hi.val) k.val=decide (lo.val<=k.val/\k.val<hi.val):=by decide +kernel
theorem akg {lo hi k:Nat}(h1:lo<8)(h2:hi<=8)(hk:k<8):tb (PM lo hi) k=decide (lo<=k/\k<hi):=acE ⟨lo,h1⟩ ⟨hi,by omega⟩ ⟨k,hk⟩
theorem abt:∀ x:Fin 256,x.val≠0->pc (x.val &&& (x.val - 1))+1=pc x.val/\x.val &&& (x.val - 1)<x.val:=by decide +kernel
theorem ajd {x:Nat}(h:x<256)(h0:x≠0):pc (x &&& (x - 1))+1=pc x/\x &&& (x - 1)<x:=abt ⟨x,h⟩ h0
theorem adl:∀ lo:Fin 8,∀ hi:Fin 9,lo.val<=hi.val->∀ x:Fin 256,pc (x.val &&& PM lo.val hi.val)=cb x.val lo.val (hi.val - lo.val):=by decide +kernel
theorem akp {x lo hi:Nat}(hx:x<256)(h1:lo<8)(h2:hi<=8)(h:lo<=hi):pc (x &&& PM lo hi)=cb x lo (hi - lo):=adl ⟨lo,h1⟩ ⟨hi,by omega⟩ h ⟨x,hx⟩
theorem aaW:∀ x:Fin 256,∀ k:Fin 8,tb (255 ^^^ x.val) k.val=!tb x.val k.val:=by decide +kernel
theorem ab2:∀ x:Fin 256,255 ^^^ x.val<256:=by decide +kernel
theorem yD:∀ x:Fin 256,x.val≠0->∃ k:Fin 8,tb x.val k.val=true:=by decide +kernel
theorem ahd (k:Nat):tb 0 k=false:=by simp[tb]
def zs8 (x lo hi:Nat):Nat:=(255 ^^^ x) &&& PM lo hi
theorem ai8 (x lo hi:Nat):zs8 x lo hi<256:=Nat.lt_of_le_of_lt Nat.and_le_right (ai3 lo hi)
theorem aiH {x lo hi k:Nat}(hx:x<256)(h1:lo<8)(h2:hi<=8)(hk:k<8):tb (zs8 x lo hi) k=(!tb x k&&decide (lo<=k/\k<hi)):=by
 unfold zs8
 rw[aiI,akg h1 h2 hk]
 have:=aaW ⟨x,hx⟩ ⟨k,hk⟩
 rw[this]
theorem ahe {x:Nat}(hx:x<256)(h:x≠0):∃ k,k<8/\tb x k=true:=by
 obtain⟨k,hk⟩:=yD ⟨x,hx⟩ h
 exact⟨k.val,k.isLt,hk⟩
theorem sK (zs:List Int)(q k:Nat)(hk:k<8):dQ zs (8*q+k)=tb (bJ zs q) k:=by
 unfold dQ
 rw[show (8*q+k) / 8=q by omega,show (8*q+k)%8=k by omega]
theorem agm (zs:List Int)(f m n:Nat):sD zs f (m+n)=sD zs f m+sD zs (f+m) n:=by
 induction n with
 | zero=>rfl
 | succ n ih =>
  rw[← Nat.add_assoc]
  simp only[sD]
  rw[ih,Nat.add_assoc f m n]
  omega
theorem aep (zs:List Int)(q lo n:Nat)(h:lo+n<=8):sD zs (8*q+lo) n=cb (bJ zs q) lo n:=by
 induction n with
 | zero=>rfl
 | succ n ih =>
  simp only[sD,cb]
  rw[ih (by omega),Nat.add_assoc (8*q) lo n,sK zs q (lo+n) (by omega)]
theorem aeo (zs:List Int)(hb:∀ z∈zs,0<=z/\z<=255)(f t q:Nat)(h1:f<8*q+8)(h2:8*q<t)(h3:f<=t) :
  sD zs f (min (8*(q+1)) t - f)=sD zs f (min (8*q) t - f)+pc (bJ zs q &&& PM (f - 8*q) (min (t - 8*q) 8)):=by
 by_cases hlt:f - 8*q<=min (t - 8*q) 8
 ·rw[akp (fG hb q) (by omega) (by omega) hlt]
  rw[← aep zs q (f - 8*q) _ (by omega)]
  by_cases hc:f<=8*q
  ·rw[show min (8*(q+1)) t - f=(min (8*q) t - f)+(min (t - 8*q) 8 - (f - 8*q)) by omega,agm]
   rw[show f+(min (8*q) t - f)=8*q+(f - 8*q) by omega]
  ·rw[show min (8*q) t - f=0 by omega,show 8*q+(f - 8*q)=f by omega,show min (t - 8*q) 8 - (f - 8*q)=min (8*(q+1)) t - f by omega]
   simp[sD]
 ·omega
def st (c:Nat):Nat:=c / 2 ^^^ (if c%2=1 then 3988292384 else 0)
theorem acy (a b k:Nat):(a ^^^ b) / 2 ^ k=a / 2 ^ k ^^^ b / 2 ^ k:=by
 rw[← Nat.shiftRight_eq_div_pow,← Nat.shiftRight_eq_div_pow,← Nat.shiftRight_eq_div_pow,Nat.shiftRight_xor_distrib]
theorem agS (a b:Nat):(a ^^^ b) / 2=a / 2 ^^^ b / 2:=acy a b 1
theorem yj (a b:Nat):(a ^^^ b) / 16=a / 16 ^^^ b / 16:=acy a b 4
theorem acw (a b k:Nat):(a ^^^ b)%2 ^ k=(a%2 ^ k) ^^^ (b%2 ^ k):=Nat.xor_mod_two_pow
theorem aeK (a b c d:Nat):(a ^^^ b) ^^^ (c ^^^ d)=(a ^^^ c) ^^^ (b ^^^ d):=by
 rw[Nat.xor_assoc,← Nat.xor_assoc b c d,Nat.xor_comm b c,Nat.xor_assoc c b d,← Nat.xor_assoc]
theorem aiM (a b:Nat):st (a ^^^ b)=st a ^^^ st b:=by
 unfold st
 rw[agS,aeK]
 congr 1
 have h:=acw a b 1
 rw[Nat.pow_one] at h
 rcases Nat.mod_two_eq_zero_or_one a with ha | ha<;>rcases Nat.mod_two_eq_zero_or_one b with hb | hb<;>rw[h,ha,hb]<;>decide
theorem rF {a b:Nat}(ha:a<4294967296)(hb:b<4294967296):a ^^^ b<4294967296:=Nat.xor_lt_two_pow (n:=32) ha hb
theorem afa {c:Nat}(h:c<4294967296):st c<4294967296:=by
 unfold st
 refine rF (by omega) ?_
 split<;>omega
theorem tJ (q:Nat):st (2*q)=q:=by
 unfold st
 rw[if_neg (by omega),Nat.xor_zero]
 omega
def st4 (c:Nat):Nat:=st (st (st (st c)))
theorem ahl (a b:Nat):st4 (a ^^^ b)=st4 a ^^^ st4 b:=by simp only[st4,aiM]
theorem yG (q:Nat):st4 (16*q)=q:=by
 have h:16*q=2*(2*(2*(2*q))):=by omega
 rw[st4,h,tJ,tJ,tJ,tJ]
def tab (r:Nat):Nat:=([0,498536548,997073096,651767980,1994146192,1802195444,1303535960,1342533948,3988292384,4027552580,3604390888,3412177804,2607071920,2262029012,2685067896,3183342108][r]?).getD 0
theorem acI (r:Nat)(h:r<16):st4 r=tab r:=by
 have:∀ r:Fin 16,st4 r.1=tab r.1:=by decide +kernel
 exact this ⟨r,h⟩
theorem aiK (r:Nat):tab r<4294967296:=by
 by_cases h:r<16
 ·have:∀ r:Fin 16,tab r.1<4294967296:=by decide +kernel
  exact this ⟨r,h⟩
 ·rw[tab,List.getElem?_eq_none (by simp;omega)]
  decide
theorem yH (q r:Nat)(h:r<16):16*q ^^^ r=16*q+r:=by
 have h1:=yj (16*q) r
 have h2:=acw (16*q) r 4
 have e1:16*q / 16=q:=by omega
 have e2:r / 16=0:=by omega
 have e3:16*q%2 ^ 4=0:=by omega
 have e4:r%2 ^ 4=r:=by omega
 rw[e1,e2,Nat.xor_zero] at h1
 rw[e3,e4,Nat.zero_xor] at h2
 omega
theorem afb (c:Nat):st4 c=c / 16 ^^^ tab (c%16):=by
 have h:c=16*(c / 16) ^^^ (c%16):=by rw[yH _ _ (by omega)];omega
 have hr:c%16<16:=by omega
 have h2:=ahl (16*(c / 16)) (c%16)
 rw[yG,acI _ hr] at h2
 rw[← h2,← h]
theorem acJ {c:Nat}(h:c<4294967296):st4 c<4294967296:=afa (afa (afa (afa h)))
def upd (c x:Nat):Nat:=st4 (st4 (c ^^^ x))
theorem aiD {c x:Nat}(h:c<4294967296)(hx:x<256):upd c x<4294967296:=acJ (acJ (rF h (by omega)))
def fol (c:Nat) (zs:List Int):Nat:=zs.foldl (fun c z=>upd c z.toNat) c
def aeH (zs:List Int):Prop:=∀ z∈zs,0<=z/\z<=255
theorem afX (c:Nat)(z:Int)(zs:List Int):fol c (z::zs)=fol (upd c z.toNat) zs:=rfl
theorem abP (c:Nat)(xs ys:List Int):fol c (xs++ys)=fol (fol c xs) ys:=by simp[fol]
theorem agL {zs}(hz:aeH zs):∀ {c:Nat},c<4294967296->fol c zs<4294967296:=by
 induction zs with
 | nil=>intro c h;exact h
 | cons z zs ih =>
  intro c h
  have h0:=hz z (by simp)
  rw[afX]
  exact ih (fun y hy=>hz y (by simp[hy])) (aiD h (by omega))
theorem afW (c:Nat)(zs:List Int)(k:Nat)(h:k<zs.length):fol c (zs.take (k+1))=upd (fol c (zs.take k)) (zs[k]?.getD 0).toNat:=by
 rw[List.take_succ_eq_append_getElem h,abP,List.getElem?_eq_getElem h]
 rfl
def agw (s:Nat) (zs:List Int):Nat:=fol (s ^^^ 4294967295) zs ^^^ 4294967295
def acH (zs:List Int):Nat:=fol 4294967295 zs ^^^ 4294967295
theorem aeA (zs:List Int):agw 0 zs=acH zs:=by rw[agw,Nat.zero_xor,acH]
theorem acG {zs}(hz:aeH zs):acH zs<4294967296:=rF (agL hz (by omega)) (by omega)
end Go.Proofs.YtefdkpbmeoakgaaGreatDoor
/- Whole numbers as float64: each operation on whole numbers below 2^53 is exact. Plain mathematics over the words of the format, of no function of the program. -/
namespace Go.Proofs.YtefdkpbmeoakgaaGreatDoor
set_option maxRecDepth 100000
set_option maxHeartbeats 8000000
open Ieee
set_option linter.unusedVariables false
def Rd (x:Nat) (n:Int):Prop:=∃ (s:Bool) (A k:Nat),double.read x=.number s (A*2 ^ k) (-(k:Int))/\n=signed s A 0
end Go.Proofs.YtefdkpbmeoakgaaGreatDoor
