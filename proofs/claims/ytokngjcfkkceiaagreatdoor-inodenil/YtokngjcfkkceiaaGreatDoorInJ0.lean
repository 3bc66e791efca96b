/- Joined: GBit, BMath, Sum. -/
import Derived.Laws.BitsAllLaws
/- Bits of bytes, and of lists of bytes: read, set, counted. Of no function of a program. -/
namespace Go.Proofs.YtokngjcfkkceiaaGreatDoor
set_option maxRecDepth 100000
set_option maxHeartbeats 8000000
set_option linter.unusedVariables false

def tb (n k:Nat):Bool:=n / 2 ^ k%2==1
def sb (n k:Nat) (on:Bool):Nat:=if on then (if tb n k then n else n+2 ^ k) else (if tb n k then n - 2 ^ k else n)

theorem bit_and_fin:∀ n:Fin 256,∀ k:Fin 8,n.val &&& 2 ^ k.val=if tb n.val k.val then 2 ^ k.val else 0:=by decide +kernel
theorem bit_or_fin:∀ n:Fin 256,∀ k:Fin 8,n.val ||| 2 ^ k.val=sb n.val k.val true:=by decide +kernel
theorem bit_andNot_fin:∀ n:Fin 256,∀ k:Fin 8,n.val &&& (255 - 2 ^ k.val)=sb n.val k.val false:=by decide +kernel
theorem bit_xor_fin:∀ n:Fin 256,∀ k:Fin 8,n.val ^^^ 2 ^ k.val=sb n.val k.val (!tb n.val k.val):=by decide +kernel
theorem sb_lt_fin:∀ n:Fin 256,∀ k:Fin 8,sb n.val k.val true<256∧sb n.val k.val false<256:=by decide +kernel
theorem tb_sb_fin:∀ n:Fin 256,∀ k:Fin 8,tb (sb n.val k.val true) k.val=true∧tb (sb n.val k.val false) k.val=false:=by decide +kernel
theorem tb_other_fin:∀ n:Fin 256,∀ k:Fin 8,∀ m:Fin 8,m.val≠k.val→tb (sb n.val k.val true) m.val=tb n.val m.val∧tb (sb n.val k.val false) m.val=tb n.val m.val:=by decide +kernel
theorem sb_back_fin:∀ n:Fin 256,∀ k:Fin 8,sb n.val k.val (tb n.val k.val)=n.val∧sb (sb n.val k.val true) k.val (tb n.val k.val)=n.val∧sb (sb n.val k.val false) k.val (tb n.val k.val)=n.val:=by decide +kernel
theorem tb_full_fin:∀ k:Fin 8,tb 255 k.val=true:=by decide +kernel
theorem tb_gap_fin:∀ n:Fin 256,n.val≠255→∃ k:Fin 8,tb n.val k.val=false:=by decide +kernel

theorem bit_and {n k:Nat}(hn:n<256)(hk:k<8):n &&& 2 ^ k=if tb n k then 2 ^ k else 0:=bit_and_fin ⟨n,hn⟩ ⟨k,hk⟩
theorem bit_or {n k:Nat}(hn:n<256)(hk:k<8):n ||| 2 ^ k=sb n k true:=bit_or_fin ⟨n,hn⟩ ⟨k,hk⟩
theorem bit_andNot {n k:Nat}(hn:n<256)(hk:k<8):n &&& (255 - 2 ^ k)=sb n k false:=bit_andNot_fin ⟨n,hn⟩ ⟨k,hk⟩
theorem bit_xor {n k:Nat}(hn:n<256)(hk:k<8):n ^^^ 2 ^ k=sb n k (!tb n k):=bit_xor_fin ⟨n,hn⟩ ⟨k,hk⟩
theorem sb_lt {n k:Nat}(hn:n<256)(hk:k<8)(on:Bool):sb n k on<256:=by
 have:=sb_lt_fin ⟨n,hn⟩ ⟨k,hk⟩
 cases on
 ·exact this.2
 ·exact this.1
theorem tb_sb {n k:Nat}(hn:n<256)(hk:k<8)(on:Bool):tb (sb n k on) k=on:=by
 have:=tb_sb_fin ⟨n,hn⟩ ⟨k,hk⟩
 cases on
 ·exact this.2
 ·exact this.1
theorem tb_other {n k m:Nat}(hn:n<256)(hk:k<8)(hm:m<8)(h:m≠k)(on:Bool):tb (sb n k on) m=tb n m:=by
 have:=tb_other_fin ⟨n,hn⟩ ⟨k,hk⟩ ⟨m,hm⟩ h
 cases on
 ·exact this.2
 ·exact this.1
theorem sb_self {n k:Nat}(hn:n<256)(hk:k<8):sb n k (tb n k)=n:=(sb_back_fin ⟨n,hn⟩ ⟨k,hk⟩).1
theorem sb_back {n k:Nat}(hn:n<256)(hk:k<8)(on:Bool):sb (sb n k on) k (tb n k)=n:=by
 have:=(sb_back_fin ⟨n,hn⟩ ⟨k,hk⟩).2
 cases on
 ·exact this.2
 ·exact this.1
theorem tb_full {k:Nat}(hk:k<8):tb 255 k=true:=tb_full_fin ⟨k,hk⟩
theorem tb_gap {n:Nat}(hn:n<256)(h:n≠255):∃ k,k<8∧tb n k=false:=by
 obtain⟨k,hk⟩:=tb_gap_fin ⟨n,hn⟩ h
 exact⟨k.val,k.isLt,hk⟩

def byteN (zs:List Int) (q:Nat):Nat:=(zs[q]?.getD 0).toNat
def bitAt (zs:List Int) (i:Nat):Bool:=tb (byteN zs (i / 8)) (i%8)
def setB (zs:List Int) (i:Nat) (on:Bool):List Int:=zs.set (i / 8) ((sb (byteN zs (i / 8)) (i%8) on:Nat):Int)

theorem byteN_lt {zs:List Int}(h:∀ z∈zs,0≤z∧z≤255)(q:Nat):byteN zs q<256:=by
 unfold byteN
 by_cases hq:q<zs.length
 ·rw[List.getElem?_eq_getElem hq]
  have:=h _ (List.getElem_mem hq)
  simp only[Option.getD_some]
  omega
 ·rw[List.getElem?_eq_none (by omega)];simp

theorem byteN_int {zs:List Int}(h:∀ z∈zs,0≤z∧z≤255)(q:Nat):((byteN zs q:Nat):Int)=zs[q]?.getD 0:=by
 unfold byteN
 by_cases hq:q<zs.length
 ·rw[List.getElem?_eq_getElem hq]
  have:=h _ (List.getElem_mem hq)
  simp only[Option.getD_some]
  omega
 ·rw[List.getElem?_eq_none (by omega)];simp

theorem setB_length (zs:List Int)(i:Nat)(on:Bool):(setB zs i on).length=zs.length:=by simp[setB]

theorem setB_byts {zs:List Int}(h:∀ z∈zs,0≤z∧z≤255)(i:Nat)(on:Bool):∀ z∈setB zs i on,0≤z∧z≤255:=by
 intro z hz
 have hb:=sb_lt (byteN_lt h (i / 8)) (Nat.mod_lt i (by omega)) on
 rcases List.mem_or_eq_of_mem_set hz with hz | rfl
 ·exact h z hz
 ·omega

theorem byteN_setB {zs:List Int}(i:Nat)(hi:i<8*zs.length)(on:Bool)(q:Nat):byteN (setB zs i on) q=if q=i / 8 then sb (byteN zs (i / 8)) (i%8) on else byteN zs q:=by
 unfold setB
 by_cases h:q=i / 8
 ·subst h
  simp only[if_true]
  unfold byteN
  rw[List.getElem?_set_self (by omega)]
  simp
 ·rw[if_neg h]
  unfold byteN
  rw[List.getElem?_set_ne (by omega)]

theorem bitAt_setB_same {zs:List Int}(h:∀ z∈zs,0≤z∧z≤255)(i:Nat)(hi:i<8*zs.length)(on:Bool):bitAt (setB zs i on) i=on:=by
 unfold bitAt
 rw[byteN_setB i hi,if_pos rfl]
 exact tb_sb (byteN_lt h _) (Nat.mod_lt i (by omega)) on

theorem bitAt_setB_other {zs:List Int}(h:∀ z∈zs,0≤z∧z≤255)(i j:Nat)(hi:i<8*zs.length)(hne:j≠i)(on:Bool):bitAt (setB zs i on) j=bitAt zs j:=by
 unfold bitAt
 rw[byteN_setB i hi]
 by_cases hq:j / 8=i / 8
 ·rw[if_pos hq,hq]
  exact tb_other (byteN_lt h _) (Nat.mod_lt i (by omega)) (Nat.mod_lt j (by omega)) (by omega) on
 ·rw[if_neg hq]

def gapB (zs:List Int) (f:Nat):Nat→Nat
 | 0=>0
 | n+1=>if bitAt zs f then 1+gapB zs (f+1) n else 0

theorem gapB_le (zs:List Int)(f n:Nat):gapB zs f n≤n:=by
 induction n generalizing f with
 | zero=>simp[gapB]
 | succ n ih=>simp only[gapB];have:=ih (f+1);split<;>omega

theorem gapB_ahead (zs:List Int)(f n k:Nat)(hk:k<gapB zs f n):bitAt zs (f+k)=true:=by
 induction n generalizing f k with
 | zero=>simp[gapB] at hk
 | succ n ih =>
  simp only[gapB] at hk
  by_cases hb:bitAt zs f=true
  ·rw[if_pos hb] at hk
   by_cases h0:k=0
   ·subst h0;exact hb
   ·have:=ih (f+1) (k - 1) (by omega)
    rw[show f+1+(k - 1)=f+k by omega] at this
    exact this
  ·rw[if_neg hb] at hk;omega

theorem gapB_at (zs:List Int)(f n:Nat)(h:gapB zs f n<n):bitAt zs (f+gapB zs f n)=false:=by
 induction n generalizing f with
 | zero=>omega
 | succ n ih =>
  simp only[gapB] at h ⊢
  by_cases hb:bitAt zs f=true
  ·rw[if_pos hb] at h ⊢
   have:=ih (f+1) (by omega)
   rw[show f+(1+gapB zs (f+1) n)=f+1+gapB zs (f+1) n by omega]
   exact this
  ·rw[if_neg hb]
   simpa using hb

theorem gapB_eq (zs:List Int)(f n g:Nat)(hg:g<n)(h1:∀ k,k<g→bitAt zs (f+k)=true)(h2:bitAt zs (f+g)=false):gapB zs f n=g:=by
 have a:=gapB_le zs f n
 by_cases hl:gapB zs f n<g
 ·have:=gapB_at zs f n (by omega)
  rw[h1 _ hl] at this
  cases this
 ·by_cases hgt:g<gapB zs f n
  ·have:=gapB_ahead zs f n g hgt
   rw[h2] at this
   cases this
  ·omega

theorem gapB_none (zs:List Int)(f n:Nat)(h:∀ k,k<n→bitAt zs (f+k)=true):gapB zs f n=n:=by
 by_cases hl:gapB zs f n<n
 ·have:=gapB_at zs f n hl
  rw[h _ hl] at this
  cases this
 ·have:=gapB_le zs f n
  omega

def PM (lo hi:Nat):Nat:=(255*2 ^ lo%256) &&& (255 / 2 ^ (8 - hi))

def pc (x:Nat):Nat:=x%2+x / 2%2+x / 4%2+x / 8%2+x / 16%2+x / 32%2+x / 64%2+x / 128%2

def cb (x lo:Nat):Nat→Nat
 | 0=>0
 | n+1=>cb x lo n+if tb x (lo+n) then 1 else 0

theorem pow8 {k:Nat}(hk:k<8):(2:Int) ^ k%256=((2 ^ k:Nat):Int):=by
 have h:∀ k:Fin 8,(2:Int) ^ k.val%256=((2 ^ k.val:Nat):Int):=by decide +kernel
 exact h ⟨k,hk⟩

theorem tb_test (n k:Nat):tb n k=n.testBit k:=by
 rw[Nat.testBit_eq_decide_div_mod_eq]
 unfold tb
 by_cases h:n / 2 ^ k%2=1<;>simp[h]

theorem tb_and (m n k:Nat):tb (m &&& n) k=(tb m k&&tb n k):=by
 rw[tb_test,tb_test,tb_test,Nat.testBit_and]

theorem PM_lt (lo hi:Nat):PM lo hi<256:=by
 unfold PM
 exact Nat.lt_of_le_of_lt Nat.and_le_left (Nat.mod_lt _ (by omega))

theorem tb_PM_fin:∀ lo:Fin 8,∀ hi:Fin 9,∀ k:Fin 8,tb (PM lo.val hi.val) k.val=decide (lo.val≤k.val∧k.val<hi.val):=by decide +kernel
theorem tb_PM {lo hi k:Nat}(h1:lo<8)(h2:hi≤8)(hk:k<8):tb (PM lo hi) k=decide (lo≤k∧k<hi):=tb_PM_fin ⟨lo,h1⟩ ⟨hi,by omega⟩ ⟨k,hk⟩

theorem tb_not_fin:∀ x:Fin 256,∀ k:Fin 8,tb (255 ^^^ x.val) k.val=!tb x.val k.val:=by decide +kernel
theorem not_lt_fin:∀ x:Fin 256,255 ^^^ x.val<256:=by decide +kernel
theorem tb_some_fin:∀ x:Fin 256,x.val≠0→∃ k:Fin 8,tb x.val k.val=true:=by decide +kernel
theorem tb_zero (k:Nat):tb 0 k=false:=by simp[tb]

def zs8 (x lo hi:Nat):Nat:=(255 ^^^ x) &&& PM lo hi

theorem zs8_lt (x lo hi:Nat):zs8 x lo hi<256:=Nat.lt_of_le_of_lt Nat.and_le_right (PM_lt lo hi)

theorem tb_zs8 {x lo hi k:Nat}(hx:x<256)(h1:lo<8)(h2:hi≤8)(hk:k<8):tb (zs8 x lo hi) k=(!tb x k&&decide (lo≤k∧k<hi)):=by
 unfold zs8
 rw[tb_and,tb_PM h1 h2 hk]
 have:=tb_not_fin ⟨x,hx⟩ ⟨k,hk⟩
 rw[this]

theorem tb_some {x:Nat}(hx:x<256)(h:x≠0):∃ k,k<8∧tb x k=true:=by
 obtain⟨k,hk⟩:=tb_some_fin ⟨x,hx⟩ h
 exact⟨k.val,k.isLt,hk⟩

theorem bitAt_byte (zs:List Int)(q k:Nat)(hk:k<8):bitAt zs (8*q+k)=tb (byteN zs q) k:=by
 unfold bitAt
 rw[show (8*q+k) / 8=q by omega,show (8*q+k)%8=k by omega]

def st (c:Nat):Nat:=c / 2 ^^^ (if c%2=1 then 3988292384 else 0)

theorem xor_div (a b k:Nat):(a ^^^ b) / 2 ^ k=a / 2 ^ k ^^^ b / 2 ^ k:=by
 rw[← Nat.shiftRight_eq_div_pow,← Nat.shiftRight_eq_div_pow,← Nat.shiftRight_eq_div_pow,Nat.shiftRight_xor_distrib]

theorem xor_two (a b:Nat):(a ^^^ b) / 2=a / 2 ^^^ b / 2:=xor_div a b 1

theorem xor_sixteen (a b:Nat):(a ^^^ b) / 16=a / 16 ^^^ b / 16:=xor_div a b 4

theorem xor_mod (a b k:Nat):(a ^^^ b)%2 ^ k=(a%2 ^ k) ^^^ (b%2 ^ k):=Nat.xor_mod_two_pow

theorem xor_swap (a b c d:Nat):(a ^^^ b) ^^^ (c ^^^ d)=(a ^^^ c) ^^^ (b ^^^ d):=by
 rw[Nat.xor_assoc,← Nat.xor_assoc b c d,Nat.xor_comm b c,Nat.xor_assoc c b d,← Nat.xor_assoc]

theorem st_xor (a b:Nat):st (a ^^^ b)=st a ^^^ st b:=by
 unfold st
 rw[xor_two,xor_swap]
 congr 1
 have h:=xor_mod a b 1
 rw[Nat.pow_one] at h
 rcases Nat.mod_two_eq_zero_or_one a with ha | ha<;>rcases Nat.mod_two_eq_zero_or_one b with hb | hb<;>rw[h,ha,hb]<;>decide

theorem lt_xor {a b:Nat}(ha:a<4294967296)(hb:b<4294967296):a ^^^ b<4294967296:=Nat.xor_lt_two_pow (n:=32) ha hb

theorem st_lt {c:Nat}(h:c<4294967296):st c<4294967296:=by
 unfold st
 refine lt_xor (by omega) ?_
 split<;>omega

theorem st_even (q:Nat):st (2*q)=q:=by
 unfold st
 rw[if_neg (by omega),Nat.xor_zero]
 omega

def st4 (c:Nat):Nat:=st (st (st (st c)))

theorem st4_xor (a b:Nat):st4 (a ^^^ b)=st4 a ^^^ st4 b:=by simp only[st4,st_xor]

theorem st4_sixteen (q:Nat):st4 (16*q)=q:=by
 have h:16*q=2*(2*(2*(2*q))):=by omega
 rw[st4,h,st_even,st_even,st_even,st_even]

def tab (r:Nat):Nat:=([0,498536548,997073096,651767980,1994146192,1802195444,1303535960,1342533948,3988292384,4027552580,3604390888,3412177804,2607071920,2262029012,2685067896,3183342108][r]?).getD 0

theorem st4_small (r:Nat)(h:r<16):st4 r=tab r:=by
 have:∀ r:Fin 16,st4 r.1=tab r.1:=by decide +kernel
 exact this ⟨r,h⟩

theorem tab_lt (r:Nat):tab r<4294967296:=by
 by_cases h:r<16
 ·have:∀ r:Fin 16,tab r.1<4294967296:=by decide +kernel
  exact this ⟨r,h⟩
 ·rw[tab,List.getElem?_eq_none (by simp;omega)]
  decide

theorem sixteen_xor (q r:Nat)(h:r<16):16*q ^^^ r=16*q+r:=by
 have h1:=xor_sixteen (16*q) r
 have h2:=xor_mod (16*q) r 4
 have e1:16*q / 16=q:=by omega
 have e2:r / 16=0:=by omega
 have e3:16*q%2 ^ 4=0:=by omega
 have e4:r%2 ^ 4=r:=by omega
 rw[e1,e2,Nat.xor_zero] at h1
 rw[e3,e4,Nat.zero_xor] at h2
 omega

theorem st4_look (c:Nat):st4 c=c / 16 ^^^ tab (c%16):=by
 have h:c=16*(c / 16) ^^^ (c%16):=by rw[sixteen_xor _ _ (by omega)];omega
 have hr:c%16<16:=by omega
 have h2:=st4_xor (16*(c / 16)) (c%16)
 rw[st4_sixteen,st4_small _ hr] at h2
 rw[← h2,← h]

theorem st4_lt {c:Nat}(h:c<4294967296):st4 c<4294967296:=st_lt (st_lt (st_lt (st_lt h)))

def upd (c x:Nat):Nat:=st4 (st4 (c ^^^ x))

theorem upd_lt {c x:Nat}(h:c<4294967296)(hx:x<256):upd c x<4294967296:=st4_lt (st4_lt (lt_xor h (by omega)))

def fol (c:Nat) (zs:List Int):Nat:=zs.foldl (fun c z=>upd c z.toNat) c

def Byts (zs:List Int):Prop:=∀ z∈zs,0≤z∧z≤255

theorem fol_cons (c:Nat)(z:Int)(zs:List Int):fol c (z::zs)=fol (upd c z.toNat) zs:=rfl

theorem fol_append (c:Nat)(xs ys:List Int):fol c (xs++ys)=fol (fol c xs) ys:=by simp[fol]

theorem fol_lt {zs:List Int}(hz:Byts zs):∀ {c:Nat},c<4294967296→fol c zs<4294967296:=by
 induction zs with
 | nil=>intro c h;exact h
 | cons z zs ih =>
  intro c h
  have h0:=hz z (by simp)
  rw[fol_cons]
  exact ih (fun y hy=>hz y (by simp[hy])) (upd_lt h (by omega))

theorem fol_succ (c:Nat)(zs:List Int)(k:Nat)(h:k<zs.length):fol c (zs.take (k+1))=upd (fol c (zs.take k)) (zs[k]?.getD 0).toNat:=by
 rw[List.take_succ_eq_append_getElem h,fol_append,List.getElem?_eq_getElem h]
 rfl

def addS (s:Nat) (zs:List Int):Nat:=fol (s ^^^ 4294967295) zs ^^^ 4294967295

def sumS (zs:List Int):Nat:=fol 4294967295 zs ^^^ 4294967295

theorem addS_zero (zs:List Int):addS 0 zs=sumS zs:=by rw[addS,Nat.zero_xor,sumS]

theorem sumS_lt {zs:List Int}(hz:Byts zs):sumS zs<4294967296:=lt_xor (fol_lt hz (by omega)) (by omega)

end Go.Proofs.YtokngjcfkkceiaaGreatDoor
