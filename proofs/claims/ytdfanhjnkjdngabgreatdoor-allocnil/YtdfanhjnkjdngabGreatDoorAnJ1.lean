/- Joined: GFloat, GFloat2. -/
import Derived.Laws.FloatArith
import Derived.Laws.ComplexArith
/- Whole numbers as float64: each operation on whole numbers below 2^53 is exact. Plain mathematics over the words of the format, of no function of the program. -/
namespace Go.Proofs.YtdfanhjnkjdngabGreatDoor
set_option maxRecDepth 100000
set_option maxHeartbeats 8000000
open Ieee
set_option linter.unusedVariables false

theorem dbl_sign:double.signWeight=9223372036854775808:=by decide +kernel

theorem dbl_binade:double.binade=4503599627370496:=by decide +kernel

theorem dbl_inf:double.infRung=9218868437227405312:=by decide +kernel

theorem dbl_least:double.leastPlace=-1074:=rfl

theorem dbl_frac:double.fractionBits=52:=rfl

def Rd (x:Nat) (n:Int):Prop:=∃ (s:Bool) (A k:Nat),double.read x=.number s (A * 2 ^ k) (-(k:Int))∧n=signed s A 0

theorem signed_zero (s:Bool) (A:Nat):signed s A 0=if s then -(A:Int) else (A:Int):=by simp [signed]

theorem read_word (neg:Bool) (e f:Nat) (he:e ≤ 1074) (hf:f < 4503599627370496):double.read (double.word neg ((e + 1) * 4503599627370496 + f))=.number neg (4503599627370496 + f) (-1074 + (e:Int)):=by
 have h1:double.word neg ((e + 1) * 4503599627370496 + f) % double.signWeight=(e + 1) * 4503599627370496 + f:=by
  rw [dbl_sign]
  cases neg
  ·show ((e + 1) * 4503599627370496 + f) % 9223372036854775808=_
   omega
  ·show (double.signWeight + ((e + 1) * 4503599627370496 + f)) % 9223372036854775808=_
   rw [dbl_sign]
   omega
 have h2:(double.word neg ((e + 1) * 4503599627370496 + f) / double.signWeight % 2 == 1)=neg:=by
  rw [dbl_sign]
  cases neg
  ·show (((e + 1) * 4503599627370496 + f) / 9223372036854775808 % 2 == 1)=false
   have:((e + 1) * 4503599627370496 + f) / 9223372036854775808=0:=by omega
   rw [this]; rfl
  ·show ((double.signWeight + ((e + 1) * 4503599627370496 + f)) / 9223372036854775808 % 2 == 1)=true
   rw [dbl_sign]
   have:(9223372036854775808 + ((e + 1) * 4503599627370496 + f)) / 9223372036854775808=1:=by omega
   rw [this]; rfl
 unfold Format.read
 simp only [h1,h2]
 rw [dbl_binade,dbl_inf,if_neg (by omega),if_pos (by omega),dbl_least]
 have e1:((e + 1) * 4503599627370496 + f) % 4503599627370496=f:=by omega
 have e2:((e + 1) * 4503599627370496 + f) / 4503599627370496 - 1=e:=by omega
 rw [e1,e2]

theorem read_zero (neg:Bool):double.read (double.word neg 0)=.number neg 0 (-1074):=by cases neg <;> decide +kernel

theorem cut_none (way:Toward) (hw:way=.even) (neg:Bool) (n:Nat):way.cut neg n 0=n:=by
 subst hw
 simp [Toward.cut]
 omega

theorem cut_exact (neg:Bool) (B d:Nat) (hB:0 < B):Toward.even.cut neg (B * 2 ^ d) d=B:=by
 have hp:0 < 2 ^ d:=Nat.two_pow_pos d
 have hl:d ≤ (B * 2 ^ d).log2:=by
  have:2 ^ d ≤ B * 2 ^ d:=Nat.le_mul_of_pos_left _ hB
  rw [Nat.le_log2 (by have:=Nat.mul_pos hB hp; omega)]
  exact this
 have hm:min d ((B * 2 ^ d).log2 + 2)=d:=by omega
 unfold Toward.cut
 simp only [hm,Nat.one_shiftLeft,Nat.mul_div_cancel _ hp,Nat.mul_mod_left]
 have h1:(decide (2 ^ d < 2 * 0) || (2 ^ d == 2 * 0 && B % 2 == 1))=false:=by
  have:¬ 2 ^ d=0:=by omega
  simp
 simp only [h1]
 rfl

theorem rung_min (e f:Nat) (he:e ≤ 1074) (hf:f < 4503599627370496):min (e * 4503599627370496 + (4503599627370496 + f)) 9218868437227405312=(e + 1) * 4503599627370496 + f:=by
 rw [Nat.min_eq_left (by omega),Nat.succ_mul,Nat.add_assoc]

theorem kept_parts (A k:Nat) (hA:0 < A) (hlt:A < 9007199254740992):∃ q L:Nat,(A * 2 ^ k).log2=L∧q ≤ 52∧k + 52=q + L∧4503599627370496 ≤ A * 2 ^ q∧A * 2 ^ q < 9007199254740992:=by
 have hpk:0 < 2 ^ k:=Nat.two_pow_pos k
 have hM:0 < A * 2 ^ k:=Nat.mul_pos hA hpk
 have hM0:A * 2 ^ k ≠ 0:=by omega
 obtain ⟨L,hL⟩:∃ L,(A * 2 ^ k).log2=L:=⟨_,rfl⟩
 have hlo:2 ^ L ≤ A * 2 ^ k:=by rw [← hL]; exact Nat.log2_self_le hM0
 have hhi:A * 2 ^ k < 2 ^ (L + 1):=by rw [← hL]; exact Nat.lt_log2_self
 have hkL:k ≤ L:=by
  have:2 ^ k < 2 ^ (L + 1):=Nat.lt_of_le_of_lt (Nat.le_mul_of_pos_left _ hA) hhi
  have:=(Nat.pow_lt_pow_iff_right (by omega:1 < 2)).1 this
  omega
 have h52:(4503599627370496:Nat)=2 ^ 52:=by decide
 have h53:(9007199254740992:Nat)=2 ^ 53:=by decide
 have hL52:L ≤ 52 + k:=by
  have h1:A * 2 ^ k < 9007199254740992 * 2 ^ k:=Nat.mul_lt_mul_of_pos_right hlt hpk
  rw [h53,← Nat.pow_add] at h1
  have:=(Nat.pow_lt_pow_iff_right (by omega:1 < 2)).1 (Nat.lt_of_le_of_lt hlo h1)
  omega
 obtain ⟨q,hq⟩:∃ q,k + 52=q + L:=⟨k + 52 - L,by omega⟩
 have hpL:0 < 2 ^ L:=Nat.two_pow_pos L
 have hrel:A * 2 ^ k * 4503599627370496=A * 2 ^ q * 2 ^ L:=by rw [h52,Nat.mul_assoc,← Nat.pow_add,hq,Nat.pow_add,Nat.mul_assoc]
 refine ⟨q,L,hL,by omega,hq,?_,?_⟩
 ·refine Nat.le_of_mul_le_mul_right ?_ hpL
  rw [← hrel,Nat.mul_comm 4503599627370496]
  exact Nat.mul_le_mul_right _ hlo
 ·refine Nat.lt_of_mul_lt_mul_right (a:=2 ^ L) ?_
  rw [← hrel]
  have h1:A * 2 ^ k * 4503599627370496 < 2 ^ (L + 1) * 4503599627370496:=Nat.mul_lt_mul_of_pos_right hhi (by decide)
  have h2:2 ^ (L + 1) * 4503599627370496=9007199254740992 * 2 ^ L:=by
   rw [h52,h53,← Nat.pow_add,← Nat.pow_add,show L + 1 + 52=53 + L by omega]
  rw [← h2]
  exact h1

theorem kept_cut (neg:Bool) (A k q:Nat) (hA:0 < A) (hq:0 < A * 2 ^ q):Toward.even.cut neg ((A * 2 ^ k) <<< (-(k:Int) - -(q:Int)).toNat) (-(q:Int) - -(k:Int)).toNat=A * 2 ^ q:=by
 by_cases h:k ≤ q
 ·have e1:(-(k:Int) - -(q:Int)).toNat=q - k:=by omega
  have e2:(-(q:Int) - -(k:Int)).toNat=0:=by omega
  rw [e1,e2,cut_none _ rfl,Nat.shiftLeft_eq,Nat.mul_assoc,← Nat.pow_add,show k + (q - k)=q by omega]
 ·have e1:(-(k:Int) - -(q:Int)).toNat=0:=by omega
  have e2:(-(q:Int) - -(k:Int)).toNat=k - q:=by omega
  have e3:A * 2 ^ k=A * 2 ^ q * 2 ^ (k - q):=by rw [Nat.mul_assoc,← Nat.pow_add,show q + (k - q)=k by omega]
  rw [e1,e2,Nat.shiftLeft_zero,e3]
  exact cut_exact neg _ _ hq

theorem nearest_rung (neg:Bool) (M:Nat) (k q L K:Nat) (hM0:M ≠ 0) (hL:M.log2=L) (hq:k + 52=q + L) (hq52:q ≤ 52) (hK:Toward.even.cut neg (M <<< (-(k:Int) - -(q:Int)).toNat) (-(q:Int) - -(k:Int)).toNat=K) :
  double.nearest neg M (-(k:Int))=double.word neg (min ((1074 - q) * 4503599627370496 + K) 9218868437227405312):=by
 have hlast:max (-(k:Int) + (L:Int) - 52) (-1074)=-(q:Int):=by omega
 have e1:(-(q:Int) - -1074).toNat=1074 - q:=by omega
 unfold Format.nearest
 rw [if_neg hM0,hL,dbl_frac,dbl_least,dbl_binade,dbl_inf]
 show double.word neg (min ((max (-(k:Int) + (L:Int) - 52) (-1074) - -1074).toNat * 4503599627370496 + Toward.even.cut neg (M <<< (-(k:Int) - max (-(k:Int) + (L:Int) - 52) (-1074)).toNat) (max (-(k:Int) + (L:Int) - 52) (-1074) - -(k:Int)).toNat) 9218868437227405312)=_
 rw [hlast,hK,e1]

theorem read_nearest (neg:Bool) (A k:Nat) (hA:0 < A) (hlt:A < 9007199254740992):∃ k':Nat,double.read (double.nearest neg (A * 2 ^ k) (-(k:Int)))=.number neg (A * 2 ^ k') (-(k':Int)):=by
 obtain ⟨q,L,hL,hq52,hq,hlo,hhi⟩:=kept_parts A k hA hlt
 have hM:A * 2 ^ k ≠ 0:=Nat.ne_of_gt (Nat.mul_pos hA (Nat.two_pow_pos k))
 have hcut:=kept_cut neg A k q hA (by omega)
 refine ⟨q,?_⟩
 rw [nearest_rung neg _ k q L _ hM hL hq hq52 hcut]
 clear hcut hM hL
 obtain ⟨K,hK⟩:∃ K,A * 2 ^ q=K:=⟨_,rfl⟩
 rw [hK] at hlo hhi ⊢
 clear hK
 obtain ⟨f,rfl⟩:∃ f,K=4503599627370496 + f:=⟨K - 4503599627370496,by omega⟩
 rw [rung_min _ _ (by omega) (by omega),read_word _ _ _ (by omega) (by omega),show -1074 + ((1074 - q:Nat):Int)=-(q:Int) by omega]

theorem rd_write (neg:Bool) (A k:Nat) (h:A < 9007199254740992):Rd (double.write (.number neg (A * 2 ^ k) (-(k:Int)))) (signed neg A 0):=by
 by_cases h0:A=0
 ·subst h0
  obtain ⟨z,hz⟩:∃ z:Nat,z=1074:=⟨_,rfl⟩
  refine ⟨neg,0,z,?_,rfl⟩
  show double.read (double.nearest neg (0 * 2 ^ k) (-(k:Int)))=_
  unfold Format.nearest
  rw [Nat.zero_mul,if_pos rfl,read_zero,Nat.zero_mul,hz]
  rfl
 ·obtain ⟨k',h'⟩:=read_nearest neg A k (by omega) h
  exact ⟨neg,A,k',h',rfl⟩

end Go.Proofs.YtdfanhjnkjdngabGreatDoor

/- Whole numbers as float64: sums, differences, products, comparisons and conversions are exact. -/
namespace Go.Proofs.YtdfanhjnkjdngabGreatDoor
set_option maxRecDepth 100000
set_option maxHeartbeats 8000000
open Ieee
set_option linter.unusedVariables false

theorem signed_up (s:Bool) (m u:Nat):signed s m u=signed s m 0 * 2 ^ u:=by
 cases s <;> simp [signed,Nat.shiftLeft_eq,Int.natCast_mul,Int.natCast_pow,Int.neg_mul]

theorem signed_mul (s:Bool) (A B:Nat):signed s (A * B) 0=signed s A 0 * (B:Int):=by
 cases s <;> simp [signed,Int.natCast_mul,Int.neg_mul]

theorem pow_pos_int (k:Nat):(0:Int) < 2 ^ k:=Int.pow_pos (by omega)

theorem over_place (s:Bool) (A k K:Nat) (h:k ≤ K):signed s (A * 2 ^ k) (-(k:Int) - -(K:Int)).toNat=signed s A 0 * 2 ^ K:=by
 have e:(-(k:Int) - -(K:Int)).toNat=K - k:=by omega
 rw [e,signed_up,signed_mul,Int.natCast_pow,Int.mul_assoc]
 congr 1
 show (2:Int) ^ k * 2 ^ (K - k)=2 ^ K
 rw [← Int.pow_add,show k + (K - k)=K by omega]

theorem min_place (k j:Nat):min (-(k:Int)) (-(j:Int))=-((max k j:Nat):Int):=by omega

theorem rd_write' (neg:Bool) (n:Int) (K:Nat) (hn:n.natAbs < 9007199254740992) (hs:if neg then n ≤ 0 else 0 ≤ n):Rd (double.write (.number neg (n.natAbs * 2 ^ K) (-(K:Int)))) n:=by
 have h:=rd_write neg n.natAbs K hn
 have e:signed neg n.natAbs 0=n:=by
  rw [signed_zero]
  cases neg <;> simp at hs ⊢ <;> omega
 rwa [e] at h

theorem compare_scaled (a b:Int) (K:Nat):compare (a * 2 ^ K) (b * 2 ^ K)=compare a b:=by
 have hp:=pow_pos_int K
 simp only [compare,compareOfLessAndEq]
 have h1:(a * 2 ^ K < b * 2 ^ K) ↔ a < b:=⟨fun h=>Int.lt_of_mul_lt_mul_right h (Int.le_of_lt hp),fun h=>Int.mul_lt_mul_of_pos_right h hp⟩
 have h2:(a * 2 ^ K=b * 2 ^ K) ↔ a=b:=⟨fun h=>Int.eq_of_mul_eq_mul_right (by omega) h,fun h=>by rw [h]⟩
 simp only [h1,h2]

theorem rd_order {x y:Nat} {a b:Int} (hx:Rd x a) (hy:Rd y b):double.order x y=some (compare a b):=by
 obtain ⟨s,A,k,h1,ha⟩:=hx
 obtain ⟨t,B,j,h2,hb⟩:=hy
 have e1:=over_place s A k (max k j) (by omega)
 have e2:=over_place t B j (max k j) (by omega)
 unfold Format.order
 rw [h1,h2]
 simp only [Datum.order]
 rw [min_place,e1,e2,compare_scaled,ha,hb]

theorem rd_int (n:Int) (hn:n.natAbs < 9007199254740992):Rd (FloatKind.f64.encode (.number (n < 0) n.natAbs 0)) n:=by
 have h:=rd_write' (decide (n < 0)) n 0 hn (by by_cases h:n < 0 <;> simp [h] <;> omega)
 rw [Nat.pow_zero,Nat.mul_one] at h
 exact h

end Go.Proofs.YtdfanhjnkjdngabGreatDoor

