/- Joined: XGFloat, XGFloat2, XGFloat3, XGFloat4, XGHuge. -/
import Derived.Laws.FloatArith
import Derived.Laws.ComplexArith
/- Whole numbers as float64: each operation on whole numbers below 2^53 is exact. Plain mathematics over the words of the format, of no function of the program. -/
namespace Go.Proofs.YtknmgefpjdfenaaGreat
set_option maxRecDepth 100000
set_option maxHeartbeats 8000000
open Ieee
set_option linter.unusedVariables false

theorem dbl_sign:double.signWeight=9223372036854775808:=by decide +kernel

theorem dbl_binade:double.binade=4503599627370496:=by decide +kernel

theorem dbl_inf:double.infRung=9218868437227405312:=by decide +kernel

theorem dbl_least:double.leastPlace=-1074:=rfl

theorem dbl_frac:double.fractionBits=52:=rfl

def Rd (x:Nat) (n:Int):Prop:=∃ (s:Bool) (A k:Nat),double.read x=.number s (A * 2 ^ k) (-(k:Int))∧n=signed s A 0

theorem signed_zero (s:Bool) (A:Nat):signed s A 0=if s then -(A:Int) else (A:Int):=by simp [signed]

theorem read_word (neg:Bool) (e f:Nat) (he:e ≤ 1074) (hf:f < 4503599627370496):double.read (double.word neg ((e + 1) * 4503599627370496 + f))=.number neg (4503599627370496 + f) (-1074 + (e:Int)):=by
 have h1:double.word neg ((e + 1) * 4503599627370496 + f) % double.signWeight=(e + 1) * 4503599627370496 + f:=by
  rw [dbl_sign]
  cases neg
  ·show ((e + 1) * 4503599627370496 + f) % 9223372036854775808=_
   omega
  ·show (double.signWeight + ((e + 1) * 4503599627370496 + f)) % 9223372036854775808=_
   rw [dbl_sign]
   omega
 have h2:(double.word neg ((e + 1) * 4503599627370496 + f) / double.signWeight % 2 == 1)=neg:=by
  rw [dbl_sign]
  cases neg
  ·show (((e + 1) * 4503599627370496 + f) / 9223372036854775808 % 2 == 1)=false
   have:((e + 1) * 4503599627370496 + f) / 9223372036854775808=0:=by omega
   rw [this]; rfl
  ·show ((double.signWeight + ((e + 1) * 4503599627370496 + f)) / 9223372036854775808 % 2 == 1)=true
   rw [dbl_sign]
   have:(9223372036854775808 + ((e + 1) * 4503599627370496 + f)) / 9223372036854775808=1:=by omega
   rw [this]; rfl
 unfold Format.read
 simp only [h1,h2]
 rw [dbl_binade,dbl_inf,if_neg (by omega),if_pos (by omega),dbl_least]
 have e1:((e + 1) * 4503599627370496 + f) % 4503599627370496=f:=by omega
 have e2:((e + 1) * 4503599627370496 + f) / 4503599627370496 - 1=e:=by omega
 rw [e1,e2]

theorem read_zero (neg:Bool):double.read (double.word neg 0)=.number neg 0 (-1074):=by cases neg <;> decide +kernel

theorem cut_none (way:Toward) (hw:way=.even) (neg:Bool) (n:Nat):way.cut neg n 0=n:=by
 subst hw
 simp [Toward.cut]
 omega

theorem cut_exact (neg:Bool) (B d:Nat) (hB:0 < B):Toward.even.cut neg (B * 2 ^ d) d=B:=by
 have hp:0 < 2 ^ d:=Nat.two_pow_pos d
 have hl:d ≤ (B * 2 ^ d).log2:=by
  have:2 ^ d ≤ B * 2 ^ d:=Nat.le_mul_of_pos_left _ hB
  rw [Nat.le_log2 (by have:=Nat.mul_pos hB hp; omega)]
  exact this
 have hm:min d ((B * 2 ^ d).log2 + 2)=d:=by omega
 unfold Toward.cut
 simp only [hm,Nat.one_shiftLeft,Nat.mul_div_cancel _ hp,Nat.mul_mod_left]
 have h1:(decide (2 ^ d < 2 * 0) || (2 ^ d == 2 * 0 && B % 2 == 1))=false:=by
  have:¬ 2 ^ d=0:=by omega
  simp
 simp only [h1]
 rfl

theorem rung_min (e f:Nat) (he:e ≤ 1074) (hf:f < 4503599627370496):min (e * 4503599627370496 + (4503599627370496 + f)) 9218868437227405312=(e + 1) * 4503599627370496 + f:=by
 rw [Nat.min_eq_left (by omega),Nat.succ_mul,Nat.add_assoc]

theorem kept_parts (A k:Nat) (hA:0 < A) (hlt:A < 9007199254740992):∃ q L:Nat,(A * 2 ^ k).log2=L∧q ≤ 52∧k + 52=q + L∧4503599627370496 ≤ A * 2 ^ q∧A * 2 ^ q < 9007199254740992:=by
 have hpk:0 < 2 ^ k:=Nat.two_pow_pos k
 have hM:0 < A * 2 ^ k:=Nat.mul_pos hA hpk
 have hM0:A * 2 ^ k ≠ 0:=by omega
 obtain ⟨L,hL⟩:∃ L,(A * 2 ^ k).log2=L:=⟨_,rfl⟩
 have hlo:2 ^ L ≤ A * 2 ^ k:=by rw [← hL]; exact Nat.log2_self_le hM0
 have hhi:A * 2 ^ k < 2 ^ (L + 1):=by rw [← hL]; exact Nat.lt_log2_self
 have hkL:k ≤ L:=by
  have:2 ^ k < 2 ^ (L + 1):=Nat.lt_of_le_of_lt (Nat.le_mul_of_pos_left _ hA) hhi
  have:=(Nat.pow_lt_pow_iff_right (by omega:1 < 2)).1 this
  omega
 have h52:(4503599627370496:Nat)=2 ^ 52:=by decide
 have h53:(9007199254740992:Nat)=2 ^ 53:=by decide
 have hL52:L ≤ 52 + k:=by
  have h1:A * 2 ^ k < 9007199254740992 * 2 ^ k:=Nat.mul_lt_mul_of_pos_right hlt hpk
  rw [h53,← Nat.pow_add] at h1
  have:=(Nat.pow_lt_pow_iff_right (by omega:1 < 2)).1 (Nat.lt_of_le_of_lt hlo h1)
  omega
 obtain ⟨q,hq⟩:∃ q,k + 52=q + L:=⟨k + 52 - L,by omega⟩
 have hpL:0 < 2 ^ L:=Nat.two_pow_pos L
 have hrel:A * 2 ^ k * 4503599627370496=A * 2 ^ q * 2 ^ L:=by rw [h52,Nat.mul_assoc,← Nat.pow_add,hq,Nat.pow_add,Nat.mul_assoc]
 refine ⟨q,L,hL,by omega,hq,?_,?_⟩
 ·refine Nat.le_of_mul_le_mul_right ?_ hpL
  rw [← hrel,Nat.mul_comm 4503599627370496]
  exact Nat.mul_le_mul_right _ hlo
 ·refine Nat.lt_of_mul_lt_mul_right (a:=2 ^ L) ?_
  rw [← hrel]
  have h1:A * 2 ^ k * 4503599627370496 < 2 ^ (L + 1) * 4503599627370496:=Nat.mul_lt_mul_of_pos_right hhi (by decide)
  have h2:2 ^ (L + 1) * 4503599627370496=9007199254740992 * 2 ^ L:=by
   rw [h52,h53,← Nat.pow_add,← Nat.pow_add,show L + 1 + 52=53 + L by omega]
  rw [← h2]
  exact h1

theorem kept_cut (neg:Bool) (A k q:Nat) (hA:0 < A) (hq:0 < A * 2 ^ q):Toward.even.cut neg ((A * 2 ^ k) <<< (-(k:Int) - -(q:Int)).toNat) (-(q:Int) - -(k:Int)).toNat=A * 2 ^ q:=by
 by_cases h:k ≤ q
 ·have e1:(-(k:Int) - -(q:Int)).toNat=q - k:=by omega
  have e2:(-(q:Int) - -(k:Int)).toNat=0:=by omega
  rw [e1,e2,cut_none _ rfl,Nat.shiftLeft_eq,Nat.mul_assoc,← Nat.pow_add,show k + (q - k)=q by omega]
 ·have e1:(-(k:Int) - -(q:Int)).toNat=0:=by omega
  have e2:(-(q:Int) - -(k:Int)).toNat=k - q:=by omega
  have e3:A * 2 ^ k=A * 2 ^ q * 2 ^ (k - q):=by rw [Nat.mul_assoc,← Nat.pow_add,show q + (k - q)=k by omega]
  rw [e1,e2,Nat.shiftLeft_zero,e3]
  exact cut_exact neg _ _ hq

theorem nearest_rung (neg:Bool) (M:Nat) (k q L K:Nat) (hM0:M ≠ 0) (hL:M.log2=L) (hq:k + 52=q + L) (hq52:q ≤ 52) (hK:Toward.even.cut neg (M <<< (-(k:Int) - -(q:Int)).toNat) (-(q:Int) - -(k:Int)).toNat=K) :
  double.nearest neg M (-(k:Int))=double.word neg (min ((1074 - q) * 4503599627370496 + K) 9218868437227405312):=by
 have hlast:max (-(k:Int) + (L:Int) - 52) (-1074)=-(q:Int):=by omega
 have e1:(-(q:Int) - -1074).toNat=1074 - q:=by omega
 unfold Format.nearest
 rw [if_neg hM0,hL,dbl_frac,dbl_least,dbl_binade,dbl_inf]
 show double.word neg (min ((max (-(k:Int) + (L:Int) - 52) (-1074) - -1074).toNat * 4503599627370496 + Toward.even.cut neg (M <<< (-(k:Int) - max (-(k:Int) + (L:Int) - 52) (-1074)).toNat) (max (-(k:Int) + (L:Int) - 52) (-1074) - -(k:Int)).toNat) 9218868437227405312)=_
 rw [hlast,hK,e1]

theorem read_nearest (neg:Bool) (A k:Nat) (hA:0 < A) (hlt:A < 9007199254740992):∃ k':Nat,double.read (double.nearest neg (A * 2 ^ k) (-(k:Int)))=.number neg (A * 2 ^ k') (-(k':Int)):=by
 obtain ⟨q,L,hL,hq52,hq,hlo,hhi⟩:=kept_parts A k hA hlt
 have hM:A * 2 ^ k ≠ 0:=Nat.ne_of_gt (Nat.mul_pos hA (Nat.two_pow_pos k))
 have hcut:=kept_cut neg A k q hA (by omega)
 refine ⟨q,?_⟩
 rw [nearest_rung neg _ k q L _ hM hL hq hq52 hcut]
 clear hcut hM hL
 obtain ⟨K,hK⟩:∃ K,A * 2 ^ q=K:=⟨_,rfl⟩
 rw [hK] at hlo hhi ⊢
 clear hK
 obtain ⟨f,rfl⟩:∃ f,K=4503599627370496 + f:=⟨K - 4503599627370496,by omega⟩
 rw [rung_min _ _ (by omega) (by omega),read_word _ _ _ (by omega) (by omega),show -1074 + ((1074 - q:Nat):Int)=-(q:Int) by omega]

theorem rd_write (neg:Bool) (A k:Nat) (h:A < 9007199254740992):Rd (double.write (.number neg (A * 2 ^ k) (-(k:Int)))) (signed neg A 0):=by
 by_cases h0:A=0
 ·subst h0
  obtain ⟨z,hz⟩:∃ z:Nat,z=1074:=⟨_,rfl⟩
  refine ⟨neg,0,z,?_,rfl⟩
  show double.read (double.nearest neg (0 * 2 ^ k) (-(k:Int)))=_
  unfold Format.nearest
  rw [Nat.zero_mul,if_pos rfl,read_zero,Nat.zero_mul,hz]
  rfl
 ·obtain ⟨k',h'⟩:=read_nearest neg A k (by omega) h
  exact ⟨neg,A,k',h',rfl⟩

end Go.Proofs.YtknmgefpjdfenaaGreat

/- Whole numbers as float64: sums, differences, products, comparisons and conversions are exact. -/
namespace Go.Proofs.YtknmgefpjdfenaaGreat
set_option maxRecDepth 100000
set_option maxHeartbeats 8000000
open Ieee
set_option linter.unusedVariables false

theorem signed_up (s:Bool) (m u:Nat):signed s m u=signed s m 0 * 2 ^ u:=by
 cases s <;> simp [signed,Nat.shiftLeft_eq,Int.natCast_mul,Int.natCast_pow,Int.neg_mul]

theorem signed_mul (s:Bool) (A B:Nat):signed s (A * B) 0=signed s A 0 * (B:Int):=by
 cases s <;> simp [signed,Int.natCast_mul,Int.neg_mul]

theorem pow_pos_int (k:Nat):(0:Int) < 2 ^ k:=Int.pow_pos (by omega)

theorem over_place (s:Bool) (A k K:Nat) (h:k ≤ K):signed s (A * 2 ^ k) (-(k:Int) - -(K:Int)).toNat=signed s A 0 * 2 ^ K:=by
 have e:(-(k:Int) - -(K:Int)).toNat=K - k:=by omega
 rw [e,signed_up,signed_mul,Int.natCast_pow,Int.mul_assoc]
 congr 1
 show (2:Int) ^ k * 2 ^ (K - k)=2 ^ K
 rw [← Int.pow_add,show k + (K - k)=K by omega]

theorem min_place (k j:Nat):min (-(k:Int)) (-(j:Int))=-((max k j:Nat):Int):=by omega

theorem natAbs_pow (n:Int) (K:Nat):(n * 2 ^ K).natAbs=n.natAbs * 2 ^ K:=by
 rw [Int.natAbs_mul,Int.natAbs_pow]
 rfl

theorem rd_write' (neg:Bool) (n:Int) (K:Nat) (hn:n.natAbs < 9007199254740992) (hs:if neg then n ≤ 0 else 0 ≤ n):Rd (double.write (.number neg (n.natAbs * 2 ^ K) (-(K:Int)))) n:=by
 have h:=rd_write neg n.natAbs K hn
 have e:signed neg n.natAbs 0=n:=by
  rw [signed_zero]
  cases neg <;> simp at hs ⊢ <;> omega
 rwa [e] at h

theorem sign_sum (n:Int) (K:Nat) (s t:Bool):if (if n * 2 ^ K=0 then s && t else decide (n * 2 ^ K < 0))=true then n ≤ 0 else 0 ≤ n:=by
 have hp:=pow_pos_int K
 by_cases h0:n=0
 ·subst h0
  rw [Int.zero_mul,if_pos rfl]
  split <;> exact Int.le_refl 0
 ·have h1:n * 2 ^ K ≠ 0:=Int.mul_ne_zero h0 (by omega)
  rw [if_neg h1]
  by_cases h2:n < 0
  ·have:n * 2 ^ K < 0:=Int.mul_neg_of_neg_of_pos h2 hp
   rw [if_pos (by simpa using this)]
   omega
  ·have:¬ n * 2 ^ K < 0:=by
    have:=Int.mul_nonneg (by omega:0 ≤ n) (Int.le_of_lt hp)
    omega
   rw [if_neg (by simpa using this)]
   omega

theorem rd_sum {x y:Nat} {a b:Int} {d1 d2:Datum} (s t:Bool) (A B k j:Nat) (h1:d1=.number s (A * 2 ^ k) (-(k:Int))) (h2:d2=.number t (B * 2 ^ j) (-(j:Int))) (ha:a=signed s A 0) (hb:b=signed t B 0) (hn:(a + b).natAbs < 9007199254740992) :
  ∃ r,(d1.sum d2).map double.write=some r∧Rd r (a + b):=by
 subst h1 h2
 have e1:=over_place s A k (max k j) (by omega)
 have e2:=over_place t B j (max k j) (by omega)
 have e3:signed s (A * 2 ^ k) (-(k:Int) - min (-(k:Int)) (-(j:Int))).toNat + signed t (B * 2 ^ j) (-(j:Int) - min (-(k:Int)) (-(j:Int))).toNat=(a + b) * 2 ^ (max k j):=by
  rw [min_place,e1,e2,ha,hb,Int.add_mul]
 have e4:(Datum.number s (A * 2 ^ k) (-(k:Int))).sum (.number t (B * 2 ^ j) (-(j:Int)))=some (.number (if (a + b) * 2 ^ (max k j)=0 then s && t else decide ((a + b) * 2 ^ (max k j) < 0)) ((a + b).natAbs * 2 ^ (max k j)) (-((max k j:Nat):Int))):=by
  simp only [Datum.sum]
  rw [e3,natAbs_pow,min_place]
 refine ⟨_,by rw [e4,Option.map_some],?_⟩
 exact rd_write' _ _ _ hn (sign_sum _ _ _ _)

theorem rd_add {x y:Nat} {a b:Int} (hx:Rd x a) (hy:Rd y b) (hn:(a + b).natAbs < 9007199254740992):∃ r,floatBits .add .f64 x y=some r∧Rd r (a + b):=by
 obtain ⟨s,A,k,h1,ha⟩:=hx
 obtain ⟨t,B,j,h2,hb⟩:=hy
 exact rd_sum (x:=x) (y:=y) s t A B k j h1 h2 ha hb hn

theorem compare_scaled (a b:Int) (K:Nat):compare (a * 2 ^ K) (b * 2 ^ K)=compare a b:=by
 have hp:=pow_pos_int K
 simp only [compare,compareOfLessAndEq]
 have h1:(a * 2 ^ K < b * 2 ^ K) ↔ a < b:=⟨fun h=>Int.lt_of_mul_lt_mul_right h (Int.le_of_lt hp),fun h=>Int.mul_lt_mul_of_pos_right h hp⟩
 have h2:(a * 2 ^ K=b * 2 ^ K) ↔ a=b:=⟨fun h=>Int.eq_of_mul_eq_mul_right (by omega) h,fun h=>by rw [h]⟩
 simp only [h1,h2]

theorem rd_order {x y:Nat} {a b:Int} (hx:Rd x a) (hy:Rd y b):double.order x y=some (compare a b):=by
 obtain ⟨s,A,k,h1,ha⟩:=hx
 obtain ⟨t,B,j,h2,hb⟩:=hy
 have e1:=over_place s A k (max k j) (by omega)
 have e2:=over_place t B j (max k j) (by omega)
 unfold Format.order
 rw [h1,h2]
 simp only [Datum.order]
 rw [min_place,e1,e2,compare_scaled,ha,hb]

theorem rd_int (n:Int) (hn:n.natAbs < 9007199254740992):Rd (FloatKind.f64.encode (.number (n < 0) n.natAbs 0)) n:=by
 have h:=rd_write' (decide (n < 0)) n 0 hn (by by_cases h:n < 0 <;> simp [h] <;> omega)
 rw [Nat.pow_zero,Nat.mul_one] at h
 exact h

end Go.Proofs.YtknmgefpjdfenaaGreat

/- Floats of whatever kind: which are whole numbers, what int(x) makes of them, and what -x is. -/
namespace Go.Proofs.YtknmgefpjdfenaaGreat
set_option maxRecDepth 100000
set_option maxHeartbeats 8000000
open Ieee
set_option linter.unusedVariables false

theorem toInt_trunc (s:Bool) (m k:Nat):(Datum.number s m (-(k:Int))).toInt .zero=some (signed s (m / 2 ^ k) 0):=by
 have e1:(-(k:Int)).toNat=0:=by omega
 have e2:(- -(k:Int)).toNat=k:=by omega
 unfold Datum.toInt Datum.integral
 simp only [e1,e2,Nat.shiftLeft_zero,Toward.cut,Bool.toNat_false,Nat.add_zero,Nat.one_shiftLeft]
 congr 2
 by_cases h:k ≤ m.log2 + 2
 ·rw [Nat.min_eq_left h]
 ·rw [Nat.min_eq_right (by omega)]
  have hm:m < 2 ^ (m.log2 + 1):=Nat.lt_log2_self
  have h1:m < 2 ^ (m.log2 + 2):=Nat.lt_trans hm (Nat.pow_lt_pow_right (by omega) (by omega))
  have h2:m < 2 ^ k:=Nat.lt_trans h1 (Nat.pow_lt_pow_right (by omega) (by omega))
  rw [Nat.div_eq_of_lt h1,Nat.div_eq_of_lt h2]

theorem rd_toInt {x:Nat} {n:Int} (h:Rd x n):(double.read x).toInt .zero=some n:=by
 obtain ⟨s,A,k,h1,rfl⟩:=h
 rw [h1,toInt_trunc,Nat.mul_div_cancel _ (Nat.two_pow_pos k)]

end Go.Proofs.YtknmgefpjdfenaaGreat

/- Complex numbers whose parts are whole: sums, differences, products, equality, -z; constants. -/
namespace Go.Proofs.YtknmgefpjdfenaaGreat
set_option maxRecDepth 100000
set_option maxHeartbeats 8000000
open Ieee
set_option linter.unusedVariables false

theorem rd_of_zero {x:Nat} {s:Bool} (h:double.read x=.number s 0 (-1074)):Rd x 0:=by
 obtain ⟨z,hz⟩:∃ z:Nat,z=1074:=⟨_,rfl⟩
 refine ⟨s,0,z,?_,by cases s <;> rfl⟩
 rw [Nat.zero_mul,hz]
 exact h

theorem rd_zero:Rd 0 0:=rd_of_zero (s:=false) (by decide +kernel)

end Go.Proofs.YtknmgefpjdfenaaGreat

/- Sums of whole numbers that may grow beyond what a float64 tells exactly: once they are great they stay great. -/
namespace Go.Proofs.YtknmgefpjdfenaaGreat
set_option maxRecDepth 100000
set_option maxHeartbeats 8000000
open Ieee
set_option linter.unusedVariables false

def Hg (x:Nat):Prop:=double.read x=.infinity false ∨ (∃ (m:Nat) (p:Int),double.read x=.number false m p∧0 < p∧4503599627370496 ≤ m) ∨ ∃ (m k:Nat),double.read x=.number false m (-(k:Int))∧2147483648 * 2 ^ k ≤ m

def Am (x:Nat) (n:Int):Prop:=(0 ≤ n∧n < 1099511627776∧Rd x n) ∨ (2147483648 ≤ n∧Hg x)

theorem Am.nonneg {x:Nat} {n:Int} (h:Am x n):0 ≤ n:=by
 rcases h with h | h
 ·exact h.1
 ·omega

theorem am_of {x:Nat} {n:Int} (h:Rd x n) (h0:0 ≤ n) (h1:n ≤ 1073741824):Am x n:=.inl ⟨h0,by omega,h⟩

theorem am_small {x:Nat} {n:Int} (h:Am x n) (h1:n ≤ 1073741824):Rd x n:=by
 rcases h with h | h
 ·exact h.2.2
 ·omega

theorem hg_of_rd {x:Nat} {n:Int} (h:Rd x n) (hn:2147483648 ≤ n):Hg x:=by
 obtain ⟨s,A,k,h1,h2⟩:=h
 rw [signed_zero] at h2
 cases s
 ·refine .inr (.inr ⟨A * 2 ^ k,k,h1,Nat.mul_le_mul_right _ ?_⟩)
  simp at h2
  omega
 ·simp at h2
  omega

theorem hg_word (R:Nat) (h1:4746794007248502784 ≤ R) (h2:R ≤ 9218868437227405312):Hg (double.word false R):=by
 have hw:double.word false R=R:=rfl
 have e1:R % 9223372036854775808=R:=by omega
 have e2:(R / 9223372036854775808 % 2 == 1)=false:=by
  have:R / 9223372036854775808=0:=by omega
  rw [this]; rfl
 have hr:double.read R=if R < 9218868437227405312 then .number false (4503599627370496 + R % 4503599627370496) (-1074 + ((R / 4503599627370496 - 1:Nat):Int)) else if R=9218868437227405312 then .infinity false else .nan false (R - 9218868437227405312):=by
  unfold Format.read
  rw [dbl_sign,dbl_binade,dbl_inf,dbl_least]
  simp only [e1,e2]
  rw [if_neg (by omega)]
 rw [hw]
 by_cases h3:R < 9218868437227405312
 ·rw [if_pos h3] at hr
  obtain ⟨q,hq⟩:∃ q,R / 4503599627370496=q:=⟨_,rfl⟩
  rw [hq] at hr
  have hq1:1054 ≤ q:=by omega
  by_cases h4:1075 < q
  ·exact .inr (.inl ⟨_,_,hr,by omega,by omega⟩)
  ·obtain ⟨k,hk⟩:∃ k,1075=q + k:=⟨1075 - q,by omega⟩
   have hp:(-1074 + ((q - 1:Nat):Int))=-(k:Int):=by omega
   rw [hp] at hr
   refine .inr (.inr ⟨_,k,hr,?_⟩)
   have h5:2 ^ k ≤ 2 ^ 21:=Nat.pow_le_pow_right (by omega) (by omega)
   have h6:2147483648 * 2 ^ k ≤ 2147483648 * 2 ^ 21:=Nat.mul_le_mul_left _ h5
   have h7:2147483648 * 2 ^ 21=4503599627370496:=by decide
   omega
 ·rw [if_neg h3,if_pos (by omega)] at hr
  exact .inl hr

theorem cut_ge (n d L:Nat) (hL:n.log2=L) (hd:d ≤ L) (hn:n ≠ 0):2 ^ (L - d) ≤ Toward.even.cut false n d:=by
 have hm:min d (n.log2 + 2)=d:=by omega
 have h1:2 ^ L ≤ n:=by rw [← hL]; exact Nat.log2_self_le hn
 unfold Toward.cut
 simp only [hm,Nat.one_shiftLeft]
 have h2:2 ^ (L - d) ≤ n / 2 ^ d:=by
  rw [Nat.le_div_iff_mul_le (Nat.two_pow_pos d),← Nat.pow_add,show L - d + d=L by omega]
  exact h1
 exact Nat.le_trans h2 (Nat.le_add_right _ _)

theorem hg_nearest (T K:Nat) (h:2147483648 * 2 ^ K ≤ T):Hg (double.nearest false T (-(K:Int))):=by
 have hp:0 < 2 ^ K:=Nat.two_pow_pos K
 have hT:T ≠ 0:=by
  have:0 < 2147483648 * 2 ^ K:=Nat.mul_pos (by omega) hp
  omega
 obtain ⟨L,hL⟩:∃ L,T.log2=L:=⟨_,rfl⟩
 have hL1:31 + K ≤ L:=by
  rw [← hL,Nat.le_log2 hT,Nat.pow_add]
  exact h
 have hlast:max (-(K:Int) + (L:Int) - 52) (-1074)=(L:Int) - 52 - (K:Int):=by omega
 unfold Format.nearest
 rw [if_neg hT,hL,dbl_frac,dbl_least,dbl_binade,dbl_inf]
 show Hg (double.word false (min ((max (-(K:Int) + (L:Int) - 52) (-1074) - -1074).toNat * 4503599627370496 + Toward.even.cut false (T <<< (-(K:Int) - max (-(K:Int) + (L:Int) - 52) (-1074)).toNat) (max (-(K:Int) + (L:Int) - 52) (-1074) - -(K:Int)).toNat) 9218868437227405312))
 rw [hlast]
 have hk:4503599627370496 ≤ Toward.even.cut false (T <<< (-(K:Int) - ((L:Int) - 52 - (K:Int))).toNat) ((L:Int) - 52 - (K:Int) - -(K:Int)).toNat:=by
  by_cases h52:52 ≤ L
  ·have e1:(-(K:Int) - ((L:Int) - 52 - (K:Int))).toNat=0:=by omega
   have e2:((L:Int) - 52 - (K:Int) - -(K:Int)).toNat=L - 52:=by omega
   rw [e1,e2,Nat.shiftLeft_zero]
   have:=cut_ge T (L - 52) L hL (by omega) hT
   rw [show L - (L - 52)=52 by omega] at this
   exact this
  ·have e1:(-(K:Int) - ((L:Int) - 52 - (K:Int))).toNat=52 - L:=by omega
   have e2:((L:Int) - 52 - (K:Int) - -(K:Int)).toNat=0:=by omega
   rw [e1,e2,cut_none _ rfl,Nat.shiftLeft_eq]
   have h1:2 ^ L ≤ T:=by rw [← hL]; exact Nat.log2_self_le hT
   have h2:2 ^ L * 2 ^ (52 - L) ≤ T * 2 ^ (52 - L):=Nat.mul_le_mul_right _ h1
   rw [← Nat.pow_add,show L + (52 - L)=52 by omega] at h2
   exact h2
 have hr:1053 ≤ ((L:Int) - 52 - (K:Int) - -1074).toNat:=by omega
 generalize Toward.even.cut false (T <<< (-(K:Int) - ((L:Int) - 52 - (K:Int))).toNat) ((L:Int) - 52 - (K:Int) - -(K:Int)).toNat=c at *
 generalize ((L:Int) - 52 - (K:Int) - -1074).toNat=a at *
 exact hg_word _ (by omega) (by omega)

theorem hg_write (T K:Nat) (h:2147483648 * 2 ^ K ≤ T):Hg (double.write (.number false T (-(K:Int)))):=hg_nearest T K h

theorem hg_inf:Hg (double.write (.infinity false)):=.inl (by decide +kernel)

theorem signed_false (m u:Nat):signed false m u=((m * 2 ^ u:Nat):Int):=by
 simp [signed,Nat.shiftLeft_eq]

theorem hg_sum {d1 d2:Datum} (t:Bool) (B j:Nat) (h2:d2=.number t (B * 2 ^ j) (-(j:Int))) (hb:0 ≤ signed t B 0)
  (h1:d1=.infinity false ∨ (∃ (m:Nat) (p:Int),d1=.number false m p∧0 < p∧4503599627370496 ≤ m) ∨ ∃ (m k:Nat),d1=.number false m (-(k:Int))∧2147483648 * 2 ^ k ≤ m) :
  ∃ r,(d1.sum d2).map double.write=some r∧Hg r:=by
 subst h2
 obtain ⟨N,hN⟩:∃ N:Nat,signed t B 0=(N:Int):=⟨(signed t B 0).toNat,by omega⟩
 have hN2:∀ u,signed t (B * 2 ^ j) u=((N * 2 ^ j * 2 ^ u:Nat):Int):=by
  intro u
  rw [signed_up,signed_mul,hN]
  simp [Int.natCast_mul,Int.natCast_pow]
 rcases h1 with rfl | ⟨m,p,rfl,hp,hm⟩ | ⟨m,k,rfl,hm⟩
 ·exact ⟨_,rfl,hg_inf⟩
 ·obtain ⟨q,rfl⟩:∃ q:Nat,p=(q:Int):=⟨p.toNat,by omega⟩
  have e1:min (q:Int) (-(j:Int))=-(j:Int):=by omega
  have e2:((q:Int) - -(j:Int)).toNat=q + j:=by omega
  have e3:(-(j:Int) - -(j:Int)).toNat=0:=by omega
  have e4:signed false m (q + j) + signed t (B * 2 ^ j) 0=((m * 2 ^ (q + j) + N * 2 ^ j * 2 ^ 0:Nat):Int):=by
   rw [signed_false,hN2,Int.natCast_add]
  have hge:2147483648 * 2 ^ j ≤ m * 2 ^ (q + j) + N * 2 ^ j * 2 ^ 0:=by
   have a1:2 ^ j ≤ 2 ^ (q + j):=Nat.pow_le_pow_right (by omega) (by omega)
   have a2:2147483648 * 2 ^ j ≤ m * 2 ^ (q + j):=Nat.mul_le_mul (by omega) a1
   omega
  have e5:(Datum.number false m (q:Int)).sum (.number t (B * 2 ^ j) (-(j:Int)))=some (.number false (m * 2 ^ (q + j) + N * 2 ^ j * 2 ^ 0) (-(j:Int))):=by
   simp only [Datum.sum]
   rw [e1,e2,e3,e4,Int.natAbs_natCast]
   have pos:0 < 2147483648 * 2 ^ j:=Nat.mul_pos (by omega) (Nat.two_pow_pos j)
   generalize m * 2 ^ (q + j) + N * 2 ^ j * 2 ^ 0=T at *
   rw [if_neg (by omega),decide_eq_false (by omega)]
  exact ⟨_,by rw [e5,Option.map_some],hg_write _ _ hge⟩
 ·have e1:min (-(k:Int)) (-(j:Int))=-((max k j:Nat):Int):=min_place k j
  have e2:(-(k:Int) - -((max k j:Nat):Int)).toNat=max k j - k:=by omega
  have e3:(-(j:Int) - -((max k j:Nat):Int)).toNat=max k j - j:=by omega
  have e4:signed false m (max k j - k) + signed t (B * 2 ^ j) (max k j - j)=((m * 2 ^ (max k j - k) + N * 2 ^ j * 2 ^ (max k j - j):Nat):Int):=by
   rw [signed_false,hN2,Int.natCast_add]
  have hge:2147483648 * 2 ^ (max k j) ≤ m * 2 ^ (max k j - k) + N * 2 ^ j * 2 ^ (max k j - j):=by
   have a1:2147483648 * 2 ^ k * 2 ^ (max k j - k) ≤ m * 2 ^ (max k j - k):=Nat.mul_le_mul_right _ hm
   rw [Nat.mul_assoc,← Nat.pow_add,show k + (max k j - k)=max k j by omega] at a1
   omega
  have e5:(Datum.number false m (-(k:Int))).sum (.number t (B * 2 ^ j) (-(j:Int)))=some (.number false (m * 2 ^ (max k j - k) + N * 2 ^ j * 2 ^ (max k j - j)) (-((max k j:Nat):Int))):=by
   simp only [Datum.sum]
   rw [e1,e2,e3,e4,Int.natAbs_natCast]
   have pos:0 < 2147483648 * 2 ^ (max k j):=Nat.mul_pos (by omega) (Nat.two_pow_pos _)
   generalize m * 2 ^ (max k j - k) + N * 2 ^ j * 2 ^ (max k j - j)=T at *
   rw [if_neg (by omega),decide_eq_false (by omega)]
  exact ⟨_,by rw [e5,Option.map_some],hg_write _ _ hge⟩

theorem hg_add {x y:Nat} {b:Int} (hx:Hg x) (hy:Rd y b) (hb:0 ≤ b):∃ r,floatBits .add .f64 x y=some r∧Hg r:=by
 obtain ⟨t,B,j,h2,h3⟩:=hy
 exact hg_sum (d1:=double.read x) t B j h2 (by omega) hx

theorem am_add {x y:Nat} {n b:Int} (hx:Am x n) (hy:Rd y b) (hb:0 ≤ b) (hb2:b ≤ 1073741824):∃ r,floatBits .add .f64 x y=some r∧Am r (n + b):=by
 rcases hx with ⟨h0,h1,h2⟩ | ⟨h1,h2⟩
 ·obtain ⟨r,e,hr⟩:=rd_add h2 hy (by omega)
  refine ⟨r,e,?_⟩
  by_cases h:n + b < 1099511627776
  ·exact .inl ⟨by omega,h,hr⟩
  ·exact .inr ⟨by omega,hg_of_rd hr (by omega)⟩
 ·obtain ⟨r,e,hr⟩:=hg_add h2 hy hb
  exact ⟨r,e,.inr ⟨by omega,hr⟩⟩

theorem hg_order {x y:Nat} {b:Int} (hx:Hg x) (hy:Rd y b) (hb:b < 2147483648):double.order x y=some .gt:=by
 obtain ⟨t,B,j,h2,h3⟩:=hy
 have hv:∀ u,signed t (B * 2 ^ j) u=b * 2 ^ j * 2 ^ u:=by
  intro u
  rw [signed_up,signed_mul,← h3]
  simp [Int.natCast_pow]
 have gt:∀ a c:Int,c < a→compare a c=.gt:=by
  intro a c h
  have h1:¬ a < c:=by omega
  have h2:¬ a=c:=by omega
  simp [compare,compareOfLessAndEq,h1,h2]
 have lift:∀ K:Nat,b * 2 ^ K < 2147483648 * 2 ^ K:=fun K=>Int.mul_lt_mul_of_pos_right hb (pow_pos_int K)
 unfold Format.order
 rw [h2]
 rcases hx with h | ⟨m,p,h,hp,hm⟩ | ⟨m,k,h,hm⟩
 ·rw [h]; rfl
 ·rw [h]
  obtain ⟨q,rfl⟩:∃ q:Nat,p=(q:Int):=⟨p.toNat,by omega⟩
  have e1:min (q:Int) (-(j:Int))=-(j:Int):=by omega
  have e2:((q:Int) - -(j:Int)).toNat=q + j:=by omega
  have e3:(-(j:Int) - -(j:Int)).toNat=0:=by omega
  simp only [Datum.order]
  rw [e1,e2,e3,signed_false,hv]
  congr 1
  refine gt _ _ ?_
  have a1:2 ^ j ≤ 2 ^ (q + j):=Nat.pow_le_pow_right (by omega) (by omega)
  have a2:2147483648 * 2 ^ j ≤ m * 2 ^ (q + j):=Nat.mul_le_mul (by omega) a1
  have a3:((2147483648 * 2 ^ j:Nat):Int) ≤ ((m * 2 ^ (q + j):Nat):Int):=Int.ofNat_le.2 a2
  have a4:=lift j
  have a5:((2147483648 * 2 ^ j:Nat):Int)=2147483648 * 2 ^ j:=by simp [Int.natCast_mul,Int.natCast_pow]
  rw [a5] at a3
  rw [Int.pow_zero,Int.mul_one]
  omega
 ·rw [h]
  have e2:(-(k:Int) - -((max k j:Nat):Int)).toNat=max k j - k:=by omega
  have e3:(-(j:Int) - -((max k j:Nat):Int)).toNat=max k j - j:=by omega
  simp only [Datum.order]
  rw [min_place,e2,e3,signed_false,hv]
  congr 1
  refine gt _ _ ?_
  have a1:2147483648 * 2 ^ k * 2 ^ (max k j - k) ≤ m * 2 ^ (max k j - k):=Nat.mul_le_mul_right _ hm
  rw [Nat.mul_assoc,← Nat.pow_add,show k + (max k j - k)=max k j by omega] at a1
  have a3:((2147483648 * 2 ^ (max k j):Nat):Int) ≤ ((m * 2 ^ (max k j - k):Nat):Int):=Int.ofNat_le.2 a1
  have a4:=lift (max k j)
  have a5:((2147483648 * 2 ^ (max k j):Nat):Int)=2147483648 * 2 ^ (max k j):=by simp [Int.natCast_mul,Int.natCast_pow]
  have a6:b * 2 ^ j * 2 ^ (max k j - j)=b * 2 ^ (max k j):=by rw [Int.mul_assoc,← Int.pow_add,show j + (max k j - j)=max k j by omega]
  rw [a5] at a3
  rw [a6]
  omega

theorem cmp_lt {a b:Int} (h:a < b):compare a b=.lt:=by simp [compare,compareOfLessAndEq,h]
theorem cmp_gt {a b:Int} (h:b < a):compare a b=.gt:=by
 have h1:¬ a < b:=by omega
 have h2:¬ a=b:=by omega
 simp [compare,compareOfLessAndEq,h1,h2]
theorem cmp_eq (a:Int):compare a a=.eq:=by simp [compare,compareOfLessAndEq]

theorem order_at {x y:Nat} {a b:Int} (h1:Rd x a) (h2:Rd y b) {o:Ordering} (h:compare a b=o):FloatKind.f64.format.order x y=some o:=by
 show double.order x y=some o
 rw [rd_order h1 h2,h]

theorem to_int {y:Nat} {t:Int} (h:Rd y t) (hb:-9223372036854775808 ≤ t∧t ≤ 9223372036854775807):floatToIntVal .f64 y .i64=some t:=by
 unfold floatToIntVal
 have e:(FloatKind.f64.decode y).toInt .zero=some t:=rd_toInt h
 rw [e]
 have:IntKind.i64.min ≤ t∧t ≤ IntKind.i64.max:=hb
 exact if_pos this

theorem rd_most:Rd 4742290407621132288 1073741824:=⟨false,1073741824,22,by decide +kernel,rfl⟩

end Go.Proofs.YtknmgefpjdfenaaGreat

